import PyProof.Rows.All
import Wide.All
import OpenK.AllK
import Wide.FinOn
import Lean
import PyProof.EqAt
import PyProof.EqKinds
import PyProof.TupleCall
import PyProof.TupleOfSeq
import PyProof.NeKinds
import KE.KLam
import KE.KSortTup
import PySem.Challenge.RW_evenpieces_k84_whole_shut_out_by_whoever
set_option maxHeartbeats 0
set_option Elab.async false
set_option linter.all false
noncomputable section
local macro_rules|`(def $x:declId $s:optDeclSig $v:declVal)=>`(noncomputable def $x:declId $s:optDeclSig $v:declVal)
local macro_rules|`(abbrev $x:declId $s:optDeclSig $v:declVal)=>`(noncomputable abbrev $x:declId $s:optDeclSig $v:declVal)
local macro_rules|`(universe $x*)=>return Lean.mkNullNode (←x.mapM λa=>do return(←`(theorem $a:ident:True:=⟨⟩)).raw)
abbrev Xa:=List (PySem.Str × Int)
abbrev Xb:=List (PySem.Str × PySem.Str)
set_option compiler.extract_closed false
set_option maxRecDepth 100000
theorem ae:type_of% @PySem.wpAny_bind:=@PySem.wpAny_bind
theorem aQ:type_of% @PySem.Heap.get?_push_of_some:=@PySem.Heap.get?_push_of_some
abbrev Aa:=PySem.Value
abbrev Ab:=PySem.Shared
theorem aE:type_of% @PySem.wpAny_pure:=@PySem.wpAny_pure
theorem cJ:type_of% @PySem.Heap.get?_push_size:=@PySem.Heap.get?_push_size
theorem bH:type_of% @PySem.Paired.length:=@PySem.Paired.length
theorem bx:type_of% @PySem.Heap.lt_size:=@PySem.Heap.lt_size
theorem cX:type_of% @Option.some.inj:=@Option.some.inj
abbrev Ad:=PySem.Program
theorem cw:type_of% @decide_eq_true:=@decide_eq_true
theorem dM:type_of% @PySem.PassesOwn.never:=@PySem.PassesOwn.never
theorem aC:type_of% @if_neg:=@if_neg
theorem cq:type_of% @PySem.sizeLine_eq:=@PySem.sizeLine_eq
abbrev Ae:=PySem.FuncData
theorem aI:type_of% @if_pos:=@if_pos
theorem fq:type_of% @decide_eq_false:=@decide_eq_false
abbrev Af:=PySem.World
abbrev Ag:=PySem.Around
theorem gE:type_of% @PySem.boot_len:=@PySem.boot_len
theorem ou:type_of% @PySem.F.plainAttrs_list:=@PySem.F.plainAttrs_list
theorem bN:type_of% @Ne.symm:=@Ne.symm
theorem jO:type_of% @PySem.W.mg_none_of:=@PySem.W.mg_none_of
theorem fF:type_of% @PySem.wpAny_field:=@PySem.wpAny_field
theorem iK:type_of% @PySem.wpAny_holding:=@PySem.wpAny_holding
theorem uR:type_of% @PySem.wpAny_callSpecial?_slot:=@PySem.wpAny_callSpecial?_slot
theorem pB:type_of% @PySem.wpAny_loadPart':=@PySem.wpAny_loadPart'
theorem qd:type_of% @PySem.mem_of_lookup:=@PySem.mem_of_lookup
theorem uL:type_of% @PySem.Heap.get?_update_other:=@PySem.Heap.get?_update_other
theorem ed:type_of% @congrArg:=@congrArg
theorem p_:type_of% @PySem.wpAny_setField_rec:=@PySem.wpAny_setField_rec
theorem p9:type_of% @PySem.wpAny_newObj_type:=@PySem.wpAny_newObj_type
theorem iJ:type_of% @Sum.inr.inj:=@Sum.inr.inj
theorem xZ:type_of% @PySem.F.type_list_append:=@PySem.F.type_list_append
theorem xY:type_of% @PySem.F.slot_list_append:=@PySem.F.slot_list_append
theorem AL:type_of% @PyProof.Rows.callWith_type1:=@PyProof.Rows.callWith_type1
theorem mj:type_of% @PySem.wpAny_seqItems:=@PySem.wpAny_seqItems
theorem mi:type_of% @PySem.Heap.size_push:=@PySem.Heap.size_push
theorem tO:type_of% @PySem.wpAny_truthy_bool:=@PySem.wpAny_truthy_bool
theorem tI:type_of% @of_decide_eq_true:=@of_decide_eq_true
theorem tK:type_of% @PySem.wpAny_call_entry:=@PySem.wpAny_call_entry
theorem xT:type_of% @PySem.Around.under_plainId:=@PySem.Around.under_plainId
theorem tJ:type_of% @PySem.W.kia_one:=@PySem.W.kia_one
theorem Z0{p:Prop}[Decidable p](h:decide p=true:=by decide +kernel):p:=of_decide_eq_true h
theorem Z2{p:Prop}(h:p:=by omega):p:=h
theorem Y0{p:Prop}(h:p:=by simp):p:=h
local macro_rules|`(tactic|let $x:ident:=$e)=>`(tactic|have $x:ident:=$e)
local macro_rules|`($a\$b)=>`($a=some $b)
local macro_rules|`(⇑$h)=>`(by simpa using $h)
local macro_rules|`(tactic|exists $e)=>let i:=Lean.mkIdent;`(tactic|refine $e λ$(i `aL) $(i `A) $(i `outer) $(i `s) $(i `H) $(i `vs) $(i `Q) $(i `E) $(i `hr) $(i `h)=>?_)
local macro_rules|`(section v)=>let i:=Lean.mkIdent;return Lean.mkNullNode #[←`(section),←`(variable{$(i `P):ident:$(i `Ad)}{$(i `w):ident:$(i `Af)}{$(i `K):ident:$(i `ai)}{$(i `mg):ident:$(i `Str)->$(i `Option) $(i `Aa)}{$(i `base):ident:$(i `Heap)})]
local macro_rules|`(tactic|apply $e)=>`(tactic|refine $e)
local macro_rules|`(#[$x,$xs,*])=>`(⟨$x,$xs,*⟩)
local macro_rules|`(tactic|let $p:term:=$e)=>let g:=λ(x:Lean.Syntax)=>(if x.isIdent then`(rcasesPat|$(⟨x⟩):ident) else if x.isOfKind ``Lean.Parser.Term.hole then`(rcasesPat|_) else pure ⟨x⟩:Lean.MacroM (Lean.TSyntax `rcasesPat));p.raw.rewriteBottomUpM (λn=>if n.isOfKind `«term#[_,]» then n[1].getSepArgs.mapM (λx=>g x>>=λy=>`(Lean.Parser.Tactic.rcasesPatLo|$y:rcasesPat))>>=λs=>`(rcasesPat|⟨$s,*⟩)>>=λt=>pure t.raw else pure n)>>=λq=>`(tactic|obtain $(⟨q⟩):rcasesPat:=$e)
theorem U{α:Sort _}{a:α}:a=a:=rfl
abbrev ai:=PySem.W.Frag
theorem aq:type_of% @List.length_map:=@List.length_map
theorem aY:type_of% @List.getElem?_eq_getElem:=@List.getElem?_eq_getElem
theorem bW:type_of% @List.getElem?_eq_some_iff:=@List.getElem?_eq_some_iff
theorem cZ:type_of% @List.mem_of_getElem?:=@List.mem_of_getElem?
theorem bh:type_of% @Nat.le_refl:=@Nat.le_refl
theorem bG:type_of% @List.mem_map:=@List.mem_map
theorem dc:type_of% @List.size_toArray:=@List.size_toArray
theorem dC:type_of% @List.getElem?_map:=@List.getElem?_map
theorem bY:type_of% @List.mem_cons:=@List.mem_cons
theorem d4:type_of% @List.length_append:=@List.length_append
theorem dJ:type_of% @List.length_take:=@List.length_take
theorem eJ:type_of% @List.mem_singleton:=@List.mem_singleton
theorem dI:type_of% @List.mem_append:=@List.mem_append
theorem cz:type_of% @List.map_map:=@List.map_map
theorem fX:type_of% @List.mem_cons_of_mem:=@List.mem_cons_of_mem
theorem eR:type_of% @List.take_length:=@List.take_length
theorem eg:type_of% @List.map_append:=@List.map_append
theorem dD:type_of% @Nat.ne_of_lt:=@Nat.ne_of_lt
theorem gF:type_of% @List.mem_cons_self:=@List.mem_cons_self
theorem gM:type_of% @Bool.false_ne_true:=@Bool.false_ne_true
theorem ia:type_of% @List.getElem_of_mem:=@List.getElem_of_mem
theorem gf:type_of% @List.not_mem_nil:=@List.not_mem_nil
theorem eI:type_of% @List.map_cons:=@List.map_cons
theorem jU:type_of% @List.length_singleton:=@List.length_singleton
theorem kL:type_of% @List.mem_append_right:=@List.mem_append_right
theorem qk:type_of% @List.nodup_iff_pairwise_ne:=@List.nodup_iff_pairwise_ne
theorem iR:type_of% @List.length_cons:=@List.length_cons
theorem jt:type_of% @Nat.lt_of_lt_of_le:=@Nat.lt_of_lt_of_le
theorem iZ:type_of% @List.nodup_cons:=@List.nodup_cons
theorem kJ:type_of% @List.getElem_mem:=@List.getElem_mem
theorem gO:type_of% @Nat.zero_le:=@Nat.zero_le
theorem iu:type_of% @Nat.ne_of_gt:=@Nat.ne_of_gt
theorem uZ:type_of% @List.take_of_length_le:=@List.take_of_length_le
theorem iQ:type_of% @Nat.le_trans:=@Nat.le_trans
theorem iP:type_of% @Int.le_of_lt:=@Int.le_of_lt
theorem mK:type_of% @List.mem_filter:=@List.mem_filter
theorem qi:type_of% @Bool.false_eq_true:=@Bool.false_eq_true
theorem t7:type_of% @Array.length_toList:=@Array.length_toList
theorem yg:type_of% @List.getElem?_append_left:=@List.getElem?_append_left
theorem mJ:type_of% @List.take_succ:=@List.take_succ
theorem Ba:type_of% @List.getElem?_append_right:=@List.getElem?_append_right
theorem uX:type_of% @List.map_congr_left:=@List.map_congr_left
theorem yf:type_of% @Int.eq_ofNat_of_zero_le:=@Int.eq_ofNat_of_zero_le
theorem qg:type_of% @List.lookup_cons:=@List.lookup_cons
theorem tZ:type_of% @List.take_add_one:=@List.take_add_one
theorem tY:type_of% @Nat.le_add_right:=@Nat.le_add_right
theorem uV:type_of% @List.pairwise_map:=@List.pairwise_map
theorem wG:type_of% @List.nodup_append:=@List.nodup_append
theorem yd:type_of% @List.mem_filterMap:=@List.mem_filterMap
theorem Ca:type_of% @Option.map_eq_some_iff:=@Option.map_eq_some_iff
theorem yl:type_of% @Int.toNat_natCast:=@Int.toNat_natCast
theorem ub:type_of% @Nat.lt_irrefl:=@Nat.lt_irrefl
theorem u4:type_of% @List.forIn_nil:=@List.forIn_nil
theorem wI:type_of% @List.append_nil:=@List.append_nil
theorem B_:type_of% @List.length_replicate:=@List.length_replicate
theorem wH:type_of% @List.forIn_cons:=@List.forIn_cons
theorem B9:type_of% @List.length_filter_le:=@List.length_filter_le
theorem yk:type_of% @List.length_drop:=@List.length_drop
theorem yj:type_of% @List.find?_cons:=@List.find?_cons
abbrev aj:=List PySem.Value
abbrev bF:=PySem.Str->PySem.Str
abbrev av:=List PySem.Addr
abbrev ag:=List PySem.Str
namespace L2
open PySem PySem.Spec PyProof.Rows
abbrev Key:=Sum Int Str
def wb:Key->Aa->Bool
 |.inl k,v=>Value.isInt k v
 |.inr x,v=>Value.isStrOf x v
def KL(w:Af):Key->Int
 |.inl k=>hashInt k
 |.inr x=>hashStr w x
theorem qj:∀{k:Key} {v:Aa},wb k v=true->(∃i t,k=Sum.inl i/\v=Value.int i t)∨(∃x t,k=Sum.inr x/\v=Value.str x t)
 |.inl i,v,h=>by
  let#[t,e]:=Value.isInt_shape (k:=i) (v:=v) h;exact .inl #[i,t,U,e]
 |.inr x,v,h=>by
  let#[t,e]:=Value.isStrOf_shape (x:=x) (v:=v) h;exact .inr #[x,t,U,e]
theorem ga_(i:Int)(t:Tok):wb (.inl i) (.int i t)=true:=by simp[wb,Value.isInt]
theorem gZ_(x:Str)(t:Tok):wb (.inr x) (.str x t)=true:=by simp[wb,Value.isStrOf]
theorem XA(a b:Int):decide ((Sum.inl a:Key)=Sum.inl b)=(a == b):=by
 by_cases e:a=b
 ·subst e;simp
 have h:¬(Sum.inl a:Key)=Sum.inl b:=λq=>e (Sum.inl.inj q);rw[fq h];exact (beq_eq_false_iff_ne.mpr e).symm
theorem XG(a b:Str):decide ((Sum.inr a:Key)=Sum.inr b)=decide (a=b):=by
 by_cases e:a=b
 ·subst e;simp
 have h:¬(Sum.inr a:Key)=Sum.inr b:=λq=>e (iJ q);rw[fq h,fq e]
theorem X9(a:Int)(b:Str):decide ((Sum.inl a:Key)=Sum.inr b)=false:=fq (λq=>nomatch q)
theorem Xr(a:Str)(b:Int):decide ((Sum.inr a:Key)=Sum.inl b)=false:=fq (λq=>nomatch q)
def dW(prog:Ad)(w:Af):PySem.KeyKind prog w Key where
 is:=wb
 hash:=KL w
 inj:=λv a b ha hb=>by
  rcases qj ha with⟨i,t,rfl,rfl⟩|⟨x,t,rfl,rfl⟩
  ·rcases qj hb with⟨j,u,rfl,e⟩|⟨y,u,rfl,e⟩
   ·injection e with e1 _;rw[e1]
   exact nomatch e
  rcases qj hb with⟨j,u,rfl,e⟩|⟨y,u,rfl,e⟩
  ·exact nomatch e
  injection e with e1 _;rw[e1]
 byValue:=λk v h=>by
  rcases qj h with⟨i,t,rfl,rfl⟩|⟨x,t,rfl,rfl⟩<;>rfl
 pyHash:=λhv h=>by
  rcases qj hv with⟨i,t,rfl,rfl⟩|⟨x,t,rfl,rfl⟩
  ·exact wpAny_pyHash_int h
  exact wpAny_pyHash_str h
 eqBool:=λhu hv h=>by
  rcases qj hu with⟨i,t,rfl,rfl⟩|⟨x,t,rfl,rfl⟩
  ·rcases qj hv with⟨j,u,rfl,rfl⟩|⟨y,u,rfl,rfl⟩
   ·rw[XA] at h;exact wpAny_eqBool_int h
   rw[X9] at h;exact SeqAt.EqAt.int_str i t y u _ _ _ _ h
  rcases qj hv with⟨j,u,rfl,rfl⟩|⟨y,u,rfl,rfl⟩
  ·rw[Xr] at h;exact SeqAt.EqAt.str_int x t j u _ _ _ _ h
  rw[XG] at h;exact wpAny_eqBool_str h
 «strs»:=λk x t v h=>by
  rcases qj h with⟨i,u,rfl,e⟩|⟨y,u,rfl,e⟩
  ·exact nomatch e
  injection e with e1 _
  subst e1;cases v<;>rfl
theorem ev_(prog:Ad)(w:Af)(i:Int)(t:Tok):(dW prog w).is (.inl i) (.int i t)=true:=ga_ i t
theorem eA_(prog:Ad)(w:Af)(x:Str)(t:Tok):(dW prog w).is (.inr x) (.str x t)=true:=gZ_ x t
end L2
abbrev ax:=List L2.Key
namespace L2
open PySem PySem.Spec PyProof.Rows
inductive V where
 |non|bl (b:Bool)|int (i:Int)|str (x:Str)|byt (b:Array UInt8)|flt (b:UInt64)|ref (a:Addr)|ty (n:String)
 deriving DecidableEq
def RelV:V->Aa->Prop
 |.non,u=>u=Value.none
 |.bl b,u=>u=Value.bool b
 |.int i,u=>∃t,u=Value.int i t
 |.str x,u=>∃t,u=Value.str x t
 |.byt b,u=>∃t,u=Value.bytes b t
 |.flt b,u=>∃t,u=Value.float b t
 |.ref a,u=>u=Value.ref a
 |.ty n,u=>u=Value.type n
abbrev Vals:List V->aj->Prop:=Paired RelV
theorem Vals.length{xs:List V}{us:aj}(r:Vals xs us):xs.length=us.length:=bH r
theorem Vals.get:∀{xs:List V} {us:aj} {i:Nat} {x:V},Vals xs us->xs[i]? = some x->∃u,us[i]? = some u/\RelV x u
 |_,_,_,_,.nil,e=>by simp at e
 |_,_,0,_,.cons r _,e=>by simp at e;subst e;exact#[_,U,r]
 |_,_,i+1,x,.cons _ t,e=>by
  let#[u,h1,h2]:=Vals.get (i:=i) (x:=x) t ⇑e;exact#[u,by simpa using h1,h2]
theorem Vals.set{x:V}{u:Aa}(r:RelV x u):∀{xs:List V} {us:aj} (i:Nat),Vals xs us->Vals (xs.set i x) (us.set i u)
 |_,_,_,.nil=>.nil
 |_,_,0,.cons _ t=>.cons r t
 |_,_,i+1,.cons q t=>.cons q (Vals.set r i t)
theorem Vals.append:∀{xs ys:List V} {us ws:aj},Vals xs us->Vals ys ws->Vals (xs++ys) (us++ws)
 |_,_,_,_,.nil,s=>s
 |_,_,_,_,.cons r t,s=>.cons r (Vals.append t s)
theorem Vals.take:∀{xs:List V} {us:aj} (n:Nat),Vals xs us->Vals (xs.take n) (us.take n)
 |_,_,0,_=>.nil
 |_,_,_+1,.nil=>.nil
 |_,_,n+1,.cons r t=>.cons r (Vals.take n t)
theorem Vals.drop:∀{xs:List V} {us:aj} (n:Nat),Vals xs us->Vals (xs.drop n) (us.drop n)
 |_,_,0,r=>r
 |_,_,_+1,.nil=>.nil
 |_,_,n+1,.cons _ t=>Vals.drop n t
def eG:Option V->Option Aa->Prop
 |some v,some u=>RelV v u
 |none,none=>True
 |_,_=>False
def KV{κ:Type}:List (κ × V)->List (κ × Aa)->Prop:=Paired λ(p:κ × V) (q:κ × Aa)=>p.1=q.1/\RelV p.2 q.2
def kV:Key->V
 |.inl i=>.int i
 |.inr x=>.str x
inductive HO where
  |lst (xs:List V)
  |tup (xs:List V)
  |dK (kvs:List (Key × V))|dT (kvs:List (ax × V))
  |set (S:Int->Bool) (n:Nat)
  |ins (C dx:Addr) (fs:List (Str × V))
  |own (x:Addr)
  |xd (fs:List (Str × V))
  |met (f x:Addr)
  |rng (lo hi:Int)
  |frz (o:Obj) (u:HO)
  |tbl (ps:Array Aa)
  |ext (φ:Heap->Prop)
abbrev Hp:=Addr->Option HO
def upd(H:Hp)(a:Addr)(o:HO):Hp:=λb=>if b=a then some o else H b
variable{H:Hp}{a:Addr}
theorem az{o:HO}:upd H a o a\o:=by unfold upd;rw[aI U]
variable{b:Addr}
theorem aw{o:HO}(h:b≠a):upd H a o b=H b:=by unfold upd;rw[aC h]
variable{u:HO}
theorem Yv{o:HO}:upd (upd H a o) a u=upd H a u:=by
 funext b;unfold upd;split<;>rfl
theorem bS{o:HO}(h:H a\o)(h':H b\u)(d:o≠u):a≠b:=by
 intro e;subst e;rw[h] at h';exact d (cX h')
theorem bz{o:HO}(h:H a\o)(h':H b=none):a≠b:=by
 intro e;subst e;rw[h] at h';cases h'
section
variable(P:Ad)(w:Af)
def fi(H:Hp)(h:Heap)(a:Addr):HO->Prop
 |.lst xs=>xs.length<=sizeLine/\∃(its:aj) (n:Nat),Vals xs its/\h.get? a=some { cls:=.type "list",data:=.seq its.toArray n }
 |.tup xs=>xs.length<=sizeLine/\∃its:aj,Vals xs its/\IsTup h a its.toArray/\∃o,h.get? a\o/\o.dict=none
 |.dK kvs=>kvs.length<=sizeLine/\(a == sysModules)=false/\∃vs,KV kvs vs/\h.DictOf (dW P w) a vs
 |.dT kvs=>kvs.length<=sizeLine/\(a == sysModules)=false/\∃xs:List (ax × Addr × Aa),
   Paired (λ(p:ax × V) (q:ax × Addr × Aa)=>p.1=q.1/\H q.2.1\.tup (p.1.map kV)/\RelV p.2 q.2.2) kvs xs /\
   ∃o es ep,h.get? a\o/\o.ExactDict/\o.data=.dict es ep/\es.toList=xs.map (entryOfKey (tupleKind (dW P w)))/\(xs.map (·.1)).Nodup
 |.set S n=>h.SetOf (intKind P w) a S n
 |.ins C dx fs=>H dx\.own a/\fs.length<=1000/\dx≠a/\h.get? a\PySem.W.instObj C dx /\
   ∃mA,h.Ns1 dx mA/\(∀f,eG (fs.lookup f) (mA f))/\PySem.Within mA (fs.map (·.1))
 |.own _=>∃o,h.get? a\o
 |.xd fs=>∃mA,h.Ns1 a mA/\∀f,eG (fs.lookup f) (mA f)
 |.rng lo hi=>∃t u v,h.get? a=some { cls:=.type "range",data:=.fields (List.toArray [.int lo t,.int hi u,.int 1 v]) }
 |.frz o u=>h.get? a\o/\fi H h a u
 |.tbl ps=>h.get? a=some { cls:=.none,data:=.fields ps }
 |.met f x=>h.get? a\PySem.W.methodObj (.ref f) (.ref x)
 |.ext φ=>φ h/\(∃o,h.get? a\o)/\∀h1 h2:Heap,φ h1->(∀o,h1.get? a\o->h2.get? a\o)->φ h2
def fM(H:Hp)(h:Heap):Prop:=∀a o,H a\o->fi P w H h a o
end
section
variable{P:Ad}{w:Af}{H H':Hp}{h h':Heap}{a:Addr}{o:HO}
theorem fi.lt(x:fi P w H h a o):a<h.objs.size:=by
 cases o with
 |lst xs=>let#[_,_,_,_,e]:=x;exact bx e
 |tup xs=>let#[_,_,_,p,_]:=x;exact p.lt
 |dK kvs=>let#[_,_,_,_,o,_,_,e,_]:=x;exact bx e
 |dT kvs=>let#[_,_,_,_,o,_,_,e,_]:=x;exact bx e
 |set S n=>let#[o,_,_,_,e,_]:=x;exact bx e
 |ins C dx fs=>let#[_,_,_,e,_]:=x;exact bx e
 |own y=>let#[_,e]:=x;exact bx e
 |xd fs=>let#[_,#[_,_,_,e,_],_]:=x;exact bx e
 |rng lo hi=>let#[_,_,_,e]:=x;exact bx e
 |frz ob u=>let#[e,_]:=x;exact bx e
 |tbl ps=>exact bx (show h.get? a\_ from x)
 |met f y=>exact bx (show h.get? a\_ from x)
 |ext φ=>let#[_,#[_,e],_]:=x;exact bx e
theorem Paired.aX{α β:Type}{F G:α->β->Prop}:∀{DG:List α} {DD:List β},Paired F DG DD->(∀a b,F a b->G a b)->Paired G DG DD
 |_,_,.nil,_=>.nil
 |_,_,.cons r t,f=>.cons (f _ _ r) (Paired.aX t f)
theorem fi.eN(x:fi P w H h a o)(k:∀b u,(b=a∨H b\.own a)->h.get? b\u->h'.get? b\u)
  (ho:∀b,H b\.own a->H' b\.own a) (ht:∀b xs,H b\.tup xs->H' b\.tup xs):fi P w H' h' a o:=by
 induction o with
 |lst xs=>let#[z,its,n,r,e]:=x;exact#[z,its,n,r,k _ _ (.inl U) e]
 |tup xs=>let#[z,its,r,#[ob,e,c],o2,e2,c2]:=x;exact#[z,its,r,#[ob,k _ _ (.inl U) e,c],o2,k _ _ (.inl U) e2,c2]
 |dK kvs=>let#[z,y,vs,r,ob,es,ep,e,c]:=x;exact#[z,y,vs,r,ob,es,ep,k _ _ (.inl U) e,c]
 |dT kvs=>
  let#[z,y,xs,r,ob,es,ep,e,c]:=x;exact#[z,y,xs,Paired.aX r λp q z=>#[z.1,ht _ _ z.2.1,z.2.2],ob,es,ep,k _ _ (.inl U) e,c]
 |set S n=>let#[ob,es,ep,t,e,c]:=x;exact#[ob,es,ep,t,k _ _ (.inl U) e,c]
 |ins C dx fs=>
  let#[d,z,ne,e,mA,#[od,es,ep,e2,c],r]:=x;exact#[ho _ d,z,ne,k _ _ (.inl U) e,mA,#[od,es,ep,k _ _ (.inr d) e2,c],r]
 |own y=>let#[ob,e]:=x;exact#[ob,k _ _ (.inl U) e]
 |xd fs=>let#[mA,#[od,es,ep,e,c],r]:=x;exact#[mA,#[od,es,ep,k _ _ (.inl U) e,c],r]
 |rng lo hi=>let#[t,u,v,e]:=x;exact#[t,u,v,k _ _ (.inl U) e]
 |frz ob u ih=>let#[e,q]:=x;exact#[k _ _ (.inl U) e,ih q]
 |tbl ps=>
  have e:h.get? a=some { cls:=.none,data:=.fields ps }:=x;show h'.get? a=some { cls:=.none,data:=.fields ps };exact k a _ (.inl U) e
 |met f y=>
  have e:h.get? a\PySem.W.methodObj (.ref f) (.ref y):=x;show h'.get? a\PySem.W.methodObj (.ref f) (.ref y);exact k a _ (.inl U) e
 |ext φ=>let#[p,#[o,e],st]:=x;exact#[st _ _ p λo q=>k _ _ (.inl U) q,#[o,k _ _ (.inl U) e],st]
theorem fM.lt(x:fM P w H h)(e:H a\o):a<h.objs.size:=(x a o e).lt
theorem fM.fresh(x:fM P w H h)(e:h.objs.size<=a):H a=none:=by
 cases q:H a with
 |none=>rfl
 |some u=>exact absurd (jt (x.lt q) e) (ub _)
theorem fM.kept(x:fM P w H h)(k:∀b u,h.get? b\u->h'.get? b\u):fM P w H h':=λa o e=>
 (x a o e).eN (λb u _ q=>k b u q) (λ_ q=>q) λ_ _ q=>q
theorem fM.laid(x:fM P w H h)(k:∀b u,h.get? b\u->h'.get? b\u)(hp:h.objs.size<=a)(new:fi P w (upd H a o) h' a o):fM P w (upd H a o) h':=λb u e=>by
 let hn:=x.fresh hp;by_cases hb:b=a
 ·subst hb;rw[az] at e;cases e;exact new
 rw[aw hb] at e;exact (x b u e).eN (λc v _ q=>k c v q) (λc q=>by rw[aw (bz q hn)];exact q) λc xs q=>by rw[aw (bz q hn)];exact q
end
def Rd(H:Hp)(a:Addr)(u:HO):Prop:=H a=some u∨∃o,H a\.frz o u
theorem Rd.of(h:H a\u):Rd H a u:=.inl h
variable{P:Ad}{w:Af}{h:Heap}
theorem Rd.ok(r:Rd H a u)(x:fM P w H h):fi P w H h a u:=by
 rcases r with r|⟨o,r⟩
 ·exact x a u r
 let#[_,q]:=x a _ r;exact q
def FP:Option HO->Prop
 |some (.lst _)=>True
 |some (.dK _)=>True
 |some (.dT _)=>True
 |some (.set _ _)=>True
 |some (.ins _ _ _)=>True
 |some (.ext _)=>True
 |_=>False
variable{h':Heap}{e x:Addr}{o':HO}
theorem fM.write(ok:fM P w H h)(mu:FP (H x))(he:e=x∨H e\.own x)(k:∀b u,b≠e->h.get? b\u->h'.get? b\u)(BC:∃u,h'.get? e\u)
  (new:fi P w (upd H x o') h' x o'):fM P w (upd H x o') h':=λb u q=>by
 have Do:∀c y,H c\.own y->c≠x:=λc y r z=>by subst z;rw[r] at mu;exact mu
 have Ki:∀c xs,H c\.tup xs->c≠x:=λc xs r z=>by subst z;rw[r] at mu;exact mu
 by_cases hb:b=x
 ·subst hb;rw[az] at q;cases q;exact new
 rw[aw hb] at q;by_cases Aj:b=e
 ·have q':H b\.own x:=by
   rcases he with z|z
   ·exact absurd (Aj.trans z) hb
   rw[Aj];exact z
  rw[q] at q';cases q';let#[v,hv]:=BC;exact#[v,by rw[Aj];exact hv]
 apply (ok b u q).eN (λc v hc r=>k c v ?_ r) (λc r=>by rw[aw (Do c b r)];exact r) λc xs r=>by rw[aw (Ki c xs r)];exact r
 rcases hc with rfl|hc
 ·exact Aj
 rintro rfl;rcases he with z|z
 ·exact Do c b hc z
 rw[hc] at z;cases z;exact hb U
structure Un (fs ex:av) (H H':Hp) (h h':Heap):Prop where
 keep:∀b o,h.get? b\o->H b=none->b∉fs->b∉ex->h'.get? b\o
 slot:∀b o,h.get? b\o->H b=none->b∈fs->b∉ex->∃sl,h'.get? b=some { o with slots:=sl }
 free:∀b o,h.get? b\o->H b=none->b∉ex->H' b=none
 there:∀b o,h.get? b\o->b∉ex->∃o',h'.get? b\o'
 gW:∀b xs,H b\.tup xs->H' b\.tup xs
 hY:∀b o u,H b\.frz o u->H' b\.frz o u
 ix:∀b ps,H b\.tbl ps->∃more,H' b\.tbl (ps++more)
variable{ex fs:av}{H1:Hp}{h1:Heap}
theorem Un.any(u:Un fs ex H H1 h h1){ob:Obj}(q:h.get? b\ob)(n:H b=none)(hx:b∉ex):∃sl,h1.get? b=some { ob with slots:=sl }:=by
 by_cases hb:b∈fs
 ·exact u.slot b ob q n hb hx
 exact#[ob.slots,u.keep b ob q n hb hx]
theorem Un.kept(k:∀b u,h.get? b\u->h'.get? b\u):Un fs ex H H h h':=
 #[λb ob q _ _ _=>k b ob q,λb ob q _ _ _=>#[ob.slots,k b ob q],λ_ _ _ n _=>n,λb ob q _=>#[ob,k b ob q],λ_ _ q=>q,λ_ _ _ q=>q,λ_ ps q=>#[#[],by rw[q];simp]]
theorem Un.refl:Un fs ex H H h h:=Un.kept λ_ _ q=>q
variable{o:HO}
theorem Un.laid(k:∀b u,h.get? b\u->h'.get? b\u)(hp:h.objs.size<=a)(hn:H a=none):Un fs ex H (upd H a o) h h' where
 keep:=λb u q _ _ _=>k b u q
 slot:=λb u q _ _ _=>#[u.slots,k b u q]
 free:=λb u q n _=>by rw[aw (dD (jt (bx q) hp))];exact n
 there:=λb u q _=>#[u,k b u q]
 gW:=λb xs q=>by rw[aw (bz q hn)];exact q
 hY:=λb u xs q=>by rw[aw (bz q hn)];exact q
 ix:=λb ps q=>#[#[],by rw[aw (bz q hn),q];simp]
theorem Un.write(mu:FP (H x))(he:e=x∨H e\.own x)(k:∀b u,b≠e->h.get? b\u->h'.get? b\u)(BC:∃u,h'.get? e\u):Un fs ex H (upd H x o) h h':=by
 have hx:∀b,H b=none->b≠x:=λb n z=>by subst z;rw[n] at mu;exact mu
 have hb:∀b,H b=none->b≠e:=λb n z=>by
  subst z;rcases he with r|r
  ·exact hx b n r
  rw[n] at r;cases r
 have hm:∀b u,H b\u->¬FP (some u)->b≠x:=λb u q nm z=>by subst z;rw[q] at mu;exact nm mu
 apply#[λb u q n _ _=>k b u (hb b n) q,λb u q n _ _=>#[u.slots,k b u (hb b n) q],λb u q n _=>by rw[aw (hx b n)];exact n,λb u q _=>?_,
  λb xs q=>by rw[aw (hm b _ q λz=>z)];exact q,λb u xs q=>by rw[aw (hm b _ q λz=>z)];exact q,λb ps q=>#[#[],by rw[aw (hm b _ q λz=>z),q];simp]]
 by_cases Aj:b=e
 ·subst Aj;exact BC
 exact#[u,k b u Aj q]
def F0(h:Heap)(H:Hp):av:=(List.range h.objs.size).filter λa=>(H a).isSome
def iF(h:Heap)(H:Hp):Heap:=PySem.W.hideAll h (F0 h H)
theorem gr_(h:Heap)(H:Hp):(iF h H).objs.size=h.objs.size:=PySem.W.hideAll_size _ _
variable{o:Obj}
theorem ZE(e:h.get? b\o)(n:H b=none):(iF h H).get? b\o:=
 PySem.W.hideAll_get _ e λhm=>by
  have q:(H b).isSome=true:=(mK.mp hm).2;rw[n] at q;simp at q
theorem YC(e:(iF h H).get? b\o):h.get? b\o/\H b=none:=by
 have e':h.get? b\o:=PySem.W.of_hideAll (F0 h H) e;apply#[e',?_];cases q:H b with
 |none=>rfl
 |some x=>
  have hm:b∈F0 h H:=mK.mpr #[List.mem_range.mpr (bx e'),by simp[q]];have z:(iF h H).get? b=none:=PySem.W.hideAll_none (F0 h H) hm;rw[z] at e;cases e
end L2
abbrev af:=List L2.V
abbrev aH:=Option L2.V
namespace L2
open PySem PySem.Spec PyProof.Rows
structure Mod (K:ai) (mg:Str->Option Aa) (base:Heap):Prop where
 DO:K.In base
 glob:base.Ns mainGlobals mg
 blt:∃mb,base.Ns builtinsNs mb/\∀x:Str,x≠"__name__"->mb x=bootBuiltins x
 nolimit:base.NoLimit
structure Cx where
 prog:Ad
 w:Af
 K:ai
 mg:Str->Option Aa
 base:Heap
 A:Ag
 N:ag
 df:Ab
 j7:Hp
 env:Env
 outer:List Env
 stack:List Env
 ex:av
 fn:Str->Bool
 calm:Bool
 pn:List (Addr × Obj)
 xe:Aa->Ab->Prop
def o7(l:List Env):av:=l.filterMap (·.frame)
abbrev Cx.fs(X:Cx):av:=o7 X.outer
def OJ(sc:Scope)(x:Str):Prop:=sc.names.lookup x=some .local∨sc.names.lookup x\.cell∨sc.names.lookup x\.free
def Loc(sc:Scope)(x:Str):Prop:=sc.names.lookup x=some .local∨sc.names.lookup x\.cell
def Look(env:Env)(h:Heap)(m:Str->Option Aa)(x:Str)(u:Aa):Prop:=
 (env.kindOf x\.local/\m x\u)∨((env.kindOf x\.cell∨env.kindOf x\.free)/\∃c,env.cells.lookup x\c/\h.IsCell c (some u))
structure Cx.Ok (X:Cx):Prop where
 mod:Mod X.K X.mg X.base
 kind:X.env.scope.kind=.function
 glob:X.env.globals=mainGlobals
 blt:X.env.builtins=builtinsNs
 above:X.df.heap.objs.size<=X.env.locals
 inj:∀x y c,X.env.cells.lookup x\c->X.env.cells.lookup y\c->x=y
 has:∀x,(X.env.kindOf x\.cell∨X.env.kindOf x\.free)->∃c,X.env.cells.lookup x\c
 BZ:∀x c,X.fn x=true->X.env.cells.lookup x\c->X.df.heap.objs.size<=c
 hd:X.calm=true->X.A.handled=none
 frames:X.A.frames\X.stack
 F6:X.stack=X.outer∨(X.stack=X.env::X.outer/\X.env.frame\X.env.locals)
 Hh:∀b∈X.ex,b≠X.env.locals/\∀x c,X.env.cells.lookup x\c->c≠b
 bs:∀b o,X.base.get? b\o->X.df.heap.get? b\o/\X.j7 b=none
 tS:X.base.objs.size<=X.df.heap.objs.size
 sd:∀b o,X.base.get? b\o->b∉X.ex
 tw:∀b∈X.ex,b∉X.fs
 fU:X.df.heap.FunFrames X.base X.outer
 vX:∀b∈X.fs,X.j7 b=none
structure Inv (X:Cx) (pins:List (Addr × Obj)) (σ:List aH) (H:Hp) (s:Ab):Prop where
 ok:X.Ok
 os:s.os=X.df.os
 bare:AllBare s.gens
 base:Un X.fs X.ex X.j7 H X.df.heap s.heap
 loc:∃m,s.heap.Ns X.env.locals m/\∀(i:Nat) (x:Str) (v:V),X.N[i]? = some x->σ[i]? = some (some v)->OJ X.env.scope x->∃u,RelV v u/\Look X.env s.heap m x u
 cell:∀x c,X.env.cells.lookup x\c->∃v,s.heap.IsCell c v
 free:H X.env.locals=none
 d6:∀x c,X.env.cells.lookup x\c->H c=none
 pin:∀p∈X.pn++pins,s.heap.get? p.1\p.2/\H p.1=none/\p.1≠X.env.locals/\p.1∉X.fs/\∀v,p.2.data≠.cell v
 aA:fM X.prog X.w H s.heap
 len:σ.length=X.N.length
variable{X:Cx}
theorem Cx.Ok.Kk(ok:X.Ok){b:Addr}{o:Obj}(e:X.base.get? b\o):b∉X.fs:=λhb=>by
 have:=(ok.fU.mem hb).1;rw[e] at this;cases this
variable{pins:List (Addr × Obj)}{σ:List aH}{H:Hp}{s:Ab}
theorem Inv.bs(I:Inv X pins σ H s):∀b o,X.base.get? b\o->s.heap.get? b\o/\H b=none:=λb o e=>
 #[I.base.keep b o (I.ok.bs b o e).1 (I.ok.bs b o e).2 (I.ok.Kk e) (I.ok.sd b o e),I.base.free b o (I.ok.bs b o e).1 (I.ok.bs b o e).2 (I.ok.sd b o e)]
theorem Inv.bk(I:Inv X pins σ H s):∀b o,X.base.get? b\o->s.heap.get? b\o:=λb o e=>(I.bs b o e).1
theorem Inv.mod(I:Inv X pins σ H s):Mod X.K X.mg X.base:=I.ok.mod
theorem Inv.gJ(I:Inv X pins σ H s):X.K.In s.heap:=I.ok.mod.DO.keeps I.bk
theorem Inv.lt(I:Inv X pins σ H s):X.env.locals<s.heap.objs.size:=let #[_,hn,_]:=I.loc;hn.lt
theorem Inv.sz(I:Inv X pins σ H s):X.df.heap.objs.size<=s.heap.objs.size:=iQ I.ok.above (Nat.le_of_lt I.lt)
variable{a:Addr}
theorem Inv.Kj(I:Inv X pins σ H s)(h:s.heap.objs.size<=a):a∉X.fs:=λhb=>by
 let#[_,o,ho,_]:=I.ok.fU.mem hb;exact absurd (jt (bx ho) (iQ I.sz h)) (ub _)
theorem Inv.uK(I:Inv X pins σ H s):∀x c,X.env.cells.lookup x\c->c≠X.env.locals:=λx c e z=>by
 let#[v,o,ho,hd]:=I.cell x c e;let#[m,#[o',es,ep,n0,hU,_],_]:=I.loc;rw[z,n0] at ho;cases ho;rw[hU] at hd;cases hd
theorem Inv.fU(I:Inv X pins σ H s):s.heap.FunFrames X.base X.outer:=by
 have all:∀(l:List Env),(∀b∈o7 l,b∈X.fs)->X.df.heap.FunFrames X.base l->s.heap.FunFrames X.base l:=by
  intro l
  induction l with
  |nil=>intro _ _;trivial
  |cons env r ih=>
   intro hs hl;let#[hk,#[L,o,hf,hn,ho,hd],hr]:=hl;have hL:L∈X.fs:=hs L (by unfold o7;rw[List.filterMap_cons,hf];exact gF);let#[sl,e]:=I.base.slot L o ho (I.ok.vX L hL) hL λz=>I.ok.tw L z hL;exact#[hk,#[L,_,hf,hn,e,hd],ih (λb hb=>hs b (by unfold o7;rw[List.filterMap_cons,hf];exact fX _ hb)) hr]
 exact all X.outer (λ_ hb=>hb) I.ok.fU
theorem Inv.stack(I:Inv X pins σ H s):s.heap.FunFrames X.base X.stack:=by
 rcases I.ok.F6 with e|⟨e,hf⟩
 ·rw[e];exact I.fU
 rw[e];let#[m,hn,_]:=I.loc;apply .cons (by rw[I.ok.kind];decide) hf hn ?_ I.fU;exact Heap.get?_none_of_le (iQ I.ok.tS I.ok.above)
theorem Inv.kR(I:Inv X pins σ H s):∀b∈o7 X.stack,b∈X.env.locals::X.fs:=λb hb=>by
 rcases I.ok.F6 with e|⟨e,hf⟩
 ·rw[e] at hb;exact fX _ hb
 rw[e] at hb;unfold o7 at hb;rw[List.filterMap_cons,hf] at hb;exact hb
theorem Inv.m_(I:Inv X pins σ H s):∀b∈o7 X.stack,H b=none:=λb hb=>by
 rcases bY.mp (I.kR b hb) with e|hb
 ·rw[e];exact I.free
 let#[_,o,ho,_]:=I.ok.fU.mem hb;exact I.base.free b o ho (I.ok.vX b hb) λz=>I.ok.tw b z hb
variable{g':Array GenState}{t':Nat}{d':Drawn}{ch:av}{H':Hp}{h':Heap}
theorem Inv.step(I:Inv X pins σ H s)(uF:∀b∈ch,(b∈X.ex∨X.df.heap.objs.size<=b)/\b≠X.env.locals/\(∀x c,X.env.cells.lookup x\c->c≠b)/\∀p∈X.pn++pins,p.1≠b)(keep:∀b o,b≠X.env.locals->b∉X.fs->b∉ch->s.heap.get? b\o->H b=none->h'.get? b\o)(slot:∀b o,b≠X.env.locals->b∈X.fs->b∉ch->s.heap.get? b\o->H b=none->∃sl,h'.get? b=some { o with slots:=sl })(free:∀b o,b∉ch->s.heap.get? b\o->H b=none->H' b=none)(there:∀b o,b∉ch->s.heap.get? b\o->∃o',h'.get? b\o')(gW:∀b xs,H b\.tup xs->H' b\.tup xs)(hY:∀b o u,H b\.frz o u->H' b\.frz o u)(ix:∀b ps,H b\.tbl ps->∃more,H' b\.tbl (ps++more))(ns:∀m,s.heap.Ns X.env.locals m->h'.Ns X.env.locals m)(aA:fM X.prog X.w H' h')(hg:AllBare g') :
  Inv X pins σ H' { s with heap:=h',gens:=g',drawn:=d',toks:=t' }:=by
 have PY:∀b o,X.df.heap.get? b\o->b≠X.env.locals:=λb o e=>dD (jt (bx e) I.ok.above)
 have Gu:∀b o,X.df.heap.get? b\o->b∉X.ex->b∉ch:=λb o e hx hb=>by
  rcases (uF b hb).1 with z|z
  ·exact hx z
  exact absurd (jt (bx e) z) (ub _)
 have cellK:∀x c,X.env.cells.lookup x\c->∀v,s.heap.IsCell c v->h'.IsCell c v:=λx c e v ⟨o,ho,hd⟩=>by
  have Dt:c∉ch:=λz=>(uF c z).2.2.1 x c e U;by_cases hc:c∈X.fs
  ·let#[sl,q]:=slot c o (I.uK x c e) hc Dt ho (I.d6 x c e);exact#[_,q,hd]
  exact#[o,keep c o (I.uK x c e) hc Dt ho (I.d6 x c e),hd]
 apply#[I.ok,I.os,hg,#[λb o e n hb hx=>?_,λb o e n hb hx=>?_,λb o e n hx=>?_,λb o e hx=>?_,λb xs e=>gW b xs (I.base.gW b xs e),λb o xs e=>hY b o xs (I.base.hY b o xs e),λb ps e=>?_],?_,λx c e=>?_,?_,λx c e=>?_,λp hp=>?_,aA,I.len]
 ·exact keep b o (PY b o e) hb (Gu b o e hx) (I.base.keep b o e n hb hx) (I.base.free b o e n hx)
 ·let#[sl,e1]:=I.base.slot b o e n hb hx;let#[VJ,e2]:=slot b _ (PY b o e) hb (Gu b o e hx) e1 (I.base.free b o e n hx);exact#[VJ,e2]
 ·let#[o',e1]:=I.base.there b o e hx;exact free b o' (Gu b o e hx) e1 (I.base.free b o e n hx)
 ·let#[o',e1]:=I.base.there b o e hx;exact there b o' (Gu b o e hx) e1
 ·let#[m1,e1]:=I.base.ix b ps e;let#[m2,e2]:=ix b _ e1;exact#[m1++m2,by rw[e2,Array.append_assoc]]
 ·let#[m,hn,hl]:=I.loc;apply#[m,ns m hn,λi x v e1 e2 e3=>?_];let#[u,r,l]:=hl i x v e1 e2 e3;apply#[u,r,?_];rcases l with l|⟨k,c,e,z⟩
  ·exact .inl l
  exact .inr #[k,c,e,cellK x c e _ z]
 ·let#[v,z]:=I.cell x c e;exact#[v,cellK x c e v z]
 ·let#[m,#[o,_,_,ho,_],_]:=I.loc;exact free _ o (λz=>(uF _ z).2.1 U) ho I.free
 ·let#[v,o,ho,hd]:=I.cell x c e;exact free c o (λz=>(uF c z).2.2.1 x c e U) ho (I.d6 x c e)
 let#[e,n,ne,nf,d]:=I.pin p hp;have Dt:p.1∉ch:=λz=>(uF p.1 z).2.2.2 p hp U;exact#[keep p.1 p.2 ne nf Dt e n,free p.1 p.2 Dt e n,ne,nf,d]
theorem Inv.un(I:Inv X pins σ H s)(u:Un X.fs [] H H' s.heap h')(aA:fM X.prog X.w H' h'):Inv X pins σ H' { s with heap:=h',toks:=t' }:=by
 let#[m,#[o,es,ep,ho,r],_]:=id I.loc;let#[sl,hL]:=u.any ho I.free Y0
 exact I.step (g':=s.gens) (d':=s.drawn) (ch:=[]) (λ_ z=>nomatch z) (λb o _ hb _ e n=>u.keep b o e n hb Y0) (λb o _ hb _ e n=>u.slot b o e n hb Y0) (λb o _ e n=>u.free b o e n Y0) (λb o _ e=>u.there b o e Y0) u.gW u.hY u.ix (λm' hm=>by
  let#[o',Hk,Hn,n0,r']:=hm;rw[ho] at n0;cases n0;exact#[_,Hk,Hn,hL,r']) aA I.bare
theorem Inv.call(I:Inv X pins σ H s)(u:Un (o7 X.stack) ch H H' s.heap h')(aA:fM X.prog X.w H' h')(hg:AllBare g')(uF:∀b∈ch,(b∈X.ex∨X.df.heap.objs.size<=b)/\b≠X.env.locals/\(∀x c,X.env.cells.lookup x\c->c≠b)/\∀p∈X.pn++pins,p.1≠b) :
  Inv X pins σ H' { s with heap:=h',gens:=g',drawn:=d',toks:=t' }:=by
 let#[m,#[o,es,ep,ho,r],_]:=id I.loc;let#[sl,hL]:=u.any ho I.free λz=>(uF _ z).2.1 U
 exact I.step (ch:=ch) uF (λb o hL hb hc e n=>u.keep b o e n (λz=>(bY.mp (I.kR b z)).elim hL hb) hc) (λb o _ _ hc e n=>u.any e n hc) (λb o hc e n=>u.free b o e n hc) (λb o hc e=>u.there b o e hc) u.gW u.hY u.ix (λm' hm=>by
  let#[o',Hk,Hn,n0,r']:=hm;rw[ho] at n0;cases n0;exact#[_,Hk,Hn,hL,r']) aA hg
theorem Inv.turned{it:Addr}(I:Inv X pins σ H s)(k:∀b o,b≠it->s.heap.get? b\o->h'.get? b\o)(hn:H it=none)(hL:it≠X.env.locals)(h1:it∈X.ex∨X.df.heap.objs.size<=it)(h2:∀x c,X.env.cells.lookup x\c->c≠it)(h3:∀p∈X.pn++pins,p.1≠it):Inv X pins σ H { s with heap:=h',toks:=t' }:=by
 have PX:∀b u,H b\u->b≠it:=λb u e z=>by rw[z,hn] at e;cases e
 apply I.step (g':=s.gens) (d':=s.drawn) (ch:=[it]) (λb hb=>?_) (λb o _ _ hc e _=>k b o (λz=>hc (by simp[z])) e) (λb o _ _ hc e _=>#[o.slots,k b o (λz=>hc (by simp[z])) e]) (λ_ _ _ _ n=>n)
  (λb o hc e=>#[o,k b o (λz=>hc (by simp[z])) e]) (λ_ _ e=>e) (λ_ _ _ e=>e) (λb ps e=>#[#[],by rw[e];simp]) (λm hm=>?_) (λb u e=>?_) I.bare
 ·have e:b=it:=⇑hb
  subst e;exact#[h1,hL,h2,h3]
 ·let#[o,es,ep,ho,r]:=hm;exact#[o,es,ep,k _ o (bN hL) ho,r]
 apply (I.aA b u e).eN (λc v hc q=>k c v ?_ q) (λ_ q=>q) λ_ _ q=>q;rcases hc with z|z
 ·rw[z];exact PX b u e
 exact PX c _ z
theorem Inv.tok(I:Inv X pins σ H s)(t:Nat):Inv X pins σ H { s with toks:=t }:=I.un (h':=s.heap) (t':=t) Un.refl I.aA
theorem Inv.kept(I:Inv X pins σ H s)(k:∀b u,s.heap.get? b\u->h'.get? b\u):Inv X pins σ H { s with heap:=h',toks:=t' }:=I.un (Un.kept k) (I.aA.kept k)
variable{o:HO}
theorem Inv.laid(I:Inv X pins σ H s)(k:∀b u,s.heap.get? b\u->h'.get? b\u)(hp:s.heap.objs.size<=a)(new:fi X.prog X.w (upd H a o) h' a o) :
  Inv X pins σ (upd H a o) { s with heap:=h',toks:=t' }:=I.un (Un.laid k hp (I.aA.fresh hp)) (I.aA.laid k hp new)
theorem Inv.write{x e:Addr}(I:Inv X pins σ H s)(mu:FP (H x))(he:e=x∨H e\.own x)(k:∀b u,b≠e->s.heap.get? b\u->h'.get? b\u)(BC:∃u,h'.get? e\u)(new:fi X.prog X.w (upd H x o) h' x o):Inv X pins σ (upd H x o) { s with heap:=h',toks:=t' }:=I.un (Un.write mu he k BC) (I.aA.write mu he k BC new)
theorem Inv.nL{xm:List (Addr × Obj)}(I:Inv X pins σ H s)(h:∀p∈xm,s.heap.get? p.1\p.2/\H p.1=none/\p.1≠X.env.locals/\p.1∉X.fs/\∀v,p.2.data≠.cell v):Inv X xm σ H s:=
 #[I.ok,I.os,I.bare,I.base,I.loc,I.cell,I.free,I.d6,λp hp=>(dI.mp hp).elim (λz=>I.pin p (List.mem_append_left _ z)) (h p),I.aA,I.len]
variable{x:Str}{i:Nat}
theorem SY{N:ag}(hN:N.Nodup){j:Nat}(a:N[i]? = some x)(b:N[j]? = some x):i=j:=by
 let#[h1,e1]:=bW.mp a;let#[h2,e2]:=bW.mp b;exact (List.getElem_inj hN).mp (e1.trans e2.symm)
variable{M:Model}{A:Ag}{E:Aa->Ab->Prop}{v:V}{u:Aa}{Q:Unit->Ab->Prop}
theorem Tr(I:Inv X pins σ H s)(hN:X.N.Nodup)(hi:X.N[i]? = some x)(hx:Loc X.env.scope x)(r:RelV v u)(h:∀s',Inv X pins (σ.set i (some v)) H s'->(∃a,Heap.SameBut a s.heap s'.heap/\(a=X.env.locals∨X.env.cells.lookup x\a))->Q () s')(hf:X.fn x=true∨X.env.scope.names.lookup x\.local:=by first|exact .inl U|exact .inr U|assumption):wpAny M A (storeName X.env x u) Q E s:=by
 let#[m,hn,hl]:=id I.loc;have LI:(X.env.scope.kind == .class || (X.env.scope.kind == .module&&X.env.locals != X.env.globals))=false:=by rw[I.ok.kind];rfl
 have Ew:i<σ.length:=by rw[I.len];exact (bW.mp hi).1
 let uK:=I.uK
 have tracked:∀{a:Addr} {h':Heap},(∃o,s.heap.get? a\o/\H a=none)->Heap.SameBut a s.heap h'->fM X.prog X.w H h':=λ{a h'} ha hs b ob e=>by
  let#[_,_,xF]:=ha;apply (I.aA b ob e).eN (λc w' hc q=>(hs.2 c ?_).trans q) (λ_ q=>q) λ_ _ q=>q;rintro rfl;rcases hc with rfl|hc
  ·rw[xF] at e;cases e
  rw[xF] at hc;cases hc
 rcases hx with hk|hk
 ·apply wpAny_storeName_local hk hn (λh' Ei hs=>?_) LI;let#[oL,_,_,GS,_]:=id hn;apply h _ #[I.ok,I.os,I.bare,#[λb o e n hb hx=>?_,λb o e n hb hx=>?_,I.base.free,λb o e hx=>?_,I.base.gW,I.base.hY,I.base.ix],#[_,Ei,λj y v' e1 e2 e3=>?_],λy c e=>?_,I.free,I.d6,λp hp=>?_,tracked #[oL,GS,I.free] hs,by simpa using I.len] #[_,hs,.inl U]
  ·exact (hs.2 b (dD (jt (bx e) I.ok.above))).trans (I.base.keep b o e n hb hx)
  ·let#[sl,e1]:=I.base.slot b o e n hb hx;exact#[sl,(hs.2 b (dD (jt (bx e) I.ok.above))).trans e1]
  ·let#[o',e1]:=I.base.there b o e hx;exact#[o',(hs.2 b (dD (jt (bx e) I.ok.above))).trans e1]
  ·by_cases hj:j=i
   ·subst hj;rw[hi] at e1;cases e1;rw[List.getElem?_set_self Ew] at e2;cases e2;exact#[u,r,.inl #[hk,by simp]]
   rw[List.getElem?_set_ne (bN hj)] at e2;let#[u',r',q]:=hl j y v' e1 e2 e3;apply#[u',r',?_];rcases q with⟨k,e⟩|⟨k,c,e,z⟩
   ·apply .inl #[k,?_];have:y≠x:=λe=>hj (SY hN e1 (e▸hi));simp[this,e]
   exact .inr #[k,c,e,z.sameBut hs (uK y c e)]
  ·let#[w',z]:=I.cell y c e;exact#[w',z.sameBut hs (uK y c e)]
  let#[e,n,ne,nf,d]:=I.pin p hp;exact#[(hs.2 p.1 ne).trans e,n,ne,nf,d]
 have Lw:X.fn x=true:=by
  rcases hf with z|z
  ·exact z
  rw[z] at hk;cases hk
 let#[c,hc]:=I.ok.has x (.inl hk);let#[w',z]:=I.cell x c hc;apply wpAny_storeName_cell I.ok.kind hk hc z (λh' G4 hs=>?_);let#[oc,Ef,K_]:=id z;apply h { s with heap:=h' } #[I.ok,I.os,I.bare,#[λb o e n hb hx=>?_,λb o e n hb hx=>?_,I.base.free,λb o e hx=>?_,I.base.gW,I.base.hY,I.base.ix],#[m,hn.sameBut hs (bN (uK x c hc)),λj y v' e1 e2 e3=>?_],λy c' e=>?_,I.free,I.d6,λp hp=>?_,tracked #[oc,Ef,I.d6 x c hc] hs,by simpa using I.len] #[c,hs,.inr hc]
 ·exact (hs.2 b (dD (jt (bx e) (I.ok.BZ x c Lw hc)))).trans (I.base.keep b o e n hb hx)
 ·let#[sl,e1]:=I.base.slot b o e n hb hx;exact#[sl,(hs.2 b (dD (jt (bx e) (I.ok.BZ x c Lw hc)))).trans e1]
 ·let#[o',e1]:=I.base.there b o e hx;exact#[o',(hs.2 b (dD (jt (bx e) (I.ok.BZ x c Lw hc)))).trans e1]
 ·by_cases hj:j=i
  ·subst hj;rw[hi] at e1;cases e1;rw[List.getElem?_set_self Ew] at e2;cases e2;exact#[u,r,.inr #[.inl hk,c,hc,G4]]
  rw[List.getElem?_set_ne (bN hj)] at e2;let#[u',r',q]:=hl j y v' e1 e2 e3;apply#[u',r',?_];rcases q with q|⟨k,c',e,z'⟩
  ·exact .inl q
  apply .inr #[k,c',e,z'.sameBut hs ?_];rintro rfl;exact hj (SY hN e1 (I.ok.inj _ _ _ e hc▸hi))
 ·by_cases Ra:c'=c
  ·subst Ra;exact#[_,G4]
  let#[w2,z2]:=I.cell y c' e;exact#[w2,z2.sameBut hs Ra]
 let#[e,n,ne,nf,d]:=I.pin p hp;apply#[(hs.2 p.1 ?_).trans e,n,ne,nf,d];intro q;rw[q,Ef] at e;have q':oc=p.2:=cX e;exact d w' (by rw[<- q'];exact K_)
theorem SU(I:Inv X pins σ H s)(hN:X.N.Nodup)(hi:X.N[i]? = some x)(hx:Loc X.env.scope x)(r:RelV v u)(h:∀s',Inv X pins (σ.set i (some v)) H s'->Q () s')(hf:X.fn x=true∨X.env.scope.names.lookup x\.local:=by first|exact .inl U|exact .inr U|assumption):wpAny M A (storeName X.env x u) Q E s:=
 Tr I hN hi hx r (λs' I' _=>h s' I') hf
theorem Inv.Fe{s':Ab}(I:Inv X pins σ H s)(ho:s'.os=s.os)(u:Un (o7 X.stack) ch H H' s.heap s'.heap)(aA:fM X.prog X.w H' s'.heap)(hg:AllBare s'.gens)(uF:∀b∈ch,(b∈X.ex∨X.df.heap.objs.size<=b)/\b≠X.env.locals/\(∀x c,X.env.cells.lookup x\c->c≠b)/\∀p∈X.pn++pins,p.1≠b):Inv X pins σ H' s':=by
 let#[h',g',d',t',o']:=s';have e:o'=s.os:=ho;subst e;exact I.call (g':=g') (t':=t') (d':=d') u aA hg uF
abbrev XK:=Aa->Option Addr->Hp->Prop
abbrev St:=List aH
abbrev VK:=V->Hp->Prop
abbrev TE:=St->Hp->VK->Prop
abbrev TT:=St->Hp->(Bool->Hp->Prop)->Prop
abbrev TA:=St->Hp->(af->Hp->Prop)->Prop
structure Ends where
 nx:St->Hp->Prop
 rt:VK
 bk:St->Hp->Prop:=λ_ _=>False
 ct:St->Hp->Prop:=λ_ _=>False
abbrev TS:=Ends->St->Hp->Prop
def EP(X:Cx)(pins:List (Addr × Obj))(σ:St)(Q:VK)(u:Aa)(s':Ab):Prop:=∃v H',Inv X pins σ H' s'/\RelV v u/\Q v H'
def TP(X:Cx)(pins:List (Addr × Obj))(σ:St)(Q:Bool->Hp->Prop)(b:Bool)(s':Ab):Prop:=∃H',Inv X pins σ H' s'/\Q b H'
def AP(X:Cx)(pins:List (Addr × Obj))(σ:St)(Q:af->Hp->Prop)(us:aj)(s':Ab):Prop:=∃vs H',Inv X pins σ H' s'/\Vals vs us/\Q vs H'
def SP(X:Cx)(pins:List (Addr × Obj))(D:Ends)(f:Flow)(s':Ab):Prop:=
 match f with
 |.next=>∃aZ H',Inv X pins aZ H' s'/\D.nx aZ H'
 |.brk=>∃aZ H',Inv X pins aZ H' s'/\D.bk aZ H'
 |.cont=>∃aZ H',Inv X pins aZ H' s'/\D.ct aZ H'
 |.ret u=>∃v aZ H',Inv X pins aZ H' s'/\RelV v u/\D.rt v H'
def PE(X:Cx)(e:Expr)(t:TE):Prop:=
 ∀(pins:List (Addr × Obj)) (s:Ab) (σ:St) (H:Hp) (Q:VK),Inv X pins σ H s->t σ H Q->wpAny (model X.prog X.w) X.A (eval e X.env) (EP X pins σ Q) X.xe s
def PT(X:Cx)(e:Expr)(t:TT):Prop:=
 ∀(pins:List (Addr × Obj)) (s:Ab) (σ:St) (H:Hp) (Q:Bool->Hp->Prop),Inv X pins σ H s->t σ H Q->wpAny (model X.prog X.w) X.A (isTrue e X.env (eval e X.env)) (TP X pins σ Q) X.xe s
def PW(X:Cx)(e:Expr)(t:TT):Prop:=
 ∀(whole:Sem Aa) (pins:List (Addr × Obj)) (s:Ab) (σ:St) (H:Hp) (Q:Bool->Hp->Prop),Inv X pins σ H s->t σ H Q->wpAny (model X.prog X.w) X.A (isTrue e X.env whole) (TP X pins σ Q) X.xe s
theorem PW.pt{e:Expr}{t:TT}(h:PW X e t):PT X e t:=h _
def PA(X:Cx)(es:List Expr)(t:TA):Prop:=
 ∀(pos:Pos) (pins:List (Addr × Obj)) (s:Ab) (σ:St) (H:Hp) (Q:af->Hp->Prop),Inv X pins σ H s->t σ H Q->wpAny (model X.prog X.w) X.A (spliced (backTo pos (starEach es X.env))) (AP X pins σ Q) X.xe s
def PS(X:Cx)(st:Stmt)(t:TS):Prop:=
 ∀(pins:List (Addr × Obj)) (s:Ab) (σ:St) (H:Hp) (D:Ends),Inv X pins σ H s->t D σ H->wpAny (model X.prog X.w) X.A (exec st X.env) (SP X pins D) X.xe s
def jZ(X:Cx)(st:List Stmt)(t:TS):Prop:=
 ∀(pins:List (Addr × Obj)) (s:Ab) (σ:St) (H:Hp) (D:Ends),Inv X pins σ H s->t D σ H->wpAny (model X.prog X.w) X.A (execs st X.env) (SP X pins D) X.xe s
theorem aN{α:Type}{t:Sem α}{Q Q':α->Ab->Prop}(h:wpAny M A t Q E s)(hQ:∀a s,Q a s->Q' a s):wpAny M A t Q' E s:=wpAny_mono h hQ λ_ _ x=>x
end L2
abbrev iS:=L2.St->L2.Hp->Prop
abbrev bR:=Nat->L2.St->L2.Hp->Prop
namespace L2
open PySem PySem.Spec PyProof.Rows
variable{pos:Pos}
variable{σ:St}
variable{op:CmpOp}
variable{c:Expr}
section
variable{X:Cx}
inductive oI (i:Nat) (σ:St) (H:Hp) (Q:VK):Prop
 |mk:∀v,σ[i]? = some (some v)->Q v H->oI i σ H Q
def tC(v:V):TE:=λ_ H Q=>Q v H
theorem XC{i:Nat}{x:Str}(hN:X.N[i]? = some x)(hv:OJ X.env.scope x)(hd:(x == ("__debug__":Str))=false:=by decide)(iG:(x == ("__classdict__":Str))=false:=by decide):PE X (.Name x pos) (oI i):=by
 intro pins s σ H Q I h;let#[v,e,h]:=h;let#[m,hn,hl]:=I.loc;let#[u,r,l]:=hl i x v hN e hv;have fin:EP X pins σ Q u s:=#[v,H,I,r,h];rcases l with⟨hk,hm⟩|⟨hk,c,hc,oa⟩
 ·exact wpAny_Name (wpAny_loadName_local I.ok.kind hk hn hm fin) hd
 rcases hk with hk|hk
 ·exact wpAny_Name (wpAny_loadName_cell I.ok.kind hk hc oa fin) hd
 exact wpAny_Name (wpAny_loadName_free I.ok.kind hk hc oa fin iG) hd
theorem ay{i j pos}:PE X (.Constant (.int i) j pos) (tC (.int i)):=λ_ _ _ H _ I h=>wpAny_Constant_int #[.int i,H,I.tok _,#[_,U],h]
theorem il{b j pos}:PE X (.Constant (.bool b) j pos) (tC (.bl b)):=λ_ _ _ H _ I h=>Constant_bool #[.bl b,H,I,U,h]
theorem tW{j pos}:PE X (.Constant .none j pos) (tC .non):=λ_ _ _ H _ I h=>Constant_none #[.non,H,I,U,h]
theorem tV{x j pos}:PE X (.Constant (.str x) j pos) (tC (.str x)):=λ_ _ _ H _ I h=>Calls.Constant_str #[.str x,H,I.tok _,#[_,U],h]
def Gl(X:Cx)(x:Str):Prop:=X.env.kindOf x=some .globalImplicit
theorem ME{E:Aa->Ab->Prop}{pins:List (Addr × Obj)}{s:Ab}{H:Hp}{x:Str}{u:Aa}{Q:Aa->Ab->Prop}(I:Inv X pins σ H s)(hg:Gl X x)(hm:X.mg x\u)(h:Q u s)(hd:(x == ("__debug__":Str))=false:=by decide):wpAny (model X.prog X.w) X.A (eval (.Name x pos) X.env) Q E s:=
 Calls.Name_function_global I.ok.kind hg (Calls.loadGlobal_global (by rw[I.ok.glob];exact I.mod.glob.keeps I.bk) hm h) hd
theorem uT{E:Aa->Ab->Prop}{pins:List (Addr × Obj)}{s:Ab}{H:Hp}{x:Str}{u:Aa}{Q:Aa->Ab->Prop}(I:Inv X pins σ H s)(hg:Gl X x)(hm:X.mg x=none)(hv:bootBuiltins x\u)(h:Q u s)(hn:x≠"__name__":=by decide)(hd:(x == ("__debug__":Str))=false:=by decide):wpAny (model X.prog X.w) X.A (eval (.Name x pos) X.env) Q E s:=by
 let#[mb,h1,h2]:=I.mod.blt;exact Calls.Name_function_global I.ok.kind hg (Calls.loadGlobal_builtin (by rw[I.ok.glob];exact I.mod.glob.keeps I.bk) hm (by rw[I.ok.blt];exact h1.keeps I.bk) ((h2 x hn).trans hv) h) hd
theorem BX{x:Str}{v:V}{u:Aa}(hg:Gl X x)(hm:X.mg x\u)(r:RelV v u)(hd:(x == ("__debug__":Str))=false:=by decide):PE X (.Name x pos) (tC v):=
 λ_ _ _ H _ I h=>ME I hg hm #[v,H,I,r,h] hd
theorem jS{x:Str}{v:V}{u:Aa}(hg:Gl X x)(hm:X.mg x=none)(hv:bootBuiltins x\u)(r:RelV v u)(hn:x≠"__name__":=by decide)(hd:(x == ("__debug__":Str))=false:=by decide):PE X (.Name x pos) (tC v):=
 λ_ _ _ H _ I h=>uT I hg hm hv #[v,H,I,r,h] hn hd
variable{a b:Expr}{ta tb:TE}{pos:Pos}
def PC(X:Cx)(op:CmpOp)(a b:Expr)(t:TE):Prop:=
 ∀(pins:List (Addr × Obj)) (s:Ab) (σ:St) (H:Hp) (Q:VK),Inv X pins σ H s->t σ H Q->
  wpAny (model X.prog X.w) X.A (eval a X.env) (λv aJ=>wpAny (model X.prog X.w) X.A (eval b X.env) (λu jv=>wpAny (model X.prog X.w) X.A (compareOp op v u) (EP X pins σ Q) X.xe jv) X.xe aJ) X.xe s
theorem jz(b:Expr)(h:op≠.In)(h2:op≠.NotIn):behindInMarks op b=false:=by
 have e1:(op == CmpOp.In)=false:=by cases op<;>first|rfl|exact absurd U h
 have e2:(op == CmpOp.NotIn)=false:=by cases op<;>first|rfl|exact absurd U h2
 cases b<;>simp[behindInMarks,e1,e2]
def JM(ta:TE):TE:=λσ H Q=>ta σ H λx H1=>Q (.bl (decide (x=.non))) H1
def CI(ta:TE):TE:=λσ H Q=>ta σ H λx H1=>Q (.bl (!decide (x=.non))) H1
theorem RelV.jy{x:V}{v:Aa}(r:RelV x v):(v == Value.none)=decide (x=.non):=by
 cases x with
 |non=>cases r;rfl
 |bl _=>cases r;rfl
 |int _=>let#[t,rfl]:=r;rfl
 |str _=>let#[t,rfl]:=r;rfl
 |byt _=>let#[t,rfl]:=r;rfl
 |flt _=>let#[t,rfl]:=r;rfl
 |ref _=>cases r;rfl
 |ty _=>cases r;rfl
theorem G8{j pos'}(ha:PE X a ta):PC X .Is a (.Constant .none j pos') (JM ta):=by
 intro pins s σ H Q I h;apply aN (ha pins s σ H _ I h) λv s1 ⟨x,H1,I1,r1,q1⟩=>?_;exact Constant_none (is_none_gen #[.bl _,H1,I1,by rw[r1.jy];rfl,q1])
theorem Y9{j pos'}(ha:PE X a ta):PC X .IsNot a (.Constant .none j pos') (CI ta):=by
 intro pins s σ H Q I h;apply aN (ha pins s σ H _ I h) λv s1 ⟨x,H1,I1,r1,q1⟩=>?_;exact Constant_none (isnot_none_gen #[.bl _,H1,I1,by rw[r1.jy];rfl,q1])
inductive Ph (Q:Bool->Hp->Prop) (x:V) (H1:Hp):Prop
 |mk:∀c,x=.bl c->Q c H1->Ph Q x H1
def tB(t:TE):TT:=λσ H Q=>t σ H λx H1=>Ph Q x H1
theorem HM{t:TE}(h:PC X op a b t)(h1:behindInMarks op b=false:=by first|exact jz _ (by decide) (by decide)|rfl):PE X (.Compare a [op] [b] pos) t:=λpins s σ H Q I hw=>wpAny_Compare1 (h pins s σ H Q I hw) h1
theorem qa{t:TE}(h:PC X op a b t)(h1:behindInMarks op b=false:=by first|exact jz _ (by decide) (by decide)|rfl):PT X (.Compare a [op] [b] pos) (tB t):=by
 intro pins s σ H Q I hw;apply wpAny_isTrue_Compare1 (aN (h pins s σ H _ I hw) λv s1 h1=>aN h1 λu s2 h2=>aN h2 λc s3 ⟨x,H1,I1,r1,q1⟩=>?_) h1;let#[d,rfl,q]:=q1;cases r1;exact tO #[H1,I1,q]
theorem d7{e:Expr}{t:TE}(h:PE X e t)(he:∀whole,isTrue e X.env whole=(do let v <- whole;standAt e.pos;holding [v] (truthy v)):=by intro _;rfl):PT X e (tB t):=by
 intro pins s σ H Q I hw;apply isTrue_plain (aN (h pins s σ H _ I hw) λv s1 ⟨x,H1,I1,r1,q1⟩=>?_) (he _);let#[d,rfl,q]:=q1;cases r1;exact tO #[H1,I1,q]
variable{tA F4:TT}{rest:List Expr}
def JR(t u:TT):TT:=λσ H Q=>t σ H λc H1=>if c=true then u σ H1 Q else Q false H1
def Vv(t u:TT):TT:=λσ H Q=>t σ H λc H1=>if c=true then Q true H1 else u σ H1 Q
def JK(t:TT):TT:=λσ H Q=>t σ H λc H1=>Q (!c) H1
theorem Mz(ha:PT X a tA):PW X (.BoolOp .And [a] pos) tA:=by
 intro wh pins s σ H Q I h;apply isTrue_and (aN (ha pins s σ H Q I h) λc s1 e=>?_);cases c with
 |true=>exact isTrue_and_nil e
 |false=>exact e
theorem pA(ha:PT X a tA):PW X (.BoolOp .Or [a] pos) tA:=by
 intro wh pins s σ H Q I h;apply isTrue_or (aN (ha pins s σ H Q I h) λc s1 e=>?_);cases c with
 |false=>exact isTrue_or_nil e
 |true=>exact e
theorem L7(ha:PT X a tA)(hb:PW X (.BoolOp .And (b::rest) pos) F4):PW X (.BoolOp .And (a::b::rest) pos) (JR tA F4):=by
 intro wh pins s σ H Q I h;apply isTrue_and (aN (ha pins s σ H _ I h) λc s1 ⟨H1,I1,q1⟩=>?_);cases c with
 |true=>exact hb wh pins s1 σ H1 Q I1 q1
 |false=>exact#[H1,I1,q1]
theorem pf(ha:PT X a tA)(hb:PW X (.BoolOp .Or (b::rest) pos) F4):PW X (.BoolOp .Or (a::b::rest) pos) (Vv tA F4):=by
 intro wh pins s σ H Q I h;apply isTrue_or (aN (ha pins s σ H _ I h) λc s1 ⟨H1,I1,q1⟩=>?_);cases c with
 |true=>exact#[H1,I1,q1]
 |false=>exact hb wh pins s1 σ H1 Q I1 q1
theorem eZ(ha:PT X a tA):PT X (.UnaryOp .Not a pos) (JK tA):=by
 intro pins s σ H Q I h;exact isTrue_not (ha pins s σ H (λc H1=>Q (!c) H1) I h)
inductive qF (tb:TE) (σ:St) (Q:VK) (x:V) (H1:Hp):Prop
 |mk:∀c,x=.bl c->(if c=true then tb σ H1 Q else Q (.bl false) H1)->qF tb σ Q x H1
def CO(ta tb:TE):TE:=λσ H Q=>ta σ H λx H1=>qF tb σ Q x H1
inductive wQ (tb:TE) (σ:St) (Q:VK) (x:V) (H1:Hp):Prop
 |mk:∀c,x=.bl c->(if c=true then Q (.bl true) H1 else tb σ H1 Q)->wQ tb σ Q x H1
def JJ(ta tb:TE):TE:=λσ H Q=>ta σ H λx H1=>wQ tb σ Q x H1
inductive qA (Q:VK) (x:V) (H1:Hp):Prop
 |mk:∀c,x=.bl c->Q (.bl (!c)) H1->qA Q x H1
def CH(ta:TE):TE:=λσ H Q=>ta σ H λx H1=>qA Q x H1
theorem qe{op}{t:TE}(h:PE X a t):PE X (.BoolOp op [a] pos) t:=λpins s σ H Q I hw=>BoolOp_one (h pins s σ H Q I hw)
theorem ph(ha:PE X a ta)(hb:PE X (.BoolOp .And (b::rest) pos) tb):PE X (.BoolOp .And (a::b::rest) pos) (CO ta tb):=by
 intro pins s σ H Q I h;apply BoolOp_and (aN (ha pins s σ H _ I h) λv s1 ⟨x,H1,I1,r1,q1⟩=>?_);let#[c,rfl,q1]:=q1;cases r1;apply tO ?_;cases c with
 |true=>exact hb pins s1 σ H1 Q I1 q1
 |false=>exact#[.bl false,H1,I1,U,q1]
theorem XS(ha:PE X a ta)(hb:PE X (.BoolOp .Or (b::rest) pos) tb):PE X (.BoolOp .Or (a::b::rest) pos) (JJ ta tb):=by
 intro pins s σ H Q I h;apply BoolOp_or (aN (ha pins s σ H _ I h) λv s1 ⟨x,H1,I1,r1,q1⟩=>?_);let#[c,rfl,q1]:=q1;cases r1;apply tO ?_;cases c with
 |false=>exact hb pins s1 σ H1 Q I1 q1
 |true=>exact#[.bl true,H1,I1,U,q1]
theorem QB(ha:PE X a ta):PE X (.UnaryOp .Not a pos) (CH ta):=by
 intro pins s σ H Q I h;apply UnaryOp_ (aN (ha pins s σ H _ I h) λv s1 ⟨x,H1,I1,r1,q1⟩=>?_);let#[c,rfl,q1]:=q1;cases r1;exact not_of (tO #[.bl (!c),H1,I1,U,q1])
def Vw(t:TT)(ta tb:TE):TE:=λσ H Q=>t σ H λc H1=>if c=true then ta σ H1 Q else tb σ H1 Q
theorem ZP(hc:PT X c tA)(ha:PE X a ta)(hb:PE X b tb):PE X (.IfExp c a b pos) (Vw tA ta tb):=by
 intro pins s σ H Q I h;apply wpAny_IfExp (aN (hc pins s σ H _ I h) λd s1 ⟨H1,I1,q1⟩=>?_);cases d with
 |true=>exact ha pins s1 σ H1 Q I1 q1
 |false=>exact hb pins s1 σ H1 Q I1 q1
end
def dS(K:ai)(H:Hp)(a:Addr)(xs:af):Prop:=
 Rd H a (.lst xs) ∨
  ∃(o:Obj) (its:Array Aa) (n:Nat),K.lookup a\o/\o.cls=.type "list"/\o.dict=none/\o.data=.seq its n/\its.size<=sizeLine/\Vals xs its.toList
def er(K:ai)(H:Hp)(a:Addr)(xs:af):Prop:=
 Rd H a (.tup xs) ∨
  ∃(o:Obj) (its:Array Aa) (n:Nat),K.lookup a\o/\o.cls=.type "tuple"/\o.data=.seq its n/\its.size<=sizeLine/\Vals xs its.toList
def OI:Aa->aH
 |.none=>some .non
 |.bool b=>some (.bl b)
 |.int i _=>some (.int i)
 |.str x _=>some (.str x)
 |.bytes b _=>some (.byt b)
 |.float b _=>some (.flt b)
 |.ref a=>some (.ref a)
 |.type n=>some (.ty n)
 |_=>none
theorem RelV.abs{x:V}{u:Aa}(r:RelV x u):OI u\x:=by
 cases x with
 |non=>cases r;rfl
 |bl _=>cases r;rfl
 |int _=>let#[t,rfl]:=r;rfl
 |str _=>let#[t,rfl]:=r;rfl
 |byt _=>let#[t,rfl]:=r;rfl
 |flt _=>let#[t,rfl]:=r;rfl
 |ref _=>cases r;rfl
 |ty _=>cases r;rfl
theorem RelV.inj{x y:V}{u:Aa}(r:RelV x u)(q:RelV y u):x=y:=cX (r.abs.symm.trans q.abs)
theorem Vals.inj:∀{xs ys:af} {us:aj},Vals xs us->Vals ys us->xs=ys
 |_,_,_,.nil,.nil=>rfl
 |_,_,_,.cons r t,.cons r' t'=>by rw[r.inj r',Vals.inj t t']
section
variable{X:Cx}{pins:List (Addr × Obj)}{σ:St}{H:Hp}{s:Ab}{a:Addr}{xs ys:af}
theorem dS.of{K:ai}(h:H a\.lst xs):dS K H a xs:=.inl (.inl h)
theorem er.of{K:ai}(h:H a\.tup xs):er K H a xs:=.inl (.inl h)
theorem Inv.list(I:Inv X pins σ H s)(h:dS X.K H a xs):∃its:aj,Vals xs its/\PlainL s.heap a its.toArray/\xs.length<=sizeLine:=by
 rcases h with h|⟨o,its,n,hk,hc,hd,hs,hz,r⟩
 ·let#[z,its,n,r,e]:=h.ok I.aA;exact#[its,r,#[_,n,e,U,U,U],z]
 apply#[its.toList,r,#[o,n,I.gJ a o hk,hc,hd,by simpa using hs],?_];let e:=r.length;simp only[t7] at e;omega
theorem Inv.tuple(I:Inv X pins σ H s)(h:er X.K H a xs):∃its:aj,Vals xs its/\IsTup s.heap a its.toArray/\xs.length<=sizeLine:=by
 rcases h with h|⟨o,its,n,hk,hc,hs,hz,r⟩
 ·let#[z,its,r,p,_]:=h.ok I.aA;exact#[its,r,p,z]
 apply#[its.toList,r,#[o,I.gJ a o hk,hc,n,by simpa using hs],?_];let e:=r.length;simp only[t7] at e;omega
theorem Inv.g9(I:Inv X pins σ H s)(h:dS X.K H a xs)(h':dS X.K H a ys):xs=ys:=by
 let#[its,r,#[o,n,e,_,_,d],_]:=I.list h;let#[its',r',#[o',n',e',_,_,d'],_]:=I.list h';rw[e] at e';cases e';rw[d] at d'
 injection d' with d1 _
 have:its=its':=⇑(ed Array.toList d1)
 subst this;exact r.inj r'
theorem Inv.di(I:Inv X pins σ H s)(h:er X.K H a xs)(h':er X.K H a ys):xs=ys:=by
 let#[its,r,#[o,e,_,n,d],_]:=I.tuple h;let#[its',r',#[o',e',_,n',d'],_]:=I.tuple h';rw[e] at e';cases e';rw[d] at d'
 injection d' with d1 _
 have:its=its':=⇑(ed Array.toList d1)
 subst this;exact r.inj r'
end
abbrev Cx.iw(X:Cx)(E:Aa->Ab->Prop):Cx:={ X with xe:=E }
abbrev Cx.xn(X:Cx):Cx:=X.iw λ_ _=>False
theorem Cx.Ok.iw{X:Cx}(ok:X.Ok)(E:Aa->Ab->Prop):(X.iw E).Ok:=
 #[ok.mod,ok.kind,ok.glob,ok.blt,ok.above,ok.inj,ok.has,ok.BZ,ok.hd,ok.frames,ok.F6,ok.Hh,ok.bs,ok.tS,ok.sd,ok.tw,ok.fU,ok.vX]
theorem Cx.Ok.eK{X:Cx}{E:Aa->Ab->Prop}(ok:(X.iw E).Ok):X.Ok:=
 #[ok.mod,ok.kind,ok.glob,ok.blt,ok.above,ok.inj,ok.has,ok.BZ,ok.hd,ok.frames,ok.F6,ok.Hh,ok.bs,ok.tS,ok.sd,ok.tw,ok.fU,ok.vX]
section
variable{X:Cx}{pins:List (Addr × Obj)}{σ:St}{H:Hp}{s:Ab}{E:Aa->Ab->Prop}
theorem Inv.iw(I:Inv X pins σ H s)(E:Aa->Ab->Prop):Inv (X.iw E) pins σ H s:=#[I.ok.iw E,I.os,I.bare,I.base,I.loc,I.cell,I.free,I.d6,I.pin,I.aA,I.len]
theorem Inv.eK(I:Inv (X.iw E) pins σ H s):Inv X pins σ H s:=#[I.ok.eK,I.os,I.bare,I.base,I.loc,I.cell,I.free,I.d6,I.pin,I.aA,I.len]
theorem SP.eK{D:Ends}{f:Flow}{s':Ab}(h:SP (X.iw E) pins D f s'):SP X pins D f s':=by
 cases f with
 |next=>let#[aZ,H',I,q]:=h;exact#[aZ,H',I.eK,q]
 |brk=>let#[aZ,H',I,q]:=h;exact#[aZ,H',I.eK,q]
 |cont=>let#[aZ,H',I,q]:=h;exact#[aZ,H',I.eK,q]
 |ret u=>let#[v,aZ,H',I,r,q]:=h;exact#[v,aZ,H',I.eK,r,q]
theorem jZ.xn{st:List Stmt}{t:TS}(h:jZ X.xn st t):jZ X st t:=λpins s σ H D I hw=>
 wpAny_mono (h pins s σ H D (I.iw _) hw) (λ_ _ q=>q.eK) λ_ _ z=>False.elim z
end
section
variable{X:Cx}{st:Stmt}{rest:List Stmt}{t u:TS}{e:Expr}{te:TE}{pos:Pos}
def wR:TS:=λD σ H=>D.nx σ H
def vk(t u:TS):TS:=λD σ H=>t { D with nx:=u D } σ H
theorem cj:jZ X [] wR:=λ_ _ σ H _ I h=>wpAny_execs_nil #[σ,H,I,h]
theorem au(h1:PS X st t)(h2:jZ X rest u):jZ X (st::rest) (vk t u):=by
 intro pins s σ H D I h;apply wpAny_execs_cons (aN (h1 pins s σ H { D with nx:=u D } I h) λf s1 q=>?_);cases f with
 |next=>
  let#[aZ,H',I',q]:=q;exact h2 pins s1 aZ H' D I' q
 |ret v=>exact q
 |brk=>exact q
 |cont=>exact q
theorem aF(h1:PS X st t):jZ X [st] t:=by
 intro pins s σ H D I h;apply wpAny_execs_cons (aN (h1 pins s σ H D I h) λf s1 q=>?_);cases f with
 |next=>exact wpAny_execs_nil q
 |ret v=>exact q
 |brk=>exact q
 |cont=>exact q
theorem Inv.quiet{pins:List (Addr × Obj)}{H:Hp}{s:Ab}(I:Inv X pins σ H s):interactive X.env=false:=by simp[interactive,I.ok.kind]
def CL(te:TE):TS:=λD σ H=>te σ H λ_ H1=>D.nx σ H1
theorem kI(he:PE X e te)(hs:swapsWith e none pos.line X.env=pure false:=by rfl):PS X (.Expr e pos) (CL te):=by
 intro pins s σ H D I h;exact wpAny_Expr_any (aN (he pins s σ H _ I h) λv s1 ⟨x,H1,I1,r1,q1⟩=>#[σ,H1,I1,q1]) I.quiet hs
def JI(te:TE):TS:=λD σ H=>te σ H D.rt
theorem bp(he:PE X e te):PS X (.Return (some e) pos) (JI te):=by
 intro pins s σ H D I h;exact wpAny_Return_some (aN (he pins s σ H _ I h) λv s1 ⟨x,H1,I1,r1,q1⟩=>#[x,σ,H1,I1,r1,q1])
def JN(c:TT)(t u:TS):TS:=λD σ H=>c σ H λb H1=>if b=true then t D σ H1 else u D σ H1
theorem cg{a b:List Stmt}{tc:TT}(hc:PT X c tc)(ha:jZ X a t)(hb:jZ X b u):PS X (.If c a b pos) (JN tc t u):=by
 intro pins s σ H D I h;apply wpAny_If (aN (hc pins s σ H _ I h) λd s1 ⟨H1,I1,q1⟩=>?_);cases d with
 |true=>exact ha pins s1 σ H1 D I1 q1
 |false=>exact hb pins s1 σ H1 D I1 q1
def yA:TS:=λ_ _ _=>False
theorem gg{VD:List Stmt}:jZ X VD yA:=λ_ _ _ _ _ _ h=>h.elim
end
abbrev TG:=V->St->Hp->(St->Hp->Prop)->Prop
abbrev Bd:=af->St->Hp->(St->Hp->Prop)->Prop
def PG(X:Cx)(target:Expr)(t:TG):Prop:=
 ∀(pins:List (Addr × Obj)) (s:Ab) (σ:St) (H:Hp) (v:V) (u:Aa) (Q:iS),Inv X pins σ H s->RelV v u->t v σ H Q->
  wpAny (model X.prog X.w) X.A (assign target X.env u) (λ_ s'=>∃aZ H',Inv X pins aZ H' s'/\Q aZ H') X.xe s
def FN(X:Cx)(ts:List Expr)(t:Bd):Prop:=
 ∀(pins:List (Addr × Obj)) (s:Ab) (σ:St) (H:Hp) (vs:af) (us:aj) (Q:iS),Inv X pins σ H s->Vals vs us->t vs σ H Q->
  wpAny (model X.prog X.w) X.A (assignInOrder ((assignEach ts X.env).map (·.2)) us) (λ_ s'=>∃aZ H',Inv X pins aZ H' s'/\Q aZ H') X.xe s
abbrev Bc:=V->V->V->Hp->(Hp->Prop)->Prop
def FM(X:Cx)(t:Bc):Prop:=
 ∀(pins:List (Addr × Obj)) (s:Ab) (σ:St) (H:Hp) (o i v:V) (ov iv u:Aa) (Q:Hp->Prop),Inv X pins σ H s->RelV o ov->RelV i iv->RelV v u->t o i v H Q->
  wpAny (model X.prog X.w) X.A (setItem ov iv u) (λ_ s'=>∃H',Inv X pins σ H' s'/\Q H') X.xe s
variable{es:List Expr}
variable{k n:Nat}
variable{tg:Expr}{te:TE}
variable{pos':Pos}
section
variable{X:Cx}{pos:Pos}
def jP(i:Nat):TG:=λv σ H Q=>Q (σ.set i (some v)) H
theorem fW{i:Nat}{x:Str}(hN:X.N.Nodup)(hi:X.N[i]? = some x)(hx:Loc X.env.scope x)(hf:X.fn x=true∨X.env.scope.names.lookup x\.local:=by first|exact .inl U|exact .inr U|assumption):PG X (.Name x pos) (jP i):=by
 intro pins s σ H v u Q I r h;exact wpAny_assign_Name (SU I hN hi hx r (λs' I'=>#[_,H,I',h]) hf)
theorem jr:type_of% PyProof.Rows.Boot.«isinstance»:=PyProof.Rows.Boot.«isinstance»
theorem HN:type_of% PyProof.Rows.Boot.«int»:=PyProof.Rows.Boot.«int»
theorem HJ:type_of% PyProof.Rows.Boot.«str»:=PyProof.Rows.Boot.«str»
theorem qf:type_of% PyProof.Rows.Boot.«tuple»:=PyProof.Rows.Boot.«tuple»
theorem ya:type_of% PyProof.Rows.Boot.«list»:=PyProof.Rows.Boot.«list»
theorem IU:type_of% PyProof.Rows.Boot.«sorted»:=PyProof.Rows.Boot.«sorted»
theorem uQ:type_of% PyProof.Rows.Boot.«dict»:=PyProof.Rows.Boot.«dict»
theorem L9:type_of% PyProof.Rows.Boot.«min»:=PyProof.Rows.Boot.«min»
theorem PJ(i:Nat){x:Str}(hN:X.N.Nodup:=by first|(show ([_]:List Str).Nodup;decide +kernel)|(show ([_,_]:List Str).Nodup;decide +kernel)|(show ([_,_,_]:List Str).Nodup;decide +kernel)|(show ([_,_,_,_]:List Str).Nodup;decide +kernel))(hi:X.N[i]? = some x:=by rfl)(hx:Loc X.env.scope x:=by first|exact Or.inl U|exact Or.inr U)(hf:X.fn x=true∨X.env.scope.names.lookup x\.local:=by first|exact .inl U|exact .inr U|assumption):PG X (.Name x pos) (jP i):=fW hN hi hx hf
theorem cu(i:Nat){x:Str}(hN:X.N.Nodup)(hi:X.N[i]? = some x:=by rfl)(hx:Loc X.env.scope x:=by first|exact Or.inl U|exact Or.inr U)(hf:X.fn x=true∨X.env.scope.names.lookup x\.local:=by first|exact .inl U|exact .inr U|assumption):PG X (.Name x pos) (jP i):=fW hN hi hx hf
def tj:Bd:=λvs σ H Q=>vs=[]/\Q σ H
inductive pW (t:TG) (u:Bd) (vs:af) (σ:St) (H:Hp) (Q:iS):Prop
 |mk:∀v r,vs=v::r->(t v σ H λaZ H'=>u r aZ H' Q)->pW t u vs σ H Q
theorem jh:FN X [] tj:=by
 intro pins s σ H vs us Q I r h;let#[e,h]:=h;subst e;cases r;exact assignInOrder_nil ⟨σ,H,I,h⟩
theorem dN{e:Expr}{t:TG}{u:Bd}(h1:PG X e t)(h2:FN X es u)(hs:(assignEach (e::es) X.env).map (·.2)=assign e X.env::(assignEach es X.env).map (·.2):=by rfl):FN X (e::es) (pW t u):=by
 intro pins s σ H vs us Q I r h;let#[v,vr,e1,h]:=h;subst e1;cases r with
 |cons r rr=>
  rw[hs];apply assignInOrder_cons (aN (h1 pins s σ H _ _ _ I r h) λ_ s1 ⟨mT,H1,I1,q1⟩=>?_);exact h2 pins s1 mT H1 _ _ Q I1 rr q1
inductive fR (K:ai) (n:Nat) (t:Bd) (v:V) (σ:St) (H:Hp) (Q:iS):Prop
 |mk:∀a xs,v=.ref a->er K H a xs->xs.length=n->t xs σ H Q->fR K n t v σ H Q
theorem mr{t:Bd}(hc:X.calm=true)(h:FN X es t)(hn:(assignEach es X.env).length=n:=by rfl)(zL:(assignEach es X.env).findIdx? (·.1)=none:=by rfl):PG X (.Tuple es k pos) (fR X.K n t):=by
 intro pins s σ H v u Q I r hw;let#[a,xs,e1,hq,hl,hw]:=hw;subst e1;cases r;let#[its,rv,ht,hz]:=I.tuple hq;apply assign_Tuple_tuple (I.ok.hd hc) ht (by simp[hn,<- hl,rv.length]) zL λh' hx=>?_;have I1:Inv X pins σ H { s with heap:=h' }:=I.kept (t':=s.toks) λb o e=>hx b o (dD (bx e)) e;exact h pins _ σ H xs _ Q I1 ⇑rv hw
def L4(to ti:TE)(t:Bc):TG:=λv σ H Q=>to σ H λo H1=>ti σ H1 λi H2=>t o i v H2 λH3=>Q σ H3
theorem Qo{o i:Expr}{to ti:TE}{t:Bc}(ho:PE X o to)(hi:PE X i ti)(hs:FM X t)
  (ha:∀v,assign (.Subscript o i pos) X.env v=(do
   let ov <- holding [v] (eval o X.env)
   let iv <- holding [v,ov] (eval i X.env)
   standAt pos
   holding [v,ov,iv] (setItem ov iv v)
   release [v,ov,iv] []):=by intro _;rfl):PG X (.Subscript o i pos) (L4 to ti t):=by
 intro pins s σ H v u Q I r h;rw[ha];apply ae (iK (aN (ho pins s σ H _ I h) λov s1 ⟨x,H1,I1,r1,q1⟩=>?_));apply ae (iK (aN (hi pins s1 σ H1 _ I1 q1) λiv s2 ⟨y,H2,I2,r2,q2⟩=>?_));apply ae (wpAny_standAt (ae (iK (aN (hs pins s2 σ H2 x y v ov iv u _ I2 r1 r2 r q2) λ_ s3 ⟨H3,I3,q3⟩=>?_))));exact wpAny_release #[σ,H3,I3,q3]
def yG(te:TE)(g:TG):TS:=λD σ H=>te σ H λx H1=>g x σ H1 D.nx
theorem HK{e:Expr}{g:TG}(he:PE X e te)(hg:PG X tg g)(hs:swapsWithSole [tg] e pos.line X.env=pure false:=by rfl)(hw:swappedStores [tg] e X.env=pure none:=by rfl)(h1:(assignEach [tg] X.env).map (·.2)=[assign tg X.env]:=by rfl):PS X (.Assign [tg] e pos) (yG te g):=by
 intro pins s σ H D I h;apply wpAny_Assign_stores (aN (he pins s σ H _ I h) λv s1 ⟨x,H1,I1,r1,q1⟩=>?_) hs hw;rw[h1];exact aN (hg pins s1 σ H1 x v _ I1 r1 q1) λ_ s2 q=>q
theorem Qv{i:Nat}{x:Str}{e:Expr}(hN:X.N.Nodup)(hi:X.N[i]? = some x)(hx:Loc X.env.scope x)(he:PE X e te)(hs:swapsWith e (some (.Name x pos')) pos.line X.env=pure false:=by rfl)(hf:X.fn x=true∨X.env.scope.names.lookup x\.local:=by first|exact .inl U|exact .inr U|assumption) :
  PS X (.Assign [.Name x pos'] e pos) (yG te (jP i)):=by
 intro pins s σ H D I h;apply wpAny_Assign_Name (aN (he pins s σ H _ I h) λv s1 ⟨y,H1,I1,r1,q1⟩=>?_) hs;exact SU I1 hN hi hx r1 (λs2 I2=>#[_,H1,I2,q1]) hf
theorem bu(i:Nat){x:Str}{e:Expr}(hN:X.N.Nodup)(he:PE X e te)(hi:X.N[i]? = some x:=by rfl)(hx:Loc X.env.scope x:=by first|exact Or.inl U|exact Or.inr U)(hs:swapsWith e (some (.Name x pos')) pos.line X.env=pure false:=by rfl)(hf:X.fn x=true∨X.env.scope.names.lookup x\.local:=by first|exact .inl U|exact .inr U|assumption):PS X (.Assign [.Name x pos'] e pos) (yG te (jP i)):=Qv hN hi hx he hs hf
end
variable{body:List Stmt}{tb:TS}
section
variable{X:Cx}{pos:Pos}
def qv(c:TT)(tb:TS):TS:=λD σ H=>∃W:Nat->St->Hp->Prop,(∃m,W m σ H)/\∀m σ H,W m σ H->
 c σ H λb H1=>if b=true then ∃N:St->Hp->Prop,(∀aZ H',N aZ H'->∃m',m'<m/\W m' aZ H')/\tb { D with nx:=N,ct:=N,bk:=D.nx } σ H1 else D.nx σ H1
theorem Iy{tc:TT}(hp:PassesOwn (model X.prog X.w) X.A X.env X.xe)(hc:PT X c tc)(hb:jZ X body tb):PS X (.While c body [] pos) (qv tc tb):=by
 intro pins s σ H D I h;let#[W,#[m0,w0],turn]:=h;apply wpAny_While (codeAny_whileLoop (λn s'=>∃aZ H',Inv X pins aZ H' s'/\W n aZ H') ?_ m0 #[σ,H,I,w0]);rintro n s1 ⟨mT,H1,I1,w1⟩;apply wpAny_passesOwn hp (aN (hc pins s1 mT H1 _ I1 (turn n mT H1 w1)) λb s2 ⟨H2,I2,q2⟩=>?_);cases b with
 |true=>
  let#[N,hN,q2]:=q2;rw[aI U];apply wpAny_passesOwn hp (aN (hb pins s2 mT H2 _ I2 q2) λf s3 q3=>?_);cases f with
  |next=>
   let#[ke,H3,I3,n3]:=q3;let#[m',hm,w3]:=hN ke H3 n3;exact#[m',hm,ke,H3,I3,w3]
  |cont=>
   let#[ke,H3,I3,n3]:=q3;let#[m',hm,w3]:=hN ke H3 n3;exact#[m',hm,ke,H3,I3,w3]
  |brk=>exact q3
  |ret v=>exact q3
 |false=>
  rw[aC gM];exact wpAny_execs_nil #[mT,H2,I2,q2]
end
structure It where
 go:Nat->Hp->Prop
 ux:Nat->Hp->V->Hp->Prop
 stop:Nat->Hp->Prop
def dh(X:Cx)(pins:List (Addr × Obj))(H:Hp)(b:Addr):Prop:=
 H b=none/\b≠X.env.locals/\b∉X.fs/\(b∈X.ex∨X.df.heap.objs.size<=b)/\(∀x c,X.env.cells.lookup x\c->c≠b)/\∀p∈X.pn++pins,p.1≠b
variable{b:Addr}
theorem Inv.iH{X:Cx}{pins:List (Addr × Obj)}{H H':Hp}{s:Ab}(I:Inv X pins σ H s)(hb:s.heap.objs.size<=b)(hn:H' b=none):dh X pins H' b:=by
 apply#[hn,iu (jt I.lt hb),I.Kj hb,.inr (iQ I.sz hb),λx c e z=>?_,λp hp z=>?_]
 ·let#[v,q]:=I.cell x c e;exact absurd (jt q.lt (by rw[z];exact hb)) (ub _)
 exact absurd (jt (bx (I.pin p hp).1) (by rw[z];exact hb)) (ub _)
structure Turn (P:Ad) (w:Af) (K:ai) (tg:Expr) (J:It) (fp:av) (it:Addr) (tn:Nat->Heap->Prop):Prop where
 mem:it∈fp
 obj:∀i h,tn i h->∀b∈fp,∃o,h.get? b\o/\∀v,o.data≠.cell v
 keep:∀i h h',tn i h->(∀b∈fp,∀o,h.get? b\o->h'.get? b\o)->tn i h'
 item:∀(X:Cx),X.prog=P->X.w=w->X.K=K->X.calm=true->∀(i:Nat) (pins:List (Addr × Obj)) (s:Ab) (σ:St) (H:Hp) (E:Aa->Ab->Prop),Inv X pins σ H s->(∀b∈fp,dh X pins H b)->tn i s.heap->J.go i H->
  wpAny (model P w) X.A (pyNext (.ref it)) (λr s1=>∃u,r\u /\
   wpAny (model P w) X.A (letOwnedTupleGo tg (.ref it) u) (λ_ s2=>∃x H',Inv X pins σ H' s2/\RelV x u/\J.ux i H x H'/\tn (i+1) s2.heap/\∀b∈fp,H' b=none) E s1) E s
 done:∀(X:Cx),X.prog=P->X.w=w->X.K=K->X.calm=true->∀(i:Nat) (pins:List (Addr × Obj)) (s:Ab) (σ:St) (H:Hp) (E:Aa->Ab->Prop),Inv X pins σ H s->(∀b∈fp,dh X pins H b)->tn i s.heap->J.stop i H->
  wpAny (model P w) X.A (pyNext (.ref it)) (λr s1=>r=none/\Inv X pins σ H s1) E s
 self:∀(A:Ag) (i:Nat) (s:Ab) (Q:Aa->Ab->Prop) (E:Aa->Ab->Prop),tn i s.heap->Q (.ref it) s->wpAny (model P w) A (pyIter (.ref it)) Q E s
abbrev TI:=St->Hp->(It->Hp->Prop)->Prop
def UB(X:Cx)(pins:List (Addr × Obj))(σ:St)(tg:Expr)(R:It->Hp->Prop)(GJ:Aa)(s2:Ab):Prop:=
 ∃(it:Addr) (fp:av) (tn:Nat->Heap->Prop) (J:It) (H':Hp),GJ=.ref it/\Inv X pins σ H' s2/\Turn X.prog X.w X.K tg J fp it tn/\tn 0 s2.heap/\(∀b∈fp,dh X pins H' b)/\R J H'
def PI(X:Cx)(tg iter:Expr)(wi:TI):Prop:=
 ∀(pins:List (Addr × Obj)) (s:Ab) (σ:St) (H:Hp) (R:It->Hp->Prop),Inv X pins σ H s->wi σ H R->
  wpAny (model X.prog X.w) X.A (eval iter X.env) (λv s1=>wpAny (model X.prog X.w) X.A (pyIter v) (UB X pins σ tg R) X.xe s1) X.xe s
variable{u:Aa}{o:Obj}
theorem Eg{M:Model}{A:Ag}{E:Aa->Ab->Prop}{s:Ab}{it:Addr}{n:String}{vs:Array Aa}{Q:Unit->Ab->Prop}(ho:s.heap.get? it\o)(hc:o.cls=.type n)(hd:o.data=.fields vs)(hn:["enumerate","zip","dict_itemiterator","dict_reverseitemiterator","odict_iterator","itertools.zip_longest","itertools.pairwise"].contains n=false)(hQ:Q () s):wpAny M A (letOwnedTupleGo tg (.ref it) u) Q E s:=by
 unfold letOwnedTupleGo
 cases tg<;>first
  |exact aE hQ
  |(cases u<;>first
    |exact aE hQ
    |(apply ae (wpAny_load ho ?_)
      rw[hc,hd];show wpAny M A (if (["enumerate","zip","dict_itemiterator","dict_reverseitemiterator","odict_iterator","itertools.zip_longest","itertools.pairwise"].contains n&&vs[0]? == some (rawInt _))=true then _ else _) Q E s;rw[aC (by intro h;rw[hn,Bool.false_and] at h;cases h)];exact aE hQ))
def ym(K:ai)(a:Addr):It:=
 ⟨λi H=>∃xs x,dS K H a xs/\xs[i]? = some x,λi H x H'=>H'=H/\∀xs,dS K H a xs->xs[i]? = some x,λi H=>∃xs,dS K H a xs/\xs.length<=i⟩
def OS(K:ai)(a:Addr):It:=
 ⟨λi H=>∃xs x,er K H a xs/\xs[i]? = some x,λi H x H'=>H'=H/\∀xs,er K H a xs->xs[i]? = some x,λi H=>∃xs,er K H a xs/\xs.length<=i⟩
def Cc(lo:Int)(n:Nat):It:=⟨λi _=>i<n,λi H x H'=>H'=H/\x=.int (lo+i),λi _=>n<=i⟩
variable{P:Ad}{w:Af}
theorem hA_{K:ai}(a it:Addr):Turn P w K tg (ym K a) [it] it (λi h=>h.IsListIter it a i) where
 mem:=by simp
 obj:=λi h st b hb=>by
  have e:b=it:=⇑hb
  subst e;let#[o,e,c,d]:=st;exact#[o,e,λv z=>by rw[d] at z;cases z]
 keep:=λi h h' st k=>st.at λo e=>k it Y0 o e
 item:=by
  intro X hP hw hK hc i pins s σ H E I hf st hg;subst hP hw hK;let#[xs,x,hq,hx]:=hg;let#[its,rv,p,hz]:=I.list hq;let#[u,hu,ru]:=rv.get hx;let#[f0,f1,f2,f3,f4,f5]:=hf it Y0;apply wpAny_pyNext_list_item st p.isList (x:=u) ⇑hu λh' d_ sb=>?_;have I1:Inv X pins σ H { s with heap:=h' }:=I.turned (t':=s.toks) (λb o hb e=>(sb.2 b hb).trans e) f0 f1 f3 f4 f5;let#[o,e,c,d]:=id d_;exact#[u,U,Eg (s:={ s with heap:=h' }) e c d (by decide) #[x,H,I1,ru,#[U,λys hy=>by rw[I.g9 hy hq];exact hx],d_,λb hb=>(hf b hb).1]]
 done:=by
  intro X hP hw hK hc i pins s σ H E I hf st hg;subst hP hw hK;let#[xs,hq,hx]:=hg;let#[its,rv,p,hz]:=I.list hq;let#[f0,f1,f2,f3,f4,f5]:=hf it Y0;let hl:=rv.length;exact wpAny_pyNext_list_end (I.ok.hd hc) st p.isList (by simp;omega) λh' eb=>#[U,I.turned (t':=s.toks) (λb o hb e=>eb b o hb e) f0 f1 f3 f4 f5]
 self:=λ_ _ _ _ _ st h=>wpAny_pyIter_listiter st h
theorem fD_{K:ai}(a it:Addr):Turn P w K tg (OS K a) [it] it (λi h=>h.IsTupleIter it a i) where
 mem:=by simp
 obj:=λi h st b hb=>by
  have e:b=it:=⇑hb
  subst e;let#[o,e,c,d]:=st;exact#[o,e,λv z=>by rw[d] at z;cases z]
 keep:=λi h h' st k=>st.at λo e=>k it Y0 o e
 item:=by
  intro X hP hw hK hc i pins s σ H E I hf st hg;subst hP hw hK;let#[xs,x,hq,hx]:=hg;let#[its,rv,p,hz]:=I.tuple hq;let#[u,hu,ru]:=rv.get hx;let#[f0,f1,f2,f3,f4,f5]:=hf it Y0;apply wpAny_pyNext_tuple_item st (show s.heap.IsTuple a its.toArray from p) (x:=u) ⇑hu λh' d_ sb=>?_;have I1:Inv X pins σ H { s with heap:=h' }:=I.turned (t':=s.toks) (λb o hb e=>(sb.2 b hb).trans e) f0 f1 f3 f4 f5;let#[o,e,c,d]:=id d_;exact#[u,U,Eg (s:={ s with heap:=h' }) e c d (by decide) #[x,H,I1,ru,#[U,λys hy=>by rw[I.di hy hq];exact hx],d_,λb hb=>(hf b hb).1]]
 done:=by
  intro X hP hw hK hc i pins s σ H E I hf st hg;subst hP hw hK;let#[xs,hq,hx]:=hg;let#[its,rv,p,hz]:=I.tuple hq;let#[f0,f1,f2,f3,f4,f5]:=hf it Y0;let hl:=rv.length;exact wpAny_pyNext_tuple_end (I.ok.hd hc) st (show s.heap.IsTuple a its.toArray from p) (by simp;omega) λh' eb=>#[U,I.turned (t':=s.toks) (λb o hb e=>eb b o hb e) f0 f1 f3 f4 f5]
 self:=λ_ _ _ _ _ st h=>wpAny_pyIter_tupleiter st h
theorem fy_{K:ai}(it:Addr)(lo:Int)(n:Nat):Turn P w K tg (Cc lo n) [it] it (λi h=>IsRangeIter h it (lo+(i:Nat) * 1) ((n:Int) - (i:Nat)) 1) where
 mem:=by simp
 obj:=λi h st b hb=>by
  have e:b=it:=⇑hb
  subst e
  exact#[_,st,λv z=>by
   have z':Data.fields _=Data.cell v:=z;cases z']
 keep:=λi h h' st k=>k it Y0 _ st
 item:=by
  intro X hP hw hK hc i pins s σ H E I hf st hg;subst hP hw hK;let#[f0,f1,f2,f3,f4,f5]:=hf it Y0;let W:=Walks.range (prog:=X.prog) (w:=X.w) (I.ok.hd hc) it lo 1 n;apply W.item i s _ _ hg st λv h' tk hv d_ kk=>?_;let#[t,rfl]:=hv;have I1:Inv X pins σ H { s with heap:=h',toks:=tk }:=I.turned (λb o hb e=>kk b o ⇑hb e) f0 f1 f3 f4 f5;apply#[_,U,Eg (s:={ s with heap:=h',toks:=tk }) (n:="range_iterator") d_ U U (by decide) #[.int (lo+i),H,I1,#[t,?_],#[U,U],d_,λb hb=>(hf b hb).1]];rw[Int.mul_one]
 done:=by
  intro X hP hw hK hc i pins s σ H E I hf st hg;subst hP hw hK;let#[f0,f1,f2,f3,f4,f5]:=hf it Y0;exact wpAny_pyNext_range_end (I.ok.hd hc) st (by have:n<=i:=hg;omega) λh' eb=>#[U,I.turned (t':=s.toks) (λb o hb e=>eb b o hb e) f0 f1 f3 f4 f5]
 self:=λ_ _ _ _ _ st h=>wpAny_pyIter_rangeiter st h
inductive sJ (K:ai) (R:It->Hp->Prop) (x:V) (H1:Hp):Prop
 |mk:∀a,x=.ref a->(∃xs,dS K H1 a xs)->R (ym K a) H1->sJ K R x H1
def DV(K:ai)(tl:TE):TI:=λσ H R=>tl σ H λx H1=>sJ K R x H1
inductive xt (K:ai) (R:It->Hp->Prop) (x:V) (H1:Hp):Prop
 |mk:∀a,x=.ref a->(∃xs,er K H1 a xs)->R (OS K a) H1->xt K R x H1
def KN(K:ai)(tl:TE):TI:=λσ H R=>tl σ H λx H1=>xt K R x H1
variable{X:Cx}{l:Expr}{tl:TE}
theorem dX(hl:PE X l tl):PI X tg l (DV X.K tl):=by
 intro pins s σ H R I h;apply aN (hl pins s σ H _ I h) λv s1 ⟨x,H1,I1,r1,q1⟩=>?_;let#[a,e,#[xs,hq],q]:=q1;subst e;cases r1;let#[its,rv,p,hz]:=I1.list hq;apply wpAny_pyIter_list p.isList ?_;apply#[s1.heap.objs.size,[s1.heap.objs.size],_,_,H1,U,I1.kept (t':=s1.toks) λb o e=>aQ _ e,hA_ a _,#[_,cJ _ U,U,U],λb hb=>?_,q];have e:b=s1.heap.objs.size:=⇑hb
 subst e;exact I1.iH (bh _) (I1.aA.fresh (bh _))
theorem XO(hl:PE X l tl):PI X tg l (KN X.K tl):=by
 intro pins s σ H R I h;apply aN (hl pins s σ H _ I h) λv s1 ⟨x,H1,I1,r1,q1⟩=>?_;let#[a,e,#[xs,hq],q]:=q1;subst e;cases r1;let#[its,rv,p,hz]:=I1.tuple hq;apply wpAny_pyIter_tuple (show s1.heap.IsTuple a its.toArray from p) ?_;apply#[s1.heap.objs.size,[s1.heap.objs.size],_,_,H1,U,I1.kept (t':=s1.toks) λb o e=>aQ _ e,fD_ a _,#[_,cJ _ U,U,U],λb hb=>?_,q];have e:b=s1.heap.objs.size:=⇑hb
 subst e;exact I1.iH (bh _) (I1.aA.fresh (bh _))
variable{pins:List (Addr × Obj)}{lo:Int}
theorem hH_{H:Hp}{s:Ab}{R:It->Hp->Prop}{E:Aa->Ab->Prop}{hi:Int}{t u v:Tok}{tk:Nat}(I:Inv X pins σ H s)(h1:-(2 ^ 62)<=lo)(h2:lo<2 ^ 62)(h3:-(2 ^ 62)<=hi)(h4:hi<2 ^ 62)(q:R (Cc lo (hi - lo).toNat) H):wpAny (model X.prog X.w) X.A (pyIter (.ref s.heap.objs.size)) (UB X pins σ tg R) E { s with heap:=s.heap.push { cls:=.type "range",data:=.fields (List.toArray [.int lo t,.int hi u,.int 1 v]) },toks:=tk }:=by
 apply wpAny_pyIter_range (IsRange.new ..) (small_one h1 h2 h3 h4) ?_;have I1:Inv X pins σ H { s with heap:=s.heap.push { cls:=.type "range",data:=.fields (List.toArray [.int lo t,.int hi u,.int 1 v]) },toks:=tk }:=I.kept λb o e=>aQ _ e
 apply#[(s.heap.push { cls:=.type "range",data:=.fields (List.toArray [.int lo t,.int hi u,.int 1 v]) }).objs.size,[(s.heap.push { cls:=.type "range",data:=.fields (List.toArray [.int lo t,.int hi u,.int 1 v]) }).objs.size],_,_,H,U,
  I1.kept (t':=tk) λb o e=>aQ _ e,fy_ _ lo (hi - lo).toNat,?_,λb hb=>?_,q]
 ·have e1:lo+((0:Nat):Int) * 1=lo:=by simp
  have e2:(((hi - lo).toNat:Nat):Int) - ((0:Nat):Int)=Builtin.Range.rangeSize lo hi 1:=by rw[rangeSize_one];split<;>omega
  show IsRangeIter _ _ (lo+((0:Nat):Int) * 1) ((((hi - lo).toNat:Nat):Int) - ((0:Nat):Int)) 1;rw[e1,e2];exact cJ _ U
 have e:b=(s.heap.push { cls:=.type "range",data:=.fields (List.toArray [.int lo t,.int hi u,.int 1 v]) }).objs.size:=⇑hb
 subst e;exact I1.iH (bh _) (I1.aA.fresh (bh _))
inductive sI (R:It->Hp->Prop) (vs:af) (H1:Hp):Prop
 |mk:∀j:Int,vs=[.int j]->-(2 ^ 62)<=j->j<2 ^ 62->R (Cc 0 j.toNat) H1->sI R vs H1
def DU(ta:TA):TI:=λσ H R=>ta σ H λvs H1=>sI R vs H1
variable{p:Pos}
theorem uW{a:Expr}{ta:TA}(hg:Gl X "range")(hm:X.mg "range"=none)(ha:PA X [a] ta)(hs:starEach [a] X.env=[(false,eval a X.env)]:=by rfl):PI X tg (.Call (.Name "range" p) [a] [] pos) (DU ta):=by
 intro pins s σ H R I h;apply Call_ (uT I hg hm boot_range (AL (aN (ha pos pins s σ H _ I h) λus s1 ⟨vs,H1,I1,r1,q1⟩=>?_) hs U));let#[j,e,q1,q2,q]:=q1;subst e;cases r1 with
 |cons r rr=>
  cases rr;let#[t,rfl]:=r;exact call_range_1 (hH_ I1 Z2 Z2 q1 q2 ⇑q)
def JO(wi:TI)(g:TG)(tb:TS):TS:=λD σ H=>wi σ H λJ H1=>∃W:Nat->Nat->St->Hp->Prop,(∃m,W 0 m σ H1)/\∀i m σ H,W i m σ H->
 (J.stop i H/\D.nx σ H)∨(J.go i H/\∃N:St->Hp->Prop,(∀aZ H',N aZ H'->∃m',m'<m/\W (i+1) m' aZ H')/\∀x H',J.ux i H x H'->g x σ H' λfu H2=>tb { D with nx:=N,ct:=N,bk:=D.nx } fu H2)
def wF(fp:av)(h:Heap):List (Addr × Obj):=fp.filterMap λb=>(h.get? b).map λo=>(b,o)
variable{fp:av}{h:Heap}
theorem Jb(hb:b∈fp)(e:h.get? b\o):(b,o)∈wF fp h:=yd.mpr #[b,hb,by rw[e];rfl]
theorem _z{p:Addr × Obj}(hp:p∈wF fp h):p.1∈fp/\h.get? p.1\p.2:=by
 let#[b,hb,e]:=yd.mp hp;cases q:h.get? b with
 |none=>rw[q] at e;cases e
 |some o=>
  rw[q] at e;have e':(b,o)=p:=cX e;subst e';exact#[hb,q]
theorem Inv.pinned{H:Hp}{s:Ab}(I:Inv X pins σ H s)(hf:∀b∈fp,dh X pins H b)(ho:∀b∈fp,∃o,s.heap.get? b\o/\∀v,o.data≠.cell v):Inv X (pins++wF fp s.heap) σ H s:=
 I.nL λp hp=>(dI.mp hp).elim (λz=>I.pin p (kL _ z)) λz=>by
  let#[hb,e]:=_z z;let#[f0,f1,f2,_]:=hf p.1 hb;let#[o,e',d]:=ho p.1 hb;rw[e] at e';cases e';exact#[e,f0,f1,f2,d]
theorem Inv.eM{pl:List (Addr × Obj)}{H:Hp}{s:Ab}(I:Inv X (pins++pl) σ H s):Inv X pins σ H s:=I.nL λp hp=>I.pin p (kL _ (List.mem_append_left _ hp))
theorem d0{iter:Expr}{wi:TI}{g:TG}(hp:PassesOwn (model X.prog X.w) X.A X.env X.xe)(hc:X.calm=true)(hi:PI X tg iter wi)(hg:PG X tg g)(hb:jZ X body tb)(hs:∀x,foldedSetIterable iter X.env x=pure x:=by intro _;rfl):PS X (.For tg iter body [] pos) (JO wi g tb):=by
 intro pins s σ H D I h;apply wpAny_For (aN (hi pins s σ H _ I h) λv s1 h1=>aN h1 λGJ s2 h2=>?_) hs;let#[it,fp,tn,J,H2,e,I2,T,eU,f2,W,#[m0,w0],turn]:=h2;subst e;have yI:∀{H':Hp},(∀b∈fp,H' b=none)->∀b∈fp,dh X pins H' b:=λhn b hb=>#[hn b hb,(f2 b hb).2];apply codeAny_forLoop_any (λn s'=>∃i aZ H',Inv X pins aZ H' s'/\tn i s'.heap/\(∀b∈fp,H' b=none)/\W i n aZ H') ?_ m0 #[0,σ,H2,I2,eU,λb hb=>(f2 b hb).1,w0];rintro n s3 ⟨i,ke,H3,I3,ic,RP,w3⟩;rcases turn i n ke H3 w3 with⟨stop,qn⟩|⟨go,N,hN,step⟩
 ·apply wpAny_passesOwn hp (aN (T.done X U U U hc i pins s3 ke H3 X.xe I3 (yI RP) ic stop) λr s4 ⟨hr,I4⟩=>?_);subst hr;exact wpAny_execs_nil #[ke,H3,I4,qn]
 apply wpAny_passesOwn hp (aN (T.item X U U U hc i pins s3 ke H3 X.xe I3 (yI RP) ic go) λr s4 ⟨u,hr,h4⟩=>?_);subst hr;apply wpAny_passesOwn hp (aN h4 λ_ s5 ⟨x,H5,I5,r5,y5,gi,o8⟩=>?_);let I5':=I5.pinned (yI o8) (T.obj _ _ gi);apply wpAny_passesOwn hp (aN (hg _ s5 ke H5 x u _ I5' r5 (step x H5 y5)) λ_ s6 ⟨UF,H6,I6,q6⟩=>?_);apply wpAny_passesOwn hp (aN (hb _ s6 UF H6 _ I6 q6) λf s7 q7=>?_)
 have again:∀{qp:St} {H7:Hp},Inv X (pins++wF fp s5.heap) qp H7 s7->N qp H7->∃m,m<n/\∃i aZ H',Inv X pins aZ H' s7/\tn i s7.heap/\(∀b∈fp,H' b=none)/\W i m aZ H':=λ{qp H7} I7 n7=>by
  let#[m',hm,w7]:=hN qp H7 n7;apply#[m',hm,i+1,qp,H7,I7.eM,T.keep _ _ _ gi λb hb o e=>(I7.pin (b,o) (kL _ (kL _ (Jb hb e)))).1,λb hb=>?_,w7];let#[o,e,d]:=T.obj _ _ gi b hb;exact (I7.pin (b,o) (kL _ (kL _ (Jb hb e)))).2.1
 cases f with
 |next=>let#[qp,H7,I7,n7]:=q7;exact again I7 n7
 |cont=>let#[qp,H7,I7,n7]:=q7;exact again I7 n7
 |brk=>let#[qp,H7,I7,q7]:=q7;exact#[qp,H7,I7.eM,q7]
 |ret v=>let#[x7,qp,H7,I7,r7,q7]:=q7;exact#[x7,qp,H7,I7.eM,r7,q7]
theorem ib{K:ai}{a:Addr}{xs:af}{g:TG}{D:Ends}{H:Hp}(Pv:bR)(h0:Pv 0 σ H)(hl:∀i σ H,i<=xs.length->Pv i σ H->dS K H a xs)(hs:∀i x σ H,xs[i]? = some x->Pv i σ H->g x σ H λfu H2=>tb { D with nx:=Pv (i+1),ct:=Pv (i+1),bk:=D.nx } fu H2)(hd:∀σ H,Pv xs.length σ H->D.nx σ H) :
  ∃W:Nat->Nat->St->Hp->Prop,(∃m,W 0 m σ H)/\∀i m σ H,W i m σ H->
   ((ym K a).stop i H/\D.nx σ H)∨((ym K a).go i H/\∃N:St->Hp->Prop,(∀aZ H',N aZ H'->∃m',m'<m/\W (i+1) m' aZ H')/\∀x H',(ym K a).ux i H x H'->g x σ H' λfu H2=>tb { D with nx:=N,ct:=N,bk:=D.nx } fu H2):=by
 apply#[λi m σ H=>m=xs.length - i/\i<=xs.length/\Pv i σ H,#[xs.length,by simp,gO _,h0],?_];rintro i m σ H ⟨rfl,hi,p⟩;let q:=hl i σ H hi p;by_cases dH:i<xs.length
 ·apply .inr #[#[xs,xs[i],q,by simp[dH]],Pv (i+1),λaZ H' p'=>#[xs.length - (i+1),by omega,U,dH,p'],λx H' y=>?_];let#[e,y]:=y;subst e;exact hs i x σ _ (y xs q) p
 have e:i=xs.length:=by omega
 subst e;exact .inl #[#[xs,q,bh _],hd σ H p]
theorem wD{g:TG}{D:Ends}{H:Hp}(Pv:bR)(h0:Pv 0 σ H)(hs:∀i σ H,i<n->Pv i σ H->g (.int (lo+i)) σ H λfu H2=>tb { D with nx:=Pv (i+1),ct:=Pv (i+1),bk:=D.nx } fu H2)(hd:∀σ H,Pv n σ H->D.nx σ H) :
  ∃W:Nat->Nat->St->Hp->Prop,(∃m,W 0 m σ H)/\∀i m σ H,W i m σ H->
   ((Cc lo n).stop i H/\D.nx σ H)∨((Cc lo n).go i H/\∃N:St->Hp->Prop,(∀aZ H',N aZ H'->∃m',m'<m/\W (i+1) m' aZ H')/\∀x H',(Cc lo n).ux i H x H'->g x σ H' λfu H2=>tb { D with nx:=N,ct:=N,bk:=D.nx } fu H2):=by
 apply#[λi m σ H=>m=n - i/\i<=n/\Pv i σ H,#[n,by simp,gO _,h0],?_];rintro i m σ H ⟨rfl,hi,p⟩;by_cases dH:i<n
 ·apply .inr #[dH,Pv (i+1),λaZ H' p'=>#[n - (i+1),by omega,U,dH,p'],λx H' y=>?_];let#[e,y]:=y;subst e y;exact hs i σ _ dH p
 have e:i=n:=by omega
 subst e;exact .inl #[bh _,hd σ H p]
theorem Z6{c:TT}{D:Ends}{H:Hp}(Pv:iS)(μ:St->Hp->Nat)(h0:Pv σ H)(hs:∀σ H,Pv σ H->c σ H λb H1=>if b=true then tb { D with nx:=λaZ H'=>Pv aZ H'/\μ aZ H'<μ σ H,ct:=λaZ H'=>Pv aZ H'/\μ aZ H'<μ σ H,bk:=D.nx } σ H1 else D.nx σ H1)(mono:∀σ H Q Q',(∀b H1,Q b H1->Q' b H1)->c σ H Q->c σ H Q'):qv c tb D σ H:=by
 apply#[λm σ H=>m=μ σ H/\Pv σ H,#[_,U,h0],?_];rintro m σ H ⟨rfl,p⟩;apply mono σ H _ _ (λb H1 q=>?_) (hs σ H p);cases b with
 |true=>exact#[_,λaZ H' ⟨p',l⟩=>#[_,l,U,p'],q]
 |false=>exact q
abbrev R2:=V->V->Hp->VK->Prop
def d9(X:Cx)(f:Aa->Aa->Sem Aa)(r:R2):Prop:=
 ∀(pins:List (Addr × Obj)) (s:Ab) (σ:St) (H:Hp) (x y:V) (v u:Aa) (Q:VK),Inv X pins σ H s->RelV x v->RelV y u->r x y H Q->
  wpAny (model X.prog X.w) X.A (f v u) (EP X pins σ Q) X.xe s
def OL(X:Cx)(f:Aa->Sem Aa)(r:V->Hp->VK->Prop):Prop:=
 ∀(pins:List (Addr × Obj)) (s:Ab) (σ:St) (H:Hp) (x:V) (v:Aa) (Q:VK),Inv X pins σ H s->RelV x v->r x H Q->
  wpAny (model X.prog X.w) X.A (f v) (EP X pins σ Q) X.xe s
def gr(X:Cx)(f:Aa)(r:af->Hp->VK->Prop):Prop:=
 ∀(pins:List (Addr × Obj)) (s:Ab) (σ:St) (H:Hp) (xs:af) (us:aj) (Q:VK),Inv X pins σ H s->Vals xs us->r xs H Q->
  wpAny (model X.prog X.w) X.A (call f us) (EP X pins σ Q) X.xe s
def F3(r:R2)(ta tb:TE):TE:=λσ H Q=>ta σ H λx H1=>tb σ H1 λy H2=>r x y H2 Q
def Vt(r:V->Hp->VK->Prop)(ta:TE):TE:=λσ H Q=>ta σ H λx H1=>r x H1 Q
inductive rI (C:Int->Int->Prop) (g:Int->Int->V) (x:V) (y:V) (H:Hp) (Q:VK):Prop
 |mk:∀i j,x=.int i->y=.int j->C i j->Q (g i j) H->rI C g x y H Q
inductive vA (g:Int->Int->V) (x:V) (y:V) (H:Hp) (Q:VK):Prop
 |mk:∀i j,x=.int i->y=.int j->Q (g i j) H->vA g x y H Q
inductive rU (g:Int->V) (x:V) (H:Hp) (Q:VK):Prop
 |mk:∀i,x=.int i->Q (g i) H->rU g x H Q
variable{r:R2}
variable{g:Int->Int->Int}
variable{j:Int}
section
variable{X:Cx}{a b c:Expr}{ta tb tc:TE}{pos:Pos}
theorem AY(ha:PE X a ta)(hb:PE X b tb){s:Ab}{H:Hp}{R:V->V->Hp->Prop}(I:Inv X pins σ H s)(h:ta σ H λx H1=>tb σ H1 λy H2=>R x y H2){Q:Aa->Ab->Prop}{f:Aa->Aa->Sem Aa}(hf:∀v u s2 x y H2,Inv X pins σ H2 s2->RelV x v->RelV y u->R x y H2->wpAny (model X.prog X.w) X.A (f v u) Q X.xe s2) :
  wpAny (model X.prog X.w) X.A (eval a X.env) (λv aJ=>wpAny (model X.prog X.w) X.A (eval b X.env) (λu jv=>wpAny (model X.prog X.w) X.A (f v u) Q X.xe jv) X.xe aJ) X.xe s:=by
 apply aN (ha pins s σ H _ I h) λv s1 ⟨x,H1,I1,r1,q1⟩=>?_;apply aN (hb pins s1 σ H1 _ I1 q1) λu s2 ⟨y,H2,I2,r2,q2⟩=>?_;exact hf v u s2 x y H2 I2 r1 r2 q2
theorem bP{op:Operator}(ho:d9 X (binaryOp op) r)(ha:PE X a ta)(hb:PE X b tb):PE X (.BinOp a op b pos) (F3 r ta tb):=by
 intro pins s σ H Q I h;exact wpAny_BinOp (AY ha hb I h λv u s2 x y H2 I2 rx ry q=>ho pins s2 σ H2 x y v u Q I2 rx ry q)
theorem GM{op:UnaryOp}{r:V->Hp->VK->Prop}(ho:OL X (unaryOp op) r)(ha:PE X a ta):PE X (.UnaryOp op a pos) (Vt r ta):=by
 intro pins s σ H Q I h;exact UnaryOp_ (aN (ha pins s σ H _ I h) λv s1 ⟨x,H1,I1,r1,q1⟩=>ho pins s1 σ H1 x v Q I1 r1 q1)
theorem Bs{f:Aa->Aa->Sem Aa}{C:Int->Int->Prop}(rule:∀(i j:Int) (t u:Tok) (s:Ab) (Q:Aa->Ab->Prop) (E:Aa->Ab->Prop),C i j->Q (.int (g i j) s.toks) { s with toks:=s.toks+1 }->wpAny (model X.prog X.w) X.A (f (.int i t) (.int j u)) Q E s) :
  d9 X f (rI C λi j=>.int (g i j)):=by
 intro pins s σ H x y v u Q I rx ry h;let#[i,j,rfl,rfl,hc,q]:=h;let#[t,rfl]:=rx;let#[t',rfl]:=ry;exact rule i j t t' s _ _ hc #[.int (g i j),H,I.tok _,#[_,U],q]
theorem Di{f:Aa->Aa->Sem Aa}(rule:∀(i j:Int) (t u:Tok) (s:Ab) (Q:Aa->Ab->Prop) (E:Aa->Ab->Prop),Q (.int (g i j) s.toks) { s with toks:=s.toks+1 }->wpAny (model X.prog X.w) X.A (f (.int i t) (.int j u)) Q E s) :
  d9 X f (vA λi j=>.int (g i j)):=by
 intro pins s σ H x y v u Q I rx ry h;let#[i,j,rfl,rfl,q]:=h;let#[t,rfl]:=rx;let#[t',rfl]:=ry;exact rule i j t t' s _ _ #[.int (g i j),H,I.tok _,#[_,U],q]
theorem vD{f:Aa->Aa->Sem Aa}{g:Int->Int->Bool}
  (rule:∀(i j:Int) (t u:Tok) (s:Ab) (Q:Aa->Ab->Prop) (E:Aa->Ab->Prop),Q (.bool (g i j)) s->wpAny (model X.prog X.w) X.A (f (.int i t) (.int j u)) Q E s) :
  d9 X f (vA λi j=>.bl (g i j)):=by
 intro pins s σ H x y v u Q I rx ry h;let#[i,j,rfl,rfl,q]:=h;let#[t,rfl]:=rx;let#[t',rfl]:=ry;exact rule i j t t' s _ _ #[.bl (g i j),H,I,U,q]
def O0(i j:Int):Prop:=0<j/\j<1073741824
def OZ(i j:Int):Prop:=0<=j/\j<=1000000/\i.natAbs<2 ^ 64
def Bh(i j:Int):Prop:=(-(2 ^ 64)<i/\i<2 ^ 64)∨(-(2 ^ 64)<j/\j<2 ^ 64)
theorem Bh.ok{i:Int}(h:Bh i j):IntMulOk i j:=by
 rcases h with⟨h1,h2⟩|⟨h1,h2⟩
 ·exact .of_left (intBits_le_64 h1 h2)
 exact .of_right (intBits_le_64 h1 h2)
theorem gz:d9 X (binaryOp .Add) (vA λi j=>.int (i+j)):=Di λ_ _ _ _ _ _ _ q=>add_int q
theorem AN:d9 X (binaryOp .Sub) (vA λi j=>.int (i - j)):=Di λ_ _ _ _ _ _ _ q=>sub_int q
theorem qb:d9 X (binaryOp .Mult) (rI Bh λi j=>.int (i * j)):=Bs λ_ _ _ _ _ _ _ hc q=>mul_int q hc.ok
theorem Fh:d9 X (binaryOp .FloorDiv) (rI O0 λi j=>.int (i / j)):=Bs λi j _ _ _ _ _ hc q=>by
 have h1:(0:Int)<j:=hc.1;have h2:j<1073741824:=hc.2;exact floordiv_int Z2 (by rw[Int.fdiv_eq_ediv_of_nonneg i Z2];exact q) (.inl (PyProof.noPylong_small Z2))
theorem AM:d9 X (binaryOp .Mod) (rI (λ_ j=>0<j) λi j=>.int (i % j)):=Bs λi j _ _ _ _ _ hc q=>by
 have h1:(0:Int)<j:=hc;exact mod_int' Z2 (by rw[Int.fmod_eq_emod_of_nonneg i Z2];exact q)
theorem XE:d9 X (binaryOp .Pow) (rI OZ λi j=>.int (i ^ j.toNat)):=Bs λ_ _ _ _ _ _ _ hc q=>pow_int_small hc.1 hc.2.1 hc.2.2 q
theorem Vg{f:Aa->Sem Aa}{g:Int->Int}
  (rule:∀(i:Int) (t:Tok) (s:Ab) (Q:Aa->Ab->Prop) (E:Aa->Ab->Prop),Q (.int (g i) s.toks) { s with toks:=s.toks+1 }->wpAny (model X.prog X.w) X.A (f (.int i t)) Q E s) :
  OL X f (rU λi=>.int (g i)):=by
 intro pins s σ H x v Q I rx h;let#[i,rfl,q]:=h;let#[t,rfl]:=rx;exact rule i t s _ _ #[.int (g i),H,I.tok _,#[_,U],q]
theorem He:OL X (unaryOp .USub) (rU λi=>.int (-i)):=Vg λ_ _ _ _ _ q=>neg_int q
end
def yR:V->V->Bool
 |.non,.non=>true | .non,.int _=>true | .int _,.non=>true | .non,.bl _=>true | .bl _,.non=>true | .non,.str _=>true | .str _,.non=>true
 |.int _,.int _=>true | .bl _,.bl _=>true | .str _,.str _=>true | .byt _,.byt _=>true
 |.int _,.str _=>true | .str _,.int _=>true | .bl _,.str _=>true | .str _,.bl _=>true
 |_,_=>false
def V8:R2:=λx y H Q=>yR x y=true/\Q (.bl (decide (x=y))) H
def V7:R2:=λx y H Q=>yR x y=true/\Q (.bl (!decide (x=y))) H
theorem RH{i:Int}:decide (V.int i=V.int j)=(i == j):=by
 rw[Bool.eq_iff_iff];simp
theorem Qn{i j:Bool}:decide (V.bl i=V.bl j)=(i == j):=by
 rw[Bool.eq_iff_iff];simp
theorem Rb{i j:Str}:decide (V.str i=V.str j)=(i == j):=by
 rw[Bool.eq_iff_iff];simp
theorem Rj{i j:Array UInt8}:decide (V.byt i=V.byt j)=(i.toList == j.toList):=by
 rw[Bool.eq_iff_iff];cases i;cases j;simp
variable{Bt:CmpOp}{r':R2}
section
variable{X:Cx}{a b c:Expr}{ta tb tc:TE}{pos:Pos}
theorem fj{H:Hp}{s:Ab}{Q:VK}{k k':Bool}(I:Inv X pins σ H s)(q:Q (.bl k) H)(e:k=k'):EP X pins σ Q (.bool k') s:=by
 subst e;exact#[.bl k,H,I,U,q]
theorem BJ:d9 X (compareOp .Eq) V8:=by
 intro pins s σ H x y v u Q I rx ry h;let#[hs,q]:=h;cases x with
 |non=>
  cases rx;cases y with
  |non=>cases ry;exact PySem.EqNone.eq_none_none (fj I q Y0)
  |bl j=>cases ry;exact PySem.EqNone.eq_none_bool (fj I q Y0)
  |int j=>let#[t',rfl]:=ry;exact PySem.EqNone.eq_none_int (fj I q Y0)
  |str j=>let#[t',rfl]:=ry;exact PySem.EqNone.eq_none_str (fj I q Y0)
  |_=>exact absurd (show false=true from hs) gM
 |bl i=>
  cases rx;cases y with
  |non=>cases ry;exact PySem.EqNone.eq_bool_none (fj I q Y0)
  |bl j=>cases ry;exact eq_bool (fj I q Qn)
  |str j=>let#[t',rfl]:=ry;exact PySem.EqMixed.eq_bool_str (fj I q Y0)
  |_=>exact absurd (show false=true from hs) gM
 |int i=>
  let#[t,rfl]:=rx;cases y with
  |non=>cases ry;exact PySem.EqNone.eq_int_none (fj I q Y0)
  |int j=>let#[t',rfl]:=ry;exact eq_int (fj I q RH)
  |str j=>let#[t',rfl]:=ry;exact PySem.EqMixed.eq_int_str (fj I q Y0)
  |_=>exact absurd (show false=true from hs) gM
 |str i=>
  let#[t,rfl]:=rx;cases y with
  |non=>cases ry;exact PySem.EqNone.eq_str_none (fj I q Y0)
  |bl j=>cases ry;exact PySem.EqMixed.eq_str_bool (fj I q Y0)
  |int j=>let#[t',rfl]:=ry;exact PySem.EqMixed.eq_str_int (fj I q Y0)
  |str j=>let#[t',rfl]:=ry;exact eq_str (fj I q Rb)
  |_=>exact absurd (show false=true from hs) gM
 |byt i=>
  let#[t,rfl]:=rx;cases y with
  |byt j=>let#[t',rfl]:=ry;exact PySem.W.eq_bytes (fj I q Rj)
  |_=>exact absurd (show false=true from hs) gM
 |_=>cases y<;>exact absurd (show false=true from hs) gM
theorem pV:d9 X (compareOp .NotEq) V7:=by
 intro pins s σ H x y v u Q I rx ry h;let#[hs,q]:=h;cases x with
 |non=>
  cases rx;cases y with
  |non=>cases ry;exact PySem.EqNone.ne_none_none (fj I q Y0)
  |bl j=>cases ry;exact PySem.EqNone.ne_none_bool (fj I q Y0)
  |int j=>let#[t',rfl]:=ry;exact PySem.EqNone.ne_none_int (fj I q Y0)
  |str j=>let#[t',rfl]:=ry;exact PySem.EqNone.ne_none_str (fj I q Y0)
  |_=>exact absurd (show false=true from hs) gM
 |bl i=>
  cases rx;cases y with
  |non=>cases ry;exact PySem.EqNone.ne_bool_none (fj I q Y0)
  |bl j=>cases ry;exact ne_bool (fj I q (ed not Qn))
  |str j=>let#[t',rfl]:=ry;exact PySem.EqMixed.ne_bool_str (fj I q Y0)
  |_=>exact absurd (show false=true from hs) gM
 |int i=>
  let#[t,rfl]:=rx;cases y with
  |non=>cases ry;exact PySem.EqNone.ne_int_none (fj I q Y0)
  |int j=>let#[t',rfl]:=ry;exact ne_int (fj I q (ed not RH))
  |str j=>let#[t',rfl]:=ry;exact PySem.EqMixed.ne_int_str (fj I q Y0)
  |_=>exact absurd (show false=true from hs) gM
 |str i=>
  let#[t,rfl]:=rx;cases y with
  |non=>cases ry;exact PySem.EqNone.ne_str_none (fj I q Y0)
  |bl j=>cases ry;exact PySem.EqMixed.ne_str_bool (fj I q Y0)
  |int j=>let#[t',rfl]:=ry;exact PySem.EqMixed.ne_str_int (fj I q Y0)
  |str j=>let#[t',rfl]:=ry;exact ne_str (fj I q (ed not Rb))
  |_=>exact absurd (show false=true from hs) gM
 |byt i=>
  let#[t,rfl]:=rx;cases y with
  |byt j=>let#[t',rfl]:=ry;exact PySem.W.ne_bytes (fj I q (ed not Rj))
  |_=>exact absurd (show false=true from hs) gM
 |_=>cases y<;>exact absurd (show false=true from hs) gM
theorem BH:d9 X (compareOp .Lt) (vA λi j=>.bl (decide (i<j))):=vD λ_ _ _ _ _ _ _ q=>lt_int q
theorem xQ:d9 X (compareOp .LtE) (vA λi j=>.bl (decide (i<=j))):=vD λ_ _ _ _ _ _ _ q=>le_int q
theorem BK:d9 X (compareOp .Gt) (vA λi j=>.bl (decide (j<i))):=vD λ_ _ _ _ _ _ _ q=>gt_int q
theorem X0:d9 X (compareOp .GtE) (vA λi j=>.bl (decide (j<=i))):=vD λ_ _ _ _ _ _ _ q=>ge_int q
inductive T7 (x:V) (y:V) (H:Hp) (Q:VK):Prop
 |mk:∀i j,x=.str i->y=.str j->Q (.bl (decide (i.cps.toList<j.cps.toList))) H->T7 x y H Q
theorem gb_:d9 X (compareOp .Lt) T7:=by
 intro pins s σ H x y v u Q I rx ry h;let#[i,j,rfl,rfl,q]:=h;let#[t,rfl]:=rx;let#[t',rfl]:=ry;exact lt_str (fj I q rfl)
theorem Lq:d9 X (compareOp .Is) (λx y H Q=>y=.non/\Q (.bl (decide (x=.non))) H):=by
 intro pins s σ H x y v u Q I rx ry h;let#[rfl,q]:=h;cases ry;apply is_none_gen (fj I q ?_)
 cases x<;>first
  |(cases rx;rfl)
  |(let#[t,rfl]:=rx;rfl)
theorem Yu:d9 X (compareOp .IsNot) (λx y H Q=>y=.non/\Q (.bl (!decide (x=.non))) H):=by
 intro pins s σ H x y v u Q I rx ry h;let#[rfl,q]:=h;cases ry;apply isnot_none_gen (fj I q ?_)
 cases x<;>first
  |(cases rx;rfl)
  |(let#[t,rfl]:=rx;rfl)
theorem r_(b:Expr)(h:op≠.In:=by decide)(h2:op≠.NotIn:=by decide):behindInMarks op b=false:=by
 have e1:(op == CmpOp.In)=false:=by cases op<;>first|rfl|exact absurd rfl h
 have e2:(op == CmpOp.NotIn)=false:=by cases op<;>first|rfl|exact absurd rfl h2
 cases b<;>simp[behindInMarks,e1,e2]
theorem pE(ho:d9 X (compareOp op) r)(ha:PE X a ta)(hb:PE X b tb)(hm:behindInMarks op b=false:=by exact r_ _):PE X (.Compare a [op] [b] pos) (F3 r ta tb):=by
 intro pins s σ H Q I h;exact wpAny_Compare1 (AY ha hb I h λv u s2 x y H2 I2 rx ry q=>ho pins s2 σ H2 x y v u Q I2 rx ry q) hm
inductive qy (Q:Bool->Hp->Prop) (x:V) (H':Hp):Prop
 |mk:∀k,x=.bl k->Q k H'->qy Q x H'
def wO(t:TE):TT:=λσ H Q=>t σ H λx H'=>qy Q x H'
theorem eY(ho:d9 X (compareOp op) r)(ha:PE X a ta)(hb:PE X b tb)(hm:behindInMarks op b=false:=by exact r_ _):PT X (.Compare a [op] [b] pos) (wO (F3 r ta tb)):=by
 intro pins s σ H Q I h
 apply wpAny_isTrue_Compare1 (aN (ha pins s σ H _ I h) λv s1 ⟨x,H1,I1,r1,q1⟩=>aN (hb pins s1 σ H1 _ I1 q1) λu s2 ⟨y,H2,I2,r2,q2⟩=>
  aN (ho pins s2 σ H2 x y v u _ I2 r1 r2 q2) λc s3 ⟨z,H3,I3,r3,k,e,q3⟩=>?_) hm
 subst e;cases r3;exact tO #[H3,I3,q3]
inductive mY (r':R2) (tc:TE) (σ:St) (Q:VK) (y:V) (z:V) (H3:Hp):Prop
 |mk:∀k,z=.bl k->(if k=true then tc σ H3 λw' H4=>r' y w' H4 Q else Q (.bl false) H3)->mY r' tc σ Q y z H3
def qE(r r':R2)(ta tb tc:TE):TE:=λσ H Q=>ta σ H λx H1=>tb σ H1 λy H2=>r x y H2 λz H3=>mY r' tc σ Q y z H3
theorem SX(ho:d9 X (compareOp op) r)(n0:d9 X (compareOp Bt) r')(ha:PE X a ta)(hb:PE X b tb)(hc:PE X c tc)(hm:lastMarks [op,Bt] [b,c]=false:=by with_unfolding_all rfl):PE X (.Compare a [op,Bt] [b,c] pos) (qE r r' ta tb tc):=by
 intro pins s σ H Q I h
 apply Compare_chain (aN (ha pins s σ H _ I h) λv s1 ⟨x,H1,I1,r1,q1⟩=>chain_link (aN (hb pins s1 σ H1 _ I1 q1) λu s2 ⟨y,H2,I2,r2,q2⟩=>
  aN (ho pins s2 σ H2 x y v u _ I2 r1 r2 q2) λd s3 ⟨z,H3,I3,r3,k,e,q3⟩=>?_)) hm
 subst e;cases r3;apply tO ?_;cases k with
 |false=>exact ite_ff #[.bl false,H3,I3,U,q3]
 |true=>exact ite_tt (chain_last (aN (hc pins s3 σ H3 _ I3 q3) λw' s4 ⟨z',H4,I4,r4,q4⟩=>n0 pins s4 σ H4 y z' u w' Q I4 r2 r4 q4))
theorem RZ(ho:d9 X (compareOp op) r)(n0:d9 X (compareOp Bt) r')(ha:PE X a ta)(hb:PE X b tb)(hc:PE X c tc)(hm:lastMarks [op,Bt] [b,c]=false:=by with_unfolding_all rfl):PT X (.Compare a [op,Bt] [b,c] pos) (wO (qE r r' ta tb tc)):=by
 intro pins s σ H Q I h
 apply isTrue_chain (aN (ha pins s σ H _ I h) λv s1 ⟨x,H1,I1,r1,q1⟩=>test_link (aN (hb pins s1 σ H1 _ I1 q1) λu s2 ⟨y,H2,I2,r2,q2⟩=>
  aN (ho pins s2 σ H2 x y v u _ I2 r1 r2 q2) λd s3 ⟨z,H3,I3,r3,k,e,q3⟩=>?_)) hm
 subst e;cases r3;apply tO ?_;cases k with
 |false=>
  let#[k',e',q']:=q3;cases e';exact ite_ff #[H3,I3,q']
 |true=>
  apply ite_tt (test_last (aN (hc pins s3 σ H3 _ I3 q3) λw' s4 ⟨z',H4,I4,r4,q4⟩=>aN (n0 pins s4 σ H4 y z' u w' _ I4 r2 r4 q4) λd' s5 ⟨z2,H5,I5,r5,k2,e2,q5⟩=>?_));subst e2;cases r5;exact tO #[H5,I5,q5]
theorem gm:(sizeLine:Nat)<2 ^ 63:=by rw[cq];decide
inductive Uc (x:V) (y:V) (H:Hp) (Q:VK):Prop
 |mk:∀i j,x=.str i->y=.str j->i.length+j.length<=sizeLine->Q (.str (i++j)) H->Uc x y H Q
theorem fx_:d9 X (binaryOp .Add) Uc:=by
 intro pins s σ H x y v u Q I rx ry h;let#[i,j,rfl,rfl,hz,q]:=h;let#[t,rfl]:=rx;let#[t',rfl]:=ry;exact add_str (λt' tk=>⟨.str (i++j),H,I.tok _,⟨_,rfl⟩,q⟩) hz
theorem vals1{x:V}{us:aj}(r:Vals [x] us):∃u,us=[u]/\RelV x u:=by
 cases r with
 |cons r1 r2=>cases r2;exact#[_,U,r1]
theorem vals2{x y:V}{us:aj}(r:Vals [x,y] us):∃u w',us=[u,w']/\RelV x u/\RelV y w':=by
 cases r with
 |cons r1 r2=>
  cases r2 with
  |cons r3 r4=>cases r4;exact#[_,_,U,r1,r3]
inductive S7 (xs:af) (H:Hp) (Q:VK):Prop
 |mk:∀i,xs=[.int i]->Q (.int (if i<0 then -i else i)) H->S7 xs H Q
theorem hI_:gr X (.builtin "abs") S7:=by
 intro pins s σ H xs us Q I r h;let#[i,rfl,q]:=h;let#[u,rfl,t,rfl]:=vals1 r;exact call_abs_int λu tk=>#[.int (if i<0 then -i else i),H,I.tok _,#[_,U],q]
inductive TX (xs:af) (H:Hp) (Q:VK):Prop
 |mk:∀i j,xs=[.int i,.int j]->Q (.int (if j > i then j else i)) H->TX xs H Q
theorem hg_(hc:X.calm=true):gr X (.builtin "max") TX:=by
 intro pins s σ H xs us Q I r h;let#[i,j,rfl,q]:=h;let#[u,w',rfl,#[t,rfl],#[t',rfl]]:=vals2 r;apply max_two_ints (I.ok.hd hc) λh' tk k=>#[_,H,I.kept k,?_,q];by_cases hj:j > i
 ·rw[aI hj,aI hj];exact#[_,U]
 rw[aC hj,aC hj];exact#[_,U]
inductive T9 (xs:af) (H:Hp) (Q:VK):Prop
 |mk:∀i j,xs=[.int i,.int j]->Q (.int (if j<i then j else i)) H->T9 xs H Q
theorem SZ(hc:X.calm=true):gr X (.builtin "min") T9:=by
 intro pins s σ H xs us Q I r h;let#[i,j,rfl,q]:=h;let#[u,w',rfl,#[t,rfl],#[t',rfl]]:=vals2 r;apply min_two_ints (I.ok.hd hc) λh' tk k=>#[_,H,I.kept k,?_,q];by_cases hj:j<i
 ·rw[aI hj,aI hj];exact#[_,U]
 rw[aC hj,aC hj];exact#[_,U]
theorem N_:gr X (.type "int") (λxs H Q=>(∃i,xs=[.int i]/\Q (.int i) H)∨∃k,xs=[.bl k]/\Q (.int (if k then 1 else 0)) H):=by
 intro pins s σ H xs us Q I r h;rcases h with⟨i,rfl,q⟩|⟨k,rfl,q⟩
 ·let#[u,rfl,t,rfl]:=vals1 r;exact call_int_int #[.int i,H,I,#[_,U],q]
 let#[u,rfl,r1]:=vals1 r;cases r1;exact call_int_bool #[.int (if k then 1 else 0),H,I.tok _,#[_,U],q]
end
structure mP (h:Heap) (x dx C:Addr) (mA:Str->Option Aa):Prop where
 obj:h.get? x\PySem.W.instObj C dx
 ns:h.Ns1 dx mA
 ne:dx≠x
variable{mA:Str->Option Aa}
theorem _J{dx:Addr}(n:h.Ns1 dx mA):∃od,h.get? dx\od/\∀name,PySem.W.lookIn name od\mA name:=by
 let#[o,es,ep,ho,hd,hk,_,hm]:=n;apply#[o,ho,λname=>?_];let e:=hm name;unfold nsFind findBy at e;rw[<- Array.find?_toList] at e;unfold PySem.W.lookIn;rw[hd];dsimp only;split
 ·rename_i y q
  rw[q] at e;exact ed some e
 rename_i q
 rw[q] at e
 have a:es.toList.any (·.refKey)=false:=by
  rw[List.any_eq_false];intro y hy;let#[z,t,Lk]:=hk y (Array.mem_toList_iff.mp hy);simp[DictEntry.refKey,Lk]
 have a':¬es.toList.any (·.refKey)=true:=by rw[a];exact gM
 rw[aC a'];exact ed some e
theorem mP.look{x dx C:Addr}(I:mP h x dx C mA):∃od,PySem.W.InstAt h x (PySem.W.instObj C dx) C (some od)/\∀name,PySem.W.lookIn name od\mA name:=
 let #[od,ho,hl]:=_J I.ns
 #[od,#[I.obj,U,U,ho],hl]
variable{pl:Sem Bool}
variable{kw:List (Str × Aa)}
section
variable{prog:Ad}{w:Af}{A:Ag}{E:Aa->Ab->Prop}{s:Ab}{K:ai}{x dx C f:Addr}{mA:Str->Option Aa}{name:Str}{v:Aa}
theorem YO{expr:Bool}{Q:Aa->Ab->Prop}(X:K.In s.heap)(I:mP s.heap x dx C mA)(hg:PySem.W.plainGet K C name=true)(hh:PySem.W.hasDictIn K C=true)
  (ha:PySem.W.findIn K (.ref C) name\none) (hv:mA name\v) (D0:PySem.W.handedIn v=true) (h:Q v { s with toks:=s.toks+1 }) :
  wpAny (model prog w) A (getAttr (.ref x) name expr) Q E s:=by
 let#[od,J,hl]:=I.look;exact PySem.W.get_value X J (PySem.W.plainGet_of hg).1 (PySem.W.findObj_own hh ha U (by rw[hl,hv])) D0 h
theorem _a{Q:Aa × aj->Ab->Prop}(X:K.In s.heap)(I:mP s.heap x dx C mA)(hg:PySem.W.plainGet K C name=true)(hf:PySem.W.findIn K (.ref C) name\some (.ref f))(ht:PySem.W.isFn K (.ref f)=true)(hv:mA name=none)(h:Q (.ref f,[.ref x]) s) :
  wpAny (model prog w) A (getMethod (.ref x) name pl) Q E s:=by
 let#[od,J,hl]:=I.look;exact PySem.W.method_fn X J (PySem.W.plainGet_of hg).1 (PySem.W.plainGet_of hg).2 hf (beq_iff_eq.mp ht) (by show (PySem.W.lookIn name od).map (·.isSome)=some false;rw[hl,hv];rfl) h
theorem YM{ns:ag}{Q:Unit->Ab->Prop}(X:K.In s.heap)(I:mP s.heap x dx C mA)
  (hs:PySem.W.findIn K (.ref C) "__setattr__"\some (.builtin "object.__setattr__")) (hp:PySem.W.plainOver K C=true) (ht:PySem.W.takerIn K C name\none) (hh:PySem.W.hasDictIn K C=true)
  (hw:PySem.Within mA ns) (hsz:ns.length<=sizeLine)
  (h:∀h',mP h' x dx C (λy=>if y=name then some v else mA y)->Heap.SameBut dx s.heap h'->Q () { s with heap:=h',toks:=s.toks+2 }) :
  wpAny (model prog w) A (setAttr (.ref x) name v) Q E s:=by
 let#[od,J,hl]:=I.look;apply PySem.W.set_plain X J hs (PySem.W.osa_open (s:={ s with toks:=s.toks+1 }) (r:=none) X J hp ht λb=>?_);let#[cd,hc,hU]:=PySem.W.any_some hh;have hx:s.heap.get? x=some #[.ref C,some dx,.plain,#[]]:=I.obj;apply ae (aE (ae (ae (wpAny_loadPart hx (ae (PySem.W.Looks.here (s:={ s with toks:=s.toks+1 }) (PySem.W.looks_clsIn X hc) ?_))))));rw[hU];apply aE (a:=some dx) (ae (aE (ae ?_)));apply wpAny_nsSet1 (s:={ s with toks:=s.toks+1 }) I.ns λh' xB pQ=>?_;let#[oD,esD,epD,_G,hdD,hcD]:=xB.count (PySem.Within.cons name v hw);apply ae (wpAny_lookBehind _G (by rw[hdD];exact pastItsLine_dict (iQ hcD (by rw[iR];omega))) ?_);exact aE (h _ #[(pQ.2 _ (bN I.ne)).trans I.obj,xB,I.ne] pQ)
theorem hF_{R:Result->Ab->Prop}{vs:aj}(X:K.In s.heap)(hm:PySem.W.makesIn K C=true)(hi:PySem.W.findIn K (.ref C) "__init__"\some (.ref f))(hf:PySem.W.typeIn K (.ref f)\.type "function")(h:codeAny (model prog w) (A.under (.builtin "type.__call__" #[.ref C::vs,kw])) (.call (.ref f) #[.ref (s.heap.objs.size+1)::vs,kw]) (PySem.W.InitBack (s.heap.objs.size+1) R)
   { s with heap:=(s.heap.push PySem.W.emptyDict).push (PySem.W.instObj C s.heap.objs.size) }) :
  codeAny (model prog w) A (.call (.ref C) #[vs,kw]) R s:=by
 let#[hh,g,d,t,os]:=s;exact PySem.W.make_core (PySem.W.makes_of X hm) (PySem.W.looks_findIn X hi) (λself=>PySem.W.bind_fn X self hf) (.inl U) h
end
def aB(f:Str)(v:V):List (Str × V)->List (Str × V)
 |[]=>[(f,v)]
 |(g,x)::r=>if g=f then (g,v)::r else (g,x)::aB f v r
theorem gy(f g:Str)(v:V):∀fs:List (Str × V),(aB f v fs).lookup g=if g=f then some v else fs.lookup g
 |[]=>by
  show List.lookup g [(f,v)]=_;by_cases h:g=f
  ·have hb:(g == f)=true:=beq_iff_eq.mpr h;simp only[List.lookup,hb,aI h]
  ·have hb:(g == f)=false:=beq_eq_false_iff_ne.mpr h;simp only[List.lookup,hb,aC h]
 |(k,x)::r=>by
  let ih:=gy f g v r;rw[show aB f v ((k,x)::r)=(if k=f then (k,v)::r else (k,x)::aB f v r) from U];by_cases hk:k=f
  ·rw[aI hk];by_cases h:g=k
   ·have hb:(g == k)=true:=beq_iff_eq.mpr h;simp only[List.lookup,hb,aI (h.trans hk)]
   have hb:(g == k)=false:=beq_eq_false_iff_ne.mpr h;simp only[List.lookup,hb,aC (λe:g=f=>h (e.trans hk.symm))]
  rw[aC hk];by_cases h:g=k
  ·have hb:(g == k)=true:=beq_iff_eq.mpr h;simp only[List.lookup,hb,aC (λe:g=f=>hk (h.symm.trans e))]
  have hb:(g == k)=false:=beq_eq_false_iff_ne.mpr h;simp only[List.lookup,hb];exact ih
theorem N8(f:Str)(v:V):∀fs:List (Str × V),f∈(aB f v fs).map (·.1)/\∀g,g∈fs.map (·.1)->g∈(aB f v fs).map (·.1)
 |[]=>#[by simp[aB],λg h=>by simp at h]
 |(k,x)::r=>by
  let#[i1,i2]:=N8 f v r;rw[show aB f v ((k,x)::r)=(if k=f then (k,v)::r else (k,x)::aB f v r) from U];by_cases hk:k=f
  ·rw[aI hk];subst hk;exact#[by simp,λg h=>by simpa using h]
  rw[aC hk];apply#[?_,λg h=>?_]
  ·rw[eI];exact fX _ i1
  rw[eI] at h ⊢;rcases bY.mp h with e|e
  ·exact bY.mpr (.inl e)
  exact fX _ (i2 g e)
theorem TL(f:Str)(v:V):∀fs:List (Str × V),(aB f v fs).length<=fs.length+1
 |[]=>by simp[aB]
 |(k,x)::r=>by
  let ih:=TL f v r;rw[show aB f v ((k,x)::r)=(if k=f then (k,v)::r else (k,x)::aB f v r) from U];by_cases hk:k=f
  ·rw[aI hk,iR,iR];omega
  rw[aC hk,iR,iR];omega
variable{v:V}{o:Option Aa}
theorem eG.some_of(r:eG (some v) o):∃u,o\u/\RelV v u:=by
 cases o with
 |none=>exact (show False from r).elim
 |some u=>exact#[u,U,r]
theorem eG.none_of(r:eG none o):o=none:=by
 cases o with
 |none=>rfl
 |some u=>exact (show False from r).elim
theorem gH_(r:RelV v u):PySem.W.handedIn u=true:=by
 cases v with
 |non=>cases (show u=Value.none from r);rfl
 |bl b=>cases (show u=Value.bool b from r);rfl
 |int i=>let#[t,e]:=(show ∃t,u=Value.int i t from r);cases e;rfl
 |str x=>let#[t,e]:=(show ∃t,u=Value.str x t from r);cases e;rfl
 |byt b=>let#[t,e]:=(show ∃t,u=Value.bytes b t from r);cases e;rfl
 |flt b=>let#[t,e]:=(show ∃t,u=Value.float b t from r);cases e;rfl
 |ref a=>cases (show u=Value.ref a from r);rfl
 |ty n=>cases (show u=Value.type n from r);rfl
section
variable{P:Ad}{w:Af}{H H':Hp}{h h':Heap}{a C dx:Addr}{fs fs':List (Str × V)}
theorem HU(aA:fM P w H h)(e:H a\.ins C dx fs):∃mA,mP h a dx C mA/\(∀f,eG (fs.lookup f) (mA f))/\PySem.Within mA (fs.map (·.1))/\fs.length<=1000/\H dx\.own a:=by
 let#[d,z,ne,ob,mA,n,r,q]:=(show fi P w H h a (.ins C dx fs) from aA a _ e);exact#[mA,#[ob,n,ne],r,q,z,d]
end
structure mR (K:ai) (C:Addr):Prop where
 pg:PySem.W.plainGet K C Str.empty=true
 hd:PySem.W.hasDictIn K C=true
 po:PySem.W.plainOver K C=true
 sa:PySem.W.findIn K (.ref C) "__setattr__"\some (.builtin "object.__setattr__")
theorem mR.get{K:ai}{C:Addr}(c:mR K C)(f:Str):PySem.W.plainGet K C f=true:=c.pg
def ml(K:ai)(C:Addr)(f:Str):Prop:=PySem.W.findIn K (.ref C) f=some none
theorem ml.CA{K:ai}{C:Addr}{f:Str}(n:ml K C f):PySem.W.takerIn K C f\none:=by
 unfold PySem.W.takerIn;rw[show PySem.W.findIn K (.ref C) f\none from n];rfl
structure Con (K:ai) (C:Addr) (f:Str) (v:V) (u:Aa):Prop where
 at_:PySem.W.findIn K (.ref C) f\some u
 rel:RelV v u
 get:PySem.W.specialIn K u "__get__"\none
 cp:PySem.W.copiedNames.contains f=false
structure Meth (K:ai) (C:Addr) (m:Str) (f:Addr):Prop where
 at_:PySem.W.findIn K (.ref C) m\some (.ref f)
 fn:PySem.W.isFn K (.ref f)=true
 kp:PySem.W.keepIn K (.ref f)=true
section
variable{X:Cx}{pins:List (Addr × Obj)}{σ:St}{H:Hp}{s:Ab}{a C dx:Addr}{fs:List (Str × V)}{f:Str}{v:V}{A:Ag}{E:Aa->Ab->Prop}
theorem fR_{b:Bool}{Q:Aa->Ab->Prop}(I:Inv X pins σ H s)(e:H a\.ins C dx fs)(c:mR X.K C)(n:ml X.K C f)(l:fs.lookup f\v)
  (h:∀u s',Inv X pins σ H s'->RelV v u->Q u s'):wpAny (model X.prog X.w) A (getAttr (.ref a) f b) Q E s:=by
 let#[mA,O,r,_,_,_]:=HU I.aA e;let#[u,hu,ru]:=eG.some_of (v:=v) (o:=mA f) (by rw[<- l];exact r f);exact YO I.gJ O (c.get f) c.hd n hu (gH_ ru) (h u _ (I.tok _) ru)
theorem Ta{m:Str}{g:Addr}{Q:Aa × aj->Ab->Prop}(I:Inv X pins σ H s)(e:H a\.ins C dx fs)(c:mR X.K C)(k:Meth X.K C m g)(l:fs.lookup m=none)(h:Q (.ref g,[.ref a]) s):wpAny (model X.prog X.w) A (getMethod (.ref a) m pl) Q E s:=by
 let#[mA,O,r,_,_,_]:=HU I.aA e;have hn:mA m=none:=eG.none_of (by rw[<- l];exact r m);exact _a I.gJ O (c.get m) k.at_ k.fn hn h
theorem ft_{y:V}{Q:Unit->Ab->Prop}(I:Inv X pins σ H s)(e:H a\.ins C dx fs)(c:mR X.K C)(n:ml X.K C f)(hl:fs.length<1000)(ry:RelV y u)(h:∀s',Inv X pins σ (upd H a (.ins C dx (aB f y fs))) s'->Q () s'):wpAny (model X.prog X.w) A (setAttr (.ref a) f u) Q E s:=by
 let#[mA,O,r,wi,_,ho]:=HU I.aA e;have hz:(fs.map (·.1)).length<=sizeLine:=by rw[aq,cq];omega
 apply YM I.gJ O c.sa c.po n.CA c.hd wi hz λh' O' sb=>h _ ?_;have hd:∃o,h'.get? dx\o:=let #[o,_,_,e',_]:=O'.ns;#[o,e'];apply I.write (x:=a) (e:=dx) (by rw[e];exact True.intro) (.inr ho) (λb q hb z=>(sb.2 b hb).trans z) hd ?_;apply#[by rw[aw O.ne];exact ho,?_,O.ne,O'.obj,_,O'.ns,λg=>?_,λg hg=>?_]
 ·have:=TL f y fs;omega
 ·show eG ((aB f y fs).lookup g) (if g=f then some u else mA g);rw[gy];by_cases q:g=f
  ·rw[aI q,aI q];exact ry
  rw[aC q,aC q];exact r g
 by_cases q:g=f
 ·rw[q];exact (N8 f y fs).1
 apply (N8 f y fs).2 g (wi g λz=>hg ?_);show (if g=f then some u else mA g)=none;rw[aC q];exact z
theorem Inv.made(I:Inv X pins σ H s):Inv X pins σ (upd (upd H s.heap.objs.size (.own (s.heap.objs.size+1))) (s.heap.objs.size+1) (.ins C s.heap.objs.size []))
  { s with heap:=(s.heap.push PySem.W.emptyDict).push (PySem.W.instObj C s.heap.objs.size) }:=by
 have e1:(s.heap.push PySem.W.emptyDict).get? s.heap.objs.size\PySem.W.emptyDict:=cJ s.heap U
 have e2:((s.heap.push PySem.W.emptyDict).push (PySem.W.instObj C s.heap.objs.size)).get? (s.heap.objs.size+1)\PySem.W.instObj C s.heap.objs.size:=by
  have:=cJ (s.heap.push PySem.W.emptyDict) (o:=PySem.W.instObj C s.heap.objs.size) U;rwa [mi] at this
 have e3:(s.heap.push PySem.W.emptyDict).Ns s.heap.objs.size (λ_=>none):=#[PySem.W.emptyDict,#[],_,e1,U,(λe he=>absurd he Y0),λ_=>rfl];let I1:=I.laid (a:=s.heap.objs.size) (o:=.own (s.heap.objs.size+1)) (h':=s.heap.push PySem.W.emptyDict) (t':=s.toks) (λb u q=>aQ _ q) (bh _) #[_,e1];apply I1.laid (a:=s.heap.objs.size+1) (o:=.ins C s.heap.objs.size []) (t':=s.toks) (λb u q=>aQ _ q) (Nat.le_of_eq (mi _ _)) ?_;have ne:s.heap.objs.size≠s.heap.objs.size+1:=dD (Nat.lt_succ_self _);apply#[by rw[aw ne,az],gO _,ne,e2,λ_=>none,(Heap.Ns1.of_empty e3).at λo q=>aQ _ q,λ_=>True.intro,λy hy=>absurd U hy]
theorem Yz{prog:Ad}{env:Env}{e:Expr}{f:Str}{s:Ab}{Q:Aa->Ab->Prop}(hb:attributeBase e f env (eval e env)=eval e env)(h:wpAny (model prog w) A (eval e env) (λo aJ=>wpAny (model prog w) A (getAttr o f true) Q E aJ) E s):wpAny (model prog w) A (eval (.Attribute e f pos) env) Q E s:=
 Attribute_any_ h (by rw[arm_eval_Attribute,hb])
end
inductive wW (K:ai) (f:Str) (Q:VK) (x:V) (H1:Hp):Prop
 |mk:∀a C dx fs v,x=.ref a->H1 a\.ins C dx fs->mR K C->ml K C f->fs.lookup f\v->Q v H1->wW K f Q x H1
def CK(K:ai)(ta:TE)(f:Str):TE:=λσ H Q=>ta σ H λx H1=>wW K f Q x H1
inductive xb (K:ai) (f:Str) (D:Ends) (σ:St) (y:V) (x:V) (H2:Hp):Prop
 |mk:∀a C dx fs,x=.ref a->H2 a\.ins C dx fs->mR K C->ml K C f->fs.length<1000->D.nx σ (upd H2 a (.ins C dx (aB f y fs)))->xb K f D σ y x H2
def J1(K:ai)(ta tv:TE)(f:Str):TS:=λD σ H=>tv σ H λy H1=>ta σ H1 λx H2=>xb K f D σ y x H2
section
variable{X:Cx}{o e value:Expr}{f:Str}{pos pos' JC:Pos}{ta tv:TE}
theorem gG(he:PE X e ta)(hb:attributeBase e f X.env (eval e X.env)=eval e X.env):PE X (.Attribute e f pos) (CK X.K ta f):=by
 intro pins s σ H Q I h;apply Yz hb (aN (he pins s σ H _ I h) λu s1 ⟨x,H1,I1,rx,a,C,dx,fs,v,ex,ea,c,n,l,q⟩=>?_);subst ex;obtain rfl:u=Value.ref a:=rx;exact fR_ I1 ea c n l λu' s2 I2 ru=>#[v,H1,I2,ru,q]
theorem uS(ha:PE X o ta)(hv:PE X value tv)(hs:swapsWith value (some (.Attribute o f pos')) pos.line X.env=pure false):PS X (.Assign [.Attribute o f pos'] value pos) (J1 X.K ta tv f):=by
 intro pins s σ H D I h;apply plainObj_wpAny_Assign_Attribute (aN (hv pins s σ H _ I h) λu s1 ⟨y,H1,I1,ry,q⟩=>aN (ha pins s1 σ H1 _ I1 q) λov s2 ⟨x,H2,I2,rx,a,C,dx,fs,ex,ea,c,n,l,q2⟩=>?_) hs;subst ex;obtain rfl:ov=Value.ref a:=rx;exact ft_ I2 ea c n l ry λs3 I3=>#[σ,_,I3,q2]
end
section
variable{X:Cx}{pins:List (Addr × Obj)}{σ:St}{H:Hp}{s:Ab}{A:Ag}{E:Aa->Ab->Prop}{Q:Aa->Ab->Prop}{c:Aa}{b:Bool}
inductive fH (K:ai) (H:Hp):V->Aa->Prop where
 |non:fH K H .non (.type "NoneType")
 |bl (x:Bool):fH K H (.bl x) (.type "bool")
 |int (i:Int):fH K H (.int i) (.type "int")
 |str (x:Str):fH K H (.str x) (.type "str")
 |flt (x:UInt64):fH K H (.flt x) (.type "float")
 |lst {a:Addr} {xs:af} (e:H a\.lst xs):fH K H (.ref a) (.type "list")
 |frz {a:Addr} {o:Obj} {xs:af} (e:H a\.frz o (.lst xs)):fH K H (.ref a) (.type "list")
 |tup {a:Addr} {xs:af} (e:H a\.tup xs):fH K H (.ref a) (.type "tuple")
 |dK {a:Addr} {kvs:List (Key × V)} (e:H a\.dK kvs):fH K H (.ref a) (.type "dict")
 |dT {a:Addr} {kvs:List (ax × V)} (e:H a\.dT kvs):fH K H (.ref a) (.type "dict")
 |ins {a C dx:Addr} {fs:List (Str × V)} (e:H a\.ins C dx fs) (cl:mR K C) (ha:PySem.W.findIn K (.ref C) "__class__"\some (.builtin "object.__class__"))
   (hn:PySem.W.specialIn K (.builtin "object.__class__") "__get__"\some (.builtin "getset_descriptor.__get__")) (Bx:PySem.W.takesIn K (.builtin "object.__class__")\true)
   (hm:PySem.W.mroIn K C (.type "object")\true):fH K H (.ref a) (.ref C)
theorem SH{x:V}{t:Aa}(I:Inv X pins σ H s)(rx:RelV x u)(ty:fH X.K H x t)(e:PySem.W.kitOne X.K t c\b)(h:∀tk,Q (.bool b) { s with toks:=tk }) :
  wpAny (model X.prog X.w) A (call (.builtin "isinstance") [u,c]) Q E s:=by
 cases ty with
 |non=>cases (show u=Value.none from rx);exact tJ PySem.W.kitx_none I.gJ True.intro e nofun h
 |bl y=>cases (show u=Value.bool y from rx);exact tJ PySem.W.kitx_bool I.gJ True.intro e nofun h
 |int i=>let#[t,q]:=(show ∃t,u=Value.int i t from rx);cases q;exact tJ PySem.W.kitx_int I.gJ True.intro e nofun h
 |str y=>let#[t,q]:=(show ∃t,u=Value.str y t from rx);cases q;exact tJ PySem.W.kitx_str I.gJ True.intro e nofun h
 |flt y=>let#[t,q]:=(show ∃t,u=Value.float y t from rx);cases q;exact tJ PySem.W.kitx_float I.gJ True.intro e nofun h
 |@lst a xs ea=>
  cases (show u=Value.ref a from rx);let#[_,_,n,_,h1]:=(show fi X.prog X.w H s.heap a (.lst xs) from I.aA a _ ea);exact tJ PySem.W.kitx_list I.gJ #[_,h1,U] e nofun h
 |@frz a ob xs ea=>
  cases (show u=Value.ref a from rx);let#[_,_,_,n,_,h1]:=(show fi X.prog X.w H s.heap a (.frz ob (.lst xs)) from I.aA a _ ea);exact tJ PySem.W.kitx_list I.gJ #[_,h1,U] e nofun h
 |@tup a xs ea=>
  cases (show u=Value.ref a from rx);let#[_,_,_,p,_]:=(show fi X.prog X.w H s.heap a (.tup xs) from I.aA a _ ea);let#[o,h1,h2,_]:=p;exact tJ PySem.W.kitx_tuple I.gJ #[o,h1,h2] e nofun h
 |@dK a kvs ea=>
  cases (show u=Value.ref a from rx);let#[_,_,vs,_,p]:=(show fi X.prog X.w H s.heap a (.dK kvs) from I.aA a _ ea);let#[o,es,ep,h1,h2,_]:=p;exact tJ PySem.W.kitx_dict I.gJ #[o,h1,h2.1] e nofun h
 |@dT a kvs ea=>
  cases (show u=Value.ref a from rx);let#[_,_,xs,_,o,es,ep,h1,h2,_]:=(show fi X.prog X.w H s.heap a (.dT kvs) from I.aA a _ ea);exact tJ PySem.W.kitx_dict I.gJ #[o,h1,h2.1] e nofun h
 |@ins a C dx fs ea cl ha hn Bx hm=>
  cases (show u=Value.ref a from rx);let#[mA,O,_]:=HU I.aA ea;let#[od,J,_]:=O.look;exact tJ (PySem.W.kitx_own (cl.get _) cl.hd ha hn Bx hm) I.gJ J e nofun h
end
structure aO (k:Nat) (A:Ag):Prop where
 hd:A.handled=none
 dp:A.depth+3 * k+5<recursionLimit
 un:A.units+16 * k+200<cLine
theorem aO.mono{j:Nat}{A:Ag}(r:aO k A)(h:j<=k):aO j A:=#[r.hd,by have:=r.dp;omega,by have:=r.un;omega]
theorem aO.deeper{A:Ag}(r:aO (k+1) A)(env:Env):aO k (A.deeper env):=
 #[r.hd,by have:=r.dp;show A.depth+1+3 * k+5<_;omega,by have:=r.un;show A.units+3+16 * k+200<_;omega]
theorem aO.in1{A:Ag}(r:aO (k+1) A):aO k A.in1:=
 #[r.hd,by have:=r.dp;show A.depth+3 * k+5<_;omega,by have:=r.un;show A.units+1+16 * k+200<_;omega]
theorem fS_{A:Ag}{C:Addr}{us:aj}:(A.under (.builtin "type.__call__" #[.ref C::us,kw])).depth=A.depth+1:=by
 first|rfl|simp[Around.under,Code.weight,Code.isCreation,Code.isGuard,Code.isCaller,Code.frames,Code.isFrame,guardIds]
theorem fI_{A:Ag}{C:Addr}{us:aj}:(A.under (.builtin "type.__call__" #[.ref C::us,kw])).units=A.units+1:=by
 first|rfl|simp[Around.under,Code.cUnits,Code.frames,Code.isFrame]
theorem aO.make{A:Ag}(r:aO (k+1) A)(C:Addr)(us:aj)(kw:List (Str × Aa)):aO k (A.under (.builtin "type.__call__" #[.ref C::us,kw])):=
 #[r.hd,by have:=r.dp;rw[fS_];omega,by have:=r.un;rw[fI_];omega]
theorem aO.depth{A:Ag}(r:aO k A):A.depth<recursionLimit:=by have:=r.dp;omega
theorem aO.units{A:Ag}(r:aO k A):A.units+64<cLine:=by have:=r.un;omega
def oJ:TA:=λ_ H Q=>Q [] H
def ju(ta:TE)(tr:TA):TA:=λσ H Q=>ta σ H λx H1=>tr σ H1 λxs H2=>Q (x::xs) H2
section
variable{X:Cx}{e:Expr}{es:List Expr}{te:TE}{t:TA}{pos:Pos}
theorem bK:PA X [] oJ:=λ_ _ _ _ H Q I h=>Calls.spliced_nil #[[],H,I,.nil,h]
theorem eV(ha:PE X e te)(hr:PA X es t)(hs:starEach (e::es) X.env=(false,eval e X.env)::starEach es X.env:=by rfl):PA X (e::es) (ju te t):=by
 intro pos pins s σ H Q I h;rw[hs];show wpAny _ _ (spliced ((false,eval e X.env)::backTo pos (starEach es X.env))) _ _ s;apply Calls.spliced_cons (aN (ha pins s σ H _ I h) λu s1 ⟨x,H1,I1,r1,q1⟩=>?_);exact aN (hr pos pins s1 σ H1 _ I1 q1) λus s2 ⟨xs,H2,I2,r2,q2⟩=>#[x::xs,H2,I2,.cons r1 r2,q2]
def CD(t:TA):TE:=λσ H Q=>t σ H λxs H1=>xs.length<=sizeLine/\∀p,H1 p=none->Q (.ref p) (upd H1 p (.tup xs))
def JL(t:TA):TE:=λσ H Q=>t σ H λxs H1=>xs.length<=sizeLine/\∀p,H1 p=none->Q (.ref p) (upd H1 p (.lst xs))
theorem gh{x1}(h:PA X es t):PE X (.Tuple es x1 pos) (CD t):=by
 intro pins s σ H Q I hq;apply wpAny_Tuple_spliced (aN (h pos pins s σ H _ I hq) λus s1 ⟨xs,H1,I1,r,z,q⟩=>#[by rw[<- r.length];exact z,?_]);have hf:H1 s1.heap.objs.size=none:=I1.aA.fresh (bh _);apply#[.ref s1.heap.objs.size,upd H1 s1.heap.objs.size (.tup xs),I1.laid (t':=s1.toks) (λb u e=>aQ _ e) (bh _) ?_,U,q _ hf];exact#[z,us,r,#[_,cJ _ U,U,_,U],_,cJ _ U,U]
theorem ft(h:PA X es t):PE X (.List es pos) (JL t):=by
 intro pins s σ H Q I hq;apply wpAny_List_spliced (aN (h pos pins s σ H _ I hq) λus s1 ⟨xs,H1,I1,r,z,q⟩=>#[by rw[<- r.length];exact z,?_]);have hf:H1 s1.heap.objs.size=none:=I1.aA.fresh (bh _);apply#[.ref s1.heap.objs.size,upd H1 s1.heap.objs.size (.lst xs),I1.laid (t':=s1.toks) (λb u e=>aQ _ e) (bh _) ?_,U,q _ hf];exact#[z,us,0,r,cJ _ U]
end
abbrev Sp:=af->Hp->VK->XK->Prop
abbrev u6:=List Env->Hp->Ab->XK->Aa->Ab->Prop
structure iT (P:Ad) (w:Af) (K:ai) (mg:Str->Option Aa) (base:Heap) (A:Ag) (outer:List Env) (s:Ab) (H:Hp):Prop where
 frames:A.frames\outer
 mod:Mod K mg base
 bs:∀b o,base.get? b\o->s.heap.get? b\o/\H b=none
 tS:base.objs.size<=s.heap.objs.size
 fU:s.heap.FunFrames base outer
 vX:∀b∈o7 outer,H b=none
 aA:fM P w H s.heap
 bare:AllBare s.gens
def CE(outer:List Env)(P:Ad)(w:Af)(H:Hp)(s:Ab)(Q:VK)(u:Aa)(s':Ab):Prop:=
 ∃v H',s'.os=s.os/\AllBare s'.gens/\Un (o7 outer) [] H H' s.heap s'.heap/\fM P w H' s'.heap/\RelV v u/\Q v H'
def CR(CX:u6)(outer:List Env)(P:Ad)(w:Af)(H:Hp)(s:Ab)(Q:VK)(E:XK)(r:Result)(s':Ab):Prop:=
 match r with
 |.ok (.ret u)=>CE outer P w H s Q u s'
 |.ok _=>False
 |.error e=>CX outer H s E e s'
structure ao (P:Ad) (w:Af) (K:ai) (mg:Str->Option Aa) (base:Heap) (CX:u6) (k:Nat) (f:Addr) (fd:Ae) (ps:ag) (sp:Sp):Prop where
 len:∀vs H Q E,sp vs H Q E->vs.length=ps.length
 run:∀(A:Ag) (outer:List Env) (s:Ab) (H:Hp) (args:Args) (us:aj) (vs:af) (Q:VK) (E:XK),aO k A->iT P w K mg base A outer s H->BindsTo s fd args (ps.zip us)->Vals vs us->sp vs H Q E->
  codeAny (model P w) A (.call (.ref f) args) (CR CX outer P w H s Q E) s
variable{K:ai}{f:Addr}{mg:Str->Option Aa}{base:Heap}{CX:u6}{fd:Ae}{ps:ag}
theorem ao.imp{sp Bp:Sp}(F:ao P w K mg base CX k f fd ps sp)(h:∀vs H Q E,Bp vs H Q E->sp vs H Q E):ao P w K mg base CX k f fd ps Bp:=
 #[λvs H Q E q=>F.len vs H Q E (h _ _ _ _ q),λA outer s H args us vs Q E hr he hb hv hs=>F.run A outer s H args us vs Q E hr he hb hv (h _ _ _ _ hs)]
variable{H:Hp}{A:Ag}{outer:List Env}
theorem iT.make{s:Ab}(e:iT P w K mg base A outer s H)(C:Addr)(us:aj)(kw:List (Str × Aa)) :
  iT P w K mg base (A.under (.builtin "type.__call__" #[.ref C::us,kw])) outer s H:=#[by first|exact e.frames|(simpa [Around.under,Code.envs,Code.isFrame,pushEnvs] using e.frames),e.mod,e.bs,e.tS,e.fU,e.vX,e.aA,e.bare]
section
variable{X:Cx}{pins:List (Addr × Obj)}{σ:St}{H:Hp}{s s':Ab}
theorem Inv.Az(I:Inv X pins σ H s):iT X.prog X.w X.K X.mg X.base X.A X.stack s H:=
 #[I.ok.frames,I.ok.mod,I.bs,iQ I.ok.tS I.sz,I.stack,I.m_,I.aA,I.bare]
theorem Inv.after{Q:VK}(I:Inv X pins σ H s)(h:CE X.stack X.prog X.w H s Q u s'):EP X pins σ Q u s':=by
 let#[v,H',os,bare,un,aA,r,q]:=h;let#[hh,g,d,t,WB]:=s';obtain rfl:WB=s.os:=os;exact#[v,H',I.call (h':=hh) (g':=g) (d':=d) (t':=t) (ch:=[]) un aA bare (λb z=>absurd z Y0),r,q]
end
def wZ(sp:Sp)(gT:af)(E:XK)(t:TA):TE:=λσ H Q=>t σ H λvs H1=>sp (vs++gT) H1 Q E
inductive qB (C:Addr) (m:Str) (sp:Sp) (gT:af) (E:XK) (t:TA) (σ:St) (Q:VK) (x:V) (H1:Hp):Prop
 |mk:∀a dx fs,x=.ref a->H1 a\.ins C dx fs->fs.lookup m=none->(t σ H1 λvs H2=>sp (x::(vs++gT)) H2 Q E)->qB C m sp gT E t σ Q x H1
def mX(C:Addr)(m:Str)(sp:Sp)(gT:af)(E:XK)(ta:TE)(t:TA):TE:=λσ H Q=>ta σ H λx H1=>qB C m sp gT E t σ Q x H1
def wU(C:Addr)(sp:Sp)(gT:af)(E:XK)(t:TA):TE:=λσ H Q=>t σ H λvs H1=>∀x dx,H1 x=none->H1 dx=none->dx≠x->
 sp (.ref x::(vs++gT)) (upd (upd H1 dx (.own x)) x (.ins C dx [])) (λv H2=>v=.non/\Q (.ref x) H2) E
def p7(K:ai)(fd:Ae)(ps:ag)(ds:aj):Prop:=
 ∀(s:Ab) (us:aj),K.In s.heap->(us++ds).length=ps.length->BindsTo s fd #[us,[]] (ps.zip (us++ds))
theorem p7.all(h:∀us:aj,us.length=ps.length->bindArgs fd #[us,[]]=pure (ps.zip us)):p7 K fd ps []:=λs us _ hl=>by
 rw[wI] at hl ⊢;exact .of_eq (h us hl)
def wB(CX:u6)(X:Cx)(E:XK):Prop:=∀(pins:List (Addr × Obj)) (σ:St) (H:Hp) (s:Ab) (e:Aa) (s':Ab),Inv X pins σ H s->CX X.stack H s E e s'->X.xe e s'
variable{E:XK}{Q:VK}{gT vs:af}{sp:Sp}{ds:aj}
theorem LZ{s:Ab}{us:aj}(F:ao X.prog X.w X.K X.mg X.base CX k f fd ps sp)(hr:aO k X.A)(hb:p7 X.K fd ps ds)(hd:Vals gT ds)(hx:wB CX X E)(I:Inv X pins σ H s)(r:Vals vs us)(h:sp (vs++gT) H Q E):wpAny (model X.prog X.w) X.A (call (.ref f) us) (EP X pins σ Q) X.xe s:=by
 have r2:Vals (vs++gT) (us++ds):=r.append hd;have hl:(us++ds).length=ps.length:=by rw[<- r2.length];exact F.len _ _ _ _ h
 apply wpAny_call (codeAny_mono (F.run X.A X.stack s H #[us,[]] (us++ds) (vs++gT) Q E hr I.Az (hb s us I.gJ hl) r2 h) λr s' hq=>?_);cases r with
 |error e=>exact hx pins σ H s e s' I hq
 |ok fl=>
  cases fl with
  |ret u=>exact I.after hq
  |next=>exact False.elim hq
  |brk=>exact False.elim hq
  |cont=>exact False.elim hq
variable{x:Str}{t:TA}{e:Expr}
theorem ZW(F:ao X.prog X.w X.K X.mg X.base CX k f fd ps sp)(hr:aO k X.A)(hg:Gl X x)(hm:X.mg x\.ref f)(hk:PySem.W.keepIn X.K (.ref f)=true)(hb:p7 X.K fd ps ds)(hd:Vals gT ds)(hx:wB CX X E)
  (ha:PA X (e::es) t) (sU:(x == ("__debug__":Str))=false:=by decide) (he:starEach (e::es) X.env=(false,eval e X.env)::starEach es X.env:=by rfl) (iE:(backTo pos (starEach es X.env)).any (·.1)=false:=by rfl) :
  PE X (.Call (.Name x p) (e::es) [] pos) (wZ sp gT E t):=by
 intro pins s σ H Q I h;apply wpAny_Call_Name_kw (ME I hg hm ?_ sU);apply PySem.W.callWith_K (h₀:=X.base) I.ok.mod.DO hk (aN (ha pos pins s σ H _ I h) λus s1 ⟨vs,H1,I1,r,q⟩=>#[I1.gJ,?_]) he iE;exact LZ F hr hb hd hx I1 r q
variable{o:Expr}{ta:TE}{C:Addr}{m:Str}{apos:Pos}
theorem Yk(he:PE X o ta)(c:mR X.K C)(hm:Meth X.K C m f)(F:ao X.prog X.w X.K X.mg X.base CX k f fd ps sp)(hr:aO k X.A)(hb:p7 X.K fd ps ds)(hd:Vals gT ds)(hx:wB CX X E)(ha:PA X (e::es) t)(zL:starEach (e::es) X.env=(false,eval e X.env)::starEach es X.env:=by rfl)(iE:(backTo pos (starEach es X.env)).any (·.1)=false:=by rfl)(ht:eval (.Call (.Attribute o m apos) (e::es) [] pos) X.env=(do
   let ov <- eval o X.env
   standAt apos.atName
   let (f,first) <- holding [ov] (getMethod ov m pl)
   callWith pos f first (backTo pos (starEach (e::es) X.env)) (backToKw pos (keywordEach [] X.env))):=by rfl) :
  PE X (.Call (.Attribute o m apos) (e::es) [] pos) (mX C m sp gT E ta t):=by
 intro pins s σ H Q I h;apply PySem.W.methodCall_KW (pl:=pl) (aN (he pins s σ H _ I h) λu s1 ⟨x,H1,I1,rx,a,dx,fs,ex,ea,l,q⟩=>?_) ht;subst ex;obtain rfl:u=Value.ref a:=rx;apply Ta I1 ea c hm l ?_;apply PySem.W.callWith_K (first:=[.ref a]) (h₀:=X.base) I.ok.mod.DO hm.kp (aN (ha pos pins s1 σ H1 _ I1 q) λus s2 ⟨vs,H2,I2,r,q2⟩=>#[I2.gJ,?_]) zL iE;exact LZ (us:=.ref a::us) (vs:=.ref a::vs) F hr hb hd hx I2 (.cons U r) q2
theorem Zi(he:PE X o ta)(c:mR X.K C)(hm:Meth X.K C m f)(F:ao X.prog X.w X.K X.mg X.base CX k f fd ps sp)(hr:aO k X.A)(hb:p7 X.K fd ps ds)(hd:Vals gT ds)(hx:wB CX X E)(ht:eval (.Call (.Attribute o m apos) [] [] pos) X.env=(do
   let ov <- eval o X.env
   standAt apos.atName
   let (f,first) <- holding [ov] (getMethod ov m pl)
   callWith pos f first (backTo pos (starEach [] X.env)) (backToKw pos (keywordEach [] X.env))):=by rfl) :
  PE X (.Call (.Attribute o m apos) [] [] pos) (mX C m sp gT E ta oJ):=by
 intro pins s σ H Q I h;apply PySem.W.methodCall_KW (pl:=pl) (aN (he pins s σ H _ I h) λu s1 ⟨x,H1,I1,rx,a,dx,fs,ex,ea,l,q⟩=>?_) ht;subst ex;obtain rfl:u=Value.ref a:=rx;apply Ta I1 ea c hm l ?_;exact PySem.W.callWith_K0 (first:=[.ref a]) I1.gJ hm.kp (LZ (us:=[.ref a]) (vs:=[.ref a]) F hr hb hd hx I1 (.cons U .nil) q)
structure Mk (K:ai) (C f:Addr):Prop where
 makes:PySem.W.makesIn K C=true
 init:PySem.W.findIn K (.ref C) "__init__"\some (.ref f)
 fn:PySem.W.isFn K (.ref f)=true
 kp:PySem.W.keepIn K (.ref C)=true
theorem Zs{s:Ab}{us:aj}(M:Mk X.K C f)(F:ao X.prog X.w X.K X.mg X.base CX k f fd ps sp)(hr:aO (k+1) X.A)(hb:p7 X.K fd ps ds)(hd:Vals gT ds)(hx:wB CX X E)(I:Inv X pins σ H s)(r:Vals vs us)(h:∀x dx,H x=none->H dx=none->dx≠x->sp (.ref x::(vs++gT)) (upd (upd H dx (.own x)) x (.ins C dx [])) (λv H2=>v=.non/\Q (.ref x) H2) E) :
  wpAny (model X.prog X.w) X.A (call (.ref C) us) (EP X pins σ Q) X.xe s:=by
 let hq:=h (s.heap.objs.size+1) s.heap.objs.size (I.aA.fresh (Nat.le_succ _)) (I.aA.fresh (bh _)) (dD (Nat.lt_succ_self _));let I2:=Inv.made (C:=C) I;have r2:Vals (V.ref (s.heap.objs.size+1)::(vs++gT)) (Value.ref (s.heap.objs.size+1)::(us++ds)):=.cons U (r.append hd)
 have hl:(Value.ref (s.heap.objs.size+1)::us++ds).length=ps.length:=by
  let e:=r2.length;rw[F.len _ _ _ _ hq] at e;exact e.symm
 apply wpAny_call (hF_ (f:=f) I.gJ M.makes M.init (beq_iff_eq.mp M.fn) (codeAny_mono (F.run _ X.stack _ _ #[Value.ref (s.heap.objs.size+1)::us,[]] (Value.ref (s.heap.objs.size+1)::(us++ds)) _ _ E (hr.make C us [])
  (I2.Az.make C us []) (hb _ (Value.ref (s.heap.objs.size+1)::us) I2.gJ hl) r2 hq) λr s' hq'=>?_))
 cases r with
 |error e=>exact hx pins σ _ _ e s' I2 hq'
 |ok fl=>
  cases fl with
  |ret u=>
   let#[v,H',I3,rv,ev,q3]:=I2.after hq';subst ev;exact#[rv,#[V.ref (s.heap.objs.size+1),H',I3,U,q3]]
  |next=>exact False.elim hq'
  |brk=>exact False.elim hq'
  |cont=>exact False.elim hq'
theorem YU(M:Mk X.K C f)(F:ao X.prog X.w X.K X.mg X.base CX k f fd ps sp)(hr:aO (k+1) X.A)(hg:Gl X x)(hm:X.mg x\.ref C)(hb:p7 X.K fd ps ds)(hd:Vals gT ds)(hx:wB CX X E)
  (ha:PA X (e::es) t) (sU:(x == ("__debug__":Str))=false:=by decide) (he:starEach (e::es) X.env=(false,eval e X.env)::starEach es X.env:=by rfl) (iE:(backTo pos (starEach es X.env)).any (·.1)=false:=by rfl) :
  PE X (.Call (.Name x p) (e::es) [] pos) (wU C sp gT E t):=by
 intro pins s σ H Q I h;apply wpAny_Call_Name_kw (ME I hg hm ?_ sU);apply PySem.W.callWith_K (h₀:=X.base) I.ok.mod.DO M.kp (aN (ha pos pins s σ H _ I h) λus s1 ⟨vs,H1,I1,r,q⟩=>#[I1.gJ,?_]) he iE;exact Zs M F hr hb hd hx I1 r q
def PK(X:Cx)(Bw:List Keyword)(t:TA):Prop:=
 ∀(pos:Pos) (pins:List (Addr × Obj)) (s:Ab) (σ:St) (H:Hp) (Q:af->Hp->Prop),Inv X pins σ H s->t σ H Q->wpAny (model X.prog X.w) X.A (evalAll ((backToKw pos (keywordEach Bw X.env)).map (·.2))) (AP X pins σ Q) X.xe s
theorem Yc:PK X [] oJ:=λ_ _ _ _ H Q I h=>wpAny_evalAll_nil #[[],H,I,.nil,h]
variable{KJ:Pos}{Bw:List Keyword}{nm:Option Str}
theorem YL(ha:PE X e te)(hr:PK X Bw t):PK X (#[nm,e,KJ]::Bw) (ju te t):=by
 intro pos pins s σ H Q I h;show wpAny _ _ (evalAll ((do let v <- eval e X.env;standAt pos;pure v)::(backToKw pos (keywordEach Bw X.env)).map (·.2))) _ _ s;apply wpAny_evalAll_cons (ae (aN (ha pins s σ H _ I h) λu s1 ⟨x,H1,I1,r1,q1⟩=>ae (wpAny_standAt (aE ?_))));exact aN (hr pos pins s1 σ H1 _ I1 q1) λus s2 ⟨xs,H2,I2,r2,q2⟩=>#[x::xs,H2,I2,.cons r1 r2,q2]
structure OR (K:ai) (fd:Ae) (ps ks:ag) (g:aj->aj->aj) (gV:af->af->af):Prop where
 to:∀(s:Ab) (us ws:aj),K.In s.heap->(g us ws).length=ps.length->BindsTo s fd #[us,ks.zip ws] (ps.zip (g us ws))
 rel:∀{vs:af} {us:aj} {zs:af} {ws:aj},Vals vs us->Vals zs ws->Vals (gV vs zs) (g us ws)
structure bJ (N P:ag) (sc:Scope):Prop where
 kind:sc.kind=.function
 co:sc.isCoroutine=false
 gen:sc.isGenerator=false
 nd:N.Nodup
 pre:N.take P.length=P
 par:∀x∈P,sc.names.lookup x\.local∨sc.names.lookup x\.cell
 zq:∀y∈sc.names,y.2≠.free
theorem Su{kindOf:Str->Option NameKind}{x:Str}:∀{binds:List (Str × Aa)} {m:Str->Option Aa},(∀v,(x,v)∉binds)->bindL kindOf binds m x=m x
 |[],_,_=>rfl
 |(n,v)::r,m,h=>by
  unfold bindL;rw[Su λw hw=>h w (fX _ hw)];split
  ·have:x≠n:=by rintro rfl;exact h v gF
   simp[this]
  rfl
theorem Tj{kindOf:Str->Option NameKind}{x:Str}:∀{binds:List (Str × Aa)} {m:Str->Option Aa},(∀v,(x,v)∉binds)->bindC kindOf binds m x=m x
 |[],_,_=>rfl
 |(n,v)::r,m,h=>by
  unfold bindC;rw[Tj λw hw=>h w (fX _ hw)];split
  ·rfl
  have:x≠n:=by rintro rfl;exact h v gF
  simp[this]
theorem S0{kindOf:Str->Option NameKind}{x:Str}{v:Aa}:∀{P:ag} {vs:aj} {i:Nat} {m:Str->Option Aa},P.Nodup->P[i]? = some x->vs[i]? = some v->kindOf x\.local->
  bindL kindOf (P.zip vs) m x\v
 |[],_,_,_,_,h,_,_=>by simp at h
 |_::_,[],_,_,_,_,h,_=>by simp at h
 |p::P,w::vs,0,m,nd,h1,h2,hk=>by
  simp at h1 h2;subst h1;subst h2;show bindL kindOf ((p,w)::P.zip vs) m p=_;unfold bindL;rw[Su λv hv=>(iZ.mp nd).1 (List.of_mem_zip hv).1,aI hk];simp
 |p::P,w::vs,i+1,m,nd,h1,h2,hk=>by
  show bindL kindOf ((p,w)::P.zip vs) m x=_;unfold bindL;exact S0 (i:=i) (iZ.mp nd).2 ⇑h1 ⇑h2 hk
theorem S1{kindOf:Str->Option NameKind}{x:Str}{v:Aa}:∀{P:ag} {vs:aj} {i:Nat} {m:Str->Option Aa},P.Nodup->P[i]? = some x->vs[i]? = some v->kindOf x≠some .local->
  bindC kindOf (P.zip vs) m x\v
 |[],_,_,_,_,h,_,_=>by simp at h
 |_::_,[],_,_,_,_,h,_=>by simp at h
 |p::P,w::vs,0,m,nd,h1,h2,hk=>by
  simp at h1 h2;subst h1;subst h2;show bindC kindOf ((p,w)::P.zip vs) m p=_;unfold bindC;rw[Tj λv hv=>(iZ.mp nd).1 (List.of_mem_zip hv).1,aC hk];simp
 |p::P,w::vs,i+1,m,nd,h1,h2,hk=>by
  show bindC kindOf ((p,w)::P.zip vs) m x=_;unfold bindC;exact S1 (i:=i) (iZ.mp nd).2 ⇑h1 ⇑h2 hk
def start(N:ag)(vs:af):St:=vs.map some++List.replicate (N.length - vs.length) none
def i9(CX:u6)(P:Ad)(w:Af)(K:ai)(mg:Str->Option Aa)(base:Heap)(N:ag)(qual:Str)(scope:Scope)(f:Addr)(cd:Aa)(A:Ag)(outer:List Env)(s:Ab)(H:Hp)(E:XK):Cx where
 prog:=P
 w:=w
 K:=K
 mg:=mg
 base:=base
 A:=A.deeper (envOfC qual scope s.heap.objs.size f cd)
 N:=N
 df:=s
 j7:=H
 env:=envOfC qual scope s.heap.objs.size f cd
 outer:=outer
 stack:=envOfC qual scope s.heap.objs.size f cd::outer
 ex:=[]
 calm:=true
 fn:=λ_=>true
 pn:=[]
 xe:=λe s'=>wpAny (model P w) (A.deeper (envOfC qual scope s.heap.objs.size f cd)) (leaving (envOfC qual scope s.heap.objs.size f cd) e) (λ_ pK=>CX outer H s E e pK) (λe' pK=>CX outer H s E e' pK) s'
theorem SV{sc:Scope}(h:sc.names.lookup x\.cell):∃c,(cellsFrom n sc.names []).lookup x\c:=by
 let q:=PySem.W.cellsFrom_some sc.names n [] (.inl h);exact Option.isSome_iff_exists.mp q
variable{N:ag}{qual:Str}{scope:Scope}
theorem gf_{cd:Aa}{s s1:Ab}{us:aj}(S:bJ N ps scope)(hd:A.handled=none)(e0:iT P w K mg base A outer s H)(hl:vs.length=ps.length)(r:Vals vs us)(x:InCallC s s.heap.objs.size (bindL (envOfC qual scope s.heap.objs.size f cd).kindOf (ps.zip us) λ_=>none) (cellsFrom (s.heap.objs.size+1) scope.names []) (bindC (envOfC qual scope s.heap.objs.size f cd).kindOf (ps.zip us) λ_=>none) s1) :
  Inv (i9 CX P w K mg base N qual scope f cd A outer s H E) [] (start N vs) H s1:=by
 have iE:ps.length<=N.length:=by have:=ed List.length S.pre;rw[dJ] at this;omega
 let#[h1,tk,rfl,hk]:=x.done;have vG:∀b:Addr,b∉(i9 CX P w K mg base N qual scope f cd A outer s H E).ex:=λb z=>absurd (show b∈([]:av) from z) Y0
 apply#[#[e0.mod,S.kind,U,U,bh _,λy z c h1 h2=>?_,λy hy=>?_,λy c _ h=>?_,λ_=>hd,Around.frames_deeper e0.frames,.inr #[U,U],λb z=>absurd z (vG b),e0.bs,e0.tS,λb _ _=>vG b,λb z=>absurd z (vG b),e0.fU,e0.vX],
  rfl,e0.bare,Un.kept hk,#[_,x.toInCall.ns,λi y v h1 h2 h3=>?_],λy c h=>#[_,x.cell y c h],e0.aA.fresh (bh _),λy c h=>?_,λp hp=>absurd (show p∈([]:List (Addr × Obj)) from hp) Y0,e0.aA.kept hk,?_]
 ·exact name_of_addr x.apart (qd h1) (qd h2)
 ·have hy:scope.names.lookup y\.cell∨scope.names.lookup y\.free:=hy;rcases hy with hy|hy
  ·exact SV hy
  exact absurd U (S.zq _ (qd hy))
 ·exact Nat.le_of_lt (x.above y c (qd h))
 ·have hi:i<vs.length:=by
   unfold start at h2;by_cases hi:i<vs.length
   ·exact hi
   rw[Ba ⇑hi] at h2;rw[List.getElem?_replicate] at h2;split at h2<;>cases h2
  have ha:vs[i]? = some v:=by
   unfold start at h2;rw[yg ⇑hi,dC] at h2;cases e:vs[i]? with
   |none=>rw[e] at h2;cases h2
   |some a=>rw[e] at h2;cases h2;rfl
  let#[u,hu,rv]:=r.get ha
  have hp:ps[i]? = some y:=by
   rw[<- S.pre,List.getElem?_take_of_lt Z2];exact h1
  have Gv:ps.Nodup:=by rw[<- S.pre];exact S.nd.sublist (List.take_sublist _ _)
  apply#[u,rv,?_];rcases S.par y (cZ hp) with k|k
  ·exact .inl #[k,S0 Gv hp hu k]
  let#[c,e]:=SV (n:=s.heap.objs.size+1) k;apply .inr #[.inl k,c,e,?_];let q:=x.cell y c e;rw[S1 Gv hp hu (by show scope.names.lookup y≠_;rw[k];decide)] at q;exact q
 ·exact e0.aA.fresh (Nat.le_of_lt (x.above y c (qd h)))
 unfold start;show _=N.length;rw[d4,aq,B_];omega
theorem Qf{name:Str}{params:Arguments}{dV kV doc pm aL ct oc:Aa}{an od:Option Addr}{kh:Array (Option Aa)}(lk:K.lookup f=some #[oc,od,.func (PySem.W.fnOf name qual params body scope dV kV doc pm an aL ct),kh])(iG:PySem.W.codeIn K aL qual=true)(S:bJ N ps scope)(len:∀vs H Q E,sp vs H Q E->vs.length=ps.length)(fP:∀(A:Ag) (outer:List Env) (s:Ab) (H:Hp) (vs:af) (Q:VK) (E:XK),aO k (A.deeper (envOfC qual scope s.heap.objs.size f aL))->sp vs H Q E->
   ∃t,jZ (i9 CX P w K mg base N qual scope f aL A outer s H E) body t/\t { nx:=λ_ H'=>Q .non H',rt:=Q } (start N vs) H) :
  ao P w K mg base CX (k+1) f (PySem.W.fnOf name qual params body scope dV kV doc pm an aL ct) ps sp:=by
 apply#[len,λA outer s H args us vs Q E hr e0 hb r kj=>?_];let hl:=len _ _ _ _ kj;have KX:K.In s.heap:=e0.mod.DO.keeps λb o e=>(e0.bs b o e).1;have lim:s.heap.NoLimit:=e0.mod.nolimit.keeps λb o e=>(e0.bs b o e).1
 have Es:∀y∈ps.zip us,scope.names.lookup y.1\.local∨(scope.names.lookup y.1\.cell/\((cellsFrom (s.heap.objs.size+1) scope.names []).lookup y.1).isSome=true):=λ⟨n,v⟩ hy=>by
  rcases S.par n (List.of_mem_zip hy).1 with q|q
  ·exact .inl q
  exact .inr #[q,PySem.W.cellsFrom_some _ _ _ (.inl q)]
 apply codeAny_call_function hr.depth (KX _ _ lk) U S.co S.gen U (PySem.W.codeRec_of KX iG) (hb _ _ _ _ ?_);apply wpAny_newFunctionEnv_cells S.kind Es λenv he s1 x=>?_;subst he;apply#[lim.keeps x.toInCall.keep,codeAny_func ?_];let#[t,ht,hq]:=fP A outer s H vs Q E (hr.deeper _) kj;have I:Inv (i9 CX P w K mg base N qual scope f aL A outer s H E) [] (start N vs) H s1:=gf_ S hr.hd e0 hl r x;apply wpAny_mono (ht [] s1 (start N vs) H _ I hq) (λfl s' hs=>?_) λe s' hs=>hs
 have fin:∀{aZ:St} {H':Hp} {v:V} {u:Aa},Inv (i9 CX P w K mg base N qual scope f aL A outer s H E) [] aZ H' s'->RelV v u->Q v H'->CE outer P w H s Q u s':=
  λ{aZ H' v u} J rv q=>#[v,H',J.os,J.bare,J.base,J.aA,rv,q]
 cases fl with
 |ret u=>
  let#[v,aZ,H',J,rv,q]:=hs;exact fin J rv q
 |next=>
  let#[aZ,H',J,q]:=hs;exact fin (v:=V.non) (u:=Value.none) J U q
 |brk=>
  let#[_,_,_,q]:=hs;exact False.elim q
 |cont=>
  let#[_,_,_,q]:=hs;exact False.elim q
def Pg(r:af->Hp->VK->Prop)(t:TA):TE:=λσ H Q=>t σ H λvs H1=>r vs H1 Q
variable{r:af->Hp->VK->Prop}{id:String}
theorem cy(hc:gr X (.builtin id) r)(hg:Gl X x)(hm:X.mg x=none)(hv:bootBuiltins x\.builtin id)(ha:PA X (e::es) t)(hn:x≠"__name__":=by decide)(sU:(x == ("__debug__":Str))=false:=by decide)
  (he:starEach (e::es) X.env=(false,eval e X.env)::starEach es X.env:=by rfl) (iE:(backTo pos (starEach es X.env)).any (·.1)=false:=by rfl):PE X (.Call (.Name x p) (e::es) [] pos) (Pg r t):=by
 intro pins s σ H Q I h;apply wpAny_Call_Name_kw (uT I hg hm hv ?_ hn sU);exact PyProof.Rows.callWith_builtin1 (aN (ha pos pins s σ H _ I h) λus s1 ⟨vs,H1,I1,r1,q1⟩=>hc pins s1 σ H1 vs us Q I1 r1 q1) he iE
variable{T:String}
theorem iO(hc:gr X (.type T) r)(hg:Gl X x)(hm:X.mg x=none)(hv:bootBuiltins x\.type T)(ha:PA X (e::es) t)(hn:x≠"__name__":=by decide)(sU:(x == ("__debug__":Str))=false:=by decide)
  (he:starEach (e::es) X.env=(false,eval e X.env)::starEach es X.env:=by rfl) (iE:(backTo pos (starEach es X.env)).any (·.1)=false:=by rfl):PE X (.Call (.Name x p) (e::es) [] pos) (Pg r t):=by
 intro pins s σ H Q I h;apply wpAny_Call_Name_kw (uT I hg hm hv ?_ hn sU);exact AL (aN (ha pos pins s σ H _ I h) λus s1 ⟨vs,H1,I1,r1,q1⟩=>hc pins s1 σ H1 vs us Q I1 r1 q1) he iE
end L2
local macro_rules|`(!$f:ident $a*)=>if [`br,`j_,`bM,`ao,`j1].contains f.getId then let i:=Lean.mkIdent;`($f $(i `P) $(i `w) $(i `K) $(i `mg) $(i `base) $a*)else Lean.Macro.throwUnsupported
namespace HT
open PySem PyProof.Rows
section
open PySem.SeqAt
open PySem.AutoSeq1 (wpAny_loadPart')
open PySem.MeetsSeq PySem.MeetsSeq2 PySem.MeetsSeq3
end
variable{t:Addr}{E Q:Aa->Ab->Prop}{prog:Ad}{w:Af}{A:Ag}{s:Ab}
theorem wc{b:Addr}{vs ws:aj}(ht:IsTup s.heap t vs.toArray)(hb:IsTup s.heap b ws.toArray)(hv:vs≠[])(h1:ws=[]->Q (.ref t) s)(h2:ws≠[]->Q (.ref s.heap.objs.size) { s with heap:=s.heap.push { cls:=.type "tuple",data:=.seq (vs++ws).toArray } })(hsz:vs.length+ws.length<=sizeLine):wpAny (model prog w) A (binaryOp .Add (.ref t) (.ref b)) Q E s:=by
 let#[#[cls,dd,data,sl],ho,hc,n,hd]:=id ht;let#[#[ND,Ic,data2,F9],eQ,jq,n2,hd2]:=id hb;simp only at hc hd jq hd2;subst hc hd jq hd2;have e:vs.toArray++ws.toArray=(vs++ws).toArray:=by simp
 by_cases hw:ws=[]
 ·exact concat_meets #[_,ho,U] #[_,eQ,U] noFill_tuple_add seq_tuple_add PySem.F.slot_tuple_add PySem.F.entry_tuple_add (PySem.F.args_tuple_add_2 _ _)
   (tuple_addW1 t b vs.toArray ws.toArray n n2 dd Ic sl F9 ⇑hv (by simp[hw])) #[ho,eQ,h1 hw]
 apply concat_meets #[_,ho,U] #[_,eQ,U] noFill_tuple_add seq_tuple_add PySem.F.slot_tuple_add PySem.F.entry_tuple_add (PySem.F.args_tuple_add_2 _ _)
  (tuple_addW2 t b vs.toArray ws.toArray n n2 dd Ic sl F9 ⇑hv ⇑hw (by rw[dc,dc];exact hsz)) #[ho,eQ,?_]
 rw[e];exact h2 hw
def cO(n d:Nat):Option Int->Nat
 |none=>d
 |some v=>if v<0 then (v+(n:Int)).toNat else min v.toNat n
theorem eO(n d:Nat):cO n d none=d:=rfl
theorem dY(n d k:Nat):cO n d (some (k:Int))=min k n:=by
 show (if (k:Int)<0 then ((k:Int)+(n:Int)).toNat else min (k:Int).toNat n)=min k n;rw[aC Z2,yl]
theorem Xs(n d:Nat)(hd:d<=n)(o:Option Int):cO n d o<=n:=by
 cases o with
 |none=>exact hd
 |some v=>
  show (if v<0 then (v+(n:Int)).toNat else min v.toNat n)<=n;by_cases hv:v<0
  ·rw[aI hv];omega
  rw[aC hv];exact Nat.min_le_right _ _
theorem Rq(v:Int)(n d:Nat):(if v<0 then max (v+(n:Int)) 0 else min v (n:Int))=((cO n d (some v):Nat):Int):=by
 show (if v<0 then max (v+(n:Int)) 0 else min v (n:Int))=(((if v<0 then (v+(n:Int)).toNat else min v.toNat n):Nat):Int);by_cases hv:v<0
 ·simp only[aI hv];omega
 simp only[aC hv];omega
theorem fr_(lo hi:Option Int)(n:Nat):Builtin.Slice.sliceAdjust lo hi 1 (n:Int)=(((cO n 0 lo:Nat):Int),((cO n n hi:Nat):Int)):=by
 have h1:¬((1:Int)<0):=by omega
 unfold Builtin.Slice.sliceAdjust;simp only[h1,if_false];apply Prod.ext ?_ ?_
 ·cases lo with
  |none=>rfl
  |some v=>exact Rq v n 0
 cases hi with
 |none=>rfl
 |some v=>exact Rq v n n
theorem fB_(i j:Nat):Builtin.Slice.slicePlaces (i:Int) (j:Int) 1=j - i:=by
 unfold Builtin.Slice.slicePlaces;have h1:(1:Int) > 0:=by omega
 simp only[h1,if_true,Int.ediv_one];split<;>omega
theorem TF{v:Aa}{o:Option Int}{Q:Option Int->Ab->Prop}(p:IsPart v o)(h:Q o s):wpAny (model prog w) A (Builtin.Slice.slicePartIndex v) Q E s:=by
 cases p with
 |none=>exact slicePart_none h
 |int i t=>exact slicePart_int h
variable{sl:Addr}{vl vu:Aa}{hi lo:Option Int}
theorem cn_{n:Nat}{Q:Int × Int × Nat->Ab->Prop}(hs:s.heap.IsSliceOf sl vl vu .none)(pl:IsPart vl lo)(pu:IsPart vu hi)(h:Q (((cO n 0 lo:Nat):Int),1,cO n n hi - cO n 0 lo) s):wpAny (model prog w) A (Builtin.Slice.sliceApplied (.ref sl) (pure (n:Int))) Q E s:=by
 let#[os,Ec,Q9,sS]:=id hs;unfold Builtin.Slice.sliceApplied Builtin.Slice.sliceFields;apply ae (ae (fF Ec sS (x:=vl) U (ae (fF Ec sS (x:=vu) U (ae (fF Ec sS (x:=.none) U (aE ?_)))))));apply ae (slicePart_none ?_);show wpAny _ _ (if ((1:Int) == 0)=true then _ else _) _ _ s;rw[aC (by decide)];apply ae (TF pl (ae (TF pu (ae (aE ?_)))));show wpAny _ _ (match Builtin.Slice.sliceAdjust lo hi 1 (n:Int) with|(lo,hi)=>pure (lo,(1:Int),Builtin.Slice.slicePlaces lo hi 1)) _ _ s;rw[fr_ lo hi n];show wpAny _ _ (pure (((cO n 0 lo:Nat):Int),(1:Int),Builtin.Slice.slicePlaces ((cO n 0 lo:Nat):Int) ((cO n n hi:Nat):Int) 1)) _ _ s;rw[fB_];exact aE h
theorem ZF(xs:Array Aa)(i k:Nat):((List.range k).filterMap λ(m:Nat)=>xs[((i:Int)+(m:Int) * 1).toNat]?).toArray=((xs.toList.drop i).take k).toArray:=by
 have e:(λ(m:Nat)=>xs[((i:Int)+(m:Int) * 1).toNat]?)=λm=>xs[i+m]?:=by
  funext m
  have:((i:Int)+(m:Int) * 1).toNat=i+m:=by omega
  rw[this]
 rw[e];have:=pick_run xs i k;rw[List.filterMap_map] at this;have e2:((λx=>xs[x]?) ∘ λx=>i+x)=λm=>xs[i+m]?:=rfl;rw[e2] at this;rw[this]
theorem fQ{items:Array Aa}(ht:IsTup s.heap t items)(hs:s.heap.IsSliceOf sl vl vu .none)(pl:IsPart vl lo)(pu:IsPart vu hi)(hw:¬(cO items.size 0 lo=0/\cO items.size items.size hi=items.size))(h:Q (.ref s.heap.objs.size) { s with heap:=s.heap.push { cls:=.type "tuple",data:=.seq ((items.toList.drop (cO items.size 0 lo)).take (cO items.size items.size hi - cO items.size 0 lo)).toArray } })(hsz:items.size<=sizeLine):wpAny (model prog w) A (getItem (.ref t) (.ref sl)) Q E s:=by
 have nV:sizeOk (.seq ((items.toList.drop (cO items.size 0 lo)).take (cO items.size items.size hi - cO items.size 0 lo)).toArray):=by
  show ((items.toList.drop (cO items.size 0 lo)).take (cO items.size items.size hi - cO items.size 0 lo)).toArray.size<=sizeLine;rw[dc,dJ,yk,t7];omega
 have hj:cO items.size items.size hi<=items.size:=Xs _ _ (bh _) hi;let#[os,Ec,Q9,sS]:=id hs;have LO:s.TypeIs (.ref sl) "slice":=#[os,Ec,Q9];unfold getItem
 try with_reducible apply iK ?_
 first|refine ae (aE ?_)|skip
 apply ae (wpAny_sequenceKey ht.typeIs (by decide) ?_)
 apply ae (uR (name:=Str.ofString "__getitem__") ht.typeIs PyProof.Rows.slot_tuple_getitem
  (tK PyProof.Rows.slot_tuple_getitem ht.typeIs entry_tuple_getitem ?_ (args_tuple_getitem _ _)))
 show wpAny _ _ (Builtin.Tuple.tupleItemsOf (.ref t) >>= _) _ _ s;apply ae (tupleItemsOf_ ht ?_);apply ae (wpAny_typeOf LO ?_);rw[aI (by decide)];apply ae (cn_ hs pl pu ?_)
 have ko:¬((((cO items.size 0 lo:Nat):Int) == 0&&(1:Int) == 1&&(cO items.size items.size hi - cO items.size 0 lo) == items.size)=true):=by
  intro q;rw[Bool.and_eq_true,Bool.and_eq_true] at q;have q1:((cO items.size 0 lo:Nat):Int)=0:=eq_of_beq q.1.1;have q2:cO items.size items.size hi - cO items.size 0 lo=items.size:=eq_of_beq q.2;exact hw #[by omega,by omega]
 show wpAny _ _ (if (((cO items.size 0 lo:Nat):Int) == 0&&(1:Int) == 1&&(cO items.size items.size hi - cO items.size 0 lo) == items.size)=true then _ else _) _ _ s;rw[aC ko,ZF]
 first
  |exact ae (m:=Builtin.Tuple.tupleExact _) (p9 (aE ⟨_,rfl,aE h⟩) nV)
  |exact ae (m:=Builtin.Tuple.tupleExact _) (p9 (ae (aE (aE ⟨_,rfl,aE h⟩))) nV)
  |exact ae (ae (m:=Builtin.Tuple.tupleExact _) (p9 (aE (aE ⟨_,rfl,aE h⟩)) nV))
  |exact ae (ae (m:=Builtin.Tuple.tupleExact _) (p9 (aE ⟨_,rfl,aE h⟩) nV))
end HT
namespace L2
open PySem PySem.Spec PyProof.Rows
abbrev TO:=St->Hp->(Option Int->Hp->Prop)->Prop
def PO(X:Cx)(e:Option Expr)(t:TO):Prop:=
 ∀(pins:List (Addr × Obj)) (s:Ab) (σ:St) (H:Hp) (Q:Option Int->Hp->Prop),Inv X pins σ H s->t σ H Q->
  wpAny (model X.prog X.w) X.A (evalPart e X.env) (λu s'=>∃o H',Inv X pins σ H' s'/\IsPart u o/\Q o H') X.xe s
def vm:TO:=λ_ H Q=>Q none H
inductive qz (Q:Option Int->Hp->Prop) (x:V) (H1:Hp):Prop
 |mk:∀i,x=.int i->Q (some i) H1->qz Q x H1
def CF(t:TE):TO:=λσ H Q=>t σ H λx H1=>qz Q x H1
variable{us:aj}
section
variable{X:Cx}{e:Expr}{te:TE}{lo hi:Option Expr}{tl th:TO}{pos p2:Pos}
theorem A4:PO X none vm:=by
 intro pins s σ H Q I h;rw[evalPart_none];exact aE #[none,H,I,.none,h]
theorem A3(h:PE X e te):PO X (some e) (CF te):=by
 intro pins s σ H Q I hw;rw[evalPart_some];apply aN (h pins s σ H _ I hw) λu s1 ⟨x,H1,I1,r1,q1⟩=>?_;let#[i,rfl,q]:=q1;let#[t,rfl]:=r1;exact#[some i,H1,I1,.int i t,q]
def OO(X:Cx)(r:V->Option Int->Option Int->Hp->VK->Prop):Prop:=
 ∀(pins:List (Addr × Obj)) (s:Ab) (σ:St) (H:Hp) (x:V) (v vl vu:Aa) (lo hi:Option Int) (sl:Addr) (Q:VK),Inv X pins σ H s->RelV x v->s.heap.IsSliceOf sl vl vu .none->IsPart vl lo->IsPart vu hi->r x lo hi H Q->
  ∃T id,typeLookup (.type T) "__getitem__"=pure (some (.builtin id))/\s.TypeIs v T/\wpAny (model X.prog X.w) X.A (getItem v (.ref sl)) (EP X pins σ Q) X.xe s
def Vu(r:V->Option Int->Option Int->Hp->VK->Prop)(te:TE)(tl th:TO):TE:=λσ H Q=>te σ H λx H1=>tl σ H1 λl H2=>th σ H2 λu H3=>r x l u H3 Q
theorem AX{r:V->Option Int->Option Int->Hp->VK->Prop}(hr:OO X r)(he:PE X e te)(hl:PO X lo tl)(hu:PO X hi th):PE X (.Subscript e (.Slice lo hi none p2) pos) (Vu r te tl th):=by
 intro pins s σ H Q I h;apply Subscript_ (aN (he pins s σ H _ I h) λv s1 ⟨x,H1,I1,r1,q1⟩=>?_);apply wpAny_Slice (aN (hl pins s1 σ H1 _ I1 q1) λvl s2 ⟨l,H2,I2,pl,q2⟩=>aN (hu pins s2 σ H2 _ I2 q2) λvu s3 ⟨u,H3,I3,pu,q3⟩=>?_);rw[evalPart_none];apply aE ?_;have I4:Inv X pins σ H3 { s3 with heap:=s3.heap.push { cls:=.type "slice",data:=.fields (List.toArray [vl,vu,.none]) } }:=I3.kept (t':=s3.toks) λb ob q=>aQ _ q;let#[T,id,hT,ht,hg]:=hr pins { s3 with heap:=s3.heap.push { cls:=.type "slice",data:=.fields (List.toArray [vl,vu,.none]) } } σ H3 x v vl vu l u s3.heap.objs.size Q I4 r1 (Heap.IsSliceOf.new ..) pl pu q3;show wpAny (model X.prog X.w) X.A (subscriptTail e (.Slice lo hi none p2) v (.ref s3.heap.objs.size)) (EP X pins σ Q) X.xe { s3 with heap:=s3.heap.push { cls:=.type "slice",data:=.fields (List.toArray [vl,vu,.none]) } };exact tail_any (ops:=[.ref s3.heap.objs.size,v]) ht hT hg (by with_unfolding_all rfl)
def dP(xs:af)(lo hi:Option Int):af:=(xs.drop (HT.cO xs.length 0 lo)).take (HT.cO xs.length xs.length hi - HT.cO xs.length 0 lo)
theorem Ox(xs:af)(lo hi:Option Int):(dP xs lo hi).length<=xs.length:=by
 unfold dP;rw[dJ,yk];omega
inductive C_ (K:ai) (x:V) (lo:Option Int) (hi:Option Int) (H:Hp) (Q:VK):Prop
 |mk:∀a xs,x=.ref a->er K H a xs->¬(HT.cO xs.length 0 lo=0/\HT.cO xs.length xs.length hi=xs.length)->(∀p,H p=none->Q (.ref p) (upd H p (.tup (dP xs lo hi))))->C_ K x lo hi H Q
theorem HP:OO X (C_ X.K):=by
 intro pins s σ H x v vl vu lo hi sl Q I rx hs pl pu h;let#[a,xs,rfl,hx,hw,q]:=h;cases rx;let#[its,r,ht,hz]:=I.tuple hx;have hlen:its.toArray.size=xs.length:=by rw[dc];exact r.length.symm
 apply⟨"tuple",_,PyProof.Rows.slot_tuple_getitem.lookup,ht.typeIs,?_⟩;apply HT.fQ ht hs pl pu (by rw[hlen];exact hw) ?_ (by rw[hlen];exact hz);rw[hlen];apply⟨.ref s.heap.objs.size,_,I.laid (t':=s.toks) (o:=.tup (dP xs lo hi)) (λb ob q=>aQ _ q) (bh _) ?_,rfl,q _ (I.aA.fresh (bh _))⟩;exact⟨iQ (Ox xs lo hi) hz,_,(r.drop (HT.cO xs.length 0 lo)).take (HT.cO xs.length xs.length hi - HT.cO xs.length 0 lo),IsTup.new _ _,_,cJ _ rfl,rfl⟩
theorem Vals.nQ{xs:af}(r:Vals xs us):us=[] ↔ xs=[]:=by
 cases r with
 |nil=>simp
 |cons _ _=>simp
end
def vN(n:Nat)(i:Int):Option Nat:=if 0<=i then (if i<n then some i.toNat else none) else if -(n:Int)<=i then some (i+n).toNat else none
def ip{α:Type}(xs:List α)(i:Int):Option α:=(vN xs.length i).bind λj=>xs[j]?
variable{j n:Nat}
theorem QI{i:Int}(h:vN n i\j):seqIndex? i n\j/\j<n/\-(n:Int)<=i/\i<n:=by
 unfold vN at h;by_cases h0:0<=i
 ·rw[aI h0] at h;by_cases h1:i<n
  ·rw[aI h1] at h;have e:i.toNat=j:=cX h;exact#[by rw[seqIndex_of h0 h1,e],by omega,by omega,h1]
  rw[aC h1] at h;cases h
 rw[aC h0] at h;by_cases h1:-(n:Int)<=i
 ·rw[aI h1] at h;have e:(i+n).toNat=j:=cX h;exact#[by rw[seqIndex_neg Z2 h1,e],by omega,h1,by omega]
 rw[aC h1] at h;cases h
theorem Mu{α:Type}{xs:List α}{i:Int}{v:α}(h:ip xs i\v):∃j,seqIndex? i xs.length\j/\xs[j]? = some v/\j<xs.length/\-(xs.length:Int)<=i/\i<xs.length:=by
 unfold ip at h;cases e:vN xs.length i with
 |none=>rw[e] at h;cases h
 |some j=>
  rw[e] at h;let#[h1,h2,h3,h4]:=QI e;exact#[j,h1,h,h2,h3,h4]
theorem dR{α:Type}{xs:List α}{v:α}(h:xs[j]? = some v):ip xs (j:Int)\v:=by
 have hj:j<xs.length:=(bW.mp h).1
 have e:vN xs.length (j:Int)\j:=by
  unfold vN;rw[aI Z2,aI Z2];simp
 unfold ip;rw[e];exact h
def wJ(b:Expr):Prop:=∀o i,subscripted b false o i=operate [o,i] (getItem o i)
def Cb(X:Cx)(r:R2):Prop:=
 ∀(value slice:Expr) (pins:List (Addr × Obj)) (s:Ab) (σ:St) (H:Hp) (x y:V) (v u:Aa) (Q:VK),Inv X pins σ H s->RelV x v->RelV y u->r x y H Q->
  subscripted slice false v u=operate [v,u] (getItem v u)->wpAny (model X.prog X.w) X.A (subscriptTail value slice v u) (EP X pins σ Q) X.xe s
def UC(X:Cx)(id:String)(r:V->af->Hp->VK->Prop):Prop:=
 ∀(pins:List (Addr × Obj)) (s:Ab) (σ:St) (H:Hp) (x:V) (xs:af) (v:Aa) (us:aj) (Q:VK),Inv X pins σ H s->RelV x v->Vals xs us->r x xs H Q->
  wpAny (model X.prog X.w) X.A (call (.builtin id) (v::us)) (EP X pins σ Q) X.xe s
variable{pins:List (Addr × Obj)}{σ:St}{s:Ab}{its its':aj}
variable{A:Ag}{u:Aa}
variable{T:String}
section
variable{X:Cx}{a b:Expr}{ta tb:TE}{pos:Pos}
theorem bw{r:R2}(hr:Cb X r)(ha:PE X a ta)(hb:PE X b tb)(hs:wJ b:=by exact λ_ _=>rfl):PE X (.Subscript a b pos) (F3 r ta tb):=by
 intro pins s σ H Q I h;exact Subscript_ (AY ha hb I h λv u s2 x y H2 I2 rx ry q=>hr a b pins s2 σ H2 x y v u Q I2 rx ry q (hs _ _))
inductive rY (K:ai) (x:V) (y:V) (H:Hp) (Q:VK):Prop
 |mk:∀p xs i v,x=.ref p->y=.int i->dS K H p xs->ip xs i\v->Q v H->rY K x y H Q
inductive oQ (K:ai) (x:V) (y:V) (H:Hp) (Q:VK):Prop
 |mk:∀p xs i v,x=.ref p->y=.int i->er K H p xs->ip xs i\v->Q v H->oQ K x y H Q
inductive Dc (x:V) (y:V) (H:Hp) (Q:VK):Prop
 |mk:∀z i c,x=.str z->y=.int i->z.length<=sizeLine->ip z.cps.toList i\c->Q (.str ⟨(List.toArray [c])⟩) H->Dc x y H Q
theorem gd:Cb X (rY X.K):=by
 intro value slice pins s σ H x y v u Q I rx ry h hs;let#[p,xs,i,z,rfl,rfl,hq,he,q]:=h;cases rx;let#[t,rfl]:=ry;let#[its,r,pl,hz]:=I.list hq;let#[j,h1,h2,h3,h4,h5]:=Mu he;let#[w,ew,ig]:=r.get h2;let hl:=r.length;let hn:=gm;have fin:EP X pins σ Q w s:=⟨z,H,I,ig,q⟩;by_cases h0:0<=i
 ·have hj:i.toNat=j:=by
   rw[seqIndex_of h0 h5] at h1;exact cX h1
  exact item_listR pl.isList h0 Z2 (by rw[hj];simpa using ew) fin hs
 have hj:(i+(its.toArray.size:Int)).toNat=j:=by
  rw[seqIndex_neg Z2 h4] at h1;rw[dc,<- hl];exact cX h1
 exact subscriptTail_builtinR (x:=w) pl.isList.typeIs slot_list_getitem.lookup
  (wpAny_getItem_list_neg (Q:=λr s'=>r=w/\EP X pins σ Q r s') pl.isList Z2 (by rw[dc]<;>omega) Z2 (by rw[hj];simpa using ew) ⟨rfl,fin⟩) hs
theorem cU:Cb X (oQ X.K):=by
 intro value slice pins s σ H x y v u Q I rx ry h hs;let#[p,xs,i,z,rfl,rfl,hq,he,q]:=h;cases rx;let#[t,rfl]:=ry;let#[its,r,pl,hz]:=I.tuple hq;let#[j,h1,h2,h3,h4,h5]:=Mu he;let#[w,ew,ig]:=r.get h2;let hl:=r.length;let hn:=gm;have fin:EP X pins σ Q w s:=⟨z,H,I,ig,q⟩
 exact subscriptTail_builtinR (x:=w) pl.typeIs slot_tuple_getitem.lookup
  (getItem_tuple (j:=j) (Q:=λr s'=>r=w/\EP X pins σ Q r s') pl Z2 Z2 (by rw[dc,<- hl];exact h1) ⇑ew ⟨rfl,fin⟩) hs
theorem X_:Cb X Dc:=by
 intro value slice pins s σ H x y v u Q I rx ry h hs;let#[z,i,c,rfl,rfl,hz,he,q]:=h;let#[t,rfl]:=rx;let#[t',rfl]:=ry;let#[j,h1,h2,h3,h4,h5]:=Mu he;have hl:z.cps.toList.length=z.length:=by simp[Str.length]
 rw[hl] at h1 h4 h5;let hn:=gm
 exact tail_any (typeIs_str s z t) slot_str_getitem.lookup (getItem_str (c:=c) (by
  have e1:decide (i < -(2 ^ 63:Int))=false:=fq Z2;have e2:decide (i ≥ 2 ^ 63)=false:=fq Z2;rw[e1,e2,Bool.or_false]) (by rw[h1];simpa using h2) ⟨.str ⟨(List.toArray [c])⟩,H,I.tok _,⟨_,rfl⟩,q⟩) hs
theorem fJ_(its:aj)(n j:Nat)(u:Aa):Obj.mapSeq (·.setIfInBounds j u) { cls:=.type "list",data:=.seq its.toArray n }={ cls:=.type "list",data:=.seq (its.set j u).toArray n }:=by
 simp[Obj.mapSeq]
theorem Inv.lst{pins:List (Addr × Obj)}{σ:St}{H:Hp}{s:Ab}{p:Addr}{xs:af}(I:Inv X pins σ H s)(h:H p\.lst xs) :
  ∃(its:aj) (n:Nat),Vals xs its/\s.heap.get? p=some { cls:=.type "list",data:=.seq its.toArray n }/\xs.length<=sizeLine:=by
 let#[z,its,n,r,e]:=I.aA p _ h;exact⟨its,n,r,e,z⟩
theorem Inv.zy{H:Hp}{p:Addr}{xs ys:af}{n':Nat}{f:Obj->Obj}(I:Inv X pins σ H s)(h:H p\.lst xs)(ho:s.heap.get? p=some { cls:=.type "list",data:=.seq its.toArray n })(hf:f { cls:=.type "list",data:=.seq its.toArray n }={ cls:=.type "list",data:=.seq its'.toArray n' })(r:Vals ys its')(hz:ys.length<=sizeLine)(t:Nat) :
  Inv X pins σ (upd H p (.lst ys)) { s with heap:=s.heap.update p f,toks:=t }:=by
 have e:(s.heap.update p f).get? p=some { cls:=.type "list",data:=.seq its'.toArray n' }:=by
  rw[Heap.get?_update_self f ho (by rw[hf]<;>rfl),hf]
 apply I.write (x:=p) (e:=p) (by rw[h];trivial) (.inl rfl) (λb u hb q=>(uL _ _ (bN hb)).trans q) ⟨_,e⟩ ?_;exact⟨hz,its',n',r,e⟩
inductive xg (o:V) (i:V) (v:V) (H:Hp) (Q:Hp->Prop):Prop
 |mk:∀p xs k j,o=.ref p->i=.int k->H p\.lst xs->vN xs.length k\j->Q (upd H p (.lst (xs.set j v)))->xg o i v H Q
theorem R9:FM X xg:=by
 intro pins s σ H o i v ov iv u Q I ro ri rv h;let#[p,xs,k,j,rfl,rfl,hp,hj,q]:=h;cases ro;let#[t,rfl]:=ri;let#[its,n,r,ho,hz]:=I.lst hp;let#[h1,h2,h3,h4]:=QI hj;let hl:=r.length;let hn:=gm
 have I':Inv X pins σ (upd H p (.lst (xs.set j v))) { s with heap:=s.heap.update p (Obj.mapSeq (·.setIfInBounds j u)) }:=
  I.zy hp ho (fJ_ its n j u) (r.set rv j) (by rw[List.length_set];exact hz) s.toks
 by_cases h0:0<=k
 ·have hk:k.toNat=j:=by
   rw[seqIndex_of h0 h4] at h1;exact cX h1
  exact PySem.W.ki_setAt ho h0 Z2 (by rw[dc,<- hl];exact h4) (by rw[hk];exact⟨_,I',q⟩)
 have hk:(k+(its.toArray.size:Int)).toNat=j:=by
  rw[seqIndex_neg Z2 h3] at h1;rw[dc,<- hl];exact cX h1
 exact PySem.W.ki_setBack ho Z2 (by rw[dc,<- hl];exact h3) Z2 (by rw[hk];exact⟨_,I',q⟩)
theorem e0_(lo hi:Option Int)(n:Nat):(sliceBounds lo hi none n).1=((HT.cO n 0 lo:Nat):Int)/\(sliceBounds lo hi none n).2.1=((HT.cO n n hi:Nat):Int)/\(sliceBounds lo hi none n).2.2=1:=by
 apply⟨?_,?_,rfl⟩
 ·cases lo with
  |none=>simp[sliceBounds,HT.cO]
  |some i=>
   simp only[sliceBounds,HT.cO,Option.getD_none,show (1:Int) > 0 by decide,if_true];by_cases h:i<0
   ·simp only[h,if_true]<;>omega
   simp only[h,if_false]<;>omega
 cases hi with
 |none=>simp[sliceBounds,HT.cO]
 |some i=>
  simp only[sliceBounds,HT.cO,Option.getD_none,show (1:Int) > 0 by decide,if_true];by_cases h:i<0
  ·simp only[h,if_true]<;>omega
  simp only[h,if_false]<;>omega
theorem dw_(its:aj)(lo hi:Option Int):slicePick its.toArray lo hi none=((its.drop (HT.cO its.length 0 lo)).take (HT.cO its.length its.length hi - HT.cO its.length 0 lo)).toArray:=by
 let#[h1,h2,h3]:=e0_ lo hi its.toArray.size;unfold slicePick;rw[h1,h2,h3];simp only[sliceRange_one,pick_run,dc]<;>rfl
inductive Da (K:ai) (x:V) (lo:Option Int) (hi:Option Int) (H:Hp) (Q:VK):Prop
 |mk:∀a xs,x=.ref a->dS K H a xs->(∀p,H p=none->Q (.ref p) (upd H p (.lst (dP xs lo hi))))->Da K x lo hi H Q
theorem Mn:OO X (Da X.K):=by
 intro pins s σ H x v vl vu lo hi sl Q I rx hs pl pu h;let#[a,xs,rfl,hx,q]:=h;cases rx;let#[its,r,ht,hz]:=I.list hx;let hlen:=r.length;apply⟨"list",_,slot_list_getitem.lookup,ht.isList.typeIs,?_⟩;apply wpAny_getItem_list_slice ht.isList hs pl pu .none Y0 ?_ (by rw[dc]<;>omega)
 rw[dw_,<- hlen];apply⟨.ref s.heap.objs.size,_,I.laid (t':=s.toks) (o:=.lst (dP xs lo hi)) (λb ob q=>aQ _ q) (bh _) ?_,rfl,q _ (I.aA.fresh (bh _))⟩;exact⟨iQ (Ox xs lo hi) hz,_,0,(r.drop (HT.cO xs.length 0 lo)).take (HT.cO xs.length xs.length hi - HT.cO xs.length 0 lo),cJ _ rfl⟩
def tm:V->Bool
 |.non=>true
 |.bl _=>true
 |.int _=>true
 |.str _=>true
 |_=>false
def Mx:V->V->Bool
 |.non,.non=>true
 |.bl a,.bl b=>a == b
 |.bl a,.int b=>(if a then 1 else 0) == b
 |.int a,.bl b=>a == (if b then 1 else 0)
 |.int a,.int b=>a == b
 |.str a,.str b=>a == b
 |_,_=>false
theorem Qr{y x:V}{v:Aa}(ry:RelV y u)(rx:RelV x v)(fy:tm y=true)(fx:tm x=true):SeqAt.EqAt A s u v (Mx y x):=by
 cases y with
 |non=>
  cases ry;cases x with
  |non=>cases rx;exact SeqAt.EqAt.same _
  |bl b=>cases rx;exact SeqAt.EqAt.none_bool b
  |int b=>let#[t,rfl]:=rx;exact SeqAt.EqAt.none_int b t
  |str b=>let#[t,rfl]:=rx;exact SeqAt.EqAt.none_str b t
  |_=>exact absurd (show false=true from fx) gM
 |bl a=>
  cases ry;cases x with
  |non=>cases rx;exact SeqAt.EqAt.bool_none a
  |bl b=>cases rx;exact SeqAt.EqAt.bool_bool a b
  |int b=>let#[t,rfl]:=rx;exact SeqAt.EqAt.bool_int a b t
  |str b=>let#[t,rfl]:=rx;exact SeqAt.EqAt.bool_str a b t
  |_=>exact absurd (show false=true from fx) gM
 |int a=>
  let#[t',rfl]:=ry;cases x with
  |non=>cases rx;exact SeqAt.EqAt.int_none a t'
  |bl b=>cases rx;exact SeqAt.EqAt.int_bool a t' b
  |int b=>let#[t,rfl]:=rx;exact SeqAt.EqAt.int_int a t' b t
  |str b=>let#[t,rfl]:=rx;exact SeqAt.EqAt.int_str a t' b t
  |_=>exact absurd (show false=true from fx) gM
 |str a=>
  let#[t',rfl]:=ry;cases x with
  |non=>cases rx;exact SeqAt.EqAt.str_none a t'
  |bl b=>cases rx;exact SeqAt.EqAt.str_bool a t' b
  |int b=>let#[t,rfl]:=rx;exact SeqAt.EqAt.str_int a t' b t
  |str b=>let#[t,rfl]:=rx;exact SeqAt.EqAt.str_str a t' b t
  |_=>exact absurd (show false=true from fx) gM
 |_=>exact absurd (show false=true from fy) gM
inductive Oz (K:ai) (xs:af) (H:Hp) (Q:VK):Prop
 |mk:∀p ys,xs=[.ref p]->(dS K H p ys∨er K H p ys)->Q (.int ys.length) H->Oz K xs H Q
theorem iq:gr X (.builtin "len") (Oz X.K):=by
 intro pins s σ H xs us Q I r h;let#[p,ys,rfl,hq,q]:=h;let#[u,rfl,rx]:=vals1 r;cases rx;let hn:=gm;rcases hq with hq|hq
 ·let#[its,r',pl,hz]:=I.list hq;let hlen:=r'.length;exact Calls.call_len_list pl.isList (by simp only[dc]<;>omega) ⟨.int ys.length,H,I.tok _,⟨s.toks+1,by rw[dc,hlen]⟩,q⟩
 let#[its,r',pl,hz]:=I.tuple hq;let hlen:=r'.length;exact len_tuple pl (by simp only[dc]<;>omega) ⟨.int ys.length,H,I.tok _,⟨s.toks+1,by rw[dc,hlen]⟩,q⟩
inductive Uu (xs:af) (H:Hp) (Q:VK):Prop
 |mk:∀z,xs=[.str z]->z.length<=sizeLine->Q (.int z.length) H->Uu xs H Q
theorem dX_:gr X (.builtin "len") Uu:=by
 intro pins s σ H xs us Q I r h;let#[z,rfl,hz,q]:=h;let#[u,rfl,t,rfl]:=vals1 r;let hn:=gm;exact len_str Z2 ⟨.int z.length,H,I.tok _,⟨_,rfl⟩,q⟩
inductive Ur (K:ai) (xs:af) (H:Hp) (Q:VK):Prop
 |mk:∀p ys,xs=[.ref p]->(dS K H p ys∨er K H p ys)->(∀l,H l=none->Q (.ref l) (upd H l (.lst ys)))->Ur K xs H Q
theorem e2_:gr X (.type "list") (Ur X.K):=by
 intro pins s σ H xs us Q I r h;let#[p,ys,rfl,hq,q]:=h;let#[u,rfl,rx]:=vals1 r;cases rx
 have fin:∀(its:aj),Vals ys its->ys.length<=sizeLine->∀(h':Heap) (c':Nat),(∀b o',s.heap.get? b\o'->h'.get? b\o')->
   h'.get? s.heap.objs.size=some { cls:=.type "list",dict:=none,data:=.seq its.toArray c',slots:=#[] }->EP X pins σ Q (.ref s.heap.objs.size) { s with heap:=h' }:=λits r' hz h' c' kp e=>
  #[.ref s.heap.objs.size,_,I.laid (t':=s.toks) kp (bh _) (show fi X.prog X.w _ h' _ (.lst ys) from #[hz,its,c',r',e]),U,q _ (I.aA.fresh (bh _))]
 rcases hq with hq|hq
 ·let#[its,r',pl,hz]:=I.list hq;let hlen:=r'.length;let#[o,ho,hc,n,hd]:=pl.isList;exact call_list_seq p (.inl U) ho hc hd (λh' c' kp e=>fin its r' hz h' c' kp e) (by simp only[dc]<;>omega)
 let#[its,r',pl,hz]:=I.tuple hq;let hlen:=r'.length;let#[o,ho,hc,n,hd]:=pl;exact call_list_seq p (.inr U) ho hc hd (λh' c' kp e=>fin its r' hz h' c' kp e) (by simp only[dc]<;>omega)
inductive Uo (K:ai) (xs:af) (H:Hp) (Q:VK):Prop
 |mk:∀p ys,xs=[.ref p]->((dS K H p ys/\∀l,H l=none->Q (.ref l) (upd H l (.tup ys)))∨(er K H p ys/\Q (.ref p) H))->Uo K xs H Q
theorem IT:gr X (.type "tuple") (Uo X.K):=by
 intro pins s σ H xs us Q I r h;let#[p,ys,rfl,h]:=h;let#[u,rfl,rx]:=vals1 r;cases rx;rcases h with⟨hq,q⟩|⟨hq,q⟩
 ·let#[its,r',pl,hz]:=I.list hq;let hlen:=r'.length;apply call_tuple_list pl.isList (λh' kp=>?_) (by simp only[dc]<;>omega)
  have I1:Inv X pins σ H { s with heap:=h' }:=I.kept (t':=s.toks) kp
  have I2:Inv X pins σ (upd H h'.objs.size (.tup ys)) { s with heap:=h'.push { cls:=.type "tuple",data:=.seq its.toArray } }:=
   I1.laid (t':=s.toks) (λb o e=>aQ _ e) (bh _) (show fi X.prog X.w _ _ _ (.tup ys) from ⟨hz,its,r',IsTup.new _ _,_,cJ _ rfl,rfl⟩)
  exact⟨.ref h'.objs.size,_,I2,rfl,q _ (I1.aA.fresh (bh _))⟩
 let#[its,r',pl,hz]:=I.tuple hq;exact call_tuple_same pl ⟨.ref p,H,I,rfl,q⟩
def Jy(K:ai)(T:String)(x:V)(H:Hp):Prop:=match x with
 |.str _=>T="str"
 |.int _=>T="int"
 |.ref p=>(T="list"/\∃xs,dS K H p xs)∨(T="tuple"/\∃o,K.lookup p\o/\o.cls=.type "tuple"/\o.dict=none) ∨
   (T="dict"/\((∃kvs,H p\.dK kvs)∨∃kvs,H p\.dT kvs))∨(T="set"/\∃S n,H p\.set S n)
 |_=>False
theorem Qu{H:Hp}{x:V}{v:Aa}(I:Inv X pins σ H s)(r:RelV x v)(ty:Jy X.K T x H) :
  s.TypeIs v T/\∀a,v=.ref a->∃ob,s.heap.get? a\ob/\ob.dict=none:=by
 cases x with
 |str z=>
  let#[t,rfl]:=r;cases (show T="str" from ty);exact#[typeIs_str s z t,λ_ e=>nomatch e]
 |int i=>
  let#[t,rfl]:=r;cases (show T="int" from ty);exact#[typeIs_int s i t,λ_ e=>nomatch e]
 |ref p=>
  cases r;rcases ty with⟨rfl,xs,hq⟩|⟨rfl,o,hk,hc,hd⟩|⟨rfl,hk⟩|⟨rfl,S,n,hk⟩
  ·let#[its,_,pl,_]:=I.list hq;apply#[pl.isList.typeIs,λa e=>?_];cases e;let#[o,n,e,c,hd,_]:=pl;exact#[o,e,hd]
  ·apply#[#[o,I.gJ p o hk,hc],λa e=>?_];cases e;exact#[o,I.gJ _ o hk,hd]
  ·have z:∃o,s.heap.get? p\o/\o.ExactDict:=by
    rcases hk with⟨kvs,hk⟩|⟨kvs,hk⟩
    ·let#[_,_,_,_,o,_,_,e,ex,_]:=I.aA p _ hk;exact#[o,e,ex]
    let#[_,_,_,_,o,_,_,e,ex,_]:=I.aA p _ hk;exact#[o,e,ex]
   let#[o,e,ex]:=z;apply#[#[o,e,ex.1],λa e2=>?_];cases e2;exact#[o,e,ex.2.1]
  ·let#[o,_,_,_,e,ex,_]:=I.aA p _ hk;apply#[#[o,e,ex.1],λa e2=>?_];cases e2;exact#[o,e,ex.2.1]
 |_=>exact False.elim ty
def JQ(K:ai)(T:String)(r:V->af->Hp->VK->Prop)(to:TE):TE:=λσ H Q=>to σ H λx H1=>Jy K T x H1/\r x [] H1 Q
def Vx(K:ai)(T:String)(r:V->af->Hp->VK->Prop)(to:TE)(t:TA):TE:=λσ H Q=>to σ H λx H1=>Jy K T x H1/\t σ H1 λxs H2=>r x xs H2 Q
variable{o e:Expr}{es:List Expr}{to:TE}{t:TA}{name:Str}{apos b_:Pos}{T id:String}{r:V->af->Hp->VK->Prop}
theorem XH(pa:PlainAttrs T)(slot:Slot T name id)(KW:typeOf (.builtin id)=pure (.type "method_descriptor"))(hm:UC X id r)(ho:PE X o to)
  (hW:attributeBase o name X.env (eval o X.env)=eval o X.env:=by rfl) (hJ:(apos.endLine == b_.line)=true:=by rfl):PE X (.Call (.Attribute o name apos) [] [] b_) (JQ X.K T r to):=by
 intro pins s σ H Q I h;apply wpAny_Call_method0_late hW hJ (aN (ho pins s σ H _ I h) λv s1 ⟨x,H1,I1,r1,ty,q1⟩=>?_);let#[h1,h2]:=Qu I1 r1 ty;exact#[T,id,pa,slot,KW,h1,h2,Calls.callWith_builtin U (PySem.evalArgs_none (hm pins s1 σ H1 x [] v [] Q I1 r1 .nil q1))]
theorem pe(pa:PlainAttrs T)(slot:Slot T name id)(KW:typeOf (.builtin id)=pure (.type "method_descriptor"))(hm:UC X id r)(ho:PE X o to)(ha:PA X (e::es) t)
  (hW:attributeBase o name X.env (eval o X.env)=eval o X.env:=by rfl)
  (Ly:((backTo b_ (starEach (e::es) X.env)).all (λx=>!x.1)&&(backToKw b_ (keywordEach [] X.env)).all (λx=>x.1.isSome)
   && decide ((e::es).length+([]:List Keyword).length+(if ([]:List Keyword).isEmpty then 0 else 1)<30))=true:=by rfl)
  (hJ:(apos.endLine == b_.line)=true:=by rfl) (hs:starEach (e::es) X.env=(false,eval e X.env)::starEach es X.env:=by rfl) (zM:(backTo b_ (starEach es X.env)).any (·.1)=false:=by rfl) :
  PE X (.Call (.Attribute o name apos) (e::es) [] b_) (Vx X.K T r to t):=by
 intro pins s σ H Q I h;apply wpAny_Call_method_late hW Ly hJ U (aN (ho pins s σ H _ I h) λv s1 ⟨x,H1,I1,r1,ty,q1⟩=>?_);let#[h1,h2]:=Qu I1 r1 ty;apply#[T,id,pa,slot,KW,h1,h2,?_];let hA:=ha b_ pins s1 σ H1 _ I1 q1;rw[hs] at hA ⊢;apply Calls.callWith_builtin (by show (false || (backTo b_ (starEach es X.env)).any (·.1))=false;rw[zM]<;>rfl) (Calls.evalArgs_plain ?_)
 exact aN hA λus s2 ⟨vs,H2,I2,r2,q2⟩=>hm pins s2 σ H2 x vs v us Q I2 r1 r2 q2
end
def Jh(X:Cx)(id:String)(r:V->af->Hp->VK->Prop):Prop:=
 ∀(pins:List (Addr × Obj)) (s:Ab) (σ:St) (H:Hp) (x:V) (xs:af) (v:Aa) (us:aj) (Q:VK),Inv X pins σ H s->RelV x v->Vals xs us->r x xs H Q->
  wpAny (model X.prog X.w) X.A (call (.builtin id) (v::us)) (EP X pins σ Q) X.xe s
theorem Vals.one:∀{x:V} {us:aj},Vals [x] us->∃u,us=[u]/\RelV x u
 |_,_,.cons r .nil=>#[_,U,r]
theorem Vals.two:∀{x y:V} {us:aj},Vals [x,y] us->∃u v,us=[u,v]/\RelV x u/\RelV y v
 |_,_,_,.cons r (.cons q .nil)=>#[_,_,U,r,q]
theorem Vals.zero:∀{us:aj},Vals [] us->us=[]
 |_,.nil=>rfl
theorem Vals.reverse{xs:af}(h:Vals xs us):Vals xs.reverse us.reverse:=by
 induction h with
 |nil=>exact .nil
 |cons r t ih=>rw[List.reverse_cons,List.reverse_cons];exact Vals.append ih (.cons r .nil)
variable{t':Nat}
section
variable{X:Cx}{pins:List (Addr × Obj)}{σ:St}{H:Hp}{s:Ab}{l b:Addr}{xs ys zs:af}
theorem Inv.vK{f:Array Aa->Array Aa}(I:Inv X pins σ H s)(hH:H l\.lst xs)(e:s.heap.get? l=some { cls:=.type "list",data:=.seq its.toArray n })(hf:f its.toArray=its'.toArray)(hv:Vals ys its')(hz:ys.length<=sizeLine) :
  Inv X pins σ (upd H l (.lst ys)) { s with heap:=s.heap.update l (Obj.mapSeq f),toks:=t' }:=by
 let q:=PySem.IsL.update e f;rw[hf] at q;apply I.write (x:=l) (e:=l) (by rw[hH];exact trivial) (.inl U) (λb' u hb hu=>(uL s.heap (Obj.mapSeq f) (bN hb)).trans hu) #[_,q] ?_;exact#[hz,its',_,hv,q]
theorem Inv.zA(I:Inv X pins σ H s)(hv:Vals ys its)(hz:ys.length<=sizeLine) :
  Inv X pins σ (upd H s.heap.objs.size (.lst ys)) { s with heap:=s.heap.push { cls:=.type "list",data:=.seq its.toArray },toks:=t' }:=
 I.laid (λ_ _ q=>aQ _ q) (bh _) #[hz,its,0,hv,cJ _ U]
theorem Inv.fresh(I:Inv X pins σ H s):H s.heap.objs.size=none:=I.aA.fresh (bh _)
theorem Inv.i5(I:Inv X pins σ H s)(hH:H l\.lst xs):xs.length<=sizeLine/\∃(its:aj) (n:Nat),Vals xs its/\xs.length=its.length/\s.heap.get? l=some { cls:=.type "list",data:=.seq its.toArray n }:=by
 let#[z,its,n,r,e]:=I.aA l _ hH;exact#[z,its,n,r,r.length,e]
theorem r6(h:n<=sizeLine):Builtin.List.listTooLong n=false:=by
 unfold Builtin.List.listTooLong;exact fq Z2
end
inductive nK (x:V) (vs:af) (H:Hp) (Q:VK):Prop
 |mk:∀l xs y,x=.ref l->vs=[y]->H l\.lst xs->xs.length<sizeLine->Q .non (upd H l (.lst (xs++[y])))->nK x vs H Q
variable{X:Cx}
theorem wC:Jh X "list.append" nK:=by
 intro pins s σ H x vs v us Q I rx rv h;let#[l,xs,y,rfl,rfl,hH,hz,q]:=h;cases rx;let#[u,rfl,ru]:=rv.one;let#[z,its,n,r,hl,e]:=I.i5 hH;apply call_meets F.slot_list_append ⟨_,e,rfl⟩ F.entry_list_append (F.args_list_append_2 _ _) (PySem.list_append l its.toArray n u (by rw[dc];omega)) ⟨e,?_⟩;apply⟨.non,_,I.vK (its':=its++[u]) hH e Y0 (r.append (.cons ru .nil)) ?_,rfl,q⟩;rw[d4,jU];omega
inductive nI (x:V) (vs:af) (H:Hp) (Q:VK):Prop
 |mk:∀l b xs zs,x=.ref l->vs=[.ref b]->H l\.lst xs->H b\.lst zs->xs.length+zs.length<=sizeLine->Q .non (upd H l (.lst (xs++zs)))->nI x vs H Q
theorem _h:Jh X "list.extend" nI:=by
 intro pins s σ H x vs v us Q I rx rv h;let#[l,b,xs,zs,rfl,rfl,hH,hB,hz,q]:=h;cases rx;let#[u,rfl,ru]:=rv.one;cases ru;let#[z,its,n,r,hl,e]:=I.i5 hH;let#[z2,iC,n2,r2,jo,e2]:=I.i5 hB;have hsz:its.toArray.size+iC.toArray.size<=sizeLine:=by rw[dc,dc];omega
 have El:¬(!its.toArray.isEmpty&&Builtin.List.listTooLong (its.toArray.size+iC.toArray.size))=true:=by
  rw[r6 hsz,Bool.and_false];exact gM
 apply call_meets F.slot_list_extend ⟨_,e,rfl⟩ F.entry_list_extend (F.args_list_extend_2 _ _)
  (AutoSeq1.list_extend_list_list_0 l its.toArray n b iC.toArray n2 El (by rw[dc];omega) Z2) ⟨e,e2,?_⟩
 apply⟨.non,_,I.vK (its':=its++iC) hH e Y0 (r.append r2) ?_,rfl,q⟩;rw[d4];omega
inductive Sw (x:V) (vs:af) (H:Hp) (Q:VK):Prop
 |mk:∀l xs,x=.ref l->vs=[]->H l\.lst xs->Q .non (upd H l (.lst xs.reverse))->Sw x vs H Q
theorem fG_:Jh X "list.reverse" Sw:=by
 intro pins s σ H x vs v us Q I rx rv h;let#[l,xs,rfl,rfl,hH,q]:=h;cases rx;let _m:=rv.zero;subst _m;let#[z,its,n,r,hl,e]:=I.i5 hH;apply call_meets F.slot_list_reverse ⟨_,e,rfl⟩ F.entry_list_reverse (F.args_list_reverse_1 _) (AutoSeq1.list_reverse_list_0 l its.toArray n (by rw[dc];omega)) ⟨e,?_⟩;apply⟨.non,_,I.vK (its':=its.reverse) hH e Y0 r.reverse ?_,rfl,q⟩;rw[List.length_reverse];omega
inductive Df (x:V) (y:V) (H:Hp) (Q:VK):Prop
 |mk:∀l b xs zs,x=.ref l->y=.ref b->H l\.lst xs->H b\.lst zs->xs.length+zs.length<=sizeLine->(∀p,H p=none->Q (.ref p) (upd H p (.lst (xs++zs))))->Df x y H Q
theorem Yd:d9 X (binaryOp .Add) Df:=by
 intro pins s σ H x y v u Q I rx ry h;let#[l,b,xs,zs,rfl,rfl,hH,hB,hz,q]:=h;cases rx;cases ry;let#[z,its,n,r,hl,e]:=I.i5 hH;let#[z2,iC,n2,r2,jo,e2]:=I.i5 hB;apply PySem.P.add_list e e2 ?_ (by rw[dc,dc];omega);have ea:its.toArray++iC.toArray=(its++iC).toArray:=by simp
 rw[ea];exact⟨.ref _,_,I.zA (t':=s.toks) (r.append r2) (by rw[d4];omega),rfl,q _ I.fresh⟩
variable{o:aH}
variable{d:V}
section
variable{κ:Type}[DecidableEq κ]
def aU(kvs:List (κ × V))(k:κ):aH:=(kvs.find? λkv=>decide (kv.1=k)).map (·.2)
def putK(kvs:List (κ × V))(k:κ)(v:V):List (κ × V):=
 if (kvs.any λkv=>decide (kv.1=k))=true then kvs.map (λkv=>if kv.1=k then (kv.1,v) else kv) else kvs++[(k,v)]
theorem x6{p:κ × V}{r:List (κ × V)}{k:κ}(e:p.1=k):aU (p::r) k\p.2:=by simp[aU,yj,e]
theorem x8{p:κ × V}{r:List (κ × V)}{k:κ}(e:¬p.1=k):aU (p::r) k=aU r k:=by simp[aU,yj,e]
theorem B4(k:κ):∀kvs:List (κ × V),(kvs.any λkv=>decide (kv.1=k))=(aU kvs k).isSome
 |[]=>rfl
 |p::r=>by
  rw[List.any_cons];by_cases e:p.1=k
  ·simp only[x6 e,cw e,Bool.true_or,Option.isSome_some]
  rw[x8 e,fq e,Bool.false_or];exact B4 k r
theorem IQ(kvs:List (κ × V))(k:κ)(v:V):(putK kvs k v).length<=kvs.length+1:=by
 unfold putK;split
 ·rw[aq];omega
 rw[d4,iR,List.length_nil];omega
theorem wx{kvs:List (κ × V)}{k:κ}(v:V)(h:aU kvs k=none):putK kvs k v=kvs++[(k,v)]:=by
 unfold putK;rw[B4,h];exact aC (by decide)
theorem eG.dO{u:Option Aa}(r:eG o u):o.isSome=u.isSome:=by
 cases o with
 |none=>cases u with
  |none=>rfl
  |some _=>exact (show False from r).elim
 |some _=>cases u with
  |none=>exact (show False from r).elim
  |some _=>rfl
theorem eG.getD{u:Option Aa}{d':Aa}(r:eG o u)(rd:RelV d d'):RelV (o.getD d) (u.getD d'):=by
 cases o with
 |none=>cases u with
  |none=>exact rd
  |some _=>exact (show False from r).elim
 |some _=>cases u with
  |none=>exact (show False from r).elim
  |some _=>exact r
theorem KV.val{kvs:List (κ × V)}{vs:List (κ × Aa)}(r:KV kvs vs)(k:κ):eG (aU kvs k) (valueAt vs k):=by
 unfold KV at r
 induction r with
 |nil=>exact True.intro
 |@cons p q ps qs h t ih=>
  let#[h1,h2]:=h;by_cases e:p.1=k
  ·have e':q.1=k:=h1.symm.trans e;have b:valueAt (q::qs) k\q.2:=by simp[valueAt,yj,e']
   rw[x6 e,b];exact h2
  have e':¬q.1=k:=λz=>e (h1.trans z);have b:valueAt (q::qs) k=valueAt qs k:=by simp[valueAt,yj,e']
  rw[x8 e,b];exact ih
theorem KV.any{kvs:List (κ × V)}{vs:List (κ × Aa)}(r:KV kvs vs)(k:κ):(kvs.any λkv=>decide (kv.1=k))=vs.any λkv=>decide (kv.1=k):=by
 unfold KV at r
 induction r with
 |nil=>rfl
 |cons h t ih=>rw[List.any_cons,List.any_cons,ih,h.1]
theorem KV.zi{kvs:List (κ × V)}{vs:List (κ × Aa)}(r:KV kvs vs)(k:κ){y:V}(ry:RelV y u) :
  KV (kvs.map λkv=>if kv.1=k then (kv.1,y) else kv) (vs.map λkv=>if kv.1=k then (kv.1,u) else kv):=by
 unfold KV at r ⊢
 induction r with
 |nil=>exact .nil
 |@cons p q ps qs h t ih=>
  rw[eI,eI];apply .cons ?_ ih;let#[h1,h2]:=h;by_cases e:p.1=k
  ·rw[aI e,aI (h1.symm.trans e)];exact#[h1,ry]
  rw[aC e,aC (λz=>e (h1.trans z))];exact#[h1,h2]
theorem KV.put{kvs:List (κ × V)}{vs:List (κ × Aa)}(r:KV kvs vs)(k:κ){y:V}(ry:RelV y u):KV (putK kvs k y) (stored vs k u):=by
 unfold putK stored;rw[r.any k];by_cases e:(vs.any λkv=>decide (kv.1=k))=true
 ·rw[aI e,aI e];exact r.zi k ry
 rw[aC e,aC e];exact Paired.snoc r #[U,ry]
theorem KV.keys{kvs:List (κ × V)}{vs:List (κ × Aa)}(r:KV kvs vs):kvs.map (·.1)=vs.map (·.1):=by
 unfold KV at r
 induction r with
 |nil=>rfl
 |cons h t ih=>rw[eI,eI,ih,h.1]
theorem KV.length{kvs:List (κ × V)}{vs:List (κ × Aa)}(r:KV kvs vs):kvs.length=vs.length:=bH r
end
variable{P:Ad}{w:Af}
theorem v_{k:Key}(r:RelV (kV k) u):(dW P w).is k u=true:=by
 cases k with
 |inl i=>let#[t,e]:=(show ∃t,u=Value.int i t from r);subst e;exact ev_ P w i t
 |inr x=>let#[t,e]:=(show ∃t,u=Value.str x t from r);subst e;exact eA_ P w x t
theorem SA{P:Ad}{w:Af}:∀{ks:ax} {us:aj},Vals (ks.map kV) us->ItemsAre (dW P w) ks us
 |[],_,r=>by rw[List.map_nil] at r;cases r;exact .nil
 |k::ks,_,r=>by
  rw[eI] at r;cases r with
  |cons h t=>exact .cons (v_ h) (SA t)
abbrev KT(H:Hp):List (ax × V)->List (ax × Addr × Aa)->Prop:=Paired λp q=>p.1=q.1/\H q.2.1\.tup (p.1.map kV)/\RelV p.2 q.2.2
variable{xs:List (ax × Addr × Aa)}{H:Hp}{kvs:List (ax × V)}
theorem KT.val(r:KT H kvs xs)(k:ax):eG (aU kvs k) ((atKey xs k).map (·.2)):=by
 induction r with
 |nil=>exact True.intro
 |@cons p q ps qs h t ih=>
  let#[h1,_,h2]:=h;by_cases e:p.1=k
  ·have e':q.1=k:=h1.symm.trans e;have b:atKey (q::qs) k\q.2:=by simp[atKey,yj,e']
   rw[x6 e,b];exact h2
  have e':¬q.1=k:=λz=>e (h1.trans z);have b:atKey (q::qs) k=atKey qs k:=by simp[atKey,yj,e']
  rw[x8 e,b];exact ih
theorem KT.zi(r:KT H kvs xs)(k:ax){y:V}(ry:RelV y u) :
  KT H (kvs.map λkv=>if kv.1=k then (kv.1,y) else kv) (xs.map (putAt k u)):=by
 induction r with
 |nil=>exact .nil
 |@cons p q ps qs h t ih=>
  rw[eI,eI];apply .cons ?_ ih;let#[h1,h2,h3]:=h;unfold putAt;by_cases e:p.1=k
  ·rw[aI e,aI (h1.symm.trans e)];exact#[h1,h2,ry]
  rw[aC e,aC (λz=>e (h1.trans z))];exact#[h1,h2,h3]
variable{b:Addr}
theorem KT.put(r:KT H kvs xs)(k:ax){y:V}(hb:H b\.tup (k.map kV))(ry:RelV y u) :
  KT H (putK kvs k y) (storedH xs k b u):=by
 have e:(kvs.any λkv=>decide (kv.1=k))=(atKey xs k).isSome:=by
  rw[B4,(r.val k).dO,Option.isSome_map]
 unfold putK storedH;rw[e];by_cases q:(atKey xs k).isSome=true
 ·rw[aI q,aI q];exact r.zi k ry
 rw[aC q,aC q];exact Paired.snoc r #[U,hb,ry]
variable{H':Hp}
theorem KT.keeps(r:KT H kvs xs)(ht:∀b ys,H b\.tup ys->H' b\.tup ys):KT H' kvs xs:=
 Paired.aX r λ_ _ z=>#[z.1,ht _ _ z.2.1,z.2.2]
variable{h:Heap}{a:Addr}
theorem Qi{u:HO}(ok:fM P w H h)(e:Rd H a u):fi P w H h a u:=e.ok ok
theorem kD{kvs:List (Key × V)}(ok:fM P w H h)(e:Rd H a (.dK kvs)):kvs.length<=sizeLine/\(a == sysModules)=false/\∃vs,KV kvs vs/\h.DictOf (dW P w) a vs:=
 show fi P w H h a (.dK kvs) from Qi ok e
theorem ES{kvs:List (Key × V)}(ok:fM P w H h)(e:H a\.dK kvs):kvs.length<=sizeLine/\(a == sysModules)=false/\∃vs,KV kvs vs/\h.DictOf (dW P w) a vs:=kD ok (.inl e)
theorem wz{ks:ax}(ok:fM P w H h)(e:H a\.tup (ks.map kV)):(tupleKind (dW P w)).is h ks a:=by
 let#[_,its,r,#[o,h1,h2,n,h3],_]:=(show fi P w H h a (.tup (ks.map kV)) from ok a _ e);exact#[o,its.toArray,n,h1,h2,h3,by simpa using SA r]
theorem xP(ok:fM P w H h)(e:Rd H a (.dT kvs)):kvs.length<=sizeLine/\(a == sysModules)=false /\
  ∃xs,KT H kvs xs/\h.DictOfH (tupleKind (dW P w)) a xs:=by
 let#[z,y,xs,r,o,es,ep,h1,h2,h3,h4,h5]:=(show fi P w H h a (.dT kvs) from Qi ok e);apply#[z,y,xs,r,o,es,ep,h1,h2,h3,h4,λx hx=>?_,h5]
 have all:∀{l:List (ax × V)} {m:List (ax × Addr × Aa)},KT H l m->∀x∈m,(tupleKind (dW P w)).is h x.1 x.2.1:=by
  intro l m q
  induction q with
  |nil=>intro x hx;exact nomatch hx
  |@cons p q ps qs hq t ih=>
   intro x hx;rcases bY.mp hx with e|hx
   ·subst e;exact wz ok (by rw[<- hq.1];exact hq.2.1)
   exact ih x hx
 exact all r x hx
theorem Qc(ok:fM P w H h)(e:H a\.dT kvs):kvs.length<=sizeLine/\(a == sysModules)=false /\
  ∃xs,KT H kvs xs/\h.DictOfH (tupleKind (dW P w)) a xs:=xP ok (.inl e)
def da(H:Hp)(a:Addr)(y:V)(r:aH):Prop:=
 (∃kvs k,Rd H a (.dK kvs)/\y=kV k/\r=aU kvs k)∨∃kvs k b,Rd H a (.dT kvs)/\y=.ref b/\H b\.tup (k.map kV)/\r=aU kvs k
def pH(H:Hp)(a:Addr)(y v:V)(H':Hp):Prop:=
 (∃kvs k,H a\.dK kvs/\y=kV k/\kvs.length<sizeLine/\H'=upd H a (.dK (putK kvs k v))) ∨
 ∃kvs k b,H a\.dT kvs/\y=.ref b/\H b\.tup (k.map kV)/\kvs.length<sizeLine/\H'=upd H a (.dT (putK kvs k v))
theorem da.k{kvs:List (Key × V)}{k:Key}(e:H a\.dK kvs):da H a (kV k) (aU kvs k):=.inl #[kvs,k,.inl e,U,U]
theorem da.t{k:ax}(e:H a\.dT kvs)(eb:H b\.tup (k.map kV)):da H a (.ref b) (aU kvs k):=.inr #[kvs,k,b,.inl e,U,eb,U]
theorem pH.k{kvs:List (Key × V)}{k:Key}{v:V}(e:H a\.dK kvs)(hl:kvs.length<sizeLine):pH H a (kV k) v (upd H a (.dK (putK kvs k v))):=.inl #[kvs,k,e,U,hl,U]
theorem pH.t{k:ax}{v:V}(e:H a\.dT kvs)(eb:H b\.tup (k.map kV))(hl:kvs.length<sizeLine) :
  pH H a (.ref b) v (upd H a (.dT (putK kvs k v))):=.inr #[kvs,k,b,e,U,eb,hl,U]
variable{h':Heap}
variable{kvs:List (Key × V)}
section
variable{X:Cx}{pins:List (Addr × Obj)}{σ:St}{H:Hp}{s:Ab}{a:Addr}{y v:V}{u r:Aa}{o:aH}{A:Ag}{E:Aa->Ab->Prop}
theorem Inv.big(I:Inv X pins σ H s):sysModules<s.heap.objs.size:=by
 have h:mainGlobals<s.heap.objs.size:=(I.mod.glob.keeps I.bk).lt;exact Nat.lt_trans (by decide) h
theorem h2_{Q:Aa->Ab->Prop}(hu:A.units+1<cLine)(I:Inv X pins σ H s)(g:da H a y (some v))(ry:RelV y u)(h:∀w' s',Inv X pins σ H s'->RelV v w'->Q w' s') :
  wpAny (model X.prog X.w) A (getItem (.ref a) u) Q E s:=by
 rcases g with⟨kvs,k,e,ey,l⟩|⟨kvs,k,b,e,ey,eb,l⟩
 ·subst ey;let#[z,hd,vs,rel,dd]:=kD I.aA e;let#[w',hw,ig]:=eG.some_of (v:=v) (o:=valueAt vs k) (by rw[l];exact rel.val k);exact wpAny_getItem_of (v_ ry) dd.mapOf hw (h w' _ (I.tok _) ig)
 subst ey;cases (show u=Value.ref b from ry);let#[z,hd,xs,rel,dd]:=xP I.aA e;let#[w',hw,ig]:=eG.some_of (v:=v) (o:=(atKey xs k).map (·.2)) (by rw[l];exact rel.val k);let#[p,hp,km]:=Ca.mp hw;apply wpAny_getItem_heap (tupleKind_room_in1 hu) (wz I.aA eb) dd hp ?_;rw[km];exact h w' _ (I.tok _) ig
theorem MW{Q:Aa->Ab->Prop}(hu:A.units+1<cLine)(I:Inv X pins σ H s)(g:da H a y o)(ry:RelV y u)(h:∀s',Inv X pins σ H s'->Q (.bool o.isSome) s') :
  wpAny (model X.prog X.w) A (compareOp .In u (.ref a)) Q E s:=by
 rcases g with⟨kvs,k,e,ey,l⟩|⟨kvs,k,b,e,ey,eb,l⟩
 ·subst ey;let#[z,hd,vs,rel,dd]:=kD I.aA e;apply wpAny_in_of (v_ ry) hd dd.mapOf ?_;rw[<- (rel.val k).dO,<- l];exact h _ (I.tok _)
 subst ey;cases (show u=Value.ref b from ry);let#[z,hd,xs,rel,dd]:=xP I.aA e;apply wpAny_in_heap (tupleKind_room_in1 hu) (wz I.aA eb) hd dd ?_;let q:=(rel.val k).dO;rw[Option.isSome_map] at q;rw[<- q,<- l];exact h _ (I.tok _)
theorem Zc{Q:Aa->Ab->Prop}(hu:A.units+1<cLine)(I:Inv X pins σ H s)(g:da H a y o)(ry:RelV y u)(h:∀s',Inv X pins σ H s'->Q (.bool (!o.isSome)) s') :
  wpAny (model X.prog X.w) A (compareOp .NotIn u (.ref a)) Q E s:=by
 rcases g with⟨kvs,k,e,ey,l⟩|⟨kvs,k,b,e,ey,eb,l⟩
 ·subst ey;let#[z,hd,vs,rel,dd]:=kD I.aA e;apply wpAny_notIn_of (v_ ry) hd dd.mapOf ?_;rw[<- (rel.val k).dO,<- l];exact h _ (I.tok _)
 subst ey;cases (show u=Value.ref b from ry);let#[z,hd,xs,rel,dd]:=xP I.aA e;apply wpAny_notIn_heap (tupleKind_room_in1 hu) (wz I.aA eb) hd dd ?_;let q:=(rel.val k).dO;rw[Option.isSome_map] at q;rw[<- q,<- l];exact h _ (I.tok _)
theorem Ms{ob:HO}(I:Inv X pins σ H s)(mu:FP (H a))(hs:Heap.SameBut a s.heap h')(he:∃q,h'.get? a\q)(new:fi X.prog X.w (upd H a ob) h' a ob) :
  Inv X pins σ (upd H a ob) { s with heap:=h',toks:=t' }:=
 I.write (x:=a) (e:=a) mu (.inl U) (λb q hb z=>(hs.2 b hb).trans z) he new
theorem L5{vs:List (Key × Aa)}(z:kvs.length<=sizeLine)(hd:(a == sysModules)=false)(rel:KV kvs vs)(dd:h'.DictOf (dW P w) a vs) :
  fi P w H' h' a (.dK kvs):=#[z,hd,vs,rel,dd]
theorem gq_{Q:Unit->Ab->Prop}(hu:A.units+1<cLine)(I:Inv X pins σ H s)(g:pH H a y v H')(ry:RelV y u)(rv:RelV v r)(h:∀s',Inv X pins σ H' s'->Q () s') :
  wpAny (model X.prog X.w) A (setItem (.ref a) u r) Q E s:=by
 rcases g with⟨kvs,k,e,ey,l,eH⟩|⟨kvs,k,b,e,ey,eb,l,eH⟩
 ·subst ey eH;let#[z,hd,vs,rel,dd]:=ES I.aA e;have hz:vs.length<=sizeLine:=by rw[<- rel.length];exact z
  have hl:(putK kvs k v).length<=sizeLine:=by have:=IQ kvs k v;omega
  apply wpAny_setItem_pairs (hsz:=hz) (v_ ry) dd λh' BS hs=>h _ ?_;have he:∃q,h'.get? a\q:=let #[q,_,_,hq,_]:=BS;#[q,hq];exact Ms I (by rw[e];exact True.intro) hs he (L5 hl hd (rel.put k rv) BS)
 subst ey eH;cases (show u=Value.ref b from ry);let#[z,hd,xs,rel,dd]:=Qc I.aA e;have hz:xs.length<=sizeLine:=by rw[<- bH rel];exact z
 have hl:(putK kvs k v).length<=sizeLine:=by have:=IQ kvs k v;omega
 apply wpAny_setItem_heap (hsz:=hz) (tupleKind_room_in1 hu) (wz I.aA eb) dd λh' BS hs=>h _ ?_;let#[q,es,ep,hq,h2,h3,h4,_,h5]:=BS;apply Ms I (by rw[e];exact True.intro) hs #[q,hq] #[hl,hd,_,(rel.put k eb rv).keeps λc ys ec=>?_,q,es,ep,hq,h2,h3,h4,h5];rw[aw (bS ec e nofun)];exact ec
end
variable{E:Aa->Ab->Prop}
theorem XW{Q:Aa->Ab->Prop}(I:Inv X pins σ H s)(e:Rd H a (.dK kvs))(h:∀t s',Inv X pins σ H s'->Q (.int kvs.length t) s'):wpAny (model X.prog X.w) A (call (.builtin "len") [.ref a]) Q E s:=by
 let#[z,hd,vs,rel,dd]:=kD I.aA e;apply call_len_dict hd dd (by rw[<- rel.length];rw[cq] at z;omega) ?_;rw[<- rel.length];exact h _ _ (I.tok _)
def FO(i:Expr):Prop:=∀ov iv,subscripted i false ov iv=operate [ov,iv] (getItem ov iv)
variable{value:Expr}{pos:Pos}
theorem Ys{prog:Ad}{env:Env}{slice:Expr}{id:String}{Q:Aa->Ab->Prop}(hl:typeLookup (.type T) "__getitem__"=pure (some (.builtin id)))(hs:FO slice)(h:wpAny (model prog w) A (eval value env) (λo aJ=>wpAny (model prog w) A (eval slice env) (λi jv=>jv.TypeIs o T/\wpAny (model prog w) A (getItem o i) Q E jv) E aJ) E s) :
  wpAny (model prog w) A (eval (.Subscript value slice pos) env) Q E s:=by
 apply Subscript_ (wpAny_mono h (λo aJ KQ=>wpAny_mono KQ (λi jv zG=>?_) λ_ _ x=>x) λ_ _ x=>x);let#[hT,zG]:=zG;unfold subscriptTail;apply ae ?_;rw[getitemInPython_of_ne hT.not_modules];apply ae (wpAny_specialOf hT hl ?_)
 have fin:wpAny (model prog w) A (subscripted slice false o i) (λr CQ=>wpAny (model prog w) A (letTemporaryGo value o r >>= λ_=>pure r) Q E CQ) E jv:=by
  rw[hs o i];exact wpAny_operating (wpAny_mono zG (λr CQ KP=>ae (wpAny_letTemporaryGo (aE KP))) λ_ _ x=>x)
 first
  |exact aE (ae fin)
  |exact ae (aE (ae fin))
  |exact ae fin
theorem eC_{y:V}(I:Inv X pins σ H s)(g:da H a y o):s.TypeIs (.ref a) "dict":=by
 rcases g with⟨kvs,k,e,_,_⟩|⟨kvs,k,b,e,_,_,_⟩
 ·let#[_,_,vs,_,dd]:=kD I.aA e;exact dd.typeIs
 let#[_,_,xs,_,dd]:=xP I.aA e;exact dd.typeIs
inductive qD (Q:VK) (x:V) (y:V) (H2:Hp):Prop
 |mk:∀a v,x=.ref a->da H2 a y (some v)->Q v H2->qD Q x y H2
def CM(td ty:TE):TE:=λσ H Q=>td σ H λx H1=>ty σ H1 λy H2=>qD Q x y H2
inductive wX (Q:VK) (y:V) (x:V) (H2:Hp):Prop
 |mk:∀a o,x=.ref a->da H2 a y o->Q (.bl o.isSome) H2->wX Q y x H2
def JP(ty td:TE):TE:=λσ H Q=>ty σ H λy H1=>td σ H1 λx H2=>wX Q y x H2
inductive Sz (Q:VK) (y:V) (x:V) (H2:Hp):Prop
 |mk:∀a o,x=.ref a->da H2 a y o->Q (.bl (!o.isSome)) H2->Sz Q y x H2
def vo(ty td:TE):TE:=λσ H Q=>ty σ H λy H1=>td σ H1 λx H2=>Sz Q y x H2
inductive rR (D:Ends) (σ:St) (v:V) (x:V) (y:V) (H3:Hp):Prop
 |mk:∀a H4,x=.ref a->pH H3 a y v H4->D.nx σ H4->rR D σ v x y H3
def C4(td ty tv:TE):TS:=λD σ H=>tv σ H λv H1=>td σ H1 λx H2=>ty σ H2 λy H3=>rR D σ v x y H3
variable{i o:Expr}{td ty:TE}
theorem mI(hu:X.A.units+1<cLine)(ho:PE X o td)(hi:PE X i ty)(hs:FO i:=by exact λ_ _=>rfl):PE X (.Subscript o i pos) (CM td ty):=by
 intro pins s σ H Q I h;apply Ys PySem.F.slot_dict_getitem.lookup hs (aN (ho pins s σ H _ I h) λu s1 ⟨x,H1,I1,rx,q1⟩=>aN (hi pins s1 σ H1 _ I1 q1) λiv s2 ⟨y,H2,I2,ry,a,v,ex,g,q2⟩=>?_);subst ex;obtain rfl:u=Value.ref a:=rx;exact#[eC_ I2 g,h2_ hu I2 g ry λw' s3 I3 ig=>#[v,H2,I3,ig,q2]]
theorem AS(hu:X.A.units+1<cLine)(hi:PE X i ty)(ho:PE X o td):PC X .In i o (JP ty td):=by
 intro pins s σ H Q I h;apply aN (hi pins s σ H _ I h) λiv s1 ⟨y,H1,I1,ry,q1⟩=>aN (ho pins s1 σ H1 _ I1 q1) λu s2 ⟨x,H2,I2,rx,a,ov,ex,g,q2⟩=>?_;subst ex;obtain rfl:u=Value.ref a:=rx;exact MW hu I2 g ry λs3 I3=>#[.bl ov.isSome,H2,I3,U,q2]
theorem IX(hu:X.A.units+1<cLine)(hi:PE X i ty)(ho:PE X o td):PC X .NotIn i o (vo ty td):=by
 intro pins s σ H Q I h;apply aN (hi pins s σ H _ I h) λiv s1 ⟨y,H1,I1,ry,q1⟩=>aN (ho pins s1 σ H1 _ I1 q1) λu s2 ⟨x,H2,I2,rx,a,ov,ex,g,q2⟩=>?_;subst ex;obtain rfl:u=Value.ref a:=rx;exact Zc hu I2 g ry λs3 I3=>#[.bl (!ov.isSome),H2,I3,U,q2]
variable{pos':Pos}{tv:TE}
theorem tT(hu:X.A.units+1<cLine)(ho:PE X o td)(hi:PE X i ty)(hv:PE X value tv)(hs:swapsWith value (some (.Subscript o i pos')) pos.line X.env=pure false) :
  PS X (.Assign [.Subscript o i pos'] value pos) (C4 td ty tv):=by
 intro pins s σ H D I h;apply wpAny_Assign_Subscript (aN (hv pins s σ H _ I h) λr s1 ⟨v,H1,I1,rv,q1⟩=>aN (ho pins s1 σ H1 _ I1 q1) λu s2 ⟨x,H2,I2,rx,q2⟩=>aN (hi pins s2 σ H2 _ I2 q2) λiv s3 ⟨y,H3,I3,ry,a,H4,ex,g,q3⟩=>?_) hs;subst ex;obtain rfl:u=Value.ref a:=rx;exact gq_ hu I3 g ry rv λs4 I4=>#[σ,H4,I4,q3]
theorem Zl(h:Heap)(hb:sysModules<h.objs.size):fi P w H (h.push { cls:=.type "dict",data:=.dict #[] }) h.objs.size (.dK []):=
 #[gO _,beq_eq_false_iff_ne.mpr (bN (dD hb)),[],.nil,Heap.DictOf.new h]
theorem SK(h:Heap)(hb:sysModules<h.objs.size):fi P w H (h.push { cls:=.type "dict",data:=.dict #[] }) h.objs.size (.dT []):=
 #[gO _,beq_eq_false_iff_ne.mpr (bN (dD hb)),[],.nil,_,#[],0,cJ _ U,#[U,U,U],U,U,List.nodup_nil]
def yD:TE:=λ_ H Q=>∀p,H p=none->Q (.ref p) (upd H p (.dK []))
def yC:TE:=λ_ H Q=>∀p,H p=none->Q (.ref p) (upd H p (.dT []))
theorem Fx:PE X (.Dict [] [] pos) yD:=λpins s σ H Q I h=>
 wpAny_Dict_empty #[.ref s.heap.objs.size,_,I.laid (a:=s.heap.objs.size) (o:=.dK []) (t':=s.toks) (λ_ _ q=>aQ _ q) (bh _) (Zl s.heap I.big),U,h _ (I.aA.fresh (bh _))]
theorem Sg:PE X (.Dict [] [] pos) yC:=λpins s σ H Q I h=>
 wpAny_Dict_empty #[.ref s.heap.objs.size,_,I.laid (a:=s.heap.objs.size) (o:=.dT []) (t':=s.toks) (λ_ _ q=>aQ _ q) (bh _) (SK s.heap I.big),U,h _ (I.aA.fresh (bh _))]
def we(kvs more:List (Key × V)):List (Key × V):=more.foldl (λacc kv=>putK acc kv.1 kv.2) kvs
theorem Ow:∀(more kvs:List (Key × V)),(we kvs more).length<=kvs.length+more.length
 |[],kvs=>by show kvs.length<=kvs.length+0;omega
 |p::r,kvs=>by
  let h1:=Ow r (putK kvs p.1 p.2);let h2:=IQ kvs p.1 p.2;show (we (putK kvs p.1 p.2) r).length<=_;rw[iR];omega
structure M1 (X:Cx) (o:Expr) (m:Str) (apos:Pos) (e:Expr) (b_:Pos):Prop where
 base:attributeBase o m X.env (eval o X.env)=eval o X.env
 Mi:((backTo b_ (starEach [e] X.env)).all (λx=>!x.1)&&(backToKw b_ (keywordEach [] X.env)).all (λx=>x.1.isSome)
  && decide (([e]:List Expr).length+([]:List Keyword).length+(if ([]:List Keyword).isEmpty then 0 else 1)<30))=true
 line:(apos.endLine == b_.line)=true
 trees:backTo b_ (starEach [e] X.env)=[(false,eval e X.env)]
structure M2 (X:Cx) (o:Expr) (m:Str) (apos:Pos) (e f:Expr) (b_:Pos):Prop where
 base:attributeBase o m X.env (eval o X.env)=eval o X.env
 Mi:((backTo b_ (starEach [e,f] X.env)).all (λx=>!x.1)&&(backToKw b_ (keywordEach [] X.env)).all (λx=>x.1.isSome)
  && decide (([e,f]:List Expr).length+([]:List Keyword).length+(if ([]:List Keyword).isEmpty then 0 else 1)<30))=true
 line:(apos.endLine == b_.line)=true
 trees:backTo b_ (starEach [e,f] X.env)=[(false,eval e X.env),(false,eval f X.env)]
def OU(H:Hp)(a:Addr):Prop:=(∃kvs,Rd H a (.dK kvs))∨∃kvs,Rd H a (.dT kvs)
theorem Hd(I:Inv X pins σ H s)(d:OU H a) :
  s.TypeIs (.ref a) "dict"/\(∀b,Value.ref a=.ref b->∃ob,s.heap.get? b\ob/\ob.dict=none)/\(a == sysModules)=false:=by
 rcases d with⟨kvs,e⟩|⟨kvs,e⟩
 ·let#[_,hd,vs,_,dd]:=kD I.aA e;apply#[dd.typeIs,λb q=>?_,hd];cases q;let#[ob,_,_,h1,h2,_]:=dd;exact#[ob,h1,h2.2.1]
 let#[_,hd,xs,_,dd]:=xP I.aA e;apply#[dd.typeIs,λb q=>?_,hd];cases q;let#[ob,_,_,h1,h2,_]:=dd;exact#[ob,h1,h2.2.1]
variable{y:V}{o:aH}{Q:Aa->Ab->Prop}
theorem Xt(hu:A.units+1<cLine)(I:Inv X pins σ H s)(g:da H a y o)(ry:RelV y u)(h:∀w' s',Inv X pins σ H s'->RelV (o.getD .non) w'->Q w' s') :
  wpAny (model X.prog X.w) A (call (.builtin "dict.get") [.ref a,u]) Q E s:=by
 rcases g with⟨kvs,k,e,ey,l⟩|⟨kvs,k,b,e,ey,eb,l⟩
 ·subst ey;let#[z,hd,vs,rel,dd]:=kD I.aA e;apply call_meetsIn PySem.F.slot_dict_get dd.typeIs PySem.F.entry_dict_get (PySem.F.args_dict_get_2 _ _) (meets_dict_get (dW X.prog X.w) a (v_ ry) hd) #[_,dd.mapOf,h _ _ (I.tok _) ?_];rw[l];exact (rel.val k).getD U
 subst ey;cases (show u=Value.ref b from ry);let#[z,hd,xs,rel,dd]:=xP I.aA e;apply call_meetsIn PySem.F.slot_dict_get dd.typeIs PySem.F.entry_dict_get (PySem.F.args_dict_get_2 _ _) (meetsH_dict_get (tupleKind (dW X.prog X.w)) a b hd) #[tupleKind_room_in1 hu,k,xs,wz I.aA eb,dd,h _ _ (I.tok _) ?_];rw[l];exact (rel.val k).getD U
variable{r:Aa}
theorem XI(hu:A.units+1<cLine)(I:Inv X pins σ H s)(g:da H a y o)(ry:RelV y u)(rd:RelV d r)(h:∀w' s',Inv X pins σ H s'->RelV (o.getD d) w'->Q w' s') :
  wpAny (model X.prog X.w) A (call (.builtin "dict.get") [.ref a,u,r]) Q E s:=by
 rcases g with⟨kvs,k,e,ey,l⟩|⟨kvs,k,b,e,ey,eb,l⟩
 ·subst ey;let#[z,hd,vs,rel,dd]:=kD I.aA e;apply call_meetsIn PySem.F.slot_dict_get dd.typeIs PySem.F.entry_dict_get (PySem.F.args_dict_get_3 _ _ _) (meets_dict_get_default (dW X.prog X.w) a (v_ ry) hd r) #[_,dd.mapOf,h _ _ (I.tok _) ?_];rw[l];exact (rel.val k).getD rd
 subst ey;cases (show u=Value.ref b from ry);let#[z,hd,xs,rel,dd]:=xP I.aA e;apply call_meetsIn PySem.F.slot_dict_get dd.typeIs PySem.F.entry_dict_get (PySem.F.args_dict_get_3 _ _ _) (meetsH_dict_get_default (tupleKind (dW X.prog X.w)) a b hd r) #[tupleKind_room_in1 hu,k,xs,wz I.aA eb,dd,h _ _ (I.tok _) ?_];rw[l];exact (rel.val k).getD rd
def yF(td ty:TE):TE:=λσ H Q=>td σ H λx H1=>∃a,x=.ref a/\OU H1 a/\ty σ H1 λy H2=>∃o,da H2 a y o/\Q (o.getD .non) H2
def yE(td ty tx:TE):TE:=λσ H Q=>td σ H λx H1=>∃a,x=.ref a/\OU H1 a/\ty σ H1 λy H2=>tx σ H2 λz H3=>∃o,da H3 a y o/\Q (o.getD z) H3
variable{e o:Expr}{apos b_:Pos}
theorem hZ_(hu:X.A.units+1<cLine)(ho:PE X o td)(he:PE X e ty)(m:M1 X o "get" apos e b_):PE X (.Call (.Attribute o "get" apos) [e] [] b_) (yF td ty):=by
 intro pins s σ H Q I h;apply wpAny_Call_method m.base m.Mi m.line PySem.F.plainAttrs_dict PySem.F.slot_dict_get PySem.F.type_dict_get (aN (ho pins s σ H _ I h) λu s1 ⟨x,H1,I1,rx,a,ex,d,q1⟩=>?_);subst ex;obtain rfl:u=Value.ref a:=rx;let#[t1,t2,_]:=Hd I1 d;apply#[t1,t2,?_];rw[m.trees];apply Calls.callWith_builtin U (Calls.evalArgs_plain (Calls.spliced_cons (aN (he pins s1 σ H1 _ I1 q1) λiv s2 ⟨y,H2,I2,ry,ov,g,q2⟩=>Calls.spliced_nil ?_)));exact Xt hu I2 g ry λw' s3 I3 ig=>#[_,H2,I3,ig,q2]
variable{f:Expr}{tx:TE}
theorem hB_(hu:X.A.units+1<cLine)(ho:PE X o td)(he:PE X e ty)(hf:PE X f tx)(m:M2 X o "get" apos e f b_):PE X (.Call (.Attribute o "get" apos) [e,f] [] b_) (yE td ty tx):=by
 intro pins s σ H Q I h;apply wpAny_Call_method m.base m.Mi m.line PySem.F.plainAttrs_dict PySem.F.slot_dict_get PySem.F.type_dict_get (aN (ho pins s σ H _ I h) λu s1 ⟨x,H1,I1,rx,a,ex,d,q1⟩=>?_);subst ex;obtain rfl:u=Value.ref a:=rx;let#[t1,t2,_]:=Hd I1 d;apply#[t1,t2,?_];rw[m.trees]
 apply Calls.callWith_builtin U (Calls.evalArgs_plain (Calls.spliced_cons (aN (he pins s1 σ H1 _ I1 q1) λiv s2 ⟨y,H2,I2,ry,q2⟩=>
  Calls.spliced_cons (aN (hf pins s2 σ H2 _ I2 q2) λfv s3 ⟨z,H3,I3,rz,ov,g,q3⟩=>Calls.spliced_nil ?_))))
 exact XI hu I3 g ry rz λw' s4 I4 ig=>#[_,H3,I4,ig,q3]
end L2
namespace UE
open PySem PySem.W PySem.Calls PyProof.Rows
variable{P:Params}{h:Heap}
theorem cL_:∀(ns:List Int) (vs:aj),WellAll P h vs (ns.map WData.int)->IntsAre vs ns:=by
 intro ns
 induction ns with
 |nil=>
  intro vs w;rw[List.map_nil] at w;cases w;exact .nil
 |cons n ns ih=>
  intro vs w;rw[eI] at w;cases w with
  |cons a b=>
   cases a;exact .cons _ _ (ih _ b)
variable{l:OpenLaw}{n:Nat}
theorem hd_(hn:l.most\n){args:List WData}{vals:aj}(vR:l.row.toRowW.claim.pre args=true)(KU:WellAll P h vals args) :
  ∃a vs ns,vals=[Value.ref a]/\args=[WData.list (ns.map WData.int)]/\h.get? a=some { cls:=.type "list",data:=.seq vs.toArray }/\IntsAre vs ns/\ns.length<=n:=by
 have _y:WShape.hasAll [] args [.list .int]=true:=(pre_splitW vR).1;have hc:l.pre.holds [] { args:=args }=true:=(pre_splitW vR).2;let#[d,r,rfl,h1,h2]:=hasAllW_cons _y;obtain rfl:=hasAllW_nil h2;let#[xs,rfl,h3]:=hasW_list h1;let#[ns,rfl]:=items_int h3
 have hlen:ns.length<=n:=by
  unfold OpenLaw.pre at hc
  have h4:(WTm.not (.lt (.lit (.int (n:Int))) (.len (.arg 0)))).holds [] { args:=[.list (ns.map .int)] }=true:=by
   let h4:=(holds_andW hc).1;rw[hn] at h4;exact h4
  let h5:=condW_of h4 (w_not (w_lt w_lit (w_len_list (w_arg U))));rw[aq] at h5;apply Nat.le_of_not_lt λq=>?_;have q':(n:Int)<((ns.length:Nat):Int):=by omega
  first
   |(rw[cw q'] at h5;exact absurd h5 (by decide))
   |(simp at h5;omega)
 cases KU with
 |cons w1 w2=>
  cases w2;cases w1 with
  |list ho Am=>exact#[_,_,ns,U,U,ho,cL_ ns _ Am,hlen]
theorem g6_(l:OpenLaw)(args:List WData):l.row.toRowW.claim.post args (.bool true) args=true:=
 postW_of (r:=l.row.toRowW) (X:=(true == true))
  (show WShape.has [] (.bool true) .bool=true by first|rfl|decide|simp[WShape.has,WShape.arms,WShape.armsAll])
  (show (WTm.eq .res (.lit (.bool true))).value [] { args:=args,res:=some (.bool true),after:=args }=some (.bool (true == true)) from w_eq_bool (w_res U) w_lit) U
theorem jR{q:Ad}{loose:ag}{XP:(Str->Option Aa)->Heap->Prop}{YP:Af->Heap->Prop}{d:DefRec}(hn:l.most\n)(EE:d.params.defaults=[])(call:∀(w:Af) (df aJ:Ab) (mg mb:Str->Option Aa) (fa:Addr) (o:Obj) (pm cd doc:Aa) (a:Addr) (vs:aj) (ns:List Int),
   Ground q loose [] XP w df mg mb aJ.heap->YP w aJ.heap->
   aJ.heap.get? fa\o->o.data=.func (docDef d.name d.params d.body d.scope pm cd doc)->aJ.heap.CodeRec cd d.name->mg d.name\.ref fa->
   aJ.heap.get? a=some { cls:=.type "list",data:=.seq vs.toArray }->IntsAre vs ns->ns.length<=n->aJ.gens=#[]->
   codeAny (model l.prog w) callerA (.call (.ref fa) #[[.ref a],[]]) (λr s'=>r=.ok (.ret (.bool true))/\OldK aJ.heap s'.heap/\s'.os=aJ.os/\AllBare s'.gens) aJ) :
  WalkO q loose XP YP l.row.toRowW d [] (λf vs=>PySem.call f vs):=by
 intro w df aJ mg mb G Y fa o pm cd doc dV kV ho hd iG hD hmg hg args vals as vR _L hrd KU QW;obtain rfl:dV=.none:=Dflts.none hD EE;obtain rfl:kV=.none:=Dflts.noKw hD;let#[a,vs,ns,rfl,rfl,zQ,hints,hlen]:=hd_ hn vR KU;apply enter_call (codeAny_mono (call w df aJ mg mb fa o pm cd doc a vs ns G Y ho (fd_plain hd) iG hmg zQ hints hlen hg) λr s' hq=>?_);let#[rfl,h2,h3,h4]:=hq;exact#[.inl #[.bool true,.bool true,[],U,λ_=>rfl,.bool true,g6_ l _,λ_=>#[List.Pairwise.nil,λ_ hm=>(nomatch hm)]],h2,h3,h4]
end UE
namespace L2
open PySem PySem.Spec PyProof.Rows
theorem SD:∀{vs:aj} {ns:List Int},IntsAre vs ns->Vals (ns.map V.int) vs
 |_,_,.nil=>.nil
 |_,_,.cons n t h=>.cons #[t,U] (SD h)
def mq(s:Stmt)(j:Nat):Stmt:=match s with
 |.ClassDef _ _ _ body _ _ _ _ _ _ _=>body.getD j (.Pass #[0,0,0,0])
 |_=>.Pass #[0,0,0,0]
def gU(s:Stmt):Arguments:=match s with
 |.FunctionDef _ a _ _ _ _ _ _ _ _=>a
 |_=>{ posonlyargs:=[],args:=[],vararg:=none,kwonlyargs:=[],kw_defaults:=[],kwarg:=none,defaults:=[] }
def gc(s:Stmt):List Stmt:=match s with
 |.FunctionDef _ _ b _ _ _ _ _ _ _=>b
 |_=>[]
def a9(s:Stmt):Scope:=match s with
 |.FunctionDef _ _ _ _ _ _ sc _ _ _=>sc
 |_=>{ kind:=.function,names:=[],isGenerator:=false,isCoroutine:=false }
abbrev a_:u6:=λ_ _ _ _ _ _=>False
abbrev E0:XK:=λ_ _ _=>False
variable{X:Cx}
theorem nM:wB a_ X E0:=λ_ _ _ _ _ _ _ h=>h.elim
structure bo (K:ai) (x qual:Str) (st:Stmt) (f:Addr) (fd:Ae):Prop where
 ex:∃(oc:Aa) (od:Option Addr) (kV doc pm:Aa) (an:Option Addr) (aL ct:Aa) (kh:Array (Option Aa)),
  fd=PySem.W.fnOf x qual (gU st) (gc st) (a9 st) .none kV doc pm an aL ct/\K.lookup f=some #[oc,od,.func fd,kh]/\PySem.W.codeIn K aL qual=true
 kp:PySem.W.keepIn K (.ref f)=true
variable{qual x:Str}{st:Stmt}{f:Addr}{fd:Ae}{N ps:ag}{k:Nat}{sp:Sp}{P:Ad}{w:Af}{K:ai}{mg:Str->Option Aa}{base:Heap}
theorem bo.ok(F:bo K x qual st f fd)(S:bJ N ps (a9 st))(len:∀vs H Q E,sp vs H Q E->vs.length=ps.length)(fP:∀(aL:Aa) (A:Ag) (outer:List Env) (s:Ab) (H:Hp) (vs:af) (Q:VK) (E:XK),aO k (A.deeper (envOfC qual (a9 st) s.heap.objs.size f aL))->sp vs H Q E->
   ∃t,jZ (i9 a_ P w K mg base N qual (a9 st) f aL A outer s H E).xn (gc st) t/\t { nx:=λ_ H'=>Q .non H',rt:=Q } (start N vs) H):!ao a_ (k+1) f fd ps sp:=by
 let#[oc,od,kV,doc,pm,an,aL,ct,kh,rfl,lk,iG]:=F.ex;apply Qf lk iG S len λA outer s H vs Q E hr kj=>?_;let#[t,h,q]:=fP aL A outer s H vs Q E hr kj;exact#[t,h.xn,q]
theorem bo.bU(F:bo K x qual st f fd)(S:bJ N ps (a9 st))(fP:∀(aL:Aa) (A:Ag) (outer:List Env) (s:Ab) (H:Hp) (vs:af) (Q:VK) (E:XK),aO k (A.deeper (envOfC qual (a9 st) s.heap.objs.size f aL))->sp vs H Q E->
   ∃t,jZ (i9 a_ P w K mg base N qual (a9 st) f aL A outer s H E).xn (gc st) t/\t { nx:=λ_ H'=>Q .non H',rt:=Q } (start N vs) H)(len:∀vs H Q E,sp vs H Q E->vs.length=ps.length:=by intro vs H Q E h;first|(cases h;subst_vars;rfl)|(let#[rfl,_]:=h;rfl)|(let#[_,rfl,_]:=h;rfl)|(let#[_,_,rfl,_]:=h;rfl)|(let#[_,_,_,rfl,_]:=h;rfl)|(let#[_,_,_,_,rfl,_]:=h;rfl)):!ao a_ (k+1) f fd ps sp:=F.ok S len fP
theorem bo.binds(F:bo K x qual st f fd)(h:∀(kV doc pm:Aa) (an:Option Addr) (aL ct:Aa) (us:aj),us.length=ps.length->bindArgs (PySem.W.fnOf x qual (gU st) (gc st) (a9 st) .none kV doc pm an aL ct) #[us,[]]=pure (ps.zip us)):p7 K fd ps []:=by
 let#[oc,od,kV,doc,pm,an,aL,ct,kh,rfl,lk,iG]:=F.ex;exact .all (h kV doc pm an aL ct)
theorem Qw{oc:Aa}{od an:Option Addr}{kh:Array (Option Aa)}{kV doc pm aL ct:Aa}(l:K.lookup f=some #[oc,od,.func (PySem.W.fnOf x qual (gU st) (gc st) (a9 st) .none kV doc pm an aL ct),kh])(c:PySem.W.codeIn K aL qual=true)(k:PySem.W.keepIn K (.ref f)=true):bo K x qual st f (PySem.W.fnOf x qual (gU st) (gc st) (a9 st) .none kV doc pm an aL ct):=#[#[oc,od,kV,doc,pm,an,aL,ct,kh,U,l,c],k]
theorem fG{A:Ag}(hr:aO k A):A.units+1<cLine:=Nat.lt_of_le_of_lt (Nat.add_le_add_left (by decide:1<=64) _) hr.units
theorem pv(i:Nat){pos:Pos}(hN:X.N[i]? = some x:=by rfl)(hv:OJ X.env.scope x:=by first|exact Or.inl U|exact Or.inr (Or.inl U)|exact Or.inr (Or.inr U))(hd:(x == ("__debug__":Str))=false:=by decide)(iG:(x == ("__classdict__":Str))=false:=by decide):PE X (.Name x pos) (oI i):=XC hN hv hd iG
inductive T1 (xs:af) (H:Hp) (Q:VK):Prop
 |mk:∀a kvs,xs=[V.ref a]->H a\.dK kvs->Q (.int kvs.length) H->T1 xs H Q
theorem gj_:gr X (.builtin "len") T1:=by
 intro pins s σ H xs us Q I r h;let#[a,kvs,rfl,ha,q]:=h;let#[u,rfl,ru]:=vals1 r;cases ru;exact XW I (.inl ha) λt s' I'=>#[.int kvs.length,H,I',#[t,U],q]
variable{A B:Prop}
theorem aM(h:B):if false=true then A else B:=by
 rw[aC gM];exact h
theorem c_(h:A):if true=true then A else B:=by
 rw[aI U];exact h
variable{c:Prop}
theorem bQ[Decidable c](h1:c->A)(h2:¬c->B):if c then A else B:=by
 by_cases h:c
 ·rw[aI h];exact h1 h
 rw[aC h];exact h2 h
theorem xR[Decidable c](hc:c)(h:B):if (!decide c)=true then A else B:=by
 rw[cw hc];exact aM h
def aa(H H':Hp):Prop:=∀b o,H b\o->H' b\o
theorem aa.refl(H:Hp):aa H H:=λ_ _ h=>h
variable{H:Hp}
theorem aa.trans{H1 H2:Hp}(a:aa H H1)(b:aa H1 H2):aa H H2:=λc o h=>b c o (a c o h)
theorem aa.free{H':Hp}(e:aa H H'){l:Addr}(h:H' l=Option.none):H l=Option.none:=by
 cases q:H l with
 |none=>rfl
 |some o=>
  rw[e l o q] at h;cases h
section
variable{κ:Type}[DecidableEq κ]
theorem YN{kvs:List (κ × V)}{k:κ}{v:V}(h:aU kvs k\v):k∈kvs.map (·.1):=by
 have q:(kvs.any λkv=>decide (kv.1=k))=true:=by
  rw[B4,h]
  all_goals rfl
 let#[p,hp,e]:=List.any_eq_true.mp q;exact bG.mpr #[p,hp,tI e]
end
end L2
local macro_rules|`(%[$x,*|$_])=>do return (<-x.getElems.foldrM (λe (a:Lean.Term)=>if e.raw.isNatLit?.isSome then`(L2.eV (L2.pv $e) $a)else`(L2.eV $e $a)) (<-`(L2.bK)))
namespace L2
open PySem PySem.Spec PyProof.Rows
def jc(env:Env):List (Str × NameKind)->List (Str × Addr)->List (Str × Addr)
 |[],cs=>cs
 |(n,k)::r,cs=>jc env r (if k == .free then (n,(env.cells.lookup n).getD 0)::cs else cs)
theorem Ov{env:Env}(f:Str × NameKind->List (Str × Addr)->Sem (ForInStep (List (Str × Addr))))
  (hf:∀n k cs,f (n,k) cs=if (k == .free)=true then (do let a <- cellOf env n;pure (.yield ((n,a)::cs))) else pure (.yield cs)) :
  ∀(names:List (Str × NameKind)) (cs:List (Str × Addr)),(∀x∈names,x.2=.free->∃c,env.cells.lookup x.1\c)->forIn names cs f=(pure (jc env names cs):Sem _)
 |[],cs,_=>by rw[u4];rfl
 |(n,k)::r,cs,h=>by
  rw[wH,hf];have hr:∀x∈r,x.2=.free->∃c,env.cells.lookup x.1\c:=λx hx=>h x (fX _ hx);unfold jc;by_cases hk:(k == NameKind.free)=true
  ·let#[c,hc]:=h (n,k) gF ⇑hk;have hc:env.cells.lookup n\c:=hc;rw[aI hk,aI hk];have e:cellOf env n=pure c:=by unfold cellOf;rw[hc]
   rw[e];simp only[pure_bind];rw[Ov f hf r _ hr,hc];rfl
  rw[aC hk,aC hk];simp only[pure_bind];exact Ov f hf r _ hr
variable{scope:Scope}{env:Env}
theorem Um(h:∀x∈scope.names,x.2=.free->∃c,env.cells.lookup x.1\c):closureFor scope env=pure (jc env scope.names []):=by
 simp only[closureFor];rw[Ov (env:=env) _ (λn k cs=>by by_cases hk:(k == NameKind.free)=true<;>simp[hk]) scope.names [] h]
 simp only[pure_bind]
theorem Te{env:Env}:∀{names:List (Str × NameKind)} {cs:List (Str × Addr)} {x:Str} {c:Addr},(x,c)∈jc env names cs->(x,c)∈cs∨((x,NameKind.free)∈names/\c=(env.cells.lookup x).getD 0)
 |[],cs,x,c,h=>.inl h
 |(n,k)::r,cs,x,c,h=>by
  unfold jc at h;rcases Te h with h|⟨h,e⟩
  ·by_cases hk:(k == NameKind.free)=true
   ·rw[aI hk] at h;rcases bY.mp h with q|q
    ·cases q;have:k=.free:=⇑hk
     subst this;exact .inr #[gF,U]
    exact .inl q
   rw[aC hk] at h;exact .inl h
  exact .inr #[fX _ h,e]
theorem NJ{env:Env}:∀{names:List (Str × NameKind)} {cs:List (Str × Addr)} {x:Str},(x,NameKind.free)∈names∨(∃c,(x,c)∈cs)->∃c,(x,c)∈jc env names cs
 |[],cs,x,h=>by
  rcases h with h|h
  ·cases h
  ·exact h
 |(n,k)::r,cs,x,h=>by
  unfold jc;apply NJ ?_;rcases h with h|⟨c,h⟩
  ·rcases bY.mp h with e|h
   ·cases e;exact .inr #[(env.cells.lookup n).getD 0,by rw[aI (by decide)];exact gF]
   exact .inl h
  apply .inr #[c,?_];split
  ·exact fX _ h
  exact h
theorem Os:∀(names:List (Str × NameKind)) (n:Nat) (acc cl:List (Str × Addr)),cellsFrom n names (acc++cl)=cellsFrom n names acc++cl
 |[],_,_,_=>rfl
 |(x,k)::r,n,acc,cl=>by
  unfold cellsFrom;split
  ·exact Os r (n+1) ((x,n)::acc) cl
  exact Os r n acc cl
theorem Oq:∀{names:List (Str × NameKind)} {n:Nat} {acc:List (Str × Addr)} {x:Str} {c:Addr},(x,c)∈cellsFrom n names acc->(x,c)∈acc∨(x,NameKind.cell)∈names
 |[],_,_,_,_,h=>.inl h
 |(y,k)::r,n,acc,x,c,h=>by
  unfold cellsFrom at h;by_cases hk:(k == NameKind.cell)=true
  ·rw[aI hk] at h;rcases Oq h with h|h
   ·rcases bY.mp h with e|h
    ·cases e;have:k=.cell:=⇑hk
     subst this;exact .inr gF
    exact .inl h
   exact .inr (fX _ h)
  rw[aC hk] at h;rcases Oq h with h|h
  ·exact .inl h
  exact .inr (fX _ h)
theorem Ou{α:Type}:∀{l:List (Str × α)} {x:Str} {c:α},(x,c)∈l->∃c',l.lookup x\c'
 |(k,v)::r,x,c,h=>by
  rw[qg];cases hb:x == k with
  |true=>exact#[v,U]
  |false=>
   rcases bY.mp h with e|h
   ·cases e;simp at hb
   exact Ou h
def jL(scope:Scope)(C:Addr)(env:Env):Env:=
 { scope:=relabel scope env,locals:=C,globals:=env.globals,cells:=cellsFrom (C+1) scope.names (jc env scope.names []),qual:=env.qual,func:=none,code:=env.code,frame:=env.frame,builtins:=env.builtins }
theorem T3{M:Model}{A:Ag}{E:Aa->Ab->Prop}{s:Ab}{cl:List (Str × Addr)}{Q:Env->Ab->Prop}(h:Q { scope:=scope,locals:=s.heap.objs.size,globals:=env.globals,cells:=cellsFrom (s.heap.objs.size+1) scope.names cl,qual:=env.qual,func:=none,code:=env.code,frame:=env.frame,builtins:=env.builtins }
   { s with heap:=pushCells (s.heap.push { cls:=.type "dict",data:=.dict #[] }) scope.names }) :
  wpAny M A (newFunctionEnv scope env.globals cl [] env.qual none .none (some env)) Q E s:=by
 simp only[newFunctionEnv,Option.isSome_some,if_true];apply ae (wpAny_alloc ?_);apply ae (wpAny_layCells _ (λname kind cells=>by cases _S:kind == NameKind.cell<;>simp[_S]) _ _ _ _ ?_)
 rw[show ({ s with heap:=s.heap.push { cls:=.type "dict",data:=.dict #[] } }:Ab).heap.objs.size=s.heap.objs.size+1 from mi ..];rw[u4];exact ae (aE (aE h))
def II(PN:ag)(ps:Scope)(N:ag)(own:Nat)(fr:List Nat)(scope:Scope):Bool:=
 decide (scope.kind=.function)&&decide N.Nodup&&decide (own+fr.length=N.length)
 && (scope.names.all λy=>decide (scope.names.lookup y.1\y.2))
 && (scope.names.all λy=>if y.2=.free then decide (ps.names.lookup y.1\.cell) || decide (ps.names.lookup y.1\.free) else true)
 && ((fr.map λj=>PN[j]?) == (N.drop own).map some)
 && ((N.drop own).all λx=>decide (scope.names.lookup x\.free))
structure mQ (PN:ag) (ps:Scope) (N:ag) (own:Nat) (fr:List Nat) (scope:Scope):Prop where
 kind:scope.kind=.function
 nd:N.Nodup
 len:own+fr.length=N.length
 look:∀y∈scope.names,scope.names.lookup y.1\y.2
 par:∀y∈scope.names,y.2=.free->ps.names.lookup y.1\.cell∨ps.names.lookup y.1\.free
 o7:(fr.map λj=>PN[j]?)=(N.drop own).map some
 frk:∀x∈N.drop own,scope.names.lookup x\.free
variable{N:ag}{own:Nat}
theorem mQ.of{PN:ag}{ps:Scope}{fr:List Nat}(h:II PN ps N own fr scope=true):mQ PN ps N own fr scope:=by
 unfold II at h;simp only[Bool.and_eq_true,decide_eq_true_eq,List.all_eq_true,beq_iff_eq] at h;let#[#[#[#[#[#[h1,h2],h3],h4],h5],h6],h7]:=h;apply#[h1,h2,h3,h4,λy hy e=>?_,h6,h7];let q:=h5 y hy;rw[aI e] at q;simpa using q
def AZ(own:Nat)(fr:List Nat)(σ:St):St:=List.replicate own none++fr.map λj=>(σ[j]?).join
def ik(X:Cx)(N:ag)(scope:Scope)(fp:av)(s:Ab)(H:Hp):Cx where
 prog:=X.prog
 w:=X.w
 K:=X.K
 mg:=X.mg
 base:=X.base
 A:=X.A
 N:=N
 df:=s
 j7:=H
 env:=jL scope s.heap.objs.size X.env
 outer:=X.stack
 stack:=X.stack
 ex:=fp
 fn:=λx=>decide (scope.names.lookup x\.local) || decide (scope.names.lookup x\.cell)
 calm:=X.calm
 pn:=[]
 xe:=λ_ _=>False
theorem TV{ps:Scope}{env:Env}(he:env.scope=ps){x:Str}:∀{names:List (Str × NameKind)} {k:NameKind},names.lookup x\k->
  (names.map λ(n,k)=>if (k == NameKind.free&&env.scope.kind == .function&&env.kindOf n == some .cell) then (n,NameKind.cell) else (n,k)).lookup x =
   some (if (k == NameKind.free&&env.scope.kind == .function&&env.kindOf x == some .cell) then .cell else k)
 |(n,k')::r,k,h=>by
  rw[qg] at h;rw[eI];cases hb:x == n with
  |true=>
   rw[hb] at h;cases h;have e:x=n:=⇑hb
   subst e;dsimp only;split<;>simp[qg]
  |false=>
   rw[hb] at h;let ih:=TV he (env:=env) h;dsimp only;split<;>(rw[qg,hb];exact ih)
theorem NL{env:Env}{x:Str}:∀{names:List (Str × NameKind)} {k:NameKind},(names.map λ(n,k)=>if (k == NameKind.free&&env.scope.kind == .function&&env.kindOf n == some .cell) then (n,NameKind.cell) else (n,k)).lookup x\k->∃k',names.lookup x\k'/\(k'=k∨(k'=.free/\k=.cell))
 |(n,k')::r,k,h=>by
  rw[eI] at h;rw[qg];dsimp only at h;cases hb:x == n with
  |true=>
   apply#[k',U,?_];by_cases hc:(k' == NameKind.free&&env.scope.kind == .function&&env.kindOf n == some .cell)=true
   ·rw[aI hc,qg,hb] at h;cases h;simp only[Bool.and_eq_true,beq_iff_eq] at hc;exact .inr #[hc.1.1,U]
   ·rw[aC hc,qg,hb] at h;cases h;exact .inl U
  |false=>
   have h':(r.map λ(n,k)=>if (k == NameKind.free&&env.scope.kind == .function&&env.kindOf n == some .cell) then (n,NameKind.cell) else (n,k)).lookup x\k:=by
    split at h<;>(rw[qg,hb] at h;exact h)
   exact NL h'
theorem dA_{α:Type}{x:Str}{c:α}:∀{l r:List (Str × α)},(l++r).lookup x\c->(x,c)∈l∨(x,c)∈r:=λh=>dI.mp (qd h)
section
variable{X:Cx}{pins:List (Addr × Obj)}{σ:St}{H:Hp}{s:Ab}{N:ag}{own:Nat}{fr:List Nat}{scope:Scope}{fp:av}
theorem Sx(I:Inv X pins σ H s)(S:mQ X.N X.env.scope N own fr scope){x:Str}{c:Addr}(h:(x,c)∈jc X.env scope.names []):X.env.cells.lookup x\c/\(x,NameKind.free)∈scope.names:=by
 rcases Te h with h|⟨h,e⟩
 ·cases h
 let#[c',hc]:=I.ok.has x (S.par _ h U);apply#[?_,h];rw[e,hc];rfl
theorem Inv.block(I:Inv X pins σ H s)(S:mQ X.N X.env.scope N own fr scope)(GZ:∀b∈fp,dh X pins H b)(hfo:∀b∈fp,∃o,s.heap.get? b\o) :
  Inv (ik X N scope fp s H) [] (AZ own fr σ) H { s with heap:=pushCells (s.heap.push { cls:=.type "dict",data:=.dict #[] }) scope.names }:=by
 have kept:∀b o,s.heap.get? b\o->(pushCells (s.heap.push { cls:=.type "dict",data:=.dict #[] }) scope.names).get? b\o:=λb o e=>pushCells_keeps _ _ b o (aQ _ e);let IC:=cellsFrom_ok scope.names (s.heap.push { cls:=.type "dict",data:=.dict #[] }) (s.heap.objs.size+1) [] #[λ_ _ hm=>(nomatch hm),List.Pairwise.nil] (by rw[mi];exact bh _);rw[mi] at IC;have ecs:cellsFrom (s.heap.objs.size+1) scope.names (jc X.env scope.names [])=cellsFrom (s.heap.objs.size+1) scope.names []++jc X.env scope.names []:=Os _ _ [] _
 have g8:∀{x c},(cellsFrom (s.heap.objs.size+1) scope.names (jc X.env scope.names [])).lookup x\c->((x,c)∈cellsFrom (s.heap.objs.size+1) scope.names []/\(x,NameKind.cell)∈scope.names/\s.heap.objs.size+1<=c)∨(X.env.cells.lookup x\c/\(x,NameKind.free)∈scope.names):=λ{x c} h=>by
  rw[ecs] at h;rcases dA_ h with h|h
  ·apply .inl #[h,?_,(IC.empty _ _ h).2];rcases Oq h with q|q
   ·cases q
   exact q
  exact .inr (Sx I S h)
 have Dj:∀{x c},X.env.cells.lookup x\c->c<s.heap.objs.size:=λ{x c} h=>by
  let#[v,hv]:=I.cell x c h;exact hv.lt
 have hb:∀b∈fp,b<s.heap.objs.size:=λb hb=>let #[o,e]:=hfo b hb;bx e
 apply#[#[I.ok.mod,S.kind,I.ok.glob,I.ok.blt,bh _,λx y c h1 h2=>?_,λx hx=>?_,λx c hf h=>?_,I.ok.hd,I.ok.frames,.inl U,λb xI=>#[dD (hb b xI),λx c h=>?_],I.bs,?_,λb o e xI=>?_,λb xI hs=>?_,I.stack,I.m_],
  rfl,I.bare,Un.kept kept,#[_,(Heap.Ns.new s.heap (.type "dict")).keeps (pushCells_keeps _ _),λi x v h1 h2 h3=>?_],λx c h=>?_,I.aA.fresh (bh _),λx c h=>?_,λp hp=>absurd (show p∈([]:List (Addr × Obj)) from hp) Y0,I.aA.kept kept,?_]
 ·-- inj
  rcases g8 h1 with⟨m1,k1,l1⟩|⟨m1,k1⟩<;>rcases g8 h2 with⟨m2,k2,l2⟩|⟨m2,k2⟩
  ·exact name_of_addr IC.apart m1 m2
  ·exact absurd (Dj m2) (Nat.not_lt.mpr (Nat.le_of_succ_le l1))
  ·exact absurd (Dj m1) (Nat.not_lt.mpr (Nat.le_of_succ_le l2))
  exact I.ok.inj x y c m1 m2
 ·-- has
  have key:(x,NameKind.cell)∈scope.names∨(x,NameKind.free)∈scope.names:=by
   rcases hx with hx|hx
   ·let#[k',e,q]:=NL (env:=X.env) (show _\NameKind.cell from hx);let m:=qd e;rcases q with q|⟨q,_⟩
    ·exact .inl (q▸m)
    exact .inr (q▸m)
   let#[k',e,q]:=NL (env:=X.env) (show _\NameKind.free from hx);let m:=qd e;rcases q with q|⟨_,q⟩
   ·exact .inr (q▸m)
   cases q
  show ∃c,(cellsFrom (s.heap.objs.size+1) scope.names (jc X.env scope.names [])).lookup x\c
  have:((cellsFrom (s.heap.objs.size+1) scope.names (jc X.env scope.names [])).lookup x).isSome=true:=by
   apply PySem.W.cellsFrom_some _ _ _ ?_;rcases key with q|q
   ·exact .inl (S.look _ q)
   let#[c,m]:=NJ (env:=X.env) (names:=scope.names) (cs:=[]) (x:=x) (.inl q);let#[c',e]:=Ou m;exact .inr (by rw[e];rfl)
  exact Option.isSome_iff_exists.mp this
 ·-- BZ
  rcases g8 h with⟨_,_,l⟩|⟨_,k⟩
  ·exact Nat.le_of_succ_le l
  let e:=S.look _ k;have hf:(decide (scope.names.lookup x\.local) || decide (scope.names.lookup x\.cell))=true:=hf;rw[show scope.names.lookup x\.free from e] at hf;exact absurd hf (by decide)
 ·rcases g8 h with⟨_,_,l⟩|⟨q,_⟩
  ·exact iu (jt (hb b xI) (Nat.le_of_succ_le l))
  exact (GZ b xI).2.2.2.2.1 x c q
 ·exact iQ I.ok.tS I.sz
 ·rcases (GZ b xI).2.2.2.1 with q|q
  ·exact I.ok.sd b o e q
  exact absurd (jt (bx e) I.ok.tS) Z2
 ·rcases bY.mp (I.kR b hs) with q|q
  ·exact (GZ b xI).2.1 q
  exact (GZ b xI).2.2.1 q
 ·-- names
  have hi:own<=i:=by
   apply Nat.le_of_not_lt λdH=>?_;unfold AZ at h2;rw[yg (by rw[B_];exact dH),List.getElem?_replicate,aI dH] at h2;cases h2
  have gS:(fr.map λj=>(σ[j]?).join)[i - own]? = some (some v):=by
   unfold AZ at h2;rw[Ba (by rw[B_];exact hi),B_] at h2;exact h2
  have h1:N[i]? = some x:=h1;have hx:(N.drop own)[i - own]? = some x:=by rw[List.getElem?_drop,show own+(i - own)=i by omega];exact h1
  rw[dC] at gS;cases ej:fr[i - own]? with
  |none=>rw[ej] at gS;cases gS
  |some j=>
   rw[ej] at gS;have gS:(σ[j]?).join\v:=cX gS
   have sM:σ[j]? = some (some v):=by
    cases q:σ[j]? with
    |none=>rw[q] at gS;cases gS
    |some o=>rw[q] at gS;exact ed some gS
   have hN:X.N[j]? = some x:=by
    let q:=ed (λl=>l[i - own]?) S.o7;simp only[dC,ej,hx,Option.map_some] at q;exact cX q
   let kf:=S.frk x (cZ hx);let mf:=qd kf;let#[m,hm,hv]:=I.loc;let pk:=S.par _ mf U;let#[u,ru,lk]:=hv j x v hN sM (pk.elim (λq=>.inr (.inl q)) λq=>.inr (.inr q));apply#[u,ru,?_];have PH:X.env.kindOf x\.cell∨X.env.kindOf x\.free:=pk;rcases lk with⟨k,_⟩|⟨_,c,hc,oa⟩
   ·rw[k] at PH;rcases PH with q|q<;>cases q
   let#[c',m1]:=NJ (env:=X.env) (names:=scope.names) (cs:=[]) (x:=x) (.inl mf);let e1:=(Sx I S m1).1;rw[hc] at e1;cases e1;apply .inr #[?_,c,?_,oa.keeps kept]
   ·let q:=TV (env:=X.env) U kf;show (relabel scope X.env).names.lookup x\.cell∨(relabel scope X.env).names.lookup x\.free;unfold relabel;rw[q];split
    ·exact .inl U
    exact .inr U
   let#[c2,e2]:=Option.isSome_iff_exists.mp (PySem.W.cellsFrom_some (x:=x) scope.names (s.heap.objs.size+1) (jc X.env scope.names []) (.inr (by let#[c',e]:=Ou m1;rw[e];rfl)));show (cellsFrom (s.heap.objs.size+1) scope.names (jc X.env scope.names [])).lookup x\c;rcases g8 e2 with⟨_,q,_⟩|⟨q,_⟩
   ·have:=S.look _ q;rw[show scope.names.lookup x\.free from kf] at this;cases this
   rw[hc] at q;cases q;exact e2
 ·-- cells
  rcases g8 h with⟨q,_,_⟩|⟨q,_⟩
  ·exact#[_,(IC.empty _ _ q).1]
  let#[v,hv]:=I.cell x c q;exact#[v,hv.keeps kept]
 ·rcases g8 h with⟨q,_,l⟩|⟨q,_⟩
  ·exact I.aA.fresh Z2
  exact I.d6 x c q
 show (AZ own fr σ).length=N.length;unfold AZ;rw[d4,B_,aq];exact S.len
end
def FK(X:Cx)(ifs:List Expr)(t:TT):Prop:=
 ∀(pins:List (Addr × Obj)) (s:Ab) (σ:St) (H:Hp) (Q:Bool->Hp->Prop),Inv X pins σ H s->t σ H Q->
  wpAny (model X.prog X.w) X.A (forIn ifs true λc r=>if r=true then do let ok <- isTrue c X.env (eval c X.env);pure (ForInStep.yield ok) else pure (ForInStep.yield r)) (TP X pins σ Q) X.xe s
def qu:TT:=λ_ H Q=>Q true H
variable{σ:St}
theorem fw{H:Hp}{A B:Hp->Prop}(h:A H):qu σ H λb H4=>if b=true then A H4 else B H4:=by
 unfold qu;exact c_ h
variable{X:Cx}
theorem kE:FK X [] qu:=λ_ _ _ H _ I h=>wpAny_tests_nil #[H,I,h]
theorem Ih{c:Expr}{t:TT}(h:PT X c t):FK X [c] t:=λpins s σ H Q I q=>wpAny_tests_one (h pins s σ H Q I q)
def AJ(J:It)(g:TG)(tc:TT)(te:TE)(kP:St)(D:Addr)(H1:Hp)(Q:VK):Prop:=∃W:Nat->Nat->St->Hp->Prop,
 (∃m,W 0 m kP (upd H1 D (.lst [])))/\∀i m aZ H',W i m aZ H'->(J.stop i H'/\Q (.ref D) H') ∨
  (J.go i H'/\∃Nx:St->Hp->Prop,(∀fu H2,Nx fu H2->∃m',m'<m/\W (i+1) m' fu H2) /\
   ∀x H2,J.ux i H' x H2->g x aZ H2 λke H3=>tc ke H3 λb H4=>if b=true then te ke H4 λy H5=>∃out,H5 D\.lst out/\out.length<sizeLine/\Nx ke (upd H5 D (.lst (out++[y]))) else Nx ke H4)
def wY(wi:TI)(own:Nat)(fr:List Nat)(g:TG)(tc:TT)(te:TE):TE:=λσ H Q=>wi σ H λJ H1=>∀D,H1 D=none->AJ J g tc te (AZ own fr σ) D H1 Q
variable{Q:VK}{J:It}{D:Addr}{elt iter tg:Expr}{ifs:List Expr}{pos:Pos}{g:TG}{tc:TT}{te:TE}
theorem RG{R:Result->Ab->Prop}{fr:List Nat}{pins:List (Addr × Obj)}{H1:Hp}{s2:Ab}{it:Addr}{fp:av}{tn:Nat->Heap->Prop}(S:mQ X.N X.env.scope N own fr scope)(hc:X.calm=true)(hg:∀fp s H,PG (ik X N scope fp s H) tg g)(ht:∀fp s H,FK (ik X N scope fp s H) ifs tc)(he:∀fp s H,PE (ik X N scope fp s H) elt te)(I3:Inv X pins σ (upd H1 D (.lst [])) s2)(T:Turn X.prog X.w X.K tg J fp it tn)(st:tn 0 s2.heap)(f2:∀b∈fp,dh X pins (upd H1 D (.lst [])) b)(k:AJ J g tc te (AZ own fr σ) D H1 Q)(hR:∀H' s',Inv X pins σ H' s'->(∃m,s'.heap.Ns s2.heap.objs.size m)->H' s2.heap.objs.size=none->Q (.ref D) H'->R (.ok .next) s') :
  codeAny (model X.prog X.w) X.A (.compStart (.ListComp elt [#[tg,iter,ifs,0]] scope pos) 0 (.ref it) (.ref D) (jL scope s2.heap.objs.size X.env)) R
   { s2 with heap:=pushCells (s2.heap.push { cls:=.type "dict",data:=.dict #[] }) scope.names }:=by
 let#[W,#[m0,w0],turn]:=k;let I4:=I3.block (N:=N) S f2 (λb hb=>let #[o,e,_]:=T.obj _ _ st b hb;#[o,e]);have kept:∀b o,s2.heap.get? b\o->(pushCells (s2.heap.push { cls:=.type "dict",data:=.dict #[] }) scope.names).get? b\o:=λb o e=>pushCells_keeps _ _ b o (aQ _ e);have gR:tn 0 (pushCells (s2.heap.push { cls:=.type "dict",data:=.dict #[] }) scope.names):=T.keep _ _ _ st λb hb o e=>kept b o e
 have fx:∀{H':Hp},(∀b∈fp,H' b=none)->∀b∈fp,dh (ik X N scope fp s2 (upd H1 D (.lst []))) [] H' b:=λhn b hb=>
  #[hn b hb,(I4.ok.Hh b hb).1,I4.ok.tw b hb,.inl hb,(I4.ok.Hh b hb).2,λp hp=>absurd (show p∈([]:List (Addr × Obj)) from hp) Y0]
 have loop:codeAny (model X.prog X.w) X.A (.compLoop (.ListComp elt [#[tg,iter,ifs,0]] scope pos) 0 (.ref it) (.ref D) (jL scope s2.heap.objs.size X.env)) R
   { s2 with heap:=pushCells (s2.heap.push { cls:=.type "dict",data:=.dict #[] }) scope.names }:=by
  apply codeAny_loop U (λn s'=>∃i aZ H',Inv (ik X N scope fp s2 (upd H1 D (.lst []))) [] aZ H' s'/\tn i s'.heap/\(∀b∈fp,H' b=none)/\W i n aZ H') (λn s' hI=>?_) m0 #[0,_,_,I4,gR,λb hb=>(f2 b hb).1,w0];let#[i,aZ,H',I5,gi,o8,w5]:=hI;show wpAny _ X.A ((compTurn (.ListComp elt [#[tg,iter,ifs,0]] scope pos) 0 (.ref it) (.ref D) (jL scope s2.heap.objs.size X.env)).onRaise (λx=>do noteFrame x (jL scope s2.heap.objs.size X.env);theTreesLotGoes x)) _ _ s';apply wpAny_noted (wpAny_mono (E:=λ_ _=>False) ?_ (λ_ _ q=>q) λ_ _ q=>q.elim);rw[compTurn_list];apply ae (wpAny_standAt (ae ?_));rcases turn i n aZ H' w5 with⟨stop,q⟩|⟨go,Nx,hN,step⟩
  ·apply aN (T.done (ik X N scope fp s2 (upd H1 D (.lst []))) U U U hc i [] s' aZ H' _ I5 (fx o8) gi stop) λr s6 ⟨hr,I6⟩=>?_;subst hr;apply aE (hR H' s6 (I3.Fe I6.os I6.base I6.aA I6.bare λb hb=>?_) ?_ I6.free q)
   ·exact#[(f2 b hb).2.2.2.1,(f2 b hb).2.1,(f2 b hb).2.2.2.2.1,(f2 b hb).2.2.2.2.2]
   let#[m,hm,_]:=I6.loc;exact#[m,hm]
  apply aN (T.item (ik X N scope fp s2 (upd H1 D (.lst []))) U U U hc i [] s' aZ H' _ I5 (fx o8) gi go) λr s6 ⟨u,hr,h6⟩=>?_;subst hr;apply ae (aN h6 λ_ s7 ⟨x,H7,I7,r7,y7,i0,xO⟩=>?_);let I7':=I7.pinned (fx xO) (T.obj _ _ i0)
  have back:∀{uw:St} {H8:Hp} {s8:Ab},Inv (ik X N scope fp s2 (upd H1 D (.lst []))) ([]++wF fp s7.heap) uw H8 s8->Nx uw H8->∃m,m<n/\∃i aZ H',Inv (ik X N scope fp s2 (upd H1 D (.lst []))) [] aZ H' s8/\tn i s8.heap/\(∀b∈fp,H' b=none)/\W i m aZ H':=λ{uw H8 s8} I8 n8=>by
   let#[m',hm,w8]:=hN uw H8 n8;apply#[m',hm,i+1,uw,H8,I8.eM,T.keep _ _ _ i0 λb hb o e=>(I8.pin (b,o) (kL _ (kL _ (Jb hb e)))).1,λb hb=>?_,w8];let#[o,e,d]:=T.obj _ _ i0 b hb;exact (I8.pin (b,o) (kL _ (kL _ (Jb hb e)))).2.1
  apply ae (aN (hg fp s2 (upd H1 D (.lst [])) _ s7 aZ H7 x u _ I7' r7 (step x H7 y7)) λ_ s8 ⟨uw,H8,I8,q8⟩=>?_);apply ae (aN (ht fp s2 (upd H1 D (.lst [])) _ s8 uw H8 _ I8 q8) λb s9 ⟨H9,I9,q9⟩=>?_);cases b with
  |false=>
   simp only[qi,if_false] at q9 ⊢;exact aE #[U,back I9 q9]
  |true=>
   simp only[if_true] at q9 ⊢;apply ae (ae (aN (he fp s2 (upd H1 D (.lst [])) _ s9 uw H9 _ I9 q9) λy C8 ⟨yv,H10,I10,We,out,hD,hz,Kd⟩=>?_));apply ae (aN (wC (X:=ik X N scope fp s2 (upd H1 D (.lst []))) _ C8 uw H10 (.ref D) [yv] (.ref D) [y] (λ_ H'=>Nx uw H') I10 U (.cons We .nil) #[D,out,yv,U,U,hD,hz,Kd]) λ_ s11 ⟨_,OV,I11,_,Kc⟩=>?_);exact aE (aE #[U,back I11 Kc])
 exact codeAny_compStart_list loop (T.self _ 0 _ _ _ gR loop)
variable{wi:TI}
theorem js(N:ag)(own:Nat)(fr:List Nat)(hi:PI X tg iter wi)(hg:∀fp s H,PG (ik X N scope fp s H) tg g)(ht:∀fp s H,FK (ik X N scope fp s H) ifs tc)(he:∀fp s H,PE (ik X N scope fp s H) elt te)
  (S:II X.N X.env.scope N own fr scope=true:=by kernel_rfl) (hc:X.calm=true:=by rfl) (hs:∀x,foldedSetIterable iter X.env x=pure x:=by intro _;rfl) :
  PE X (.ListComp elt [#[tg,iter,ifs,0]] scope pos) (wY wi own fr g tc te):=by
 intro pins s σ H Q I h;let S':=mQ.of S;rw[eval_ListComp];have sW:closureFor scope X.env=pure (jc X.env scope.names []):=Um λx hx e=>I.ok.has x.1 (S'.par x hx e);apply wpAny_comprehension_free (use:=none) U hs sW S'.kind (λx hx e=>by rw[S'.look x hx,e]) (aN (hi pins s σ H _ I h) λv s1 h1=>aN h1 λGJ s2 h2=>?_);let#[it,fp,tn,J,H1,rfl,I2,T,eU,f2,k]:=h2;apply p9 (T3 ?_);have hD:H1 s2.heap.objs.size=none:=I2.fresh;let I3:=I2.zA (ys:=[]) (its:=[]) (t':=s2.toks) .nil (gO _);have kept:∀b o,s2.heap.get? b\o->(s2.heap.push { cls:=.type "list",data:=.seq ([]:aj).toArray }).get? b\o:=λb o e=>aQ _ e;apply RG (own:=own) (fr:=fr) (Q:=Q) S' hc hg ht he I3 T (T.keep _ _ _ eU λb hb o e=>kept b o e) (λb hb=>?_) (k _ hD) ?_
 ·apply#[?_,(f2 b hb).2];let#[o,e,_]:=T.obj _ _ eU b hb;rw[aw (dD (bx e))];exact (f2 b hb).1
 rintro H' s' I' ⟨m,hm⟩ hn q;apply#[m,hm,λh' hs'=>#[.ref s2.heap.objs.size,H',?_,U,q]]
 exact I'.turned (t':=s'.toks) (λb o hb e=>hs'.extBut b o hb e) hn (iu I3.lt) (.inr I3.sz) (λx c LH e=>by
  let#[v,hv]:=I3.cell x c LH
  exact absurd hv.lt (by rw[e];exact ub _)) λp hp e=>by
   have:=(I3.pin p hp).1;rw[e] at this;exact absurd (bx this) (ub _)
def CN(i:Nat)(te:TE):TS:=λD σ H=>te σ H λx H1=>D.nx (σ.set i (some x)) H1
theorem RB{i:Nat}{x:Str}{px:Pos}(N:ag)(own:Nat)(fr:List Nat)(hN:X.N.Nodup)(_Z:X.N[i]? = some x)(hx:Loc X.env.scope x)
  (hi:PI X tg iter wi) (hg:∀fp s H,PG (ik X N scope fp s H) tg g) (ht:∀fp s H,FK (ik X N scope fp s H) ifs tc) (he:∀fp s H,PE (ik X N scope fp s H) elt te) {pos':Pos}
  (S:II X.N X.env.scope N own fr scope=true:=by kernel_rfl) (hc:X.calm=true:=by rfl) (hs:∀x,foldedSetIterable iter X.env x=pure x:=by intro _;rfl)
  (hf:X.fn x=true∨X.env.scope.names.lookup x\.local:=by first|exact .inl U|exact .inr U|assumption)
  (_x:swapsWith (.ListComp elt [#[tg,iter,ifs,0]] scope pos) (some (.Name x px)) pos'.line X.env=pure true:=by rfl) :
  PS X (.Assign [.Name x px] (.ListComp elt [#[tg,iter,ifs,0]] scope pos) pos') (CN i (wY wi own fr g tc te)):=by
 intro pins s σ H E I h;let S':=mQ.of S;rw[exec_Assign_Name_used _ _ _ _ _x];apply ae (wpAny_standAt (ae ?_));show wpAny _ X.A (do let _ <- comprehension (.ListComp elt [#[tg,iter,ifs,0]] scope pos) scope X.env _ (newList []) false (eval iter X.env) (some (assign (.Name x px) X.env))) _ _ s;have sW:closureFor scope X.env=pure (jc X.env scope.names []):=Um λx hx e=>I.ok.has x.1 (S'.par x hx e)
 apply ae (wpAny_mono (wpAny_comprehension_free (use:=some (assign (.Name x px) X.env)) (Q:=λ_ s'=>SP X pins E .next s') U hs sW S'.kind (λx hx e=>by rw[S'.look x hx,e]) (aN (hi pins s σ H _ I h) λv s1 h1=>aN h1 λGJ s2 h2=>?_))
  (λ_ s' hq=>aE (aE hq)) λ_ _ e=>e)
 let#[it,fp,tn,J,H1,rfl,I2,T,eU,f2,k]:=h2;apply p9 (T3 ?_);have hD:H1 s2.heap.objs.size=none:=I2.fresh;let I3:=I2.zA (ys:=[]) (its:=[]) (t':=s2.toks) .nil (gO _);have kept:∀b o,s2.heap.get? b\o->(s2.heap.push { cls:=.type "list",data:=.seq ([]:aj).toArray }).get? b\o:=λb o e=>aQ _ e;apply RG (own:=own) (fr:=fr) (Q:=λx H1=>E.nx (σ.set i (some x)) H1) S' hc hg ht he I3 T (T.keep _ _ _ eU λb hb o e=>kept b o e) (λb hb=>?_) (k _ hD) ?_
 ·apply#[?_,(f2 b hb).2];let#[o,e,_]:=T.obj _ _ eU b hb;rw[aw (dD (bx e))];exact (f2 b hb).1
 rintro H' s' I' ⟨m,hm⟩ hn q
 have uK:∀y c,X.env.cells.lookup y\c->c≠(s2.heap.push { cls:=.type "list",data:=.seq ([]:aj).toArray }).objs.size:=λy c LH e=>by
  let#[v,hv]:=I3.cell y c LH;exact absurd hv.lt (by rw[e];exact ub _)
 show wpAny _ X.A (assign (.Name x px) X.env (.ref s2.heap.objs.size)) _ _ s';apply wpAny_assign_Name (Tr (v:=V.ref s2.heap.objs.size) I' hN _Z hx U (λpK I'' ⟨a,pQ,ha⟩=>?_) hf)
 have hCa:(s2.heap.push { cls:=.type "list",data:=.seq ([]:aj).toArray }).objs.size≠a:=by
  rcases ha with e|e
  ·rw[e];exact iu I3.lt
  exact (uK x a e).symm
 apply#[m,hm.sameBut pQ hCa,λh' hs'=>#[_,H',?_,q]]
 exact I''.turned (t':=pK.toks) (λb o hb e=>hs'.extBut b o hb e) hn (iu I3.lt) (.inr I3.sz) uK λp hp e=>by
   have:=(I3.pin p hp).1;rw[e] at this;exact absurd (bx this) (ub _)
def Cd(g:TG)(own:Nat)(fv:List aH)(dec:V->Hp->List aH->Prop):Prop:=
 ∀(x:V) (o:List aH) (H:Hp) (k:iS) (o3:List aH),o.length=own->dec x H o3->k (o3++fv) H->g x (o++fv) H k
variable{fv:List aH}
theorem fE:Cd (jP 0) 1 fv (λx _ o3=>o3=[some x]):=λx o H k o3 hl e h=>by
 subst e
 match o,hl with
 |[a],_=>exact h
inductive E8 (K:ai) (x:V) (H:Hp) (o3:List aH):Prop
 |mk:∀p u v,x=.ref p->er K H p [u,v]->o3=[some u,some v]->E8 K x H o3
inductive E7 (K:ai) (x:V) (H:Hp) (o3:List aH):Prop
 |mk:∀p u v w,x=.ref p->er K H p [u,v,w]->o3=[some u,some v,some w]->E7 K x H o3
variable{K:ai}
theorem Ar:Cd (fR K 2 (pW (jP 0) (pW (jP 1) tj))) 2 fv (E8 K):=λx o H k o3 hl e h=>by
 let#[p,u,v,rfl,hp,rfl]:=e
 match o,hl with
 |[a,b],_=>exact#[p,[u,v],U,hp,U,u,[v],U,v,[],U,U,h]
theorem LY:Cd (fR K 3 (pW (jP 0) (pW (jP 1) (pW (jP 2) tj)))) 3 fv (E7 K):=λx o H k o3 hl e h=>by
 let#[p,u,v,w,rfl,hp,rfl]:=e
 match o,hl with
 |[a,b,c],_=>exact#[p,[u,v,w],U,hp,U,u,[v,w],U,v,[w],U,w,[],U,U,h]
variable{H:Hp}{dec:V->Hp->List aH->Prop}{kP:St}
theorem H_(sM:kP=List.replicate own none++fv)(G:Cd g own fv dec)(n:Nat)(Pv:Nat->af->Hp->Prop)(h0:Pv 0 [] (upd H D (.lst [])))(D_:∀out H',Pv n out H'->J.stop n H'/\Q (.ref D) H')(Ez:∀i out H',i<n->Pv i out H'->J.go i H'/\∀x H2,J.ux i H' x H2->∃o3,dec x H2 o3/\o3.length=own/\∀Nx:Hp->Prop,(∀lY H2,Pv (i+1) lY H2->Nx H2)->
   tc (o3++fv) H2 λb H4=>if b=true then te (o3++fv) H4 λy H5=>∃gj,H5 D\.lst gj/\gj.length<sizeLine/\Nx (upd H5 D (.lst (gj++[y]))) else Nx H4) :
  AJ J g tc te kP D H Q:=by
 subst sM;apply#[λi m aZ H'=>m=n - i/\i<=n/\(∃o:List aH,aZ=o++fv/\o.length=own)/\∃out,Pv i out H',#[n,by simp,gO _,#[_,U,B_],_,h0],?_];rintro i m aZ H' ⟨rfl,hi,⟨o,rfl,ho⟩,out,p⟩;by_cases dH:i<n
 ·let#[go,k]:=Ez i out H' dH p;apply .inr #[go,λfu H2=>(∃o:List aH,fu=o++fv/\o.length=own)/\∃out,Pv (i+1) out H2,λfu H2 q=>#[n - (i+1),by omega,U,dH,q],λx H2 y=>?_];let#[o3,d,l3,q]:=k x H2 y;exact G x o H2 _ o3 ho d (q (λH2=>(∃o:List aH,o3++fv=o++fv/\o.length=own)/\∃out,Pv (i+1) out H2) λlY H2 z=>#[#[o3,U,l3],lY,z])
 have e:i=n:=by omega
 subst e;exact .inl (D_ out H' p)
theorem kK{a:Addr}{xs:af}(sM:kP=List.replicate own none++fv)(G:Cd g own fv dec)(Pv:Nat->af->Hp->Prop)(h0:Pv 0 [] (upd H D (.lst [])))(hl:∀i out H',i<=xs.length->Pv i out H'->dS K H' a xs)(hd:∀out H',Pv xs.length out H'->Q (.ref D) H')(Ez:∀i x out H',xs[i]? = some x->Pv i out H'->∃o3,dec x H' o3/\o3.length=own/\∀Nx:Hp->Prop,(∀lY H2,Pv (i+1) lY H2->Nx H2)->
   tc (o3++fv) H' λb H4=>if b=true then te (o3++fv) H4 λy H5=>∃gj,H5 D\.lst gj/\gj.length<sizeLine/\Nx (upd H5 D (.lst (gj++[y]))) else Nx H4) :
  AJ (ym K a) g tc te kP D H Q:=by
 apply H_ sM G xs.length Pv h0 (λout H' p=>#[#[xs,hl _ _ _ (bh _) p,bh _],hd out H' p]) λi out H' hi p=>?_;let q:=hl i out H' (Nat.le_of_lt hi) p;apply#[#[xs,xs[i],q,by simp[hi]],λx H2 y=>?_];let#[e,y]:=y;subst e;exact Ez i x out _ (y xs q) p
end L2
namespace yo
open PySem PySem.W PyProof.Rows
def Ok{α:Type}(f:Nat->Nat->Bool)(n:Nat):KasT α->(α->Prop)->Prop
 |.ret a,Q=>Q a
 |.ask i j k,Q=>i<n/\j<n/\Ok f n (k (f i j)) Q
theorem Ok.bind{α β:Type}{f:Nat->Nat->Bool}{n:Nat}{g:α->KasT β}{Q:β->Prop}:∀{t:KasT α} {R:α->Prop},Ok f n t R->(∀a,R a->Ok f n (g a) Q)->Ok f n (t.bind g) Q
 |.ret a,R,h,k=>k a h
 |.ask i j t,R,h,k=>#[h.1,h.2.1,Ok.bind h.2.2 k]
theorem Ok.imp{α:Type}{f:Nat->Nat->Bool}{n:Nat}{Q R:α->Prop}(k:∀a,Q a->R a):∀{t:KasT α},Ok f n t Q->Ok f n t R
 |.ret a,h=>k a h
 |.ask i j t,h=>#[h.1,h.2.1,Ok.imp k h.2.2]
theorem Ok.wp{α:Type}{f:Nat->Nat->Bool}{n:Nat}{cmp:Nat->Nat->(Bool->Ab->Prop)->Ab->Prop}{s:Ab}(hc:∀i j C,i<n->j<n->C (f i j) s->cmp i j C s){Q:α->Prop}{G:α->Ab->Prop}(k:∀a,Q a->G a s) :
  ∀{t:KasT α},Ok f n t Q->t.kasWp cmp G s
 |.ret a,h=>k a h
 |.ask i j t,h=>hc i j _ h.1 h.2.1 (Ok.wp hc k h.2.2)
structure Ord (f:Nat->Nat->Bool):Prop where
 fA:∀i,f i i=false
 trans:∀{i j k},f j i=false->f k j=false->f k i=false
 F1:∀{i j},f i j=true->f j i=false
variable{p:Array Nat}
variable{i j:Nat}
variable{k:Nat}
variable{n:Nat}
variable{lo:Nat}
variable{dE:Nat}
section
variable{f:Nat->Nat->Bool}(O:Ord f){N:Nat}
abbrev at'(p:Array Nat)(i:Nat):Nat:=p.getD i 0
def Up(f:Nat->Nat->Bool)(p:Array Nat)(k:Nat):Prop:=∀i j,i<=j->j<k->f (at' p j) (at' p i)=false
def Down(f:Nat->Nat->Bool)(p:Array Nat)(k:Nat):Prop:=∀i j,i<=j->j<k->f (at' p i) (at' p j)=false
def pG(f:Nat->Nat->Bool)(p:Array Nat)(lo k:Nat):Prop:=∀i,lo<=i->i<k->f (at' p i) (at' p (k - 1))=false/\f (at' p (k - 1)) (at' p i)=false
def Good(N:Nat)(p:Array Nat):Prop:=p.Perm (List.range N).toArray
theorem Good.size(h:Good N p):p.size=N:=by
 have:=h.size_eq;simpa using this
theorem Good.lt(h:Good N p)(hN:0<N)(i:Nat):at' p i<N:=by
 unfold at';by_cases hi:i<p.size
 ·have e:p.getD i 0=p[i]:=by simp[Array.getD,hi]
  rw[e];have m:p[i]∈(List.range N).toArray:=h.mem_iff.mp (Array.getElem_mem hi);simpa using m
 have e:p.getD i 0=0:=by simp[Array.getD,hi]
 rw[e];exact hN
theorem Good.rev(h:Good N p)(i j:Nat):Good N (kas_rev p i j):=(mirror_perm _ _ _ _).trans h
theorem Good.bub(h:Good N p)(i j:Nat):Good N (bubble p i j):=(bubble_perm _ _ _).trans h
theorem Fj{q:Array Nat}(h:p[i]? = q[j]?):at' p i=at' q j:=by
 unfold at';rw[Array.getD_eq_getD_getElem?,Array.getD_eq_getD_getElem?,h]
theorem AV(hj:j<=p.size)(k:Nat):at' (kas_rev p i j) k=if i<=k/\k<j then at' p (i+j - 1 - k) else at' p k:=by
 let e:=getElem?_mirror_all (i:=i) hj k;unfold kas_rev;split
 ·rename_i c
  rw[aI c] at e;exact Fj e
 rename_i c
 rw[aC c] at e;exact Fj e
theorem QD{l:Nat}(hk:k<p.size)(hl:l<=k)(i:Nat):at' (bubble p k (k - l)) i=if i=l then at' p k else if l<i/\i<=k then at' p (i - 1) else at' p i:=by
 let e:=getElem?_bubble hk (k - l) Z2 i;rw[show k - (k - l)=l by omega] at e;by_cases c:i=l
 ·rw[aI c] at e ⊢;exact Fj e
 rw[aC c] at e ⊢;split
 ·rename_i d
  rw[aI d] at e;exact Fj e
 rename_i d
 rw[aC d] at e;exact Fj e
include O
theorem Up.more(h:Up f p n)(h1:1<=n)(c:f (at' p n) (at' p (n - 1))=false):Up f p (n+1):=λi j n5 hj=>by
 by_cases e:j<n
 ·exact h i j n5 e
 have e:j=n:=by omega
 subst e;by_cases e2:i=j
 ·subst e2;exact O.fA _
 exact O.trans (h i (j - 1) Z2 Z2) c
theorem Down.more(h:Down f p n)(h1:1<=n)(c:f (at' p (n - 1)) (at' p n)=false):Down f p (n+1):=λi j n5 hj=>by
 by_cases e:j<n
 ·exact h i j n5 e
 have e:j=n:=by omega
 subst e;by_cases e2:i=j
 ·subst e2;exact O.fA _
 exact O.trans c (h i (j - 1) Z2 Z2)
theorem L8{p:Array Nat}(g:Good N p)(hN:0<N):∀(m n:Nat),1<=n->Up f p n->Ok f N (kas_asc p m n) λr=>n<=r/\r<=n+m/\Up f p r/\(r<n+m->f (at' p r) (at' p (r - 1))=true)
 |0,n,_,h=>#[bh _,bh _,h,λq=>absurd q Z2]
 |m+1,n,h1,h=>by
  apply#[g.lt hN _,g.lt hN _,?_];dsimp only;by_cases c:f (at' p n) (at' p (n - 1))=true
  ·rw[aI c];exact#[bh _,by omega,h,λ_=>c]
  rw[aC c];apply (L8 g hN m (n+1) Z2 (h.more O h1 ⇑c)).imp λr ⟨a,b,u,z⟩=>#[by omega,by omega,u,λq=>z Z2]
theorem pG.rev(h:pG f p lo k)(hk:k<=p.size)(i:Nat):f (at' (kas_rev p lo k) i) (at' p i)=false/\f (at' p i) (at' (kas_rev p lo k) i)=false:=by
 rw[AV hk];split
 ·rename_i c
  let#[a1,a2]:=h i c.1 c.2;let#[b1,b2]:=h (lo+k - 1 - i) Z2 Z2;exact#[O.trans a2 b1,O.trans b2 a1]
 exact#[O.fA _,O.fA _]
theorem Down.rev(h:Down f p n)(l:pG f p lo k)(hk:k<=p.size):Down f (kas_rev p lo k) n:=λi j n5 hj=>by
 let#[a1,_]:=l.rev O hk i;let#[_,b2]:=l.rev O hk j;exact O.trans (O.trans b2 (h i j n5 hj)) a1
theorem Ig(hN:0<N):∀(m:Nat) (p:Array Nat) (n q:Nat),Good N p->1<=n->q+1<=n->n+m<=N->Down f p n->pG f p (n - (q+1)) n->
  Ok f N (kas_desc m p n q) λr=>Good N r.1/\n<=r.2.1/\r.2.1<=n+m/\Down f r.1 r.2.1/\r.2.2+1<=r.2.1/\pG f r.1 (r.2.1 - (r.2.2+1)) r.2.1
 |0,p,n,q,g,h1,hq,hn,d,l=>#[g,bh _,bh _,d,hq,l]
 |m+1,p,n,q,g,h1,hq,hn,d,l=>by
  apply#[g.lt hN _,g.lt hN _,?_];dsimp only;by_cases c:f (at' p n) (at' p (n - 1))=true
  ·rw[aI c];have d2:Down f p (n+1):=d.more O h1 (O.F1 c)
   have one:∀p':Array Nat,pG f p' (n+1 - (0+1)) (n+1):=λp' i h2 h3=>by
    have e:i=n+1 - 1:=by omega
    subst e;exact#[O.fA _,O.fA _]
   by_cases QR:q > 0
   ·rw[aI QR];have hk:n<=p.size:=by rw[g.size];omega
    exact (Ig hN m _ (n+1) 0 (g.rev _ _) Z2 Z2 Z2 (d2.rev O l hk) (one _)).imp λr ⟨a,b,b2,z⟩=>#[a,by omega,by omega,z]
   rw[aC QR];exact (Ig hN m _ (n+1) 0 g Z2 Z2 Z2 d2 (one _)).imp λr ⟨a,b,b2,z⟩=>#[a,by omega,by omega,z]
  rw[aC c];apply#[g.lt hN _,g.lt hN _,?_];dsimp only;have c:f (at' p n) (at' p (n - 1))=false:=⇑c
  by_cases e:f (at' p (n - 1)) (at' p n)=true
  ·rw[aI e];exact#[g,bh _,by show n<=n+(m+1);omega,d,hq,l]
  rw[aC e];have e:f (at' p (n - 1)) (at' p n)=false:=⇑e
  apply (Ig hN m p (n+1) (q+1) g Z2 Z2 Z2 (d.more O h1 e) λi h2 h3=>?_).imp λr ⟨a,b,b2,z⟩=>#[a,by omega,by omega,z];show f (at' p i) (at' p n)=false/\f (at' p n) (at' p i)=false;by_cases ei:i=n
  ·subst ei;exact#[O.fA _,O.fA _]
  let#[a1,a2]:=l i Z2 Z2;exact#[O.trans e a1,O.trans a2 c]
def MY(f:Nat->Nat->Bool)(N dE:Nat)(r:Nat × Array Nat):Prop:=Good N r.2/\1<=r.1/\r.1<=dE/\Up f r.2 r.1
theorem HV(hN:0<N)(g:Good N p)(h1:1<=n)(hn:n<=dE)(hr:dE<=N)(d:Down f p n):Ok f N (kas_tail3 n dE p) (MY f N dE):=by
 unfold kas_tail3
 have u:Up f (kas_rev p 0 n) n:=λi j n5 hj=>by
  rw[AV (by rw[g.size];omega),AV (by rw[g.size];omega),aI Z2,aI Z2];exact d _ _ Z2 Z2
 exact (L8 O (g.rev _ _) hN (dE - n) n h1 u).bind λm ⟨a,b,u,_⟩=>#[g.rev _ _,by show 1<=m;omega,by show m<=dE;omega,u]
theorem TY(hN:0<N)(g:Good N p)(hn:n+1<=dE)(hr:dE<=N)(d:Down f p (n+1)):Ok f N (kas_descPart n dE p) (MY f N dE):=by
 unfold kas_descPart;apply (Ig O hN (dE - (n+1)) p (n+1) 0 g Z2 Z2 Z2 d λi h2 h3=>?_).bind λr ⟨g',a,b,d',hq,l⟩=>?_
 ·have e:i=n+1 - 1:=by omega
  subst e;exact#[O.fA _,O.fA _]
 split
 ·exact HV O hN (g'.rev _ _) Z2 Z2 hr (d'.rev O l (by rw[g'.size];omega))
 exact HV O hN g' Z2 Z2 hr d'
theorem ZN(hN:0<N)(g:Good N p)(h1:1<=dE)(hr:dE<=N):Ok f N (kas_count dE p) (MY f N dE):=by
 unfold kas_count;apply (L8 O g hN (dE - 1) 1 (bh _) λi j n5 hj=>?_).bind λn ⟨a,b,u,st⟩=>?_
 ·have e:i=j:=by omega
  subst e;exact O.fA _
 by_cases e:(n == dE)=true
 ·rw[aI e];exact#[g,a,by show n<=dE;omega,u]
 rw[aC e];have e:n≠dE:=⇑e
 let c:=st Z2;by_cases h2:n > 1
 ·rw[aI h2];apply#[g.lt hN _,g.lt hN _,?_];dsimp only;by_cases c2:f (at' p 0) (at' p (n - 1))=true
  ·rw[aI c2];exact#[g,a,by show n<=dE;omega,u]
  rw[aC c2];have c2:f (at' p 0) (at' p (n - 1))=false:=⇑c2
  apply TY O hN (g.rev _ _) Z2 hr λi j n5 hj=>?_;by_cases ej:j<n
  ·rw[AV (by rw[g.size];omega),AV (by rw[g.size];omega),aI Z2,aI Z2];exact u _ _ Z2 Z2
  have ej:j=n:=by omega
  subst ej;by_cases ei:i=j
  ·subst ei;exact O.fA _
  rw[AV (by rw[g.size];omega),AV (by rw[g.size];omega),aI Z2,aC Z2];exact O.trans (O.trans (O.F1 c) c2) (u 0 _ Z2 Z2)
 rw[aC h2];have e1:n=1:=by omega
 subst e1;apply TY O hN g Z2 hr λi j n5 hj=>?_;by_cases ei:i=j
 ·subst ei;exact O.fA _
 have q1:i=0:=by omega
 have q2:j=1:=by omega
 subst q1;subst q2;exact O.F1 c
theorem Nc(hN:0<N){p:Array Nat}{k:Nat}(g:Good N p)(u:Up f p k):∀(m l r:Nat),r - l<=m->l<=r->r<=k->(∀i,i<l->f (at' p k) (at' p i)=false)->(∀i,r<=i->i<k->f (at' p k) (at' p i)=true)->
  Ok f N (kas_place p k m l r) λx=>x<=k/\(∀i,i<x->f (at' p k) (at' p i)=false)/\∀i,x<=i->i<k->f (at' p k) (at' p i)=true
 |0,l,r,hm,hl,hr,h1,h2=>by
  have e:l=r:=by omega
  subst e;exact#[hr,h1,h2]
 |m+1,l,r,hm,hl,hr,h1,h2=>by
  unfold kas_place;by_cases e:l ≥ r
  ·rw[aI e];have e:l=r:=by omega
   subst e;exact#[hr,h1,h2]
  rw[aC e];apply#[g.lt hN _,g.lt hN _,?_];dsimp only;by_cases c:f (at' p k) (at' p ((l+r) / 2))=true
  ·rw[aI c];apply Nc hN g u m l _ Z2 Z2 Z2 h1 λi h3 h4=>?_;by_cases ei:f (at' p k) (at' p i)=true
   ·exact ei
   have ei:f (at' p k) (at' p i)=false:=⇑ei
   have:=O.trans (u _ i h3 h4) ei;rw[c] at this;cases this
  rw[aC c];have c:f (at' p k) (at' p ((l+r) / 2))=false:=⇑c
  exact Nc hN g u m _ r Z2 Z2 hr (λi h3=>O.trans (u i _ Z2 Z2) c) h2
theorem Ql(hN:0<N):∀(m:Nat) (p:Array Nat) (k:Nat),Good N p->k+m=N->Up f p k->Ok f N (kas_bin m p k) λr=>Good N r/\Up f r N
 |0,p,k,g,e,u=>by
  have e:k=N:=by omega
  subst e;exact#[g,u]
 |m+1,p,k,g,e,u=>by
  unfold kas_bin;apply (Nc O hN g u k 0 k Z2 Z2 (bh _) (λi h=>absurd h Z2) λi h1 h2=>absurd h2 Z2).bind λl ⟨hl,h1,h2⟩=>?_;have hk:k<p.size:=by rw[g.size];omega
  apply Ql hN m _ (k+1) (g.bub _ _) Z2 λi j n5 hj=>?_;rw[QD hk hl,QD hk hl];by_cases ej:j=l
  ·rw[aI ej];by_cases ei:i=l
   ·rw[aI ei];exact O.fA _
   rw[aC ei,aC Z2];exact h1 i Z2
  rw[aC ej];by_cases Ss:l<j/\j<=k
  ·rw[aI Ss];by_cases ei:i=l
   ·rw[aI ei];exact O.F1 (h2 (j - 1) Z2 Z2)
   rw[aC ei];by_cases Sv:l<i/\i<=k
   ·rw[aI Sv];exact u _ _ Z2 Z2
   rw[aC Sv];exact u _ _ Z2 Z2
  rw[aC Ss];rw[aC (show ¬i=l by omega),aC (show ¬(l<i/\i<=k) by omega)];exact u _ _ Z2 Z2
theorem Rw(hN:0<N):Ok f N (kas_sort N) λp=>Good N p/\Up f p N:=by
 unfold kas_sort;apply (ZN O hN (p:=(List.range N).toArray) (Array.Perm.refl _) hN (bh _)).bind λr ⟨g,h1,h2,u⟩=>?_;split
 ·rename_i c
  rw[show max r.1 1=r.1 by omega];exact Ql O hN _ _ _ g Z2 u
 rename_i c
 have e:r.1=N:=by omega
 exact#[g,e▸u]
end
def uv(prog:Ad)(w:Af)(A:Ag)(f:Nat->Nat->Bool)(vs:aj)(s:Ab):Prop:=
 ∃κ,(∀Q:SortKind->Ab->Prop,Q κ s->wpAny (model prog w) A (keyKind' vs.toArray) Q (λ_ _=>False) s)/\∀i j C,i<vs.length->j<vs.length->C (f i j) s->kas_ask prog w A κ vs i j C s
def Fu(a:Addr)(h h':Heap):Prop:=∀b o,b≠a->h.get? b\o->h'.get? b\o
def mz(p:Array Nat)(vs:aj):aj:=p.toList.map λi=>vs.getD i Value.none
theorem TM(vs:aj):mz (List.range vs.length).toArray vs=vs:=by
 unfold mz;apply List.ext_getElem? ?_;intro i;simp only[dC];by_cases h:i<vs.length
 ·simp[h]
 simp[Nat.le_of_not_lt h]
variable{f:Nat->Nat->Bool}{prog:Ad}{w:Af}{A:Ag}{E:Aa->Ab->Prop}{s:Ab}
theorem hX_{a:Addr}{vs:aj}{P:Fin->Ab->Prop}(O:Ord f)(ho:s.heap.get? a\seqObj "list" vs.toArray n)(cY:vs.length<64)(Ak:2<=vs.length->∀h',Fu a s.heap h'->uv prog w A f vs { s with heap:=h' })(h:∀(p:Array Nat) (h':Heap) (e:Nat),Good vs.length p->Up f p vs.length->h'.get? a\seqObj "list" (mz p vs).toArray e->Fu a s.heap h'->P (.done (.ret .none)) { s with heap:=h' }) :
  wpAny (model prog w) A (Builtin.«list.sort» #[[.ref a],[]]) P E s:=by
 have haz:a<s.heap.objs.size:=bx ho;obtain⟨e1,o5⟩:∃e1,(s.heap.update a (Obj.mapSeq λ_=>(#[]:Array Aa))).get? a\seqObj "list" #[] e1:=#[_,get?_update_seq ho (λ_=>#[])]
 have GG:vs.length<=sizeLine:=by
  have:=cq;omega
 rw[list_sort_plain];apply ae (listItems_at ho U (ae (listUpdate_at ho U (ae (seqEpoch_at o5 U (ae (wpAny_newTuple (ae (wpAny_newList (iK ?_) (gO _))) GG)))) ⇑GG (gO _))))
 have keep:∀g:Array Aa->Array Aa,Fu a s.heap ((((s.heap.update a (Obj.mapSeq λ_=>(#[]:Array Aa))).push (seqObj "tuple" vs.toArray 0)).push (seqObj "list" #[] 0)).update a (Obj.mapSeq g)):=λg b o hb e=>by
  apply (uL _ _ (bN hb)).trans (aQ _ (aQ _ ?_));exact (uL _ _ (bN hb)).trans e
 have DR:Fu a s.heap (((s.heap.update a (Obj.mapSeq λ_=>(#[]:Array Aa))).push (seqObj "tuple" vs.toArray 0)).push (seqObj "list" #[] 0)):=λb o hb e=>
  aQ _ (aQ _ ((uL _ _ (bN hb)).trans e))
 have Bz:(((s.heap.update a (Obj.mapSeq λ_=>(#[]:Array Aa))).push (seqObj "tuple" vs.toArray 0)).push (seqObj "list" #[] 0)).get? a\seqObj "list" #[] e1:=aQ _ (aQ _ o5);show wpAny (model prog w) A _ P E { s with heap:=((s.heap.update a (Obj.mapSeq λ_=>(#[]:Array Aa))).push (seqObj "tuple" vs.toArray 0)).push (seqObj "list" #[] 0) };dsimp only;by_cases h2:vs.toArray.size<2
 ·rw[aI h2,aI h2];apply ae (aE ?_);rw[StateT.run_pure]
  have vZ:((vs.toArray.zip vs.toArray).map λx:Keyed=>x.2)=(mz (List.range vs.length).toArray vs).toArray:=by
   rw[TM];apply Array.ext' ?_;simp[List.map_snd_zip]
  apply ae (aE (ae (seqEpoch_at Bz U (ae (listUpdate_at Bz U ?_ (gO _) ?_)))))
  ·simp only[bne_self_eq_false,qi,if_false];apply aE (h (List.range vs.length).toArray _ _ (Array.Perm.refl _) (λi j n5 hj=>?_) ((get?_update_seq Bz _).trans (ed (λz=>some (seqObj "list" z _)) vZ)) (keep _))
   have e:i=j:=by
    simp only[dc] at h2;omega
   subst e;exact O.fA _
  have e:((vs.toArray.zip vs.toArray).map λx:Keyed=>x.2).size<=sizeLine+1:=by
   simp only[Array.size_map,Array.size_zip,dc];omega
  exact e
 rw[aC h2,aC h2]
 have gS:2<=vs.length:=by
  simp only[dc] at h2;omega
 let#[κ,hk,hc]:=Ak gS _ DR;apply ae (wpAny_mono (hk (λk s'=>k=κ/\s'=_) #[U,U]) (λk s' Er=>?_) λ_ _ x=>x.elim);let#[rfl,rfl]:=Er
 apply ae (wpAny_mono (kat_run (ks:=vs) (vs:=vs) (G:=λp s'=>s'={ s with heap:=((s.heap.update a (Obj.mapSeq λ_=>(#[]:Array Aa))).push (seqObj "tuple" vs.toArray 0)).push (seqObj "list" #[] 0) }/\Good vs.length p/\Up f p vs.length)
  (Q:=λd_ s'=>∃p:Array Nat,arrOf d_=p.map (kas_item (vs.toArray.zip vs.toArray))/\failedOf d_=none/\s'={ s with heap:=((s.heap.update a (Obj.mapSeq λ_=>(#[]:Array Aa))).push (seqObj "tuple" vs.toArray 0)).push (seqObj "list" #[] 0) }/\Good vs.length p/\Up f p vs.length)
  rfl gS cY (λp d_ s' _ q1 q2 q3=>#[p,q1,q2,q3]) (Ok.wp hc (λp q=>#[U,q]) (Rw O Z2))) ?_ λ_ _ x=>x)
 rintro⟨⟨⟩,d_⟩ s' ⟨p,LK,hf,hs',g,u⟩;have hs':s'={ s with heap:=((s.heap.update a (Obj.mapSeq λ_=>(#[]:Array Aa))).push (seqObj "tuple" vs.toArray 0)).push (seqObj "list" #[] 0) }:=hs';subst hs'
 have vZ:((arrOf d_).map λx:Keyed=>x.2)=(mz p vs).toArray:=by
  rw[LK];apply Array.ext' ?_;unfold mz;simp only[Array.map_map,Array.toList_map,List.toList_toArray];apply uX λi _=>?_;show (kas_item (vs.toArray.zip vs.toArray) i).2=_;unfold kas_item;by_cases hi:i<vs.length
  ·simp[Array.getD,hi]
  simp[Array.getD,hi,Nat.le_of_not_lt hi]
 have esz:((arrOf d_).map λx:Keyed=>x.2).size=vs.length:=by
  rw[vZ];unfold mz;simp only[dc,aq,t7];exact g.size
 apply ae (seqEpoch_at Bz U (ae (listUpdate_at Bz U ?_ (gO _) (by rw[esz];omega))));rw[hf];simp only[bne_self_eq_false,qi,if_false];exact aE (h p _ _ g u ((get?_update_seq Bz _).trans (ed (λz=>some (seqObj "list" z _)) vZ)) (keep _))
theorem S9{x:Aa}{Q:Aa->Ab->Prop}(O:Ord f)(md:wpAny (model prog w) A.in1 (collect x) (λvs s1=>vs.length<64/\(2<=vs.length->∀h':Heap,(∀b o,s1.heap.get? b\o->h'.get? b\o)->uv prog w A.in1.in1 f vs { s1 with heap:=h' }) /\
   ∀(p:Array Nat) (h':Heap) (e:Nat),Good vs.length p->Up f p vs.length->h'.get? s1.heap.objs.size\seqObj "list" (mz p vs).toArray e->(∀b o,s1.heap.get? b\o->h'.get? b\o)->Q (.ref s1.heap.objs.size) { s1 with heap:=h' }) E s) :
  wpAny (model prog w) A (call (.builtin "sorted") [x]) Q E s:=by
 apply Calls.call_function_entry kind_sorted plain_sorted entry_sorted (args_sorted1 _) ?_;unfold Builtin.«sorted»;apply ae (m:=checkCount "sorted" 1 1 _) (aE (ae (wpAny_mono md (λvs s1 q=>?_) λ_ _ z=>z)));let#[cY,Ak,hQ]:=q;apply ae (wpAny_newList ?_ (by have:=cq;omega));have hn:(s1.heap.push (seqObj "list" vs.toArray 0)).get? s1.heap.objs.size\seqObj "list" vs.toArray 0:=cJ _ U
 have old:∀h',Fu s1.heap.objs.size (s1.heap.push (seqObj "list" vs.toArray 0)) h'->∀b o,s1.heap.get? b\o->h'.get? b\o:=λh' k b o e=>
  k b o (dD (bx e)) (aQ _ e)
 apply ae (iK (tK slot_list_sort #[_,hn,U] entry_list_sort (hX_ O hn cY (λh2 h' k=>Ak h2 h' (old h' k)) λp h' e g u q k=>#[_,U,?_]) (args_list_sort _)));exact aE #[_,U,hQ p h' e g u q (old h' k)]
end yo
namespace L2
open PySem PySem.Spec PyProof.Rows PySem.W yo
def jm:Key->Key->Bool
 |.inl i,.inl j=>decide (i<j)
 |.inl _,.inr _=>true
 |.inr _,.inl _=>false
 |.inr x,.inr y=>decide (x.cps.toList<y.cps.toList)
def bI:ax->ax->Bool
 |[],[]=>false
 |[],_::_=>true
 |_::_,[]=>false
 |a::r,b::q=>if a=b then bI r q else jm a b
theorem Yy:∀a:Key,jm a a=false
 |.inl i=>by simp[jm]
 |.inr x=>by simp[jm,List.lt_irrefl]
theorem SE:∀{a b:Key},jm a b=true->jm b a=false
 |.inl i,.inl j,h=>by
  simp only[jm,decide_eq_true_eq,decide_eq_false_iff_not] at *;omega
 |.inl _,.inr _,_=>rfl
 |.inr _,.inl _,h=>by cases h
 |.inr x,.inr y,h=>by
  simp only[jm,decide_eq_true_eq,decide_eq_false_iff_not] at *;exact λq=>List.lt_irrefl _ (List.lt_trans h q)
theorem RE:∀{a b:Key},jm a b=false->jm b a=false->a=b
 |.inl i,.inl j,h,h2=>by
  simp only[jm,decide_eq_false_iff_not] at *;rw[show i=j by omega]
 |.inl _,.inr _,h,_=>by cases h
 |.inr _,.inl _,_,h=>by cases h
 |.inr x,.inr y,h,h2=>by
  simp only[jm,decide_eq_false_iff_not] at *;rw[ext_toList (List.le_antisymm (List.not_lt.mp h2) (List.not_lt.mp h))]
theorem gk_:∀{a b c:Key},jm a b=true->jm b c=true->jm a c=true
 |.inl i,.inl j,.inl k,h,h2=>by
  simp only[jm,decide_eq_true_eq] at *;omega
 |.inl _,.inl _,.inr _,_,_=>rfl
 |.inl _,.inr _,.inr _,_,_=>rfl
 |.inl _,.inr _,.inl _,_,h=>by cases h
 |.inr _,.inl _,_,h,_=>by cases h
 |.inr _,.inr _,.inl _,_,h=>by cases h
 |.inr x,.inr y,.inr z,h,h2=>by
  simp only[jm,decide_eq_true_eq] at *;exact List.lt_trans h h2
theorem Ni:∀a:ax,bI a a=false
 |[]=>rfl
 |a::r=>by
  unfold bI;rw[aI U];exact Ni r
theorem Of:∀{a b:ax},bI a b=true->bI b a=false
 |[],[],h=>by cases h
 |[],_::_,_=>rfl
 |_::_,[],h=>by cases h
 |a::r,b::q,h=>by
  unfold bI at h ⊢;by_cases e:a=b
  ·rw[aI e] at h;rw[aI e.symm];exact Of h
  rw[aC e] at h;rw[aC (bN e)];exact SE h
theorem ML:∀{a b:ax},bI a b=false->bI b a=false->a=b
 |[],[],_,_=>rfl
 |[],_::_,h,_=>by cases h
 |_::_,[],_,h=>by cases h
 |a::r,b::q,h,h2=>by
  unfold bI at h h2;by_cases e:a=b
  ·rw[aI e] at h;rw[aI e.symm] at h2;rw[e,ML h h2]
  rw[aC e] at h;rw[aC (bN e)] at h2;exact absurd (RE h h2) e
theorem TU:∀{a b c:ax},bI a b=true->bI b c=true->bI a c=true
 |[],_,[],h,h2=>by
  rename_i b
  cases b with
  |nil=>cases h
  |cons _ _=>cases h2
 |[],_,_::_,_,_=>rfl
 |_::_,[],_,h,_=>by cases h
 |_::_,_::_,[],_,h=>by cases h
 |a::r,b::q,c::t,h,h2=>by
  unfold bI at h h2 ⊢;by_cases e:a=b
  ·subst e;rw[aI U] at h;by_cases e2:a=c
   ·rw[aI e2] at h2 ⊢;exact TU h h2
   rw[aC e2] at h2 ⊢;exact h2
  rw[aC e] at h;by_cases e2:b=c
  ·subst e2;rw[aC e];exact h
  rw[aC e2] at h2;let h3:=gk_ h h2;rw[aC (λq=>by rw[q,Yy] at h3;cases h3)];exact h3
theorem TC{a b c:ax}(h:bI b a=false)(h2:bI c b=false):bI c a=false:=by
 cases e:bI c a with
 |false=>rfl
 |true=>
  by_cases e1:bI a b=true
  ·have:=TU e e1;rw[h2] at this;cases this
  have e1:bI a b=false:=⇑e1
  have:=ML e1 h;subst this;rw[h2] at e;cases e
def Cf(ks:List ax):Prop:=ks.Pairwise λa b=>bI b a=false
theorem Tz:∀{a b:List ax},a.Perm b->Cf a->Cf b->a=b
 |[],b,p,_,_=>by
  have:=p.length_eq;cases b with
  |nil=>rfl
  |cons _ _=>cases this
 |x::r,[],p,_,_=>by
  have:=p.length_eq;cases this
 |x::r,y::q,p,h1,h2=>by
  let#[a1,a2]:=List.pairwise_cons.mp h1;let#[b1,b2]:=List.pairwise_cons.mp h2
  have e:x=y:=by
   rcases bY.mp (p.mem_iff.mp gF) with m|m
   ·exact m
   rcases bY.mp (p.mem_iff.mpr gF) with m2|m2
   ·exact m2.symm
   exact ML (b1 _ m) (a1 _ m2)
  subst e;rw[Tz ((List.perm_cons _).mp p) a2 b2]
def bj(ks:List ax):List ax:=ks.mergeSort λa b=>!bI b a
theorem t_(ks:List ax):(bj ks).Perm ks:=List.mergeSort_perm _ _
theorem fL_(ks:List ax):Cf (bj ks):=by
 have:=List.pairwise_mergeSort (le:=λa b=>!bI b a) (λa b c h1 h2=>by
  simp only[Bool.not_eq_true'] at *;exact TC h1 h2) (λa b=>by
  simp only[Bool.or_eq_true,Bool.not_eq_true'];by_cases e:bI b a=true
  ·exact .inr (Of e)
  exact .inl ⇑e) ks
 exact this.imp λh=>by simpa using h
variable{ks:List ax}
theorem N2{i6:List ax}(p:i6.Perm ks)(h:Cf i6):i6=bj ks:=Tz (p.trans (t_ ks).symm) h (fL_ ks)
variable{p:Array Nat}
theorem FF{α:Type}{n:Nat}(g:Good n p)(F:Nat->α):(p.toList.map F).Perm ((List.range n).map F):=by
 have e:p.toList.Perm (List.range n):=by
  have:=Array.perm_iff_toList_perm.mp g;simpa using this
 exact e.map F
theorem Mm{f:Nat->Nat->Bool}(hf:∀i j,i<ks.length->j<ks.length->f i j=bI (ks.getD i []) (ks.getD j []))(g:Good ks.length p)(u:Up f p ks.length):Cf (p.toList.map λi=>ks.getD i []):=by
 unfold Cf;rw[uV,List.pairwise_iff_getElem];intro i j hi hj n5;let hs:=g.size;rw[t7] at hi hj;have _V:j<ks.length:=by omega
 let q:=u i j (Nat.le_of_lt n5) _V;have hN:0<ks.length:=by omega
 rw[hf _ _ (g.lt hN _) (g.lt hN _)] at q;have e1:at' p i=p.toList[i]:=by simp[at',Array.getD,hi]
 have e2:at' p j=p.toList[j]:=by simp[at',Array.getD,hj]
 rw[e1,e2] at q;exact q
theorem MQ(ks:List ax):Ord λi j=>bI (ks.getD i []) (ks.getD j []):=#[λ_=>Ni _,λh h2=>TC h h2,λh=>Of h]
theorem FJ{α:Type}(d:α)(l:List α):((List.range l.length).map λi=>l.getD i d)=l:=by
 apply List.ext_getElem? ?_;intro i;simp only[dC];by_cases h:i<l.length
 ·simp[h]
 simp[Nat.le_of_not_lt h]
variable{ys:af}{vs:aj}
theorem MH(r:Vals ys vs)(g:Good vs.length p):Vals (p.toList.map λi=>ys.getD i .non) (mz p vs):=by
 unfold mz
 have key:∀l:List Nat,(∀i∈l,i<vs.length)->Vals (l.map λi=>ys.getD i .non) (l.map λi=>vs.getD i Value.none):=λl=>by
  induction l with
  |nil=>exact λ_=>.nil
  |cons i l ih=>
   intro h;apply .cons ?_ (ih λj hj=>h j (fX _ hj));let hi:=h i gF;have hy:i<ys.length:=by rw[r.length];exact hi
   let#[u,hu,ru]:=r.get (aY hy);have e1:ys.getD i .non=ys[i]:=by simp[hy]
   have e2:vs.getD i Value.none=u:=by simp[hu]
   show RelV (ys.getD i .non) (vs.getD i Value.none);rw[e1,e2];exact ru
 apply key p.toList λi hi=>?_;have m:i∈(List.range vs.length).toArray:=g.mem_iff.mp ⇑hi;simpa using m
theorem Rv:∀{ss:ag} {vs:aj},Vals (ss.map V.str) vs->StrsAre vs ss
 |[],_,.nil=>.nil
 |x::r,_,.cons h t=>by
  let#[tk,rfl]:=h;exact .cons x tk (Rv t)
def iN(ss:ag):ag:=(bj (ss.map λx=>[Sum.inr x])).map λk=>match k with
 |[.inr x]=>x
 |_=>⟨#[]⟩
def bO(x:Str):ax:=[Sum.inr x]
variable{prog:Ad}{w:Af}{A:Ag}{s:Ab}
theorem Tu{ss:ag}(r:StrsAre vs ss)(h2:2<=vs.length):uv prog w A (λi j=>bI ((ss.map bO).getD i []) ((ss.map bO).getD j [])) vs s:=by
 apply#[oneType',λQ q=>?_,λi j C hi hj hC=>?_]
 ·match vs,h2 with
  |v₁::Va::t,_=>
   rw[keyKind_strs r];exact aE q
 unfold kas_ask;rw[keyLt'_oneType]
 have look:∀k,k<vs.length->∃x t,vs.getD k Value.none=.str x t/\(ss.map bO).getD k []=[Sum.inr x]:=λk hk=>by
  let e:=r.strs;let#[x,t,q]:=r.all vs[k] (kJ hk);apply#[x,t,by simp[hk,q],?_]
  have QZ:k<ss.length:=by
   rw[<- e,aq];exact hk
  have e2:ss[k]=x:=by
   have e3:(vs.map strOf)[k]? = ss[k]?:=by rw[e]
   rw[dC,aY hk,aY QZ,q] at e3;exact (cX e3).symm
  simp[QZ,e2,bO]
 let#[x,t,e1,e2]:=look i hi;let#[y,u,e3,e4]:=look j hj;rw[e1,e3];dsimp only at hC;rw[e2,e4] at hC;apply oneLt_str ?_;unfold bI at hC;by_cases e:x=y
 ·subst e;rw[aI U] at hC;have:decide (x.cps.toList<x.cps.toList)=false:=by simp[List.lt_irrefl]
  rw[this];exact hC
 rw[aC (λq=>e (iJ q))] at hC;exact hC
def xr:Key->Bool
 |.inl _=>false
 |.inr _=>true
variable{a b:Key}
theorem gv_{E:Aa->Ab->Prop}{c:Bool}{p q:Aa}{Q:Bool->Ab->Prop}(ra:RelV (kV a) p)(rb:RelV (kV b) q)(hk:xr a=xr b)(h:Q (jm a b) s) :
  wpAny (model prog w) A (oneLt' c p q) Q E s:=by
 cases a with
 |inl i=>
  cases b with
  |inr y=>cases hk
  |inl j=>
   let#[t,rfl]:=ra;let#[u,rfl]:=rb;cases c with
   |true=>exact oneLt_int h
   |false=>exact kat_one _ _ (lt_int (show PySem.W.BoolBack Q (.bool _) s from h))
 |inr x=>
  cases b with
  |inl j=>cases hk
  |inr y=>
   let#[t,rfl]:=ra;let#[u,rfl]:=rb;cases c with
   |true=>exact oneLt_str h
   |false=>exact kat_one _ _ (PyProof.Rows.lt_str (show PySem.W.BoolBack Q (.bool _) s from h))
theorem YE(hk:xr a=xr b):Mx (kV a) (kV b)=decide (a=b):=by
 cases a with
 |inl i=>
  cases b with
  |inr y=>cases hk
  |inl j=>
   show (i == j)=_;by_cases e:i=j
   ·subst e;simp
   ·rw[fq (λq=>e (Sum.inl.inj q))];simpa using e
 |inr x=>
  cases b with
  |inl j=>cases hk
  |inr y=>
   show (x == y)=_;by_cases e:x=y
   ·subst e;simp
   rw[fq (λq=>e (iJ q))];simpa using e
theorem SM(a:Key):tm (kV a)=true:=by cases a<;>rfl
theorem TZ{prog:Ad}{w:Af}{A:Ag}{s:Ab}{Q:Bool->Ab->Prop}:∀{k1 k2:ax} {us vs:aj} (i:Nat),Vals (k1.map kV) us->Vals (k2.map kV) vs->k1.map xr=k2.map xr->Q (bI k1 k2) s->KatLex prog w A true false Q (us.zip vs) i s
 |[],[],_,_,i,.nil,.nil,_,h=>h
 |[],_::_,_,_,_,_,_,h,_=>by cases h
 |_::_,[],_,_,_,_,_,h,_=>by cases h
 |a::k1,b::k2,u::us,v::vs,i,.cons ra r1,.cons rb r2,hk,h=>by
  let#[e1,e2]:=List.cons.inj hk;apply kat_cons ?_;apply Qr ra rb (SM a) (SM b) prog w _ _ ?_;rw[YE e1];unfold bI at h;by_cases e:a=b
  ·rw[aI e] at h;rw[cw e];exact kat_yes (TZ (i+1) r1 r2 e2 h)
  rw[aC e] at h;rw[fq e];exact kat_no (gv_ ra rb e1 h)
def bX(K:ai)(H:Hp):af->List ax->Prop:=Paired λy k=>∃a,y=V.ref a/\H a\.tup (k.map kV)
def Alike(ks:List ax)(sh:List Bool):Prop:=sh≠[]/\∀k∈ks,k.map xr=sh
theorem h5_{X:Cx}{pins:List (Addr × Obj)}{σ:St}{H:Hp}{s':Ab}{sh:List Bool}(I:Inv X pins σ H s)(r:Vals ys vs)(t:bX X.K H ys ks)(al:Alike ks sh)(h2:2<=vs.length)(kp:∀b o,s.heap.get? b\o->s'.heap.get? b\o):uv X.prog X.w A (λi j=>bI (ks.getD i []) (ks.getD j [])) vs s':=by
 have look:∀k,k<vs.length->∃a its,vs.getD k Value.none=.ref a/\Vals ((ks.getD k []).map kV) its/\IsTup s'.heap a its.toArray/\ks.getD k []∈ks:=λk hk=>by
  have hy:k<ys.length:=by rw[r.length];exact hk
  have BA:k<ks.length:=by rw[<- bH t];exact hy
  let#[u,hu,ru]:=r.get (aY hy)
  have gen:∀{ys:af} {ks:List ax} (k:Nat) (hy:k<ys.length) (BA:k<ks.length),bX X.K H ys ks->∃a,ys[k]=V.ref a/\H a\.tup (ks[k].map kV):=λ{ys ks} k hy BA t=>by
   induction t generalizing k with
   |nil=>exact absurd hy Y0
   |cons h t ih=>
    cases k with
    |zero=>exact h
    |succ k=>exact ih k ⇑hy ⇑BA
  let#[a,e,sq]:=gen k hy BA t;let#[its,ri,ti,_]:=I.tuple (er.of sq);rw[e] at ru;cases ru;have e2:ks.getD k []=ks[k]:=by simp[BA]
  apply#[a,its,by simp[hu],by rw[e2];exact ri,ti.keeps kp,?_];rw[e2];exact kJ BA
 let#[l7,EK]:=al
 obtain⟨c,CY,rfl⟩:∃c CY,sh=c::CY:=by
  cases sh with
  |nil=>exact absurd U l7
  |cons c CY=>exact#[c,CY,U]
 apply#[tuples' true,λQ q=>?_,λi j C hi hj hC=>?_]
 ·have Av:∀l:aj,(∀v∈l,∃(a:Addr) (its:aj) (k:ax),v=.ref a/\Vals (k.map kV) its/\IsTup s'.heap a its.toArray/\k.map xr=c::CY)->∃fs,KatTups s'.heap l fs/\fs.length=l.length/\∀v∈fs,Looks (model X.prog X.w) s'.heap (typeOf v) (.type (if c then "str" else "int")):=λl=>by
   induction l with
   |nil=>exact λ_=>#[[],.nil,U,λ_ h=>nomatch h]
   |cons v l ih=>
    intro h;let#[fs,h1,h2,h3]:=ih λv hv=>h v (fX _ hv);let#[a,its,k,rfl,rv,#[o,ho,hc,n,hd],hk]:=h v gF
    match k,its,rv,hk with
    |k0::k,u::its,.cons r0 _,hk=>
     apply#[u::fs,.cons ho hc hd Y0 h1,by simp[h2],λv hv=>?_];rcases bY.mp hv with e|hv
     ·subst e;let e0:=(List.cons.inj hk).1;cases k0 with
      |inl i=>
       let#[t,rfl]:=r0;rw[<- e0];exact .now
      |inr x=>
       let#[t,rfl]:=r0;rw[<- e0];exact .now
     exact h3 v hv
  let#[fs,h1,h3,h4]:=Av vs λv hv=>by
   let#[k,hk,rfl]:=ia hv;let#[a,its,e,rv,ti,m]:=look k hk;apply#[a,its,_,?_,rv,ti,EK _ m];rw[<- e];simp[hk]
  apply kat_kind h1 Z2 h4 (by cases c<;>decide) ?_
  have e:((Value.type (if c then "str" else "int")) != Value.type "tuple")=true:=by cases c<;>decide
  rw[e];exact q
 unfold kas_ask;let#[a,its,e1,r1,#[o,ho,_,n,hd],m1]:=look i hi;let#[b,iC,e2,r2,#[o2,eQ,_,n2,hd2],m2]:=look j hj;rw[e1,e2];apply kat_lt ho hd eQ hd2 ?_;let l1:=r1.length;let l2:=r2.length;let l3:=ed List.length ((EK _ m1).trans (EK _ m2).symm);simp only[aq] at l1 l2 l3;rw[show decide (its.toArray.size<iC.toArray.size)=false by simp;omega];exact TZ 0 r1 r2 ((EK _ m1).trans (EK _ m2).symm) hC
end L2
namespace fI
open PySem PySem.W PyProof.Rows
def Raw(h:Heap)(d:Addr)(es:Array DictEntry)(ep:Nat):Prop:=∃o,h.get? d\o/\o.ExactDict/\o.data=.dict es ep
variable{h h':Heap}{d:Addr}{es:Array DictEntry}{ep:Nat}
theorem Raw.eN(x:Raw h d es ep)(k:∀o,h.get? d\o->h'.get? d\o):Raw h' d es ep:=let #[o,e,r]:=x;#[o,k o e,r]
variable{s:Ab}
theorem Raw.ty(x:Raw s.heap d es ep):s.TypeIs (.ref d) "dict":=let #[o,e,c,_]:=x;#[o,e,c.1]
variable{prog:Ad}{w:Af}{A:Ag}{E:Aa->Ab->Prop}
theorem hE_{Q:Aa->Ab->Prop}(hd:(d == sysModules)=false)(x:Raw s.heap d es ep)(q:Q (.ref s.heap.objs.size) { s with heap:=s.heap.push { cls:=.type "dict_keyiterator",data:=.fields (List.toArray [.ref d,.int 0 0,.int es.size 0,.int ep 0]) } }) :
  wpAny (model prog w) A (pyIter (.ref d)) Q E s:=by
 let#[o,ho,hc,jH]:=id x;apply wpAny_pyIter_slot x.ty F.slot_dict_iter (tK F.slot_dict_iter x.ty F.entry_dict_iter ?_ (F.args_dict_iter_1 _));unfold Builtin.«dict.__iter__» Builtin.Dict.dictSlotNone;apply ae (ae (wpAny_notOrdered_dict x.ty (show wpAny _ _ (pure (Value.ref d)) _ _ s from aE (show wpAny _ _ (Builtin.Dict.showsAll d >>= _) _ _ s from ?_))));unfold Builtin.Dict.showsAll;rw[aC (by rw[hd];decide)];apply ae (aE (ae (wpAny_dictEntries ho jH (ae (wpAny_dictEpoch ho jH (ae (p9 (aE #[_,U,"dict_keyiterator",_,#[_,cJ _ U,U],F.slot_dict_keyiterator_next.lookup,?_]))))))));exact q
variable{Q:Option Aa->Ab->Prop}{it:Addr}{i:Nat}
theorem Z5(hit:s.heap.IsKeyIter it d i es.size ep)(x:Raw s.heap d es ep)(hi:i<es.size)(q:∀h',h'.IsKeyIter it d (i+1) es.size ep->Heap.SameBut it s.heap h'->Q (some es[i].key) { s with heap:=h' }):wpAny (model prog w) A (pyNext (.ref it)) Q E s:=by
 let#[o,ho,hc,hd]:=id hit;let#[od,Ee,iG,pS]:=id x;unfold pyNext;apply ae (wpAny_attempt (uR (name:=Str.ofString "__next__") hit.typeIs F.slot_dict_keyiterator_next (tK F.slot_dict_keyiterator_next hit.typeIs F.entry_dict_keyiterator_next ?_ (F.args_dict_keyiterator_next_1 _))));apply ae (aE (ae (ae ?_)))
 first|refine ae (wpAny_typeNameOfWhole_keyiter hit.typeIs (aE (ae (wpAny_fieldsOf ho hd ?_))))|refine ae (wpAny_typeNameOf_keyiter hit.typeIs (aE (ae (wpAny_fieldsOf ho hd ?_))))
 simp only[show Builtin.Dict_items.ownsTuple "dict_keyiterator"=false by decide,qi,if_false];apply (show wpAny _ _ (if (Value.ref d == Value.none)=true then _ else _) _ _ s from ?_);rw[aC (λz=>by cases z)];apply ae (aE (ae (wpAny_dictEntries Ee pS ?_)));rw[aC Y0];apply ae (aE (ae (wpAny_dictEpoch Ee pS ?_)));rw[aC Y0];apply aE ?_;simp only[show ¬((i:Int)<0) from by omega,if_false,yl,Array.getElem?_eq_getElem hi];apply ae ?_
 first|refine ae (wpAny_typeNameOfWhole_keyiter hit.typeIs (aE (ae (wpAny_isOneOf_keyiter hit.typeIs ?_))))|refine ae (wpAny_typeNameOf_keyiter hit.typeIs (aE (ae (wpAny_isOneOf_keyiter hit.typeIs ?_))))
 apply (show wpAny _ _ (setField (.ref it) 1 (rawInt ((i:Int)+1)) >>= _) _ _ s from ae (wpAny_setField ho hd Y0 ?_))
 have turned:(s.heap.update it (Obj.mapFields (·.setIfInBounds 1 (rawInt ((i:Int)+1))))).IsKeyIter it d (i+1) es.size ep:=
  #[_,Heap.get?_update_self _ ho (Obj.isFreed_of_fields (Obj.data_mapFields hd _)),(Obj.cls_mapFields ..).trans hc,by rw[Obj.data_mapFields hd];simp[rawInt]]
 apply ae (iK (ae (wpAny_isOneOf_keyiter (s:={ s with heap:=s.heap.update it (Obj.mapFields (·.setIfInBounds 1 (rawInt ((i:Int)+1)))) }) turned.typeIs ?_)));exact (show wpAny _ _ (pure es[i].key) _ _ _ from aE (aE #[_,U,aE (q _ turned (Heap.SameBut.update ..))]))
theorem hP_(hh:A.handled=none)(hit:s.heap.IsKeyIter it d es.size es.size ep)(x:Raw s.heap d es ep)(q:∀h',Heap.ExtBut it s.heap h'->Q none { s with heap:=h' }):wpAny (model prog w) A (pyNext (.ref it)) Q E s:=by
 let#[o,ho,hc,hd]:=id hit;let#[od,Ee,iG,pS]:=id x;unfold pyNext;apply ae (wpAny_attempt (uR (name:=Str.ofString "__next__") hit.typeIs F.slot_dict_keyiterator_next (tK F.slot_dict_keyiterator_next hit.typeIs F.entry_dict_keyiterator_next ?_ (F.args_dict_keyiterator_next_1 _))));apply ae (aE (ae (ae ?_)))
 first|refine ae (wpAny_typeNameOfWhole_keyiter hit.typeIs (aE (ae (wpAny_fieldsOf ho hd ?_))))|refine ae (wpAny_typeNameOf_keyiter hit.typeIs (aE (ae (wpAny_fieldsOf ho hd ?_))))
 simp only[show Builtin.Dict_items.ownsTuple "dict_keyiterator"=false by decide,qi,if_false];apply (show wpAny _ _ (if (Value.ref d == Value.none)=true then _ else _) _ _ s from ?_);rw[aC (λz=>by cases z)];apply ae (aE (ae (wpAny_dictEntries Ee pS ?_)));rw[aC Y0];apply ae (aE (ae (wpAny_dictEpoch Ee pS ?_)));rw[aC Y0];apply aE ?_;simp only[show ¬((es.size:Int)<0) from by omega,if_false,yl,Array.getElem?_eq_none (bh _)];apply ae ?_
 first|refine ae (wpAny_typeNameOfWhole_keyiter hit.typeIs (aE ?g))|refine ae (wpAny_typeNameOf_keyiter hit.typeIs (aE ?g))
 apply (show wpAny _ _ (setField (.ref it) 0 .none >>= _) _ _ s from ae (wpAny_setField ho hd Y0 (show wpAny _ _ (newExc (.type "StopIteration") [] >>= _) _ _ _ from ae ?_)));simp only[newExc,newTuple];apply ae (p9 (ae (m:=firstArgMember _ _) (wpAny_of_eq (a:=Value.none) (by first|rfl|(simp only[firstArgMember];rfl)) (p9 ?_ (by size_fits)))) (by size_fits));simp only[raiseNew];apply ae (wpAny_handled ?_);rw[show A.in1.handled=none from hh];apply ae (aE (wpAny_throw ?_));exact ae (wpAny_isInstance (T:="StopIteration") (b:=true) #[_,cJ _ U,U] isSubtype_stop (aE (q _ (((Heap.SameBut.update ..).extBut.push _).push _))))
theorem gV_(hh:A.handled=none)(I d:Addr)(l7:d≠I)(es:Array DictEntry)(ep:Nat) :
  Walks prog w A I [I,d] [I] es.size (λi v=>∃h:i<es.size,v=es[i].key) (λi h=>h.IsKeyIter I d i es.size ep/\Raw h d es ep) where
 sub:=λb hb=>by simp only[eJ] at hb;simp[hb]
 frame:=λ_ _ _ st k=>#[st.1.at λo e=>k I Y0 o e,st.2.eN λo e=>k d Y0 o e]
 item:=λi s Q E hi st hQ=>Z5 st.1 st.2 hi λh' zY hs'=>hQ _ h' s.toks #[hi,U] #[zY,st.2.eN λo e=>hs'.extBut d o l7 e] λb o hb e=>hs'.extBut b o (λh=>hb (by simp[h])) e
 done:=λs Q E st hQ=>hP_ hh st.1 st.2 λh' EB=>hQ h' s.toks λb o hb e=>EB b o (λh=>hb (by simp[h])) e
 self:=λ_ _ _ _ st hQ=>wpAny_pyIter_keyiter st.1 hQ
theorem Yl(lo:(d == sysModules)=false):KdlSrc prog w "dict" d d es.size (λi v=>∃h:i<es.size,v=es[i].key) (λh=>Raw h d es ep) where
 type:=λs x=>x.ty
 there:=λh x=>let #[o,e,_]:=x;#[bx e,bx e]
 keep:=λh h' x k=>x.eN λo e=>k d (.inl U) o e
 notList:=by decide
 notTuple:=by decide
 hint:=λ_ _ s _ x q=>kdl_hint_dict x.ty q
 iter:=λA s hh x=>#[_,_,λE Q q=>hE_ lo x q,gV_ hh _ d (let #[o,e,_]:=x;dD (bx e)) es ep,#[#[_,cJ _ U,U,U],x.eN λo e=>aQ _ e]]
theorem cY_:typeLookup (.type "list") "keys"=pure none:=by rw[typeLookup_type,builtinLookup_eq_fast];kernel_rfl
variable{a:Addr}{xs:Array Aa}{k:Nat}{tk:Tok}{R:Result->Ab->Prop}
theorem gE_(hx:s.heap.get? a\seqObj "list" xs k)(h:raisesAttr (.ref a) "keys" A R s) :
  codeAny (model prog w) A (.call (.builtin "list.__getattribute__") #[[.ref a,.str "keys" tk],[]]) R s:=by
 apply codeAny_call_builtin F.slot_list_getattribute.plain am_entry_list_getattribute (F.slot_list_getattribute.check _ _ _ _ _ _ _ _ #[_,hx,U] (F.args_list_getattribute_2 _ _) ?_);exact meets_getattribute_miss_list a xs k #[] "keys" tk cY_ (by decide) (by size_fits) prog w A R s #[hx,h]
theorem sf(hx:s.heap.get? a\seqObj "list" xs k)(hA:A.handled=none)(h:∀h' tk,(∀b o,s.heap.get? b\o->h'.get? b\o)->Q none { s with heap:=h',toks:=tk }):wpAny (model prog w) A (getAttr? (.ref a) "keys") Q E s:=by
 let#[hp,g,d,tk,os]:=s;have ty:∀fO,(#[hp,g,d,fO,os]:Ab).TypeIs (.ref a) "list":=λ_=>#[_,hx,U];let f1:=sub_AttributeError;let f2:=F.slot_list_getattribute.lookup;let f3:=F.slot_list_getattribute.bind (.ref a);let f4:=am_list_getattr_none;unfold getAttr? getAttrBy? getAttrBy
 repeat (any_goals (first|assumption|exact ty _|wp_step))
 apply gE_ hx #[hA,λh' fO e vP=>?_];let#[t',u',he]:=vP.there;show wpAny _ _ (getattributeRaised _ _ _ _ _ _ _) _ _ _;unfold getattributeRaised
 repeat (any_goals (first|assumption|wp_step))
 exact h _ _ vP.keeps
theorem B2:entryFor table "dict.update.loop"\Builtin.«dict.update.loop»:=entryFor_of_tree (by kernel_rfl)
theorem qh:plainId "dict.update.loop"=true:=by decide +kernel
theorem BU(d it:Addr)(i:Int)(tk:Tok):Builtin.«dict.update.loop» #[[.ref d,.ref it,.int i tk,.none],[]]=(do
  let r <- pyNext (.ref it)
  match r with
  |none=>do Builtin.Dict.addKeywords d [];ret .none
  |some item=>do
   holding [item] (do
    let pair <- (Builtin.Dict.pairItems item).tryCatch λe=>do
     if !(<- isInstance e (.type "TypeError")) then throw e
     rule "dict.update.element-no-sequence"
     raiseError "TypeError" s!"cannot convert dictionary update sequence element #{i} to a sequence"
    match pair with
    |[k,v]=>holding [k,v] (dictSet d k v)
    |l=>do
     rule "dict.update.element-length"
     raiseError "ValueError" s!"dictionary update sequence element #{i} has length {l.length}; 2 is required")
   again (.builtin "dict.update.loop" #[[.ref d,.ref it,rawInt (i+1),.none],[]])):=by
 unfold Builtin.«dict.update.loop»;apply ed (λf=>pyNext (.ref it) >>= f) (funext λr=>?_);cases r<;>rfl
variable{b l:Addr}{ys:Array Aa}
variable{its:aj}
section
variable{prog:Ad}{w:Af}{K:Type}[DecidableEq K]{knd:PySem.KeyKind prog w K}{A:Ag}
def Nn(knd:PySem.KeyKind prog w K)(h:Heap):aj->List (K × Aa)->Prop:=Paired λv p=>∃a key,v=.ref a/\IsTup h a (List.toArray [key,p.2])/\knd.is p.1 key=true
def eP(kvs:List (K × Aa))(ps:List (K × Aa)):List (K × Aa):=ps.foldl (λacc p=>stored acc p.1 p.2) kvs
theorem Tb(kvs:List (K × Aa))(k:K)(v:Aa):(stored kvs k v).length<=kvs.length+1:=by
 unfold stored;split
 ·simp
 simp
theorem A9(t:IsTup h b ys)(q:h.IsListIter it l i):b≠it:=λz=>by
 let#[o,ho,hc,_]:=t;let#[o2,eQ,jq,_]:=q;subst z;rw[ho] at eQ;cases eQ;rw[hc] at jq;exact absurd jq (by decide)
theorem em_{kvs:List (K × Aa)}(t:IsTup h b ys)(q:h.DictOf knd d kvs):b≠d:=λz=>by
 let#[o,ho,hc,_]:=t;let#[o2,es,ep,eQ,jq,_]:=q;subst z;rw[ho] at eQ;cases eQ;let sY:=jq.1;rw[hc] at sY;exact absurd sY (by decide)
theorem FD{kvs:List (K × Aa)}(q:h.DictOf knd d kvs)(k:∀o,h.get? d\o->h'.get? d\o):h'.DictOf knd d kvs:=by
 let#[o,es,ep,ho,r]:=q;exact#[o,es,ep,k _ ho,r]
theorem ZM{key x:Aa}{k:K}{kvs:List (K × Aa)}(sT:d≠it)(hi:its.toArray[i]? = some (.ref a))(ht:IsTup s.heap a (List.toArray [key,x]))(hk:knd.is k key=true)(hit:s.heap.IsListIter it l i)(hl:s.heap.IsList l its.toArray)(hd:s.heap.DictOf knd d kvs)(hz:kvs.length<=1000)(hR:∀h2,h2.DictOf knd d (stored kvs k x)->(∀b o,b≠d->b≠it->s.heap.get? b\o->h2.get? b\o)->h2.IsListIter it l (i+1)->codeAny (model prog w) A (.builtin "dict.update.loop" #[[.ref d,.ref it,rawInt ((i:Int)+1),.none],[]]) R { s with heap:=h2,toks:=s.toks+1 }) :
  codeAny (model prog w) A (.builtin "dict.update.loop" #[[.ref d,.ref it,.int i tk,.none],[]]) R s:=by
 apply codeAny_builtin B2 ?_;rw[xT qh _,BU];apply ae (wpAny_pyNext_list_item hit hl hi λh1 zX xy=>?_);let#[ot,K9,Ai,nt,LD]:=id ht;have sP:h1.get? a\ot:=xy.extBut _ _ (A9 ht hit) K9;apply ae (iK (ae (wpAny_tryCatch ?_)));unfold Builtin.Dict.pairItems;apply ae (wpAny_typeOf (T:="tuple") #[ot,sP,Ai] ?_);rw[aI (by decide)];unfold seqItems?;apply ae (ae (wpAny_load sP ?_));rw[LD];apply aE (aE ?_);apply (show wpAny _ _ (holding [key,x] (dictSet d key x)) _ _ _ from iK (wpAny_dictSet_pairs hk (FD hd λo q=>xy.extBut _ _ sT q) (λh2 hd2 pQ=>?_) (by have:=cq;omega)));exact aE #[plainId_quiet qh _,hR h2 hd2 (λb o h3 h4 q=>pQ.extBut _ _ h3 (xy.extBut _ _ h4 q)) (zX.extBut pQ.extBut (bN sT))]
theorem Yx{kvs:List (K × Aa)}(sT:d≠it)(hh:A.handled=none)(hi:its.toArray[i]? = none)(hit:s.heap.IsListIter it l i)(hl:s.heap.IsList l its.toArray)(hd:s.heap.DictOf knd d kvs)(hR:∀h',h'.DictOf knd d kvs->(∀b o,b≠it->s.heap.get? b\o->h'.get? b\o)->R (.ok (.ret .none)) { s with heap:=h' }) :
  codeAny (model prog w) A (.builtin "dict.update.loop" #[[.ref d,.ref it,.int i tk,.none],[]]) R s:=by
 apply codeAny_builtin B2 ?_;rw[xT qh _,BU];apply ae (wpAny_pyNext_list_end hh hit hl hi λh' he=>?_);exact ae (m:=Builtin.Dict.addKeywords d []) (aE (aE (hR h' (FD hd λo q=>he _ _ sT q) λb o hb q=>he b o hb q)))
theorem XM(Lp:l≠it)(sT:d≠it)(BD:d≠l)(hh:A.handled=none)(rest:aj):∀(ps:List (K × Aa)) (i:Nat) (kvs:List (K × Aa)) (s:Ab) (R:Result->Ab->Prop) (tk:Tok),its.drop i=rest->Nn knd s.heap rest ps->
  s.heap.IsListIter it l i->s.heap.IsList l its.toArray->s.heap.DictOf knd d kvs->kvs.length+ps.length<=1000->
  (∀h' fO,h'.DictOf knd d (eP kvs ps)->(∀b o,b≠d->b≠it->s.heap.get? b\o->h'.get? b\o)->R (.ok (.ret .none)) { s with heap:=h',toks:=fO })->
  codeAny (model prog w) A (.builtin "dict.update.loop" #[[.ref d,.ref it,.int i tk,.none],[]]) R s:=by
 induction rest with
 |nil=>
  intro ps i kvs s R tk e hp hit hl hd hz hR;cases hp
  have hi:its.toArray[i]? = none:=by
   have:=ed List.length e;simp only[yk,List.length_nil] at this;simp;omega
  exact Yx sT hh hi hit hl hd λh' hU kp=>hR h' s.toks hU λb o _ hb q=>kp b o hb q
 |cons v rest ih=>
  intro ps i kvs s R tk e hp hit hl hd hz hR;cases hp with
  |@cons _ p _ ps h0 hr=>
  let#[a,key,hv,ht,hk]:=h0;let#[k,x]:=p;subst hv
  have hi:its.toArray[i]? = some (.ref a):=by
   have q:(its.drop i)[0]? = some (.ref a):=by rw[e];rfl
   rw[List.getElem?_drop] at q;simpa using q
  have e':its.drop (i+1)=rest:=by
   rw[<- List.drop_drop,e];rfl
  simp only[iR] at hz;apply ZM sT hi ht hk hit hl hd Z2 λh2 hd2 kp sR=>?_;have c1:((i:Int)+1)=((i+1:Nat):Int):=by omega
  rw[c1];apply ih ps (i+1) (stored kvs k x) _ R 0 e' (L2.Paired.aX hr λv p ⟨b,ky,e1,t1,k1⟩=>#[b,ky,e1,?_,k1]) sR (hl.at λo q=>kp _ _ (bN BD) Lp q) hd2 (by have:=Tb kvs k x;omega) λh' fO hU DN=>hR h' fO hU λb o h3 h4 q=>DN b o h3 h4 (kp b o h3 h4 q);let#[o,ho,r]:=id t1;exact#[o,kp _ _ (em_ t1 hd) (A9 t1 hit) ho,r]
theorem ej_{n:Nat}{ps:List (K × Aa)}{Q:Aa->Ab->Prop}(hh:A.handled=none)(ho:s.heap.get? l\seqObj "list" its.toArray n)(hp:Nn knd s.heap its ps)(hz:ps.length<=1000)(h:∀h' fO,h'.DictOf knd s.heap.objs.size (eP [] ps)->(∀b o,s.heap.get? b\o->h'.get? b\o)->Q (.ref s.heap.objs.size) { s with heap:=h',toks:=fO }) :
  wpAny (model prog w) A (call (.type "dict") [.ref l]) Q E s:=by
 apply callType_codes (Q₁:=λobj aJ=>obj=.ref s.heap.objs.size/\aJ={ s with heap:=s.heap.push { cls:=.type "dict",data:=.dict #[] } }) F.kt_called_dict (F.kt_typeCall_dict_1 _) F.entry_dict_init (kt_code_dict_new _ #[U,U]) ?_;rintro obj aJ ⟨rfl,rfl⟩;have gn:(s.heap.push { cls:=.type "dict",data:=.dict #[] }).DictOf knd s.heap.objs.size []:=Heap.DictOf.new s.heap;have fo:(s.heap.push { cls:=.type "dict",data:=.dict #[] }).get? l\seqObj "list" its.toArray n:=aQ _ ho;apply#[gn.typeIs,F.args_dict_init_2 _ _,?_];unfold Builtin.«dict.__init__» Builtin.Dict.selfAndRest;apply ae (ae (wpAny_notOrdered_dict gn.typeIs ?_));apply (show wpAny _ _ (pure (s.heap.objs.size,[Value.ref l])) _ _ _ from aE ?_);apply (show wpAny _ _ (Builtin.Dict.updateFrom "dict.__init__" s.heap.objs.size (.ref l) [] .none) _ _ _ from ?_);unfold Builtin.Dict.updateFrom;apply ae (wpAny_typeOf (T:="list") #[_,fo,U] ?_);rw[aI (by decide)];apply ae (sf fo hh λh2 Pd k2=>?_);simp only[Option.isNone_none,if_true];have jo:h2.get? l\seqObj "list" its.toArray n:=k2 _ _ fo;apply ae (wpAny_rule (ae (wpAny_pyIter_list #[_,jo,U,_,U] ?_)));apply aE #[plainId_quiet qh _,?_];have all:∀{b o},s.heap.get? b\o->(h2.push { cls:=.type "list_iterator",data:=.fields (List.toArray [.ref l,.int 0 0]) }).get? b\o:=λq=>aQ _ (k2 _ _ (aQ _ q))
 have hd2:h2.DictOf knd s.heap.objs.size []:=by
  let#[o,es,ep,ho,r]:=gn;exact#[o,es,ep,k2 _ _ ho,r]
 have yH:s.heap.objs.size<h2.objs.size:=by
  let#[o,es,ep,ho,r]:=hd2;exact bx ho
 have lz:l<s.heap.objs.size:=bx ho
 apply XM (A:=A.in1) (knd:=knd) (its:=its) (it:=h2.objs.size) (l:=l) (d:=s.heap.objs.size) (dD (Nat.lt_trans lz yH)) (dD yH) (iu lz) hh its ps 0 [] _ _ 0 U (L2.Paired.aX hp λv p ⟨b,ky,e1,t1,k1⟩=>#[b,ky,e1,t1.keeps λb o q=>all q,k1])
  #[_,cJ _ U,U,U] #[_,aQ _ jo,U,_,U] (by
   let#[o,es,ep,ho,r]:=hd2;exact#[o,es,ep,aQ _ ho,r]) ⇑hz λh' fO hU kp=>#[U,h h' fO hU λb o q=>?_]
 have bl:b<s.heap.objs.size:=bx q;exact kp b o (dD bl) (dD (Nat.lt_trans bl yH)) (all q)
end
end fI
theorem zl{n:Nat}(h:decide (n<=16777216)=true:=by rfl):n<=PySem.sizeLine:=by
 rw[PySem.sizeLine_eq];exact tI h
namespace L2
open PySem PySem.Spec PyProof.Rows PySem.W yo fI
variable{ys:af}
theorem bX.same{K:ai}{H H':Hp}{ks:List ax}(t:bX K H ys ks)(e:aa H H'):bX K H' ys ks:=Paired.aX t λy k ⟨a,z,q⟩=>#[a,z,e _ _ q]
theorem aa.new{H:Hp}{l:Addr}{o:HO}(h:H l=none):aa H (upd H l o):=λb u e=>by rw[aw (bz e h)];exact e
section
variable{X:Cx}{pins:List (Addr × Obj)}{σ:St}{H H':Hp}{s:Ab}{h':Heap}{t':Nat}
theorem Inv.many(I:Inv X pins σ H s)(k:∀b o,s.heap.get? b\o->h'.get? b\o)(hold:aa H H')(gn:∀b,H b=none->b<s.heap.objs.size->H' b=none)
  (_F:∀b o,H' b\o->H b=none->∃xs its,o=.tup xs/\xs.length<=sizeLine/\Vals xs its/\IsTup h' b its.toArray/\∃o,h'.get? b\o/\o.dict=none):Inv X pins σ H' { s with heap:=h',toks:=t' }:=by
 apply I.un #[λb o q _ _ _=>k b o q,λb o q _ _ _=>#[o.slots,k b o q],λb o q n _=>gn b n (bx q),λb o q _=>#[o,k b o q],λb xs q=>hold b _ q,λb o u q=>hold b _ q,λb ps q=>#[#[],by rw[Array.append_empty];exact hold b _ q]] λb o q=>?_;cases e:H b with
 |some u=>
  let e2:=hold b u e;rw[q] at e2;cases e2;exact (I.aA b o e).eN (λc v _ z=>k c v z) (λc z=>hold c _ z) λc xs z=>hold c _ z
 |none=>
  let#[xs,its,rfl,z,r,t]:=_F b o q e;exact#[z,its,r,t]
end
variable{R:aj->Ab->Prop}
section
variable{X:Cx}{pins:List (Addr × Obj)}{σ:St}{H:Hp}{s:Ab}{A:Ag}{E:Aa->Ab->Prop}
theorem Zu{p:Addr}(I:Inv X pins σ H s)(h:dS X.K H p ys)(hz:ys.length<=100000)(q:∀vs s1,Inv X pins σ H s1->Vals ys vs->R vs s1):wpAny (model X.prog X.w) A (collect (.ref p)) R E s:=by
 let#[its,r,pl,_]:=I.list h;let hl:=r.length;apply collect_list pl.isList (q its _ ?_ r) (by have:=cq;omega);apply I.kept (t':=s.toks) λb u e=>?_;have lt:b<s.heap.objs.size:=bx e;rw[Heap.get?_update_ne _ _ _ _ (dD lt)];exact aQ _ e
theorem Ja{P:Nat->Aa->Prop}{acc:Array Aa}(h:ItemsOf P acc ys.length)(hp:∀(j:Nat) v,P j v->∀y,ys[j]? = some y->RelV y v):Vals ys acc.toList:=by
 have gen:∀(ys:af) (vs:aj),ys.length=vs.length->(∀(j:Nat) y v,ys[j]? = some y->vs[j]? = some v->RelV y v)->Vals ys vs:=λys=>by
  induction ys with
  |nil=>
   intro vs hl _;cases vs with
   |nil=>exact .nil
   |cons _ _=>cases hl
  |cons y ys ih=>
   intro vs hl h;cases vs with
   |nil=>cases hl
   |cons v vs=>exact .cons (h 0 y v U U) (ih vs ⇑hl λj y v a b=>h (j+1) y v ⇑a ⇑b)
 apply gen ys acc.toList (by rw[t7];exact h.1.symm) λj y v a b=>hp j v (h.2 j v ?_) y a;rw[<- Array.getElem?_toList];exact b
theorem Qy{d:Addr}{kvs:List (Key × V)}(I:Inv X pins σ H s)(h:Rd H d (.dK kvs)):∃(P:Nat->Aa->Prop) (OK:Heap->Prop),KdlSrc X.prog X.w "dict" d d (kvs.map λkv=>kV kv.1).length P OK/\OK s.heap/\∀(j:Nat) v,P j v->∀y,(kvs.map λkv=>kV kv.1)[j]? = some y->RelV y v:=by
 let#[z,hd,vs,rel,dd]:=kD I.aA h;let#[ep,dat]:=dd.dictAt;let hl:=rel.length;apply#[λi v=>∃k x,vs[i]? = some (k,x)/\(dW X.prog X.w).is k v=true,λh=>h.DictAt (dW X.prog X.w) d vs ep,(by rw[aq,hl];exact kdl_dict (knd:=dW X.prog X.w) (kvs:=vs) (ep:=ep) hd),dat,λj v ⟨k,x,e,hk⟩ y hy=>?_];rw[dC] at hy;have ek:kvs.map (·.1)=vs.map (·.1):=rel.keys;have e2:(kvs.map (·.1))[j]? = (vs.map (·.1))[j]?:=by rw[ek]
 rw[dC,dC,e] at e2;cases e3:kvs[j]? with
 |none=>rw[e3] at e2;cases e2
 |some kv=>
  rw[e3] at e2 hy;have e4:kv.1=k:=cX e2;have e5:kV kv.1=y:=cX hy;rw[<- e5,e4];have hk:wb k v=true:=hk;rcases qj hk with⟨i,t,rfl,rfl⟩|⟨x,t,rfl,rfl⟩
  ·exact#[t,U]
  exact#[t,U]
theorem QE{d:Addr}{kvs:List (Key × V)}(hh:A.handled=none)(I:Inv X pins σ H s)(h:Rd H d (.dK kvs))(q:∀vs s1,Inv X pins σ H s1->Vals (kvs.map λkv=>kV kv.1) vs->R vs s1):wpAny (model X.prog X.w) A (collect (.ref d)) R E s:=by
 let#[P,OK,S,ok,hp]:=Qy I h;apply kdu_collect S hh ok ?_ λh' tk acc k a=>q _ _ (I.kept k) (Ja a hp);rw[aq];exact (kD I.aA h).1
theorem XD{d:Addr}{kvs:List (ax × V)}(I:Inv X pins σ H s)(h:Rd H d (.dT kvs)):∃(ys:af) (P:Nat->Aa->Prop) (OK:Heap->Prop),bX X.K H ys (kvs.map (·.1))/\ys.length<=sizeLine/\KdlSrc X.prog X.w "dict" d d ys.length P OK/\OK s.heap/\∀(j:Nat) v,P j v->∀y,ys[j]? = some y->RelV y v:=by
 let#[z,hd,xs,rel,o,es,ep,ho,hc,jH,vS,nd]:=h.ok I.aA
 have l1:es.size=xs.length:=by
  have:=ed List.length vS;simpa using this
 let l2:=bH rel;apply#[xs.map λx=>V.ref x.2.1,λi v=>∃h:i<es.size,v=es[i].key,λh=>Raw h d es ep,?_,by rw[aq];omega,(by rw[aq,<- l1];exact Yl (es:=es) (ep:=ep) hd),#[o,ho,hc,jH],λj v ⟨hj,e⟩ y hy=>?_]
 ·have gen:∀{kvs:List (ax × V)} {xs:List (ax × Addr × Aa)},KT H kvs xs->bX X.K H (xs.map λx=>V.ref x.2.1) (kvs.map (·.1)):=λ{kvs xs} r=>by
   induction r with
   |nil=>exact .nil
   |cons h _ ih=>exact .cons #[_,U,h.2.1] ih
  exact gen rel
 rw[dC] at hy;have hx:j<xs.length:=by omega
 rw[aY hx] at hy;have e1:V.ref xs[j].2.1=y:=cX hy
 have e2:es[j]=entryOfKey (tupleKind (dW X.prog X.w)) xs[j]:=by
  have e3:es.toList[j]? = (xs.map (entryOfKey (tupleKind (dW X.prog X.w))))[j]?:=by rw[vS]
  rw[dC,aY hx,Array.getElem?_toList,Array.getElem?_eq_getElem hj] at e3;exact cX e3
 rw[<- e1,e,e2];rfl
theorem X2{d:Addr}{kvs:List (ax × V)}(hh:A.handled=none)(I:Inv X pins σ H s)(h:Rd H d (.dT kvs))(q:∀ys vs s1,Inv X pins σ H s1->Vals ys vs->bX X.K H ys (kvs.map (·.1))->R vs s1):wpAny (model X.prog X.w) A (collect (.ref d)) R E s:=by
 let#[ys,P,OK,t,z,S,ok,hp]:=XD I h;exact kdu_collect S hh ok z λh' tk acc k a=>q ys _ _ (I.kept k) (Ja a hp) t
def tR(v d:Addr):HO:=.ext λh=>h.IsItemsView v d
def qc(v d:Addr):HO:=.ext λh=>h.IsValuesView v d
def kz(K:ai)(H:Hp):af->List (Key × V)->Prop:=Paired λy p=>∃a,y=V.ref a/\H a\.tup [kV p.1,p.2]
theorem hb_{v d:Addr}{kvs:List (Key × V)}(hh:A.handled=none)(I:Inv X pins σ H s)(hv:H v\tR v d)(h:Rd H d (.dK kvs))(q:∀H1 ys vs s1,Inv X pins σ H1 s1->aa H H1->Vals ys vs->kz X.K H1 ys kvs->R vs s1) :
  wpAny (model X.prog X.w) A (collect (.ref v)) R E s:=by
 let#[z,hd,vs,rel,dd]:=kD I.aA h;let#[ep,dat]:=dd.dictAt;let#[iv,_,_]:=I.aA v _ hv;let hl:=rel.length;apply kdx_collect (knd:=dW X.prog X.w) (kvs:=vs) (ep:=ep) hh iv dat Z2 λh' tk as k la G=>?_;have up:∀b,b∈as->s.heap.objs.size<b:=G.above
 have at1:∀(j:Nat) b p,as[j]? = some b->kvs[j]? = some p->∃its,Vals [kV p.1,p.2] its/\IsTup h' b its.toArray/\∃o,h'.get? b\o/\o.dict=none:=λj b p hj hp=>by
  let#[key,kk,x,e1,e2,e3]:=G.pairs j b hj
  have gen:∀{kvs:List (Key × V)} {vs:List (Key × Aa)},KV kvs vs->∀(j:Nat),vs[j]? = some (kk,x)->kvs[j]? = some p->p.1=kk/\RelV p.2 x:=λ{kvs vs} r=>by
   induction r with
   |nil=>intro j e;simp at e
   |@cons p' q _ _ h _ ih=>
    intro j e e';cases j with
    |zero=>
     have e:q=(kk,x):=⇑e
     have e':p'=p:=⇑e'
     subst e';rw[e] at h;exact h
    |succ j=>exact ih j ⇑e ⇑e'
  let#[g1,g2]:=gen rel j e1 hp;apply#[[key,x],.cons ?_ (.cons g2 .nil),#[_,e3,U,_,U],_,e3,U];rw[g1];have e2:wb kk key=true:=e2;rcases qj e2 with⟨i,t,rfl,rfl⟩|⟨x,t,rfl,rfl⟩
  ·exact#[t,U]
  exact#[t,U]
 have look:∀{as:av} {kvs:List (Key × V)},as.Pairwise (· < ·)->∀(j:Nat) b p,as[j]? = some b->kvs[j]? = some p->(as.zip kvs).lookup b\p:=λ{as}=>by
  induction as with
  |nil=>intro kvs _ j b p e;simp at e
  |cons a as ih=>
   intro kvs pw j b p e e';cases kvs with
   |nil=>simp at e'
   |cons q kvs=>
    let#[p1,p2]:=List.pairwise_cons.mp pw;show ((a,q)::as.zip kvs).lookup b\p;cases j with
    |zero=>
     have e:a=b:=⇑e
     have e':q=p:=⇑e'
     subst e;subst e';rw[List.lookup_cons_self]
    |succ j=>
     have e:as[j]? = some b:=⇑e
     have e':kvs[j]? = some p:=⇑e'
     let lt:=p1 b (cZ e);rw[qg,show (b == a)=false by simp only[beq_eq_false_iff_ne];exact iu lt];exact ih p2 j b p e e'
 have lk:as.length=kvs.length:=by omega
 let H1:Hp:=λb=>if b∈as then ((as.zip kvs).lookup b).map λp=>HO.tup [kV p.1,p.2] else H b
 have ER:∀(j:Nat) b p,as[j]? = some b->kvs[j]? = some p->H1 b\.tup [kV p.1,p.2]:=λj b p e e'=>by
  show (if b∈as then _ else _)=_;rw[aI (cZ e),look G.rise j b p e e'];rfl
 have oj:∀b,b∉as->H1 b=H b:=λb hb=>aC hb;have old:∀b,b<s.heap.objs.size->b∉as:=λb hb m=>absurd (up b m) Z2;apply q H1 (as.map V.ref) _ _ (I.many (t':=tk) k (λb o e=>by rw[oj b (old b (I.aA.lt e))];exact e) (λb e hb=>by rw[oj b (old b hb)];exact e) λb o e e0=>?_) (λb o e=>by rw[oj b (old b (I.aA.lt e))];exact e) ?_ ?_
 ·by_cases m:b∈as
  ·let#[j,hj]:=List.mem_iff_getElem?.mp m
   have jl:j<kvs.length:=by
    have:=(bW.mp hj).1;omega
   let e':=ER j b kvs[j] hj (aY jl);rw[e] at e';cases e';let#[its,r,t]:=at1 j b _ hj (aY jl);exact#[_,its,U,zl,r,t]
  rw[oj b m,e0] at e;cases e
 ·have gen:∀as:av,Vals (as.map V.ref) (as.map Value.ref):=λas=>by
   induction as with
   |nil=>exact .nil
   |cons a as ih=>exact .cons U ih
  exact gen as
 have gen:∀(B7:av) (fD:List (Key × V)),B7.length=fD.length->(∀(j:Nat) b p,B7[j]? = some b->fD[j]? = some p->H1 b\.tup [kV p.1,p.2])->kz X.K H1 (B7.map V.ref) fD:=λB7=>by
  induction B7 with
  |nil=>
   intro fD hl _;cases fD with
   |nil=>exact .nil
   |cons _ _=>cases hl
  |cons a B7 ih=>
   intro fD hl h;cases fD with
   |nil=>cases hl
   |cons p fD=>exact .cons #[a,U,h 0 a p U U] (ih fD ⇑hl λj b p e e'=>h (j+1) b p ⇑e ⇑e')
 exact gen as kvs lk ER
end
theorem RV{a b:ag}(h:a.map bO=b.map bO):a=b:=by
 induction a generalizing b with
 |nil=>
  cases b with
  |nil=>rfl
  |cons _ _=>cases h
 |cons x a ih=>
  cases b with
  |nil=>cases h
  |cons y b=>
   let#[h1,h2]:=List.cons.inj h;have h1:[(Sum.inr x:Key)]=[Sum.inr y]:=h1;cases h1;rw[ih h2]
theorem NK(ss:ag):(iN ss).map bO=bj (ss.map bO):=by
 have all:∀k∈bj (ss.map bO),∃x,k=bO x:=λk hk=>by
  let#[x,_,e]:=bG.mp ((t_ _).mem_iff.mp hk);exact#[x,e.symm]
 have gen:∀l:List ax,(∀k∈l,∃x,k=bO x)->(l.map λk=>match k with | [.inr x]=>x|_=>(⟨#[]⟩:Str)).map bO=l:=λl=>by
  induction l with
  |nil=>exact λ_=>rfl
  |cons k l ih=>
   intro h;let#[x,rfl]:=h k gF;rw[eI,eI,ih λk hk=>h k (fX _ hk)];rfl
 exact gen _ all
theorem FB(ss:ag):(iN ss).Perm ss:=by
 have p:((iN ss).map bO).Perm (ss.map bO):=by rw[NK];exact t_ _
 have back:∀l:ag,(l.map bO).map (λk=>match k with | [.inr x]=>x|_=>(⟨#[]⟩:Str))=l:=λl=>by
  rw[cz]
  induction l with
  |nil=>rfl
  |cons x l ih=>rw[eI,ih];rfl
 let q:=p.map (λk=>match k with | [.inr x]=>x|_=>(⟨#[]⟩:Str));rwa [back,back] at q
variable{u:Aa}
section
variable{X:Cx}{pins:List (Addr × Obj)}{σ:St}{H:Hp}{s:Ab}
theorem eg_{ss:ag}{Q:VK}(cY:ss.length<64)(md:wpAny (model X.prog X.w) X.A.in1 (collect u) (λvs s1=>∃H1,Inv X pins σ H1 s1/\Vals (ss.map V.str) vs/\∀l,H1 l=none->Q (.ref l) (upd H1 l (.lst ((iN ss).map V.str)))) X.xe s) :
  wpAny (model X.prog X.w) X.A (call (.builtin "sorted") [u]) (EP X pins σ Q) X.xe s:=by
 apply S9 (MQ (ss.map bO)) (aN md λvs s1 ⟨H1,I1,r,q⟩=>?_);have hl:vs.length=ss.length:=by rw[<- r.length,aq]
 apply#[by omega,λh2 h' _=>Tu (Rv r) h2,λp h' e g up hD kp=>?_];have g':Good (ss.map bO).length p:=by rw[aq,<- hl];exact g
 let asc:=Mm (ks:=ss.map bO) (λi j _ _=>rfl) g' (by rw[aq,<- hl];exact up)
 have perm:(p.toList.map λi=>(ss.map bO).getD i []).Perm (ss.map bO):=by
  have:=FF g' λi=>(ss.map bO).getD i [];rwa [FJ] at this
 let es:=N2 perm asc
 have inr:∀i∈p.toList,i<ss.length:=λi hi=>by
  have m:i∈(List.range vs.length).toArray:=g.mem_iff.mp ⇑hi;rw[hl] at m;simpa using m
 have e1:(p.toList.map λi=>ss.getD i ⟨#[]⟩)=iN ss:=by
  apply RV ?_;rw[NK,<- es,cz];apply uX λi hi=>?_;have:=inr i hi;simp[this]
 let rv:=MH r g
 have e2:(p.toList.map λi=>(ss.map V.str).getD i .non)=(iN ss).map V.str:=by
  rw[<- e1,cz];apply uX λi hi=>?_;have:=inr i hi;simp[this]
 rw[e2] at rv;apply#[.ref s1.heap.objs.size,_,I1.laid (t':=s1.toks) kp (bh _) (show fi X.prog X.w _ h' _ (.lst ((iN ss).map V.str)) from #[?_,mz p vs,e,rv,hD]),U,q _ (I1.aA.fresh (bh _))];rw[aq,(FB ss).length_eq];have:=cq;omega
theorem hW_{K:ai}{H:Hp}{ks:List ax}(t:bX K H ys ks):∀l:List Nat,(∀i∈l,i<ys.length)->bX K H (l.map λi=>ys.getD i .non) (l.map λi=>ks.getD i []):=λl=>by
 induction l with
 |nil=>exact λ_=>.nil
 |cons i l ih=>
  intro h;apply .cons ?_ (ih λj hj=>h j (fX _ hj));let hi:=h i gF
  have gen:∀{ys:af} {ks:List ax} (i:Nat),i<ys.length->bX K H ys ks->∃a,ys.getD i .non=V.ref a/\H a\.tup ((ks.getD i []).map kV):=λ{ys ks} i hy t=>by
   induction t generalizing i with
   |nil=>exact absurd hy Y0
   |cons h t ih=>
    cases i with
    |zero=>exact h
    |succ i=>exact ih i ⇑hy
  exact gen i hi t
theorem TQ{ks:List ax}{sh:List Bool}{Q:VK}(cY:ks.length<64)(al:Alike ks sh)(md:wpAny (model X.prog X.w) X.A.in1 (collect u) (λvs s1=>∃H1 ys,Inv X pins σ H1 s1/\Vals ys vs/\bX X.K H1 ys ks/\∀l zs,H1 l=none->bX X.K H1 zs (bj ks)->zs.Perm ys->Q (.ref l) (upd H1 l (.lst zs))) X.xe s) :
  wpAny (model X.prog X.w) X.A (call (.builtin "sorted") [u]) (EP X pins σ Q) X.xe s:=by
 apply S9 (MQ ks) (aN md λvs s1 ⟨H1,ys,I1,r,t,q⟩=>?_);let l1:=r.length;let l2:=bH t;have hl:vs.length=ks.length:=by omega
 apply#[by omega,λh2 h' k=>h5_ I1 r t al h2 k,λp h' e g up hD kp=>?_];have g':Good ks.length p:=by rw[<- hl];exact g
 let asc:=Mm (ks:=ks) (λi j _ _=>rfl) g' (by rw[<- hl];exact up)
 have perm:(p.toList.map λi=>ks.getD i []).Perm ks:=by
  have:=FF g' λi=>ks.getD i [];rwa [FJ] at this
 let es:=N2 perm asc
 have inr:∀i∈p.toList,i<ys.length:=λi hi=>by
  have m:i∈(List.range vs.length).toArray:=g.mem_iff.mp ⇑hi;rw[<- l1] at m;simpa using m
 let tz:=hW_ t p.toList inr;rw[es] at tz;let rv:=MH r g
 have pz:(p.toList.map λi=>ys.getD i .non).Perm ys:=by
  have:=FF (n:=ys.length) (by rw[l1];exact g) λi=>ys.getD i .non;rwa [FJ] at this
 apply#[.ref s1.heap.objs.size,_,I1.laid (t':=s1.toks) kp (bh _) (show fi X.prog X.w _ h' _ (.lst (p.toList.map λi=>ys.getD i .non)) from #[?_,mz p vs,e,rv,hD]),U,q _ _ (I1.aA.fresh (bh _)) tz pz];rw[pz.length_eq];have:=cq;omega
end
inductive nD (K:ai) (xs:af) (H:Hp) (Q:VK):Prop
 |mk:∀d kvs sh,xs=[.ref d]->H d\.dT kvs->Alike (kvs.map (·.1)) sh->kvs.length<64->(∀l zs,H l=none->bX K H zs (bj (kvs.map (·.1)))->Q (.ref l) (upd H l (.lst zs)))->nD K xs H Q
variable{X:Cx}
theorem eD_(hc:X.calm=true):gr X (.builtin "sorted") (nD X.K):=by
 intro pins s σ H xs us Q I r h;let#[d,kvs,sh,rfl,hd,al,cY,q]:=h;let#[u,rfl,ru]:=vals1 r;cases ru;exact TQ (by rw[aq];exact cY) al (X2 (I.ok.hd hc) I (.inl hd) λys vs s1 I1 r1 t=>⟨H,ys,I1,r1,t,λl zs n t' _=>q l zs n t'⟩)
inductive nE (xs:af) (H:Hp) (Q:VK):Prop
 |mk:∀d kvs ss,xs=[.ref d]->H d\.dK kvs->kvs.map (·.1)=ss.map Sum.inr->ss.length<64->(∀l,H l=none->Q (.ref l) (upd H l (.lst ((iN ss).map V.str))))->nE xs H Q
theorem eG_(hc:X.calm=true):gr X (.builtin "sorted") nE:=by
 intro pins s σ H xs us Q I r h;let#[d,kvs,ss,rfl,hd,ek,cY,q]:=h;let#[u,rfl,ru]:=vals1 r;cases ru;apply eg_ cY (QE (I.ok.hd hc) I (.inl hd) λvs s1 I1 r1=>⟨H,I1,?_,q⟩)
 have e:(kvs.map λkv=>kV kv.1)=ss.map V.str:=by
  rw[show (kvs.map λkv=>kV kv.1)=(kvs.map (·.1)).map kV by rw[cz];rfl,ek,cz];rfl
 rwa [e] at r1
inductive rV (K:ai) (xs:af) (H:Hp) (Q:VK):Prop
 |mk:∀(v d:Addr) (kvs:List (Key × V)) (ks:List (Key × Key)) (sh:List Bool),xs=[.ref v]->H v\tR v d->H d\.dK kvs->kvs=ks.map (λk:Key × Key=>(k.1,kV k.2))->Alike (ks.map λk=>[k.1,k.2]) sh->ks.length<64->(∀l H1 zs,aa H H1->H1 l=none->bX K H1 zs (bj (ks.map λk=>[k.1,k.2]))->Q (.ref l) (upd H1 l (.lst zs)))->rV K xs H Q
theorem fK_(hc:X.calm=true):gr X (.builtin "sorted") (rV X.K):=by
 intro pins s σ H xs us Q I r h;let#[v,d,kvs,ks,sh,rfl,hv,hd,ek,al,cY,q]:=h;let#[u,rfl,ru]:=vals1 r;cases ru;apply TQ (by rw[aq];exact cY) al (hb_ (I.ok.hd hc) I hv (.inl hd) λH1 ys vs s1 I1 sm r1 t=>⟨H1,ys,I1,r1,?_,λl zs n t' _=>q l H1 zs sm n t'⟩);subst ek
 have gen:∀(ks:List (Key × Key)) (ys:af),kz X.K H1 ys (ks.map (λk:Key × Key=>(k.1,kV k.2)))->bX X.K H1 ys (ks.map λk=>[k.1,k.2]):=λks=>by
  induction ks with
  |nil=>
   intro ys t;cases t;exact .nil
  |cons k ks ih=>
   intro ys t;cases t with
   |cons h t=>exact .cons h (ih _ t)
 exact gen ks ys t
inductive rX (xs:af) (H:Hp) (Q:VK):Prop
 |mk:∀d kvs,xs=[.ref d]->Rd H d (.dK kvs)->(∀l,H l=none->Q (.ref l) (upd H l (.lst (kvs.map λkv=>kV kv.1))))->rX xs H Q
theorem NG(hc:X.calm=true):gr X (.type "list") rX:=by
 intro pins s σ H xs us Q I r h;let#[d,kvs,rfl,hd,q]:=h;let#[u,rfl,ru]:=vals1 r;cases ru;let#[P,OK,S,ok,hp]:=Qy I hd;let z:=(kD I.aA hd).1;apply kdl_call S (I.ok.hd hc) ok (by rw[aq];exact z) λh' tk acc c k hD a=>?_;apply#[.ref s.heap.objs.size,_,I.laid (t':=tk) k (bh _) (show fi X.prog X.w _ h' _ (.lst (kvs.map λkv=>kV kv.1)) from #[by rw[aq];exact z,acc.toList,c,Ja a hp,by rw[Array.toArray_toList];exact hD]),U,q _ I.fresh]
theorem KV.eP{κ:Type}[DecidableEq κ]:∀{more:List (κ × V)} {rs:List (κ × Aa)} {kvs:List (κ × V)} {vs:List (κ × Aa)},KV more rs->KV kvs vs->KV (more.foldl (λacc kv=>putK acc kv.1 kv.2) kvs) (fI.eP vs rs):=λ{more rs kvs vs} h=>by
 induction h generalizing kvs vs with
 |nil=>exact λh=>h
 |@cons p q _ _ h _ ih=>
  intro h2;let#[k,y]:=p;let#[k',u]:=q;let#[h1,h3]:=h;have h1:k=k':=h1;subst h1;exact ih (h2.put k h3)
inductive nJ (K:ai) (xs:af) (H:Hp) (Q:VK):Prop
 |mk:∀p ys kvs,xs=[.ref p]->H p\.lst ys->kz K H ys kvs->kvs.length<=1000->(∀l,H l=none->Q (.ref l) (upd H l (.dK (we [] kvs))))->nJ K xs H Q
theorem A_(hc:X.calm=true):gr X (.type "dict") (nJ X.K):=by
 intro pins s σ H xs us Q I r h;let#[p,ys,kvs,rfl,hp,t,hz,q]:=h;let#[u,rfl,ru]:=vals1 r;cases ru;let#[z,its,n,rv,hl,ho]:=I.i5 hp
 have gen:∀{ys:af} {its:aj} {kvs:List (Key × V)},Vals ys its->kz X.K H ys kvs->∃ps,KV kvs ps/\Nn (dW X.prog X.w) s.heap its ps:=λ{ys its kvs} rv t=>by
  induction t generalizing its with
  |nil=>
   cases rv;exact#[[],.nil,.nil]
  |@cons y p ys kvs h t ih=>
   cases rv with
   |cons r0 rv=>
    let#[ps,h1,h2]:=ih rv;let#[a,e,sq]:=h;subst e;cases r0;let#[tv,rt,it,_]:=I.tuple (er.of sq);let#[key,x,e2,rk,rx]:=vals2 rt;subst e2;apply#[(p.1,x)::ps,Paired.cons (show p.1=p.1/\RelV p.2 x from #[U,rx]) h1,Paired.cons (show ∃a' DQ,Value.ref a=.ref a'/\IsTup s.heap a' (List.toArray [DQ,x])/\(dW X.prog X.w).is p.1 DQ=true from #[a,key,U,it,v_ rk]) h2]
 let#[ps,h1,h2]:=gen rv t;let lp:=KV.length h1;apply ej_ (knd:=dW X.prog X.w) (I.ok.hd hc) ho h2 Z2 λh' tk hd kp=>?_;apply#[.ref s.heap.objs.size,_,I.laid (t':=tk) kp (bh _) (L5 ?_ (beq_eq_false_iff_ne.mpr (bN (dD I.big))) (KV.eP h1 .nil) hd),U,q _ I.fresh];have:=Ow kvs [];have:=cq;simp only[List.length_nil] at *;show (we [] kvs).length<=sizeLine;omega
theorem Na:∀{bs:List Bool} {vs:aj},Vals (bs.map V.bl) vs->vs=bs.map Value.bool
 |[],_,.nil=>rfl
 |b::bs,_,.cons h t=>by
  cases h;rw[Na t];rfl
inductive zk (K:ai) (g:List Bool->Bool) (xs:af) (H:Hp) (Q:VK):Prop
 |mk:∀p bs,xs=[.ref p]->dS K H p (bs.map V.bl)->Q (.bl (g bs)) H->zk K g xs H Q
theorem RT(hc:X.calm=true):gr X (.builtin "all") (zk X.K λbs=>bs.all id):=by
 intro pins s σ H xs us Q I r h;let#[p,bs,rfl,hp,q]:=h;let#[u,rfl,ru]:=vals1 r;cases ru;let#[its,rv,pl,z]:=I.list hp;obtain rfl:=Na rv;let hl:=pl.isList;have lt:p<s.heap.objs.size:=by let#[_,e,_]:=hl;exact bx e
 apply call_all_walk (wpAny_pyIter_list hl ⟨s.heap.objs.size,[s.heap.objs.size,p],[s.heap.objs.size],(bs.map Value.bool).toArray.size,_,_,λi=>(bs[i]?).getD true,rfl,Walks.list (A:=X.A.in1) (I.ok.hd hc) _ p (dD lt) _,⟨⟨_,cJ _ rfl,rfl,rfl⟩,hl.push _⟩,λi v s' Q' E' hP hQ=>?_,λh' tk hk=>?_⟩)
 ·have hP:(bs.map Value.bool).toArray[i]? = some v:=hP;simp only[List.getElem?_toArray,dC] at hP;cases e:bs[i]? with
  |none=>rw[e] at hP;cases hP
  |some b=>
   have hQ:Q' ((bs[i]?).getD true) s':=hQ;rw[e] at hP hQ;cases hP;exact tO hQ
 have e:((List.range (bs.map Value.bool).toArray.size).all λi=>(bs[i]?).getD true)=bs.all id:=by
  rw[dc,aq];exact LSm.range_all bs
 rw[e];exact#[.bl _,H,I.kept (LSm.kept_iter hk),U,q]
theorem hM_(hc:X.calm=true):gr X (.builtin "any") (zk X.K λbs=>bs.any id):=by
 intro pins s σ H xs us Q I r h;let#[p,bs,rfl,hp,q]:=h;let#[u,rfl,ru]:=vals1 r;cases ru;let#[its,rv,pl,z]:=I.list hp;obtain rfl:=Na rv;let hl:=pl.isList;have lt:p<s.heap.objs.size:=by let#[_,e,_]:=hl;exact bx e
 apply call_any_walk (wpAny_pyIter_list hl #[s.heap.objs.size,[s.heap.objs.size,p],[s.heap.objs.size],(bs.map Value.bool).toArray.size,_,_,λi=>(bs[i]?).getD false,U,Walks.list (A:=X.A.in1) (I.ok.hd hc) _ p (dD lt) _,#[#[_,cJ _ U,U,U],hl.push _],λi v s' Q' E' hP hQ=>?_,λh' tk hk=>?_])
 ·have hP:(bs.map Value.bool).toArray[i]? = some v:=hP;simp only[List.getElem?_toArray,dC] at hP;cases e:bs[i]? with
  |none=>rw[e] at hP;cases hP
  |some b=>
   have hQ:Q' ((bs[i]?).getD false) s':=hQ;rw[e] at hP hQ;cases hP;exact tO hQ
 have e:((List.range (bs.map Value.bool).toArray.size).any λi=>(bs[i]?).getD false)=bs.any id:=by
  rw[dc,aq];exact LSm.range_any bs
 rw[e];exact#[.bl _,H,I.kept (LSm.kept_iter hk),U,q]
end L2
namespace Ji
open PySem PySem.SeqAt PyProof.Rows
open AutoSeq1 (wpAny_loadPart')
open MeetsSeq MeetsSeq2 MeetsSeq3 SeqRoads2
theorem XT(l b:Addr)(xs ys:Array Aa)(n m:Nat)(dl db:Option Addr)(sl sb:Array (Option Aa))(hs:xs.size=ys.size)(e:Nat->Bool)(k:Nat) :
  ∀i:Nat,xs.size - i=k->Meets (Builtin.«list.__eq__.loop» #[[.ref l,.ref b,rawInt i,rawInt 3],[]])
   (λA R s=>(s.heap.get? l=some { cls:=.type "list",dict:=dl,data:=.seq xs n,slots:=sl }/\s.heap.get? b=some { cls:=.type "list",dict:=db,data:=.seq ys m,slots:=sb }) /\
    (∀j (h1:j<xs.size) (h2:j<ys.size),EqAt A.in1 s xs[j] ys[j] (e j))/\R (.ok (.ret (.bool (!((List.range xs.size).drop i).all e)))) s):=by
 induction k with
 |zero=>
  intro i hk prog w A R s ⟨⟨gl,gb⟩,he,h⟩;let#[hp,g,d,tk,os]:=s
  wp_walk using pB gl,pB gb
  rw[show xs[((i:Nat):Int).toNat]? = none by simp;omega,show ys[((i:Nat):Int).toNat]? = none by simp;omega];rw[show (List.range xs.size).drop i=[] by simp;omega] at h
  wp_walk using pB gl,pB gb
  apply (show R (.ok (.ret (.bool (xs.size != ys.size)))) _ from ?_);rw[show (xs.size != ys.size)=false by simp[hs]];exact h
 |succ k ih=>
  intro i hk prog w A R s ⟨⟨gl,gb⟩,he,h⟩;let#[hp,g,d,tk,os]:=s
  wp_walk using pB gl,pB gb
  have z1:i<xs.size:=by omega
  have z2:i<ys.size:=by omega
  have q1:xs[((i:Nat):Int).toNat]? = some xs[i]:=by simp[z1]
  have q2:ys[((i:Nat):Int).toNat]? = some ys[i]:=by simp[z2]
  rw[show (List.range xs.size).drop i=i::(List.range xs.size).drop (i+1) by simp[List.drop_eq_getElem_cons,z1],List.all_cons] at h;rw[q1,q2];apply ae (he i z1 z2 prog w _ _ ?_);cases c:e i with
  |true=>
   rw[c] at h
   wp_walk
   rw[show ((i:Int)+1)=((i+1:Nat):Int) by omega];apply#[plainId_quiet plain_eq_loop _,codeAny_builtin entry_eq_loop ?_];rw[xT plain_eq_loop _];exact ih (i+1) Z2 prog w A R _ #[#[gl,gb],he,by simpa using h]
  |false=>
   rw[c] at h
   wp_walk using pB gl,pB gb
   rw[q1,q2]
   wp_walk
   simpa using h
theorem Zg(l b:Addr)(xs ys:Array Aa)(n m:Nat)(dl db:Option Addr)(sl sb:Array (Option Aa))(hs:xs.size=ys.size)(e:Nat->Bool) :
  Meets (Builtin.«list.__ne__» #[[.ref l,.ref b],[]])
   (λA R s=>(s.heap.get? l=some { cls:=.type "list",dict:=dl,data:=.seq xs n,slots:=sl }/\s.heap.get? b=some { cls:=.type "list",dict:=db,data:=.seq ys m,slots:=sb }) /\
    (∀j (h1:j<xs.size) (h2:j<ys.size),EqAt A.in1 s xs[j] ys[j] (e j))/\R (.ok (.ret (.bool (!(List.range xs.size).all e)))) s):=by
 intro prog w A R s ⟨⟨gl,gb⟩,he,h⟩;let#[hp,g,d,tk,os]:=s;let f3:=AutoSeq1.sub_list_list;have no:¬(xs.size != ys.size)=true:=by simp[hs]
 wp_walk using pB gl,pB gb
 apply#[plainId_quiet plain_eq_loop _,codeAny_builtin entry_eq_loop ?_];rw[xT plain_eq_loop _];exact XT l b xs ys n m dl db sl sb hs e _ 0 U prog w A R _ #[#[gl,gb],he,by simpa using h]
theorem Zq(l b:Addr)(xs ys:Array Aa)(n m:Nat)(dl db:Option Addr)(sl sb:Array (Option Aa))(hs:(xs.size != ys.size)=true) :
  Meets (Builtin.«list.__ne__» #[[.ref l,.ref b],[]])
   (λA R s=>(s.heap.get? l=some { cls:=.type "list",dict:=dl,data:=.seq xs n,slots:=sl }/\s.heap.get? b=some { cls:=.type "list",dict:=db,data:=.seq ys m,slots:=sb })/\R (.ok (.ret (.bool true))) s):=
 .of_wp λprog w A R s ⟨⟨gl,gb⟩,h⟩=>by
  let#[hp,g,d,tk,os]:=s;let f3:=AutoSeq1.sub_list_list
  wp_walk using pB gl,pB gb
  exact#[_,U,h]
variable{b l:Addr}{xs ys:Array Aa}{E Q:Aa->Ab->Prop}{prog:Ad}{w:Af}{A:Ag}{s:Ab}
theorem oX{e:Nat->Bool}(hl:s.heap.IsList l xs)(hb:s.heap.IsList b ys)(hs:xs.size=ys.size)(hu:A.units<cLine)(he:∀j (h1:j<xs.size) (h2:j<ys.size),EqAt A.in1 s xs[j] ys[j] (e j))(h:Q (.bool (!(List.range xs.size).all e)) s):wpAny (model prog w) A (compareOp .NotEq (.ref l) (.ref b)) Q E s:=by
 let#[#[c1,d1,t1,l1],o1,k1,n1,z1]:=id hl;let#[#[c2,d2,t2,l2],o2,k2,n2,z2]:=id hb;simp only at k1 z1 k2 z2;subst k1 z1 k2 z2;exact richCompare_meets_room (op:=.NotEq) #[_,o1,U] #[_,o2,U] F.slot_list_ne F.entry_list_ne (F.args_list_ne_2 _ _) (Zg l b xs ys n1 n2 d1 d2 l1 l2 hs e) #[#[o1,o2],he,show Value.bool (!(List.range xs.size).all e)≠Value.notImplemented/\Q (.bool (!(List.range xs.size).all e)) s from #[(λx=>nomatch x),h]] hu
theorem gX(hl:s.heap.IsList l xs)(hb:s.heap.IsList b ys)(hs:(xs.size != ys.size)=true)(hu:A.units<cLine)(h:Q (.bool true) s):wpAny (model prog w) A (compareOp .NotEq (.ref l) (.ref b)) Q E s:=by
 let#[#[c1,d1,t1,l1],o1,k1,n1,z1]:=id hl;let#[#[c2,d2,t2,l2],o2,k2,n2,z2]:=id hb;simp only at k1 z1 k2 z2;subst k1 z1 k2 z2;exact richCompare_meets_room (op:=.NotEq) #[_,o1,U] #[_,o2,U] F.slot_list_ne F.entry_list_ne (F.args_list_ne_2 _ _) (Zq l b xs ys n1 n2 d1 d2 l1 l2 hs) #[#[o1,o2],show Value.bool true≠Value.notImplemented/\Q (.bool true) s from #[(λx=>nomatch x),h]] hu
end Ji
namespace L2
open PySem PySem.Spec PyProof.Rows PySem.W yo fI
abbrev Rp(D:Type):=Hp->V->D->Prop
structure u5 (X:Cx) (n:Nat) {D:Type} [DecidableEq D] (R:Rp D):Prop where
 eq:∀{pins:List (Addr × Obj)} {σ:St} {H:Hp} {s:Ab} {A:Ag} {x y:V} {u v:Aa} {d e:D},Inv X pins σ H s->RelV x u->RelV y v->R H x d->R H y e->A.units+n<cLine->SeqAt.EqAt A s u v (decide (d=e))
 one:∀{pins:List (Addr × Obj)} {σ:St} {H:Hp} {s:Ab} {x:V} {d e:D},Inv X pins σ H s->R H x d->R H x e->d=e
def rS:Rp Str:=λ_ x d=>x=.str d
def r2(K:ai){D1 D2:Type}(R1:Rp D1)(R2:Rp D2):Rp (D1 × D2):=λH x d=>∃a u v,x=.ref a/\er K H a [u,v]/\R1 H u d.1/\R2 H v d.2
def rL(K:ai){D:Type}(R:Rp D):Rp (List D):=λH x ds=>∃a xs,x=.ref a/\dS K H a xs/\Paired (R H) xs ds
variable{X:Cx}
theorem i_:u5 X 0 rS where
 eq:=λ{pins σ H s A x y u v d e} I ru rv hx hy hu=>by
  have hx:x=.str d:=hx;have hy:y=.str e:=hy;subst hx;subst hy;let q:=Qr (A:=A) (s:=s) ru rv U U
  have e2:Mx (.str d) (.str e)=decide (d=e):=by
   show (d == e)=_;by_cases h:d=e
   ·subst h;simp
   simp[h]
  rwa [e2] at q
 one:=λ{pins σ H s x d e} I hx hy=>by
  have hx:x=.str d:=hx;have hy:x=.str e:=hy;rw[hx] at hy;exact V.str.inj hy
theorem Oh{h:Heap}{a:Addr}{its:Array Aa}(t:IsTup h a its):h.IsTuple a its:=t
variable{n:Nat}
theorem Fb{m:Nat}{D1 D2:Type}[DecidableEq D1][DecidableEq D2]{R1:Rp D1}{R2:Rp D2}(c1:u5 X n R1)(c2:u5 X m R2):u5 X (max n m+1) (r2 X.K R1 R2) where
 one:=λ{pins σ H s x d e} I hx hy=>by
  let#[a,u,v,rfl,t,q1,q2]:=hx;let#[b,u',v',e0,t',Gh,Gf]:=hy;cases e0;let e1:=I.di t t';cases e1;exact Prod.ext (c1.one I q1 Gh) (c2.one I q2 Gf)
 eq:=λ{pins σ H s A x y u v d e} I ru rv hx hy hu=>by
  let vP:=hx;let DZ:=hy;let#[a,x1,x2,rfl,t,q1,q2]:=hx;let#[b,y1,y2,rfl,t',Gh,Gf]:=hy;cases ru;cases rv;by_cases xJ:a=b
  ·subst xJ;let e1:=I.di t t';cases e1;have:d=e:=Prod.ext (c1.one I q1 Gh) (c2.one I q2 Gf);rw[cw this];exact SeqAt.EqAt.same _
  let#[its,r,it,_]:=I.tuple t;let#[its',r',Zr,_]:=I.tuple t';let#[u1,u2,rfl,r1,r2]:=vals2 r;let#[w1,w2,rfl,Wf,V_]:=vals2 r'
  let key:=SeqAt.EqAt.of_refs xJ (SeqAt.RcAt.tuples (A:=A) (s:=s) (e:=λj=>if j=0 then decide (d.1=e.1) else decide (d.2=e.2)) (Oh it) (Oh Zr) Z2 λj h1 h2=>by
   match j,h1,h2 with
   |0,_,_=>exact c1.eq I r1 Wf q1 Gh (by show A.units+1+n<cLine;omega)
   |1,_,_=>exact c2.eq I r2 V_ q2 Gf (by show A.units+1+m<cLine;omega))
  have e3:((List.range (min [u1,u2].toArray.size [w1,w2].toArray.size)).all (λj=>if j=0 then decide (d.1=e.1) else decide (d.2=e.2))&&[u1,u2].toArray.size == [w1,w2].toArray.size)=decide (d=e):=by
   show (decide (d.1=e.1)&&(decide (d.2=e.2)&&true)&&true)=_;by_cases h1:d.1=e.1
   ·by_cases h2:d.2=e.2
    ·have:d=e:=Prod.ext h1 h2;simp[this]
    have:¬d=e:=λz=>h2 (by rw[z]);simp[h1,h2,this]
   have:¬d=e:=λz=>h1 (by rw[z]);simp[h1,this]
  rw[e3] at key;exact key
theorem d8{α β:Type}{F:α->β->Prop}:∀{l:List α} {m:List β},Paired F l m->∀(i:Nat) (h1:i<l.length) (h2:i<m.length),F l[i] m[i]
 |_,_,.cons h t,0,_,_=>h
 |_,_,.cons h t,i+1,h1,h2=>d8 t i ⇑h1 ⇑h2
theorem e3_{D:Type}[DecidableEq D]:∀{ds es:List D},ds.length=es.length->((List.range ds.length).all λj=>decide (ds[j]? = es[j]?))=decide (ds=es):=λ{ds es} hl=>by
 by_cases h:ds=es
 ·subst h;simp
 rw[fq h]
 have:∃i,i<ds.length/\ds[i]?≠es[i]?:=by
  apply Classical.byContradiction λhn=>h ?_;apply List.ext_getElem? ?_;intro i;by_cases hi:i<ds.length
  ·exact Classical.byContradiction λq=>hn #[i,hi,q]
  rw[List.getElem?_eq_none Z2,List.getElem?_eq_none Z2]
 let#[i,hi,q]:=this;rw[List.all_eq_false];exact#[i,by simpa using hi,by simpa using q]
variable{pins:List (Addr × Obj)}{σ:St}{s:Ab}{A:Ag}
theorem ZO{D:Type}[DecidableEq D]{R:Rp D}(c:u5 X n R){H:Hp}(I:Inv X pins σ H s){xs ys:af}{us vs:aj}{ds es:List D}(ru:Vals xs us)(rv:Vals ys vs)(hx:Paired (R H) xs ds)(hy:Paired (R H) ys es)(hu:A.units+n<cLine) :
  ∀j (h1:j<us.toArray.size) (h2:j<vs.toArray.size),SeqAt.EqAt A s us.toArray[j] vs.toArray[j] (decide (ds[j]? = es[j]?)):=λj h1 h2=>by
 let l1:=ru.length;let l2:=rv.length;let l3:=bH hx;let l4:=bH hy;simp only[dc] at h1 h2;let q:=c.eq (A:=A) I (d8 ru j Z2 h1) (d8 rv j Z2 h2) (d8 hx j Z2 Z2) (d8 hy j Z2 Z2) hu
 have e:decide (ds[j]? = es[j]?)=decide (ds[j]' Z2=es[j]' Z2):=by
  rw[aY Z2,aY Z2];by_cases z:ds[j]' Z2=es[j]' Z2
  ·simp[z]
  simp[z]
 rw[e];exact q
def Ka{D:Type}[DecidableEq D](R:Rp D)(neg:Bool):V->V->Hp->VK->Prop:=λx y H Q=>∃d e,R H x d/\R H y e/\Q (.bl (if neg then !decide (d=e) else decide (d=e))) H
theorem Ya{D:Type}[DecidableEq D]{R:Rp D}(c:u5 X n R)(hu:X.A.units+n+1<cLine):d9 X (compareOp .NotEq) (Ka (rL X.K R) true):=by
 intro pins s σ H x y v u Q I rx ry h;let#[d,e,#[a,xs,rfl,t,q],#[b,ys,rfl,t',q'],hq]:=h;cases rx;cases ry;let#[us,r,pl,_]:=I.list t;let#[vs,r',Gj,_]:=I.list t';let l1:=r.length;let l2:=r'.length;let l3:=bH q;let l4:=bH q';have hq:Q (.bl (!decide (d=e))) H:=hq;by_cases hl:d.length=e.length
 ·apply Ji.oX pl.isList Gj.isList (by simp only[dc];omega) Z2 (ZO c I r r' q q' (A:=X.A.in1) (by show X.A.units+1+n<cLine;omega)) #[.bl _,H,I,U,?_];rw[show us.toArray.size=d.length by simp only[dc];omega,e3_ hl];exact hq
 apply Ji.gX pl.isList Gj.isList (by simp only[dc,bne_iff_ne];omega) Z2 #[.bl _,H,I,U,?_];rwa [fq (λz=>hl (by rw[z]))] at hq
def zj(K:ai){D:Type}[DecidableEq D](R:Rp D)(neg:Bool):V->V->Hp->VK->Prop:=λx y H Q=>∃d es,R H x d/\rL K R H y es/\Q (.bl (if neg then !decide (d∈es) else decide (d∈es))) H
theorem Le{D:Type}[DecidableEq D]{R:Rp D}(c:u5 X n R){H:Hp}(I:Inv X pins σ H s){x:V}{u:Aa}{d:D}(ru:RelV x u)(hx:R H x d)(hu:A.units+n<cLine):∀{ys:af} {vs:aj} {es:List D},Vals ys vs->Paired (R H) ys es->
  ∃f:Aa->Bool,(∀w∈vs,SeqAt.EqAt A s w u (f w))/\vs.any f=decide (d∈es):=λ{ys vs es} rv hy=>by
 let f:Aa->Bool:=λw=>@decide (∃y e,RelV y w/\R H y e/\e=d) (Classical.propDecidable _)
 have sound:∀y w e,RelV y w->R H y e->f w=decide (e=d):=λy w e h1 h2=>by
  by_cases z:e=d
  ·rw[cw z];exact @cw _ (Classical.propDecidable _) #[y,e,h1,h2,z]
  rw[fq z];apply @fq _ (Classical.propDecidable _) λ⟨y',e',g1,g2,g3⟩=>z ?_;have:y'=y:=RelV.inj g1 h1;subst this;rw[<- g3];exact c.one I h2 g2
 apply#[f,?_,?_]
 ·induction rv generalizing es with
  |nil=>exact λw hw=>nomatch hw
  |cons h t ih=>
   cases hy with
   |cons g t'=>
    intro w hw;rcases bY.mp hw with rfl|hw
    ·rw[sound _ _ _ h g];exact c.eq I h ru g hx hu
    exact ih t' w hw
 induction rv generalizing es with
 |nil=>
  cases hy;simp
 |cons h t ih=>
  cases hy with
  |@cons _ e _ es g t'=>
   rw[List.any_cons,ih t',sound _ _ _ h g];by_cases z:e=d
   ·subst z;simp
   by_cases z2:d∈es
   ·simp[z2]
   have:¬d∈e::es:=λq=>by
    rcases bY.mp q with q|q
    ·exact z q.symm
    exact z2 q
   rw[fq z,fq z2,fq this];rfl
theorem LU{D:Type}[DecidableEq D]{R:Rp D}(c:u5 X n R)(hu:X.A.units+n+1<cLine):d9 X (compareOp .In) (zj X.K R false):=by
 intro pins s σ H x y v u Q I rx ry h;let#[d,es,hx,#[a,ys,rfl,t,q],hq]:=h;cases ry;let#[us,r,pl,_]:=I.list t;let#[f,h1,h2]:=Le c I (A:=X.A.in1) rx hx (by show X.A.units+1+n<cLine;omega) r q;apply SeqAt.in_listAt f pl.isList (λw hw=>h1 w ⇑hw) #[.bl _,H,I,U,?_];rw[show us.toArray.any f=us.any f by simp,h2];exact hq
theorem Tt{D:Type}[DecidableEq D]{R:Rp D}(c:u5 X n R)(hu:X.A.units+n+1<cLine):d9 X (compareOp .NotIn) (zj X.K R true):=by
 intro pins s σ H x y v u Q I rx ry h;let#[d,es,hx,#[a,ys,rfl,t,q],hq]:=h;cases ry;let#[us,r,pl,_]:=I.list t;let#[f,h1,h2]:=Le c I (A:=X.A.in1) rx hx (by show X.A.units+1+n<cLine;omega) r q;apply SeqAt.notIn_listAt f pl.isList (λw hw=>h1 w ⇑hw) #[.bl _,H,I,U,?_];rw[show us.toArray.any f=us.any f by simp,h2];exact hq
inductive De (K:ai) (xs:af) (H:Hp) (Q:VK):Prop
 |mk:∀x T t b,xs=[x,.ty T]->fH K H x t->PySem.W.kitOne K t (.type T)\b->Q (.bl b) H->De K xs H Q
theorem jT:gr X (.builtin "isinstance") (De X.K):=by
 intro pins s σ H xs us Q I r h;let#[x,T,t,b,rfl,ty,e,q]:=h;let#[u,w',rfl,ru,ig]:=vals2 r;cases (show w'=Value.type T from ig);exact SH I ru ty e λtk=>#[.bl b,H,I.tok tk,U,q]
inductive T4 (x:V) (y:V) (H:Hp) (Q:VK):Prop
 |mk:∀i j,x=.str i->y=.str j->Q (.bl (!decide (j.cps.toList<i.cps.toList))) H->T4 x y H Q
theorem Sy:d9 X (compareOp .LtE) T4:=by
 intro pins s σ H x y v u Q I rx ry h;let#[i,j,rfl,rfl,q]:=h;let#[t,rfl]:=rx;let#[t',rfl]:=ry;exact PySem.P.le_str ⟨.bl _,H,I,rfl,q⟩
theorem Y8{prog:Ad}{w':Af}{E:Aa->Ab->Prop}(l:Addr)(its:Array Aa)(n:Nat)(k:Int)(t:Tok)(w:Aa)(h1:¬(!Builtin.List.listFitsIndex k)=true)(h2:its.size<=sizeLine){Q:Aa->Ab->Prop}(e:s.heap.get? l=some { cls:=.type "list",data:=.seq its n })(f:Array Aa->Array Aa)(hf:f=λxs:Array Aa=>let k:=if k<0 then (k+((xs.size:Nat):Int)).toNat else min k.toNat xs.size;(xs.extract 0 k).push w++xs.extract k)(q:Q .none { s with heap:=s.heap.update l (Obj.mapSeq f) }):wpAny (model prog w') A (call (.builtin "list.insert") [.ref l,.int k t,w]) Q E s:=by
 subst hf;let hm:=@PySem.AutoListH.list_insert_list_int_val_1 l its n k t w h1 h2;have ty:s.TypeIs (.ref l) "list":=⟨_,e,rfl⟩;exact wpAny_call (codeAny_call_builtin F.slot_list_insert.plain F.entry_list_insert (F.slot_list_insert.check _ _ _ _ _ _ _ _ ty (F.args_list_insert_3 _ _ _) (hm prog w' A (wants Q E) s ⟨e,q⟩)))
inductive nF (x:V) (vs:af) (H:Hp) (Q:VK):Prop
 |mk:∀(l:Addr) (k:Nat) (xs:af) (y:V),x=.ref l->vs=[.int k,y]->H l\.lst xs->k<=xs.length->xs.length<100000->Q .non (upd H l (.lst (xs.take k++y::xs.drop k)))->nF x vs H Q
theorem IM:Jh X "list.insert" nF:=by
 intro pins s σ H x vs v us Q I rx rv h;let#[l,k,xs,y,rfl,rfl,hH,hk,hz,q]:=h;cases rx;let#[u,w,rfl,#[t,rfl],ig]:=rv.two;let#[z,its,n,r,hl,e]:=I.i5 hH;let sz:=cq
 have fit:Builtin.List.listFitsIndex (k:Int)=true:=by
  unfold Builtin.List.listFitsIndex;rw[cw Z2,cw Z2];rfl
 apply Y8 l its.toArray n (k:Int) t w (by rw[fit];exact gM) (by rw[dc];omega) e _ rfl ?_;apply⟨.non,_,I.vK (its':=its.take k++w::its.drop k) (f:=λxs=>let k':=if (k:Int)<0 then ((k:Int)+((xs.size:Nat):Int)).toNat else min (k:Int).toNat xs.size;(xs.extract 0 k').push w++xs.extract k') hH e ?_ (Vals.append (r.take k) (.cons ig (r.drop k))) ?_,rfl,q⟩
 ·have e1:(if (k:Int)<0 then ((k:Int)+((its.toArray.size:Nat):Int)).toNat else min (k:Int).toNat its.toArray.size)=k:=by
   rw[aC Z2];simp;omega
  dsimp only;rw[e1];apply Array.ext' ?_;simp[uZ]
 rw[d4,iR,dJ,yk];omega
inductive qw (mk:Addr->Addr->HO) (Q:VK) (x:V) (H1:Hp):Prop
 |mk:∀d kvs,x=.ref d->H1 d\.dK kvs->(∀v,H1 v=none->Q (.ref v) (upd H1 v (mk v d)))->qw mk Q x H1
def wN(mk:Addr->Addr->HO)(td:TE):TE:=λσ H Q=>td σ H λx H1=>qw mk Q x H1
variable{H:Hp}{d:Addr}
theorem Ru{cls:String}(I:Inv X pins σ H s)(φ:Heap->Prop)(_d:φ (s.heap.push { cls:=.type cls,data:=.fields (List.toArray [.ref d]) }))(hs:∀h1 h2:Heap,φ h1->(∀o,h1.get? s.heap.objs.size\o->h2.get? s.heap.objs.size\o)->φ h2) :
  Inv X pins σ (upd H s.heap.objs.size (.ext φ)) { s with heap:=s.heap.push { cls:=.type cls,data:=.fields (List.toArray [.ref d]) } }:=
 I.laid (t':=s.toks) (λ_ _ q=>aQ _ q) (bh _) #[_d,#[_,cJ _ U],hs]
variable{o:Expr}{td:TE}{apos b_:Pos}
theorem IA(ho:PE X o td)(hW:attributeBase o "items" X.env (eval o X.env)=eval o X.env:=by rfl)(hJ:(apos.endLine == b_.line)=true:=by rfl):PE X (.Call (.Attribute o "items" apos) [] [] b_) (wN tR td):=by
 intro pins s σ H Q I h;apply wpAny_Call_method0_late hW hJ (aN (ho pins s σ H _ I h) λv s1 ⟨x,H1,I1,r1,d,kvs,e,hd,q⟩=>?_);subst e;cases r1;let#[t1,t2,t3]:=Hd I1 (.inl #[kvs,.inl hd]);let#[_,_,vs,rel,dd]:=ES I1.aA hd;apply#["dict","dict.items",PySem.F.plainAttrs_dict,PySem.F.slot_dict_items,PySem.F.type_dict_items,t1,t2,Calls.callWith_builtin U (PySem.evalArgs_none ?_)];apply call_meetsIn PySem.F.slot_dict_items t1 PySem.F.entry_dict_items (PySem.F.args_dict_items_1 _) (meets_dict_items (dW X.prog X.w) d t3) #[#[vs,dd],?_];exact#[.ref _,_,Ru I1 _ #[_,cJ _ U,U,U] λh1 h2 ⟨o,e,r⟩ k=>#[o,k o e,r],U,q _ I1.fresh]
theorem IK(ho:PE X o td)(hW:attributeBase o "values" X.env (eval o X.env)=eval o X.env:=by rfl)(hJ:(apos.endLine == b_.line)=true:=by rfl):PE X (.Call (.Attribute o "values" apos) [] [] b_) (wN qc td):=by
 intro pins s σ H Q I h;apply wpAny_Call_method0_late hW hJ (aN (ho pins s σ H _ I h) λv s1 ⟨x,H1,I1,r1,d,kvs,e,hd,q⟩=>?_);subst e;cases r1;let#[t1,t2,t3]:=Hd I1 (.inl #[kvs,.inl hd]);let#[_,_,vs,rel,dd]:=ES I1.aA hd;apply#["dict","dict.values",PySem.F.plainAttrs_dict,PySem.F.slot_dict_values,PySem.F.type_dict_values,t1,t2,Calls.callWith_builtin U (PySem.evalArgs_none ?_)];apply call_meetsIn PySem.F.slot_dict_values t1 PySem.F.entry_dict_values (PySem.F.args_dict_values_1 _) (meets_dict_values (dW X.prog X.w) d t3) #[#[vs,dd],?_];exact#[.ref _,_,Ru I1 _ #[_,cJ _ U,U,U] λh1 h2 ⟨o,e,r⟩ k=>#[o,k o e,r],U,q _ I1.fresh]
variable{kvs:List (Key × V)}
theorem Inv.freeze(I:Inv X pins σ H s)(h:H d\.dK kvs):∃o,s.heap.get? d\o/\Inv X pins σ (upd H d (.frz o (.dK kvs))) s:=by
 let#[z,hd,vs,rel,dd]:=ES I.aA h;let#[o,es,ep,ho,r]:=id dd;have other:∀{b u},H b\u->u≠.dK kvs->upd H d (.frz o (.dK kvs)) b\u:=λ{b u} e ne=>by rw[aw (bS e h ne)];exact e
 apply#[o,ho,I.un (h':=s.heap) (t':=s.toks) #[λb u q _ _ _=>q,λb u q _ _ _=>#[u.slots,q],λb u q n _=>?_,λb u q _=>#[u,q],λb xs q=>other q Y0,λb u v q=>other q Y0,λb ps q=>#[#[],by rw[Array.append_empty];exact other q Y0]] λb u q=>?_]
 ·by_cases e:b=d
  ·subst e;rw[h] at n;cases n
  rw[aw e];exact n
 by_cases e:b=d
 ·subst e;rw[az] at q;cases q;exact#[ho,z,hd,vs,rel,dd]
 rw[aw e] at q;exact (I.aA b u q).eN (λc v _ z=>z) (λc z=>other z Y0) λc xs z=>other z Y0
variable{o:Obj}
theorem Inv.qt(I:Inv X pins σ H s)(h:H d\.frz o (.dK kvs))(h0:∀o u,X.j7 d≠some (.frz o u)):Inv X pins σ (upd H d (.dK kvs)) s:=by
 have other:∀{b u},H b\u->(∀o v,u≠.frz o v)->upd H d (.dK kvs) b\u:=λ{b u} e ne=>by rw[aw (bS e h (ne _ _))];exact e
 have nO:∀{b},H b=none->upd H d (.dK kvs) b=none:=λ{b} e=>by
  rw[aw (λz=>by subst z;rw[h] at e;cases e)];exact e
 apply#[I.ok,I.os,I.bare,#[I.base.keep,I.base.slot,λb u q n hx=>nO (I.base.free b u q n hx),I.base.there,λb xs q=>other (I.base.gW b xs q) Y0,λb u v q=>?_,λb ps q=>?_],I.loc,I.cell,nO I.free,λx c e=>nO (I.d6 x c e),λp hp=>?_,λb u q=>?_,I.len]
 ·have:=I.base.hY b u v q;rw[aw (λz=>by subst z;exact h0 _ _ q)];exact this
 ·let#[more,e]:=I.base.ix b ps q;exact#[more,other e Y0]
 ·let#[a1,a2,a3]:=I.pin p hp;exact#[a1,nO a2,a3]
 by_cases e:b=d
 ·subst e;rw[az] at q;cases q;let#[ho,z,hd,vs,rel,dd]:=I.aA b _ h;exact#[z,hd,vs,rel,dd]
 rw[aw e] at q;exact (I.aA b u q).eN (λc v _ z=>z) (λc z=>other z Y0) λc xs z=>other z Y0
theorem Tc{es:Array DictEntry}{ep:Nat}(I:Inv X pins σ H s)(h:H d\.frz o (.dK kvs))(ho:o.data=.dict es ep):∃vs,KV kvs vs/\s.heap.DictAt (dW X.prog X.w) d vs ep:=by
 let#[e,z,hd,vs,rel,o',Hk,Hn,e',c',d',r]:=I.aA d _ h;rw[e] at e';cases e';rw[ho] at d';cases d';exact#[vs,rel,o,es,e,c',ho,r]
theorem LX{κ:Type}{kvs:List (κ × V)}{vs:List (κ × Aa)}(r:KV kvs vs):∀(i:Nat) {k:κ} {x:V},kvs[i]? = some (k,x)->∃u,vs[i]? = some (k,u)/\RelV x u:=by
 induction r with
 |nil=>intro i k x e;simp at e
 |@cons p q _ _ h _ ih=>
  intro i k x e;cases i with
  |zero=>
   have e:p=(k,x):=⇑e
   subst e;apply#[q.2,?_,h.2];rw[List.getElem?_cons_zero];have h1:k=q.1:=h.1;rw[h1]
  |succ i=>exact ih i ⇑e
def OT(x:Str):It:=#[λi _=>i<x.cps.size,λi H v H'=>H'=H/\∃c,x.cps[i]? = some c/\v=.str ⟨(List.toArray [c])⟩,λi _=>x.cps.size<=i]
variable{P:Ad}{w:Af}{K:ai}{tg:Expr}
theorem fQ_(it:Addr)(x:Str)(t:Tok):Turn P w K tg (OT x) [it] it (λi h=>i<=x.cps.size/\h.IsStrIter it "str_ascii_iterator" x t i) where
 mem:=by simp
 obj:=λi h st b hb=>by
  obtain rfl:b=it:=⇑hb
  let#[o,e,c,d]:=st.2;exact#[o,e,λv z=>by rw[d] at z;cases z]
 keep:=λi h h' st k=>#[st.1,let #[o,ho,r]:=st.2;#[o,k it Y0 o ho,r]]
 item:=by
  intro X hP hw hK hc i pins s σ H E I hf st hg;subst hP hw hK;have hg:i<x.cps.size:=hg;let#[f0,f1,f2,f3,f4,f5]:=hf it Y0;apply wpAny_pyNext_ascii_item st.2 (c:=x.cps[i]) (by simp[hg]) λh' d_ sb=>?_;have I1:Inv X pins σ H { s with heap:=h',toks:=s.toks+1 }:=I.turned (t':=s.toks+1) (λb o hb e=>(sb.2 b hb).trans e) f0 f1 f3 f4 f5;let#[o',e,c,dd]:=id d_;exact#[_,U,Eg (s:={ s with heap:=h',toks:=s.toks+1 }) e c dd (by decide) #[.str ⟨#[x.cps[i]]⟩,H,I1,#[_,U],#[U,_,by simp[hg],U],#[hg,d_],λb hb=>(hf b hb).1]]
 done:=by
  intro X hP hw hK hc i pins s σ H E I hf st hg;subst hP hw hK;have hg:x.cps.size<=i:=hg;let#[f0,f1,f2,f3,f4,f5]:=hf it Y0;exact wpAny_pyNext_ascii_end (I.ok.hd hc) st.2 (by simp[hg]) λh' eb=>#[U,I.turned (t':=s.toks) (λb o hb e=>eb b o hb e) f0 f1 f3 f4 f5]
 self:=λ_ _ _ _ _ st h=>wpAny_pyIter_striter_ascii st.2 h
theorem gp_(it:Addr)(x:Str)(t:Tok):Turn P w K tg (OT x) [it] it (λi h=>i<=x.cps.size/\h.IsStrIter it "str_iterator" x t i) where
 mem:=by simp
 obj:=λi h st b hb=>by
  obtain rfl:b=it:=⇑hb
  let#[o,e,c,d]:=st.2;exact#[o,e,λv z=>by rw[d] at z;cases z]
 keep:=λi h h' st k=>#[st.1,let #[o,ho,r]:=st.2;#[o,k it Y0 o ho,r]]
 item:=by
  intro X hP hw hK hc i pins s σ H E I hf st hg;subst hP hw hK;have hg:i<x.cps.size:=hg;let#[f0,f1,f2,f3,f4,f5]:=hf it Y0;apply wpAny_pyNext_wide_item st.2 (c:=x.cps[i]) (by simp[hg]) λh' d_ sb=>?_;have I1:Inv X pins σ H { s with heap:=h',toks:=s.toks+1 }:=I.turned (t':=s.toks+1) (λb o hb e=>(sb.2 b hb).trans e) f0 f1 f3 f4 f5;let#[o',e,c,dd]:=id d_;exact#[_,U,Eg (s:={ s with heap:=h',toks:=s.toks+1 }) e c dd (by decide) #[.str ⟨#[x.cps[i]]⟩,H,I1,#[_,U],#[U,_,by simp[hg],U],#[hg,d_],λb hb=>(hf b hb).1]]
 done:=by
  intro X hP hw hK hc i pins s σ H E I hf st hg;subst hP hw hK;have hg:x.cps.size<=i:=hg;let#[f0,f1,f2,f3,f4,f5]:=hf it Y0;exact wpAny_pyNext_wide_end (I.ok.hd hc) st.2 (by simp[hg]) λh' eb=>#[U,I.turned (t':=s.toks) (λb o hb e=>eb b o hb e) f0 f1 f3 f4 f5]
 self:=λ_ _ _ _ _ st h=>wpAny_pyIter_striter_wide st.2 h
inductive xu (R:It->Hp->Prop) (v:V) (H1:Hp):Prop
 |mk:∀x,v=.str x->R (OT x) H1->xu R v H1
def KO(tl:TE):TI:=λσ H R=>tl σ H λv H1=>xu R v H1
theorem X7{l:Expr}{tl:TE}(hl:PE X l tl):PI X tg l (KO tl):=by
 intro pins s σ H R I h;apply aN (hl pins s σ H _ I h) λv s1 ⟨y,H1,I1,r1,x,e,q⟩=>?_;subst e;let#[t,rfl]:=r1
 have fp:∀b∈[s1.heap.objs.size],dh X pins H1 b:=λb hb=>by
  obtain rfl:b=s1.heap.objs.size:=⇑hb
  exact I1.iH (bh _) (I1.aA.fresh (bh _))
 cases ha:x.cps.all (· < 128)
 ·apply wpAny_pyIter_wide ha ?_;exact#[s1.heap.objs.size,[s1.heap.objs.size],_,_,H1,U,I1.kept (t':=s1.toks) λb o e=>aQ _ e,gp_ _ x t,#[gO _,_,cJ _ U,U,U],fp,q]
 apply wpAny_pyIter_ascii ha ?_;exact#[s1.heap.objs.size,[s1.heap.objs.size],_,_,H1,U,I1.kept (t':=s1.toks) λb o e=>aQ _ e,fQ_ _ x t,#[gO _,_,cJ _ U,U,U],fp,q]
theorem WD{f:Aa->Aa->Sem Aa}(r:ai->R2)(h:d9 X f (r X.K))(hK:X.K=K:=by rfl):d9 X f (r K):=by
 subst hK;exact h
theorem Fc{f:Aa}(r:ai->af->Hp->VK->Prop)(h:gr X f (r X.K))(hK:X.K=K:=by rfl):gr X f (r K):=by
 subst hK;exact h
theorem zD(r:ai->R2)(h:Cb X (r X.K))(hK:X.K=K:=by rfl):Cb X (r K):=by
 subst hK;exact h
theorem E9{N:ag}{scope:Scope}{fp:av}{es:List Expr}{k:Nat}{pos:Pos}{t:Bd}(h:FN (ik X N scope fp s H) es t)(hc:X.calm=true:=by rfl)(hn:(assignEach es (ik X N scope fp s H).env).length=n:=by rfl)(zL:(assignEach es (ik X N scope fp s H).env).findIdx? (·.1)=none:=by rfl):PG (ik X N scope fp s H) (.Tuple es k pos) (fR X.K n t):=mr (X:=ik X N scope fp s H) hc h hn zL
end L2
abbrev AF:PySem.Str:="ways_by_name"
abbrev xS:PySem.Str:="_law_script"
abbrev wm:PySem.Str:="_law_piece"
abbrev wa:PySem.Str:="_law_found"
abbrev BL:PySem.Str:="greatest_divisor"
abbrev j0:PySem.Str:="multiple_of_strengths"
abbrev BM:PySem.Str:="neighbours_by_hand"
abbrev tQ:PySem.Str:="_law_digit"
abbrev o_:PySem.Str:="_law_pieces_here"
abbrev uN:PySem.Str:="strength_by_hand"
abbrev pZ:PySem.Str:="weight_by_name"
abbrev pX:PySem.Str:="ahead_by_hands"
abbrev mF:PySem.Str:="_law_hands_here"
abbrev gL:PySem.Str:="_law_state"
abbrev jQ:PySem.Str:="exits_by_place"
abbrev uO:List PySem.Str:=[gL,"_law_base"]
abbrev fV:List PySem.Str:=["thing"]
abbrev mC:List PySem.Str:=["self","thing"]
abbrev pb:List PySem.Str:=["goods","placed"]
abbrev mw:List PySem.Str:=["one","other"]
abbrev oF:List PySem.Str:=[gL,mF,o_]
abbrev BP:List PySem.Str:=["_law_name_here","_law_strength"]
abbrev xU:List PySem.Str:=["name","weight","ways"]
abbrev um:List PySem.Str:=[mF,o_,"_law_spot","_law_limit"]
abbrev uk:List PySem.Str:=[o_,"_law_ties_here","_law_spot","_law_most"]
abbrev uj:List PySem.Str:=["_law_parts","_law_layers_here","_law_limit","_law_count"]
abbrev AD:List PySem.Str:=["thing","least","most"]
abbrev ui:List PySem.Str:=[mF,o_,"_law_spot"]
abbrev uh:List PySem.Str:=[o_,"_law_ties_here","_law_spot"]
abbrev wg:List PySem.Str:=["self","hand"]
abbrev ug:List PySem.Str:=[gL,"_law_layers_here","_law_count"]
abbrev oE:List PySem.Str:=["goods","stand","limit","most"]
abbrev jX:List PySem.Str:=["goods","hands","limit"]
abbrev uf:List PySem.Str:=[gL,"_law_ties_here","_law_most"]
abbrev ue:List PySem.Str:=["goods","stand","limit","count","shut"]
abbrev jW:List PySem.Str:=["self","one","other"]
abbrev AE:List PySem.Str:=["self","hands"]
abbrev ow:List PySem.Str:=["self"]
abbrev ud:List PySem.Str:=["reach","hands","number_by_hands"]
abbrev oC:List PySem.Str:=["self","goods","placed"]
abbrev uc:List PySem.Str:=["goods","stand","limit","count"]
abbrev oB:List PySem.Str:=["goods","count","thing"]
namespace Ev
open PySem L2
def top(i:Nat):Stmt:=PySem.Challenge.pw_evenpieces_k84_whole_shut_out_by_whoever.main.body.getD i (.Pass #[0,0,0,0])
abbrev ze:Stmt:=top 12
abbrev lG:Stmt:=top 14
abbrev rD:Stmt:=top 15
abbrev MD:Stmt:=top 16
abbrev rq:Stmt:=top 17
abbrev M8:Stmt:=top 18
abbrev rN:Stmt:=top 51
abbrev y_:Stmt:=top 52
abbrev qZ:Stmt:=top 53
abbrev rC:Stmt:=top 54
abbrev oP:Stmt:=top 55
def zx(a b:Str):Bool:=decide (a.cps.toList<b.cps.toList)
def aK(a b:Str):Str × Str:=if zx a b=true then (a,b) else (b,a)
variable{f:Addr}{fd:Ae}
variable{X:Cx}{k:Nat}{ps:ag}{sp:Sp}{pos:Pos}{e:Expr}{es:List Expr}{t:TA}
section v
theorem bV{N p:List Str}{c:Scope}(h:bJ N p c:=by exact#[U,U,U,by decide +kernel,U,by decide +kernel,by decide +kernel]):bJ N p c:=h
theorem qS:bJ mw mw (a9 MD):=bV
def Iz:Sp:=λvs H Q _=>∃a b,vs=[.str a,.str b]/\∀t,H t=none->Q (.ref t) (upd H t (.tup [.str (aK a b).1,.str (aK a b).2]))
theorem _M(F:bo K "lesser_first" "lesser_first" MD f fd):!ao a_ 1 f fd mw Iz:=by
 exists F.bU qS;let#[a,b,rfl,k]:=h;apply#[_,aF (bp (ZP (eY gb_ (pv 0) (pv 1)) (gh %[0,1|0]) (gh %[1,0|0]))),?_];apply#[_,U,_,U,a,b,U,U,_,U,?_];apply bQ (λc=>?_) (λc=>?_)
 ·apply#[_,U,_,U,zl,λt ht=>?_];have:=k t ht;rwa [show aK a b=(a,b) from aI c] at this
 apply#[_,U,_,U,zl,λt ht=>?_];have:=k t ht;rwa [show aK a b=(b,a) from aC c] at this
theorem vt:bJ AD AD (a9 lG):=bV
def Ft:Sp:=λvs H Q _=>∃i a b:Int,vs=[.int i,.int a,.int b]/\Q (.bl (decide (a<=i)&&decide (i<=b))) H
structure Bi (mg:Str->Option Aa):Prop where
 jn:mg "isinstance"=none
 int:mg "int"=none
 bool:mg "bool"=none
 str:mg "str"=none
 tuple:mg "tuple"=none
 list:mg "list"=none
 dict:mg "dict"=none
 len:mg "len"=none
 all:mg "all"=none
 sorted:mg "sorted"=none
 max:mg "max"=none
 range:mg "range"=none
 any:mg "any"=none
 enum:mg "enumerate"=none
structure br (P:Ad) (w:Af) (K:ai) (mg:Str->Option Aa) (base:Heap) (k:Nat) (x:Str) (ps:ag) (sp:Sp):Prop where
 ex:∃f fd,ao P w K mg base a_ k f fd ps sp/\mg x\.ref f/\PySem.W.keepIn K (.ref f)=true/\p7 K fd ps []
theorem bc{n_:Nat}{x:Str}{p:Pos}(c:br X.prog X.w X.K X.mg X.base k x ps sp)(hr:aO n_ X.A)(ha:PA X (e::es) t)(hg:Gl X x:=by rfl)(sU:(x == ("__debug__":Str))=false:=by decide)(he:starEach (e::es) X.env=(false,eval e X.env)::starEach es X.env:=by rfl)(iE:(backTo pos (starEach es X.env)).any (·.1)=false:=by rfl)(hk:k<=n_:=by decide):PE X (.Call (.Name x p) (e::es) [] pos) (wZ sp [] E0 t):=by
 let#[f,fd,F,m,kp,b]:=c.ex;exact ZW F (hr.mono hk) hg m kp b .nil nM ha sU he iE
theorem C0:bJ fV fV (a9 ze):=bV
def nj:Sp:=λvs H Q _=>∃i:Int,vs=[.int i]/\Q (.bl true) H
theorem XF(F:bo K "is_whole" "is_whole" ze f fd)(B:Bi mg):!ao a_ 1 f fd fV nj:=by
 exists F.bU C0;let#[i,rfl,k]:=h;apply#[_,aF (bp (ph (cy jT (by rfl) B.jn jr %[0,jS (v:=.ty "int") (by rfl) B.int HN U|0]) (qe (QB (cy jT (by rfl) B.jn jr %[0,jS (v:=.ty "bool") (by rfl) B.bool PyProof.Rows.Boot.«bool» rfl|0]))))),?_];exact#[_,U,_,_,_,_,U,.int i,U,_,U,c_ #[_,U,_,_,_,_,U,.int i,U,_,U,k]]
theorem hK_(F:bo K "is_whole_within" "is_whole_within" lG f fd)(cI:!br 1 "is_whole" fV nj):!ao a_ 2 f fd AD Ft:=by
 exists F.bU vt;let#[i,a,b,rfl,k]:=h;apply#[_,aF (bp (ph (bc cI hr %[0|0]) (qe (SX xQ xQ (pv 1) (pv 0) (pv 2))))),?_];apply#[_,U,i,U,_,U,c_ ?_];apply#[_,U,_,U,_,_,U,U,_,U,?_];apply bQ (λc=>?_) (λc=>?_)
 ·apply#[_,U,_,_,U,U,?_];rw[c] at k;exact k
 rw[show decide (a<=i)=false by simpa using c] at k;exact k
def oU(c:Nat):Bool:=decide (97<=c)&&decide (c<=122)
def iL(x:Str):Bool:=decide (1<=x.length)&&decide (x.length<=8)&&x.cps.toList.all oU
theorem yV:bJ fV fV (a9 rD):=bV
def Ht:Sp:=λvs H Q _=>∃x:Str,vs=[.str x]/\x.length<=100000/\∀H',aa H H'->Q (.bl (iL x)) H'
theorem Y7{c:Nat}:(!decide ((⟨(List.toArray [c])⟩:Str).cps.toList<("a":Str).cps.toList))=decide (97<=c):=by
 have e:("a":Str).cps.toList=[97]:=by decide +kernel
 rw[e];show (!decide ([c] < [97]))=decide (97<=c);by_cases h:97<=c
 ·have:¬[c] < [97]:=by simp[List.cons_lt_cons_iff];omega
  simp[this,h]
 have:[c] < [97]:=by simp[List.cons_lt_cons_iff];omega
 simp[this,h]
theorem Y3{c:Nat}:(!decide (("z":Str).cps.toList<(⟨(List.toArray [c])⟩:Str).cps.toList))=decide (c<=122):=by
 have e:("z":Str).cps.toList=[122]:=by decide +kernel
 rw[e];show (!decide ([122] < [c]))=decide (c<=122);by_cases h:c<=122
 ·have:¬[122] < [c]:=by simp[List.cons_lt_cons_iff];omega
  simp[this,h]
 have:[122] < [c]:=by simp[List.cons_lt_cons_iff];omega
 simp[this,h]
theorem Yq(F:bo K "is_name" "is_name" rD f fd)(B:Bi mg){t8:Tok}(m8:mg "MOST_LETTERS"\.int 8 t8):!ao a_ 1 f fd fV Ht:=by
 exists F.bU yV;let#[x,rfl,hz,k]:=h;let sz:=cq
 apply#[_,au (cg (pf (eZ (d7 (cy jT (by rfl) B.jn jr %[0,jS (v:=.ty "str") (by rfl) B.str HJ U|0])))
   (pA (eZ (RZ xQ xQ ay (cy dX_ (by rfl) B.len gE %[0|0]) (BX (v:=.int 8) (by rfl) m8 #[t8,U]))))).pt (aF (bp il)) cj)
  (aF (bp (cy (RT U) (by rfl) B.all PyProof.Rows.Boot.«all» (eV
   (js ["letter"] 1 [] (X7 (pv 0)) (λfp s H=>fW (i:=0) (show (["letter"]:ag).Nodup by decide +kernel) U (Or.inl U)) (λfp s H=>kE) (λfp s H=>SX Sy Sy tV (pv 0) tV)) bK)))),?_]
 apply#[_,U,_,_,_,_,U,.str x,U,_,U,?_];apply aM ?_;apply#[_,U,x,U,by omega,_,_,U,U,_,U,?_]
 have fin:(decide (1<=x.length)&&decide (x.length<=8))=false->∀H',aa H H'->Q (.bl false) H':=λe H' sm=>by
  have:=k H' sm;rwa [show iL x=false by unfold iL;rw[e];rfl] at this
 apply bQ (λc=>?_) (λc=>?_)
 ·have c1:1<=x.length:=by
   have:(1:Int)<=(x.length:Int):=⇑c
   omega
  apply#[_,_,U,U,_,U,?_];apply bQ (λc2=>?_) (λc2=>?_)
  ·-- too long
   have c3:¬x.length<=8:=by
    have:¬((x.length:Int)<=8):=⇑c2
    omega
   exact fin (by rw[fq c3,Bool.and_false]) H (aa.refl H)
  have c3:x.length<=8:=by
   have:(x.length:Int)<=8:=⇑c2
   omega
  apply#[_,U,x,U,λD hD=>?_];apply H_ (own:=1) (fv:=[]) U fE x.cps.size (λi out H'=>H'=upd H D (.lst out)/\out=((x.cps.toList.take i).map oU).map V.bl) #[U,by simp] (λout H' ⟨e1,e2⟩=>?_) (λi out H' hi ⟨e1,e2⟩=>?_)
  ·apply#[bh _,D,x.cps.toList.map oU,U,.of ?_,?_]
   ·rw[e1,az,e2,uZ Y0]
   have:=k H' (by rw[e1];exact aa.new hD);rwa [show iL x=(x.cps.toList.map oU).all id by unfold iL;rw[cw c1,cw c3,List.all_map];rfl] at this
  apply#[hi,λv H2 y=>?_];let#[eH,c,hc,rfl]:=y;subst eH;apply#[_,U,U,λNx hN=>fw ?_]
  have lo:out.length<sizeLine:=by
   rw[e2];have hs:x.length=x.cps.size:=rfl;simp only[aq,dJ,t7];omega
  have nx:Nx (upd H2 D (.lst (out++[V.bl (oU c)]))):=hN (out++[V.bl (oU c)]) _ #[by rw[e1,Yv],by
   rw[e2,tZ];simp[hc]]
  have Uy:H2 D\.lst out:=by rw[e1,az]
  apply#[_,U,_,_,U,U,_,U,?_];rw[Y7];apply bQ (λc2=>?_) (λc2=>?_)
  ·apply#[_,_,U,U,out,Uy,lo,?_];rw[Y3];rwa [show oU c=decide (c<=122) by unfold oU;rw[c2];rfl] at nx
  apply#[out,Uy,lo,?_];rwa [show oU c=false by unfold oU;rw[show decide (97<=c)=false by simpa using c2];rfl] at nx
 have c1:¬1<=x.length:=by
  have:¬((1:Int)<=(x.length:Int)):=⇑c
  omega
 exact#[_,U,c_ (fin (by rw[fq c1];rfl) H (aa.refl H))]
end
def kT(t:Str × Str):ax:=[.inr t.1,.inr t.2]
def wk(t:Str × Str):Prop:=iL t.1=true/\iL t.2=true/\t.1≠t.2
theorem IL{x:Str}(h:iL x=true):x.length<=8:=by
 unfold iL at h;simp only[Bool.and_eq_true,decide_eq_true_eq] at h;exact h.1.2
theorem GR{H:Hp}{p:Addr}{t:Str × Str}(h:H p\.tup ((kT t).map kV)):H p\.tup [.str t.1,.str t.2]:=h
variable{ks:List ax}
variable{D:Addr}{o:HO}
section v
theorem yU:bJ fV fV (a9 rq):=bV
def qG:Sp:=λvs H Q _=>∃(p:Addr) (a b:Str),vs=[.ref p]/\H p\.tup [.str a,.str b]/\a.length<=100000/\b.length<=100000/\∀H',aa H H'->Q (.bl (iL a&&iL b&&!decide (a=b))) H'
theorem YX(F:bo K "is_pair_of_names" "is_pair_of_names" rq f fd)(B:Bi mg)(cN:!br 1 "is_name" fV Ht):!ao a_ 2 f fd fV qG:=by
 exists F.bU yU;let#[p,a,b,rfl,hp,la,lb,k]:=h
 apply#[_,au (cg (pf (eZ (d7 (cy jT (by rfl) B.jn jr %[0,jS (v:=.ty "tuple") (by rfl) B.tuple qf U|0])))
   (pA (eY pV (cy iq (by rfl) B.len gE %[0|0]) ay))).pt (aF (bp il)) cj)
  (aF (bp (ph (bc cN hr %[bw cU (pv 0) ay|0]) (ph (bc cN hr %[bw cU (pv 0) ay|0])
   (qe (pE pV (bw cU (pv 0) ay) (bw cU (pv 0) ay))))))),?_]
 apply#[_,U,_,_,_,_,U,.tup hp,U,_,U,aM ?_];apply#[_,U,p,_,U,.inr (.of hp),U,_,U,?_];apply xR (show V.int ((2:Nat):Int)=V.int 2 from U) ?_;apply#[_,U,p,_,_,_,U,U,.of hp,U,a,U,la,λH1 s1=>#[_,U,?_]];let xA:=s1 _ _ hp;apply bQ (λc=>?_) (λc=>?_)
 ·apply#[_,U,p,_,_,_,U,U,.of xA,U,b,U,lb,λH2 s2=>#[_,U,?_]];let km:=s2 _ _ xA;let kk:=k H2 (s1.trans s2);apply bQ (λc2=>?_) (λc2=>?_)
  ·apply#[_,U,p,_,_,_,U,U,.of km,U,_,U,p,_,_,_,U,U,.of km,U,U,?_];rw[c,c2] at kk
   have e:decide (V.str a=V.str b)=decide (a=b):=by
    by_cases z:a=b
    ·simp[z]
    simp[z]
   show Q (.bl (!decide (V.str a=V.str b))) H2;rw[e];exact kk
  rw[c,show iL b=false by simpa using c2] at kk;exact kk
 let kk:=k H1 s1;rw[show iL a=false by simpa using c] at kk;exact kk
theorem Io:bJ ["ties","found","pair","tie"] ["ties"] (a9 M8):=bV
def MO(K:ai):Sp:=λvs H Q _=>∃(l:Addr) (ys:af) (ts:Xb),vs=[.ref l]/\H l\.lst ys/\bX K H ys (ts.map kT)/\(∀t∈ts,wk t)/\(ts.map λt=>kT (aK t.1 t.2)).Nodup/\ts.length<64 /\
 ∀l' zs H',aa H H'->H l'=none->H' l'\.lst zs->bX K H' zs (bj (ts.map λt=>kT (aK t.1 t.2)))->Q (.ref l') H'
theorem uY{α β γ:Type}{F:α->γ->Prop}{g:β->γ}{ys:List α}{ts:List β}(t:Paired F ys (ts.map g)){i:Nat}{y:α}(h:ys[i]? = some y):∃x,ts[i]? = some x/\F y (g x):=by
 have hi:i<ys.length:=(bW.mp h).1;let hl:=bH t;rw[aq] at hl;have:=d8 t i hi (by rw[aq];omega);rw[List.getElem_map] at this;apply#[ts[i],aY Z2,?_];rw[(bW.mp h).2] at this;exact this
theorem ua{κ:Type}[DecidableEq κ]{kvs:List (κ × V)}{k:κ}(h:k∉kvs.map (·.1)):aU kvs k=none:=by
 cases e:aU kvs k with
 |none=>rfl
 |some v=>exact absurd (YN e) h
theorem yi{α β:Type}(g:α->β){ts:List α}{i:Nat}{x:α}(h:ts[i]? = some x):(ts.take (i+1)).map g=(ts.take i).map g++[g x]:=by
 rw[tZ,h,eg];rfl
theorem FA{α β:Type}{g:α->β}{ts:List α}{i:Nat}{x:α}(h:(ts.map g).Nodup)(hx:ts[i]? = some x):g x∉(ts.take i).map g:=by
 intro m;have hi:i<ts.length:=(bW.mp hx).1;let#[y,hy,e]:=bG.mp m;let#[j,hj,e2]:=ia hy;rw[dJ] at hj;rw[List.getElem_take] at e2;rw[qk,uV,List.pairwise_iff_getElem] at h;apply h j i Z2 hi Z2 ?_;rw[e2,e,(bW.mp hx).2]
theorem g8_(F:bo K "sorted_ties" "sorted_ties" M8 f fd)(B:Bi mg)(cP:!br 2 "is_pair_of_names" fV qG)(cL:!br 1 "lesser_first" mw Iz):!ao a_ 3 f fd ["ties"] (MO K):=by
 exists F.bU Io;let#[l,ys,ts,rfl,hl,tu,good,nd,cY,k]:=h;let hu:=fG hr;let sz:=cq
 apply#[_,au (cg (eZ (d7 (cy jT (by rfl) B.jn jr %[0,jS (v:=.ty "list") (by rfl) B.list ya U|0]))) gg cj)
  (au (bu 1 Io.nd Sg)
  (au (d0 dM U (dX (pv 0)) (cu 2 Io.nd)
   (au (cg (eZ (d7 (bc cP hr %[2|0]))) gg cj)
   (au (bu 3 Io.nd (bc cL hr %[bw cU (pv 2) ay,bw cU (pv 2) ay|0]))
   (au (cg (qa (AS hu (pv 3) (pv 1))) gg cj)
   (aF (tT hu (pv 1) (pv 3) il U))))))
  (aF (bp (cy (eD_ U) (by rfl) B.sorted IU %[1|0]))))),?_]
 apply#[_,U,_,_,_,_,U,.lst hl,U,_,U,aM ?_];intro d hd;have s0:aa H (upd H d (.dT [])):=aa.new hd;apply#[_,U,l,U,#[_,.of (s0 _ _ hl)],ib (K:=K) (a:=l) (xs:=ys) (λi σ H2=>∃(v3 v4:aH),σ=[some (.ref l),some (.ref d),v3,v4]/\aa H H2/\H2 d\.dT ((ts.take i).map λt=>(kT (aK t.1 t.2),V.bl true))) #[none,none,U,s0,az] (λi σ H2 _ ⟨_,_,_,s2,_⟩=>.of (s2 _ _ hl)) ?_ ?_]
 ·rintro i y σ H2 hy ⟨v3,v4,rfl,s2,hd2⟩;let#[t,ht,a,rfl,ha]:=uY tu hy;let#[g1,g2,g3]:=good t (cZ ht);let og:=s2 _ _ (GR ha);apply#[_,U,a,t.1,t.2,U,og,by have:=IL g1;omega,by have:=IL g2;omega,λH3 s3=>#[_,U,?_]];let jJ:=s3 _ _ og;let l_:=s3 _ _ hd2;rw[g1,g2,fq g3];apply aM ?_;apply#[_,U,a,_,_,_,U,U,.of jJ,U,_,U,a,_,_,_,U,U,.of jJ,U,t.1,t.2,U,λb hb=>?_];have s4:aa H3 (upd H3 b (.tup [.str (aK t.1 t.2).1,.str (aK t.1 t.2).2])):=aa.new hb;let Q8:=s4 _ _ l_;have LJ:upd H3 b (.tup [.str (aK t.1 t.2).1,.str (aK t.1 t.2).2]) b\.tup ((kT (aK t.1 t.2)).map kV):=az
  have uC:aU ((ts.take i).map λt=>(kT (aK t.1 t.2),V.bl true)) (kT (aK t.1 t.2))=none:=ua (by
   rw[cz];exact FA (g:=λt=>kT (aK t.1 t.2)) nd ht)
  apply#[_,U,_,U,d,_,U,.t (k:=kT (aK t.1 t.2)) Q8 LJ,_,U,?_];rw[uC];apply aM ?_;apply#[_,U,_,U,d,_,U,.t (k:=kT (aK t.1 t.2)) Q8 LJ (by rw[aq,dJ];omega),?_];apply#[_,_,U,λc o e=>?_,?_]
  ·rw[aw (bz e hd)];exact s4 _ _ (s3 _ _ (s2 _ _ e))
  rw[az,wx _ uC,yi _ ht]
 rintro σ H2 ⟨v3,v4,rfl,s2,hd2⟩;let le:=bH tu;rw[aq] at le;rw[le,eR] at hd2;apply#[_,U,d,_,[true,true],U,hd2,#[by decide,λk hk=>?_],by rw[aq];exact cY,λl' zs hn tz=>?_]
 ·rw[cz] at hk;let#[t,_,rfl]:=bG.mp hk;rfl
 rw[cz] at tz;exact k l' zs _ (s2.trans (aa.new hn)) (s2.free hn) az (tz.same (aa.new hn))
theorem gu_{K:ai}{H:Hp}{ys:af}{a:Addr}{k:ax}(t:bX K H ys ks)(h:H a\.tup (k.map kV)):bX K H (ys++[.ref a]) (ks++[k]):=Paired.snoc t #[a,U,h]
theorem fL{H H1:Hp}(h:aa H H1)(hD:H D=none):aa H (upd H1 D o):=λb u e=>by rw[aw (bz e hD)];exact h b u e
theorem Im{K:ai}{H:Hp}{ys:af}{xs:af}(t:bX K H ys ks)(hD:H D\.lst xs):bX K (upd H D o) ys ks:=Paired.aX t λy k ⟨a,z,q⟩=>#[a,z,by rw[aw (bS q hD nofun)];exact q]
end
def kH(h:Str × Int):ax:=[.inr h.1,.inl h.2]
def oq(h:Str × Int):Prop:=iL h.1=true/\1<=h.2/\h.2<=1000
def zB:ax->Key × V
 |[k,v]=>(k,kV v)
 |_=>(.inl 0,.non)
def dA(hs:Xa):List (Key × V):=(bj (hs.map kH)).map zB
theorem zN{H:Hp}{p:Addr}{t:Str × Int}(h:H p\.tup ((kH t).map kV)):H p\.tup [.str t.1,.int t.2]:=h
theorem Tf:∀(more kvs:List (Key × V)),(kvs.map (·.1)++more.map (·.1)).Nodup->we kvs more=kvs++more
 |[],kvs,_=>by
  show kvs=kvs++[];rw[wI]
 |p::more,kvs,h=>by
  show we (putK kvs p.1 p.2) more=kvs++p::more
  have hn:aU kvs p.1=none:=ua λm=>by
   rw[eI,wG] at h;exact h.2.2 p.1 m p.1 gF U
  rw[wx _ hn,Tf more (kvs++[(p.1,p.2)])]
  ·simp
  simpa using h
theorem yc{more:List (Key × V)}(h:(more.map (·.1)).Nodup):we [] more=more:=by
 rw[Tf more [] ⇑h];rfl
theorem S_(hs:Xa):((dA hs).map (·.1)).Perm (hs.map λh=>Sum.inr h.1):=by
 unfold dA;rw[cz];let p:=(t_ (hs.map kH)).map λk=>(zB k).1;rw[cz] at p;exact p
theorem T8{hs:Xa}(h:(hs.map (·.1)).Nodup):((dA hs).map (·.1)).Nodup:=by
 apply (S_ hs).nodup_iff.mpr ?_;have:(hs.map λh=>(Sum.inr h.1:Key))=(hs.map (·.1)).map Sum.inr:=by rw[cz];rfl
 rw[this,qk,uV];exact h.imp λn e=>n (iJ e)
theorem uM{A:Ag}(hr:aO k A)(n:Nat)(h:n+1<=64:=by decide):A.units+n+1<cLine:=by
 have:=hr.units;omega
variable{tk:Tok}
variable{ns:ag}
section v
theorem y6:bJ fV fV (a9 rN):=bV
def qJ:Sp:=λvs H Q _=>∃(p:Addr) (a:Str) (n:Int),vs=[.ref p]/\H p\.tup [.str a,.int n]/\a.length<=100000/\∀H',aa H H'->Q (.bl (iL a&&(decide (1<=n)&&decide (n<=1000)))) H'
theorem Yw(F:bo K "is_hand_with_strength" "is_hand_with_strength" rN f fd)(B:Bi mg)(cN:!br 1 "is_name" fV Ht)(cW:!br 2 "is_whole_within" AD Ft)(mS:mg "MOST_STRENGTH"\.int 1000 tk) :
  ao P w K mg base a_ 3 f fd fV qJ:=by
 exists F.bU y6;let#[p,a,n,rfl,hp,la,k]:=h
 apply#[_,au (cg (pf (eZ (d7 (cy jT (by rfl) B.jn jr %[0,jS (v:=.ty "tuple") (by rfl) B.tuple qf U|0])))
   (pA (eY pV (cy iq (by rfl) B.len gE %[0|0]) ay))).pt (aF (bp il)) cj)
  (aF (bp (ph (bc cN hr %[bw cU (pv 0) ay|0]) (qe (bc cW hr %[bw cU (pv 0) ay,ay,BX (v:=.int 1000) (by rfl) mS #[tk,U]|0]))))),?_]
 apply#[_,U,_,_,_,_,U,.tup hp,U,_,U,aM ?_];apply#[_,U,p,_,U,.inr (.of hp),U,_,U,?_];apply xR (show V.int ((2:Nat):Int)=V.int 2 from U) ?_;apply#[_,U,p,_,_,_,U,U,.of hp,U,a,U,la,λH1 s1=>#[_,U,?_]];let xA:=s1 _ _ hp;let kk:=k H1 s1;apply bQ (λc=>?_) (λc=>?_)
 ·apply#[_,U,p,_,_,_,U,U,.of xA,U,n,1,1000,U,?_];rw[c] at kk;exact kk
 rw[show iL a=false by simpa using c] at kk;exact kk
theorem qQ:bJ ["hands","found","hand"] ["hands"] (a9 y_):=bV
def w9(K:ai):Sp:=λvs H Q _=>∃(l:Addr) (ys:af) (hs:Xa),vs=[.ref l]/\H l\.lst ys/\bX K H ys (hs.map kH)/\(∀h∈hs,oq h)/\(hs.map (·.1)).Nodup/\1<=hs.length/\hs.length<=8 /\
 ∀d H',aa H H'->H d=none->H' d\.dK (dA hs)->Q (.ref d) H'
theorem Xx(F:bo K "checked_strengths" "checked_strengths" y_ f fd)(B:Bi mg)(cH:!br 3 "is_hand_with_strength" fV qJ)(mH:mg "MOST_HANDS"\.int 8 tk):!ao a_ 4 f fd ["hands"] (w9 K):=by
 exists F.bU qQ;let#[l,ys,hs,rfl,hl,tu,good,nd,h1,h8,k]:=h;let hu:=fG hr;let sz:=cq;let le:=bH tu;rw[aq] at le
 apply#[_,au (cg (pf (eZ (d7 (cy jT (by rfl) B.jn jr %[0,jS (v:=.ty "list") (by rfl) B.list ya U|0])))
   (pA (eZ (RZ xQ xQ ay (cy iq (by rfl) B.len gE %[0|0]) (BX (v:=.int 8) (by rfl) mH #[tk,U]))))).pt gg cj)
  (au (bu 1 qQ.nd Fx)
  (au (d0 dM U (dX (pv 0)) (cu 2 qQ.nd)
   (au (cg (eZ (d7 (bc cH hr %[2|0]))) gg cj)
   (au (cg (qa (AS hu (bw cU (pv 2) ay) (pv 1))) gg cj)
   (aF (tT hu (pv 1) (bw cU (pv 2) ay) (bw cU (pv 2) ay) U)))))
  (aF (bp (iO (A_ U) (by rfl) B.dict uQ %[cy (fK_ U) (by rfl) B.sorted IU %[IA (pv 1)|0]|0]))))),?_]
 apply#[_,U,_,_,_,_,U,.lst hl,U,_,U,aM ?_];apply#[_,U,l,_,U,.inl (.of hl),_,_,U,U,_,U,?_];rw[cw (show (1:Int)<=(ys.length:Int) by omega)];apply c_ #[_,_,U,U,_,U,?_];rw[cw (show (ys.length:Int)<=8 by omega)];apply aM ?_;intro d hd;have s0:aa H (upd H d (.dK [])):=aa.new hd;apply#[_,U,l,U,#[_,.of (s0 _ _ hl)],ib (K:=K) (a:=l) (xs:=ys) (λi σ H2=>∃(v2:aH),σ=[some (.ref l),some (.ref d),v2]/\aa H H2/\H2 d\.dK ((hs.take i).map λh=>(Sum.inr h.1,V.int h.2))) #[none,U,s0,az] (λi σ H2 _ ⟨_,_,s2,_⟩=>.of (s2 _ _ hl)) ?_ ?_]
 ·rintro i y σ H2 hy ⟨v2,rfl,s2,hd2⟩;let#[t,ht,a,rfl,ha]:=uY tu hy;let#[g1,g2,g3]:=good t (cZ ht);let og:=s2 _ _ (zN ha);apply#[_,U,a,t.1,t.2,U,og,by have:=IL g1;omega,λH3 s3=>#[_,U,?_]];let jJ:=s3 _ _ og;let l_:=s3 _ _ hd2;rw[g1,cw g2,cw g3];apply aM ?_
  have uC:aU ((hs.take i).map λh=>((Sum.inr h.1:Key),V.int h.2)) (Sum.inr t.1)=none:=ua (by
   rw[cz];let q:=FA (g:=λh:Str × Int=>h.1) nd ht;intro m;let#[h,hh,e]:=bG.mp m;exact q (bG.mpr #[h,hh,iJ e]))
  apply#[_,U,a,_,_,_,U,U,.of jJ,U,_,U,d,_,U,.k (k:=Sum.inr t.1) l_,_,U,?_];rw[uC];apply aM ?_;apply#[_,U,a,_,_,_,U,U,.of jJ,U,_,U,_,U,a,_,_,_,U,U,.of jJ,U,d,_,U,.k (k:=Sum.inr t.1) l_ (by rw[aq,dJ];omega),?_];apply#[_,U,λc o e=>?_,?_]
  ·rw[aw (bz e hd)];exact s3 _ _ (s2 _ _ e)
  rw[az,wx _ uC,yi _ ht]
 rintro σ H2 ⟨v2,rfl,s2,hd2⟩;rw[le,eR] at hd2;apply#[_,U,d,_,U,hd2,λv hv=>?_];have s3:aa H2 (upd H2 v (tR v d)):=aa.new hv;apply#[v,d,_,hs.map λh=>(Sum.inr h.1,Sum.inl h.2),[true,false],U,az,s3 _ _ hd2,by rw[cz];rfl,#[by decide,λq hq=>?_],by rw[aq];omega,λl' H4 zs s4 hn tz=>?_]
 ·rw[cz] at hq;let#[h,_,rfl]:=bG.mp hq;rfl
 have ez:((hs.map λh=>((Sum.inr h.1:Key),(Sum.inl h.2:Key))).map λk=>[k.1,k.2])=hs.map kH:=by rw[cz];rfl
 rw[ez] at tz
 have pz:kz K (upd H4 l' (.lst zs)) zs (dA hs):=by
  have shape:∀k∈bj (hs.map kH),∃a b,k=[a,b]:=λk hk=>by
   let#[h,_,e]:=bG.mp ((t_ _).mem_iff.mp hk);exact#[_,_,e.symm]
  have gen:∀(ks:List ax) (zs:af),(∀k∈ks,∃a b,k=[a,b])->bX K (upd H4 l' (.lst zs)) zs ks->kz K (upd H4 l' (.lst zs)) zs (ks.map zB):=λks=>by
   intro zs;generalize upd H4 l' (.lst zs)=HH;intro sh t
   induction t with
   |nil=>exact .nil
   |cons h t ih=>
    let#[a,b,rfl]:=sh _ gF;exact .cons h (ih λk hk=>sh k (fX _ hk))
  exact gen _ _ shape (tz.same (aa.new hn))
 apply#[l',zs,_,U,az,pz,?_,λd' hU=>?_]
 ·have:=(S_ hs).length_eq;simp only[aq] at this;omega
 rw[yc (T8 nd)];have C5:aa H (upd H4 l' (.lst zs)):=(s2.trans (s3.trans s4)).trans (aa.new hn);exact k d' _ (C5.trans (aa.new hU)) (C5.free hU) az
theorem Hx:bJ ["ties","strengths","found","one","other"] ["ties","strengths"] (a9 qZ):=bV
inductive kU (K:ai) (vs:af) (H:Hp) (Q:VK) (E:XK):Prop
 |mk:∀(l d:Addr) (ys:af) (ts:Xb) (kvs:List (Key × V)),vs=[.ref l,.ref d]->H l\.lst ys->bX K H ys (ts.map kT)->(∀t∈ts,wk t)->(ts.map λt=>kT (aK t.1 t.2)).Nodup->ts.length<64->H d\.dK kvs->(∀t∈ts,(aU kvs (Sum.inr t.1)).isSome=true/\(aU kvs (Sum.inr t.2)).isSome=true)->(∀l' zs H',aa H H'->H l'=none->H' l'\.lst zs->bX K H' zs (bj (ts.map λt=>kT (aK t.1 t.2)))->Q (.ref l') H')->kU K vs H Q E
theorem BW(a b:Str):aK a b=(a,b)∨aK a b=(b,a):=by
 unfold aK;split
 ·exact .inl rfl
 exact .inr rfl
theorem YY(F:bo K "checked_ties" "checked_ties" qZ f fd)(B:Bi mg)(cS:!br 3 "sorted_ties" ["ties"] (MO K)):!ao a_ 4 f fd ["ties","strengths"] (kU K):=by
 exists F.bU Hx;let#[l,d,ys,ts,kvs,rfl,hl,tu,good,nd,cY,hd,there,k]:=h;let hu:=fG hr
 apply#[_,au (bu 2 Hx.nd (bc cS hr %[0|0]))
  (au (cg (qa (G8 (pv 2))) gg cj)
  (au (d0 dM U (dX (pv 2)) (mr U (dN (cu 3 Hx.nd) (dN (cu 4 Hx.nd) jh)))
   (aF (cg (pf (qa (IX hu (pv 3) (pv 1))) (pA (qa (IX hu (pv 4) (pv 1))))).pt gg cj)))
  (aF (bp (pv 2))))),?_]
 apply#[_,U,l,ys,ts,U,hl,tu,good,nd,cY,λl' zs H1 s1 hf fo tz=>?_];apply#[_,U,_,U,aM ?_];apply#[_,U,l',U,#[_,.of fo],ib (K:=K) (a:=l') (xs:=zs) (λi σ H2=>∃(v3 v4:aH),σ=[some (.ref l),some (.ref d),some (.ref l'),v3,v4]/\H2=H1) #[none,none,U,U] (λi σ H2 _ ⟨_,_,_,e⟩=>by subst e;exact .of fo) ?_ ?_]
 ·rintro i y σ H2 hy ⟨v3,v4,rfl,rfl⟩;let ez:=bH tz;have hi:i<zs.length:=(bW.mp hy).1;let#[a,e,ha]:=d8 tz i hi Z2;rw[(bW.mp hy).2] at e;subst e;let#[t,ht,e]:=bG.mp ((t_ _).mem_iff.mp (kJ (show i<(bj (ts.map λt=>kT (aK t.1 t.2))).length by omega)));rw[<- e] at ha;let#[t1,t2]:=there t ht
  have both:(aU kvs (Sum.inr (aK t.1 t.2).1)).isSome=true/\(aU kvs (Sum.inr (aK t.1 t.2).2)).isSome=true:=by
   rcases BW t.1 t.2 with q|q
   ·rw[q];exact#[t1,t2]
   rw[q];exact#[t2,t1]
  let pT:=s1 _ _ hd;apply#[a,_,U,.of (GR ha),U,_,_,U,_,_,U,U,?_];apply#[_,U,_,U,d,_,U,.k (k:=Sum.inr (aK t.1 t.2).1) pT,_,U,?_];rw[both.1];apply aM ?_;apply#[_,U,_,U,d,_,U,.k (k:=Sum.inr (aK t.1 t.2).2) pT,_,U,?_];rw[both.2];apply aM ?_;exact#[_,_,U,U]
 rintro σ H2 ⟨v3,v4,rfl,rfl⟩;exact#[_,U,k l' zs _ s1 hf fo tz]
def near(ns:ag)(ts:Xb)(n:Str):ag:=ns.filter λo=>decide (aK n o∈ts)
theorem lE:bJ ["names","ties","found","hand"] ["names","ties"] (a9 rC):=bV
def tU(ns:ag)(as:av):List (Key × V):=(ns.zip as).map λp=>(Sum.inr p.1,V.ref p.2)
inductive kZ (K:ai) (vs:af) (H:Hp) (Q:VK) (E:XK):Prop
 |mk:∀(l1 l2:Addr) (ns:ag) (zs:af) (ts:Xb),vs=[.ref l1,.ref l2]->H l1\.lst (ns.map V.str)->H l2\.lst zs->bX K H zs (ts.map kT)->ns.Nodup->ns.length<=1000->l1≠l2->(∀d as H',aa H H'->H d=none->as.length=ns.length->H' d\.dK (tU ns as)->(∀(i:Nat) n a,ns[i]? = some n->as[i]? = some a->H a=none/\H' a\.lst ((near ns ts n).map V.str))->Q (.ref d) H')->kZ K vs H Q E
theorem Ml{K:ai}{H:Hp}:∀{ts:Xb} {zs:af},bX K H zs (ts.map kT)->Paired (r2 K rS rS H) zs ts
 |[],_,.nil=>.nil
 |t::ts,_,.cons ⟨a,e,h⟩ r=>.cons #[a,_,_,e,.of (GR h),U,U] (Ml r)
theorem mG{i:Nat}{x:V}(h:(ns.map V.str)[i]? = some x):∃n,ns[i]? = some n/\x=.str n:=by
 rw[dC] at h;cases e:ns[i]? with
 |none=>rw[e] at h;cases h
 |some n=>rw[e] at h;exact#[n,U,(cX h).symm]
theorem IS{α:Type}(p:α->Bool){l:List α}{i:Nat}{x:α}(h:l[i]? = some x):(l.take (i+1)).filter p=(l.take i).filter p++(if p x then [x] else []):=PySem.take_succ_filter p l i x h
theorem Y1(F:bo K "neighbours_of_all" "neighbours_of_all" rC f fd)(cL:!br 1 "lesser_first" mw Iz):!ao a_ 2 f fd ["names","ties"] (kZ K):=by
 exists F.bU lE;let#[l1,l2,ns,zs,ts,rfl,fo,jo,tz,nd,h8,l7,k]:=h;let hu:=fG hr;let hu3:=hr.units;let sz:=cq
 apply#[_,au (bu 2 lE.nd Fx)
  (au (d0 dM U (dX (pv 0)) (cu 3 lE.nd)
   (aF (tT hu (pv 2) (pv 3) (js ["other","hand","ties"] 1 [3,1] (dX (pv 0)) (λfp s H=>fW (i:=0) (show (["other","hand","ties"]:ag).Nodup by decide +kernel) U (Or.inl U))
    (λfp s H=>Ih (eY (WD (K:=K) (λK=>zj K (r2 K rS rS) false) (LU (Fb i_ i_) (uM hr _))) (bc cL hr %[1,0|0]) (pv 2) (by with_unfolding_all rfl))) (λfp s H=>pv 0)) U)))
  (aF (bp (pv 2)))),?_]
 intro d hd;have s0:aa H (upd H d (.dK [])):=aa.new hd
 apply#[_,U,l1,U,#[_,.of (s0 _ _ fo)],ib (K:=K) (a:=l1) (xs:=ns.map V.str) (λi σ H2=>∃(v3:aH) (as:av),σ=[some (.ref l1),some (.ref l2),some (.ref d),v3]/\aa H H2/\as.length=i/\H2 d\.dK (tU (ns.take i) as) /\
  ∀(j:Nat) n a,ns[j]? = some n->as[j]? = some a->H a=none/\a≠d/\H2 a\.lst ((near ns ts n).map V.str)) #[none,[],U,s0,U,az,λj n a _ e=>by simp at e] (λi σ H2 _ ⟨_,_,_,s2,_⟩=>.of (s2 _ _ fo)) ?_ ?_]
 ·rintro i y σ H2 hy ⟨v3,as,rfl,s2,la,hd2,lists⟩;let#[n,hn,rfl]:=mG hy;have hi:i<ns.length:=(bW.mp hn).1
  have lk:(tU (ns.take i) as).length=i:=by
   unfold tU;rw[aq,List.length_zip,dJ];omega
  apply#[_,U,l1,U,#[_,.of (s2 _ _ fo)],λD hD=>?_];apply kK (own:=1) (fv:=[some (.str n),some (.ref l2)]) (xs:=ns.map V.str) U fE (λj out H'=>aa H2 H'/\H' D\.lst out/\out=((ns.take j).filter λo=>decide (aK n o∈ts)).map V.str) #[aa.new hD,az,U] (λj out H' _ ⟨sm,_,_⟩=>.of (sm _ _ (s2 _ _ fo))) (λout H' ⟨sm,dF,eo⟩=>?_) (λj x out H' hx ⟨sm,dF,eo⟩=>?_)
  ·rw[aq,eR] at eo
   have uC:aU (tU (ns.take i) as) (Sum.inr n)=none:=ua λm=>by
    unfold tU at m;rw[cz] at m;let#[p,hp,e]:=bG.mp m;have e:p.1=n:=iJ e;let q:=FA (g:=id) (by rw[List.map_id];exact nd) hn;rw[List.map_id] at q;exact q (e▸(List.of_mem_zip hp).1)
   have PZ:D≠d:=λz=>by subst z;rw[hD] at hd2;cases hd2
   apply#[_,U,_,U,d,_,U,.k (k:=Sum.inr n) (sm _ _ hd2) Z2,?_];apply#[_,as++[D],U,λc o e=>?_,by rw[d4,la];rfl,?_,λj n' a Ei ha=>?_]
   ·rw[aw (bz e hd)];exact sm _ _ (s2 _ _ e)
   ·rw[az,wx _ uC];congr 2;unfold tU;rw[tZ,hn,List.zip_append (by rw[dJ];omega),eg];rfl
   by_cases hj:j<as.length
   ·rw[yg hj] at ha;let#[q1,q2,q3]:=lists j n' a Ei ha;apply#[q1,q2,?_];rw[aw q2];exact sm _ _ q3
   have _U:j=i:=by
    have:=(bW.mp ha).1;rw[d4] at this;simp only[jU] at this;omega
   subst _U;rw[Ba Z2,la,Nat.sub_self] at ha;have ha:D=a:=⇑ha
   subst ha;rw[hn] at Ei;cases Ei;apply#[s2.free hD,PZ,?_];rw[aw PZ,dF,eo];rfl
  let#[o,ho,rfl]:=mG hx;apply#[_,U,U,λNx hN=>?_];apply#[_,U,_,U,n,o,U,λt ht=>?_];have s3:aa H' (upd H' t (.tup [.str (aK n o).1,.str (aK n o).2])):=aa.new ht;let Vh:=((tz.same s2).same sm).same s3
  have lo:out.length<sizeLine:=by
   rw[eo,aq];have:=B9 (λo=>decide (aK n o∈ts)) (ns.take j);rw[dJ] at this;omega
  apply#[_,U,aK n o,ts,#[t,_,_,U,.of az,U,U],#[l2,zs,U,.of (s3 _ _ (sm _ _ (s2 _ _ jo))),Ml Vh],_,U,?_];apply bQ (λc=>?_) (λc=>?_)
  ·apply#[_,U,out,s3 _ _ dF,lo,hN _ _ #[fL (sm.trans s3) hD,az,?_]];have c:decide (aK n o∈ts)=true:=⇑c
   rw[IS _ ho,aI c,eg,eo];rfl
  apply hN _ _ #[sm.trans s3,s3 _ _ dF,?_];have c:¬decide (aK n o∈ts)=true:=⇑c
  rw[IS _ ho,aC c,wI,eo]
 rintro σ H2 ⟨v3,as,rfl,s2,la,hd2,lists⟩;rw[aq] at la hd2;rw[eR] at hd2;exact#[_,U,k d as _ s2 hd la hd2 λj n a h1 h2=>#[(lists j n a h1 h2).1,(lists j n a h1 h2).2.2]]
end
abbrev rM:Stmt:=mq oP 0
abbrev vz:Stmt:=mq oP 1
abbrev lR:Stmt:=mq oP 2
abbrev Oe:Stmt:=mq oP 3
abbrev lK:Stmt:=mq oP 4
abbrev q_:Stmt:=mq oP 5
def ET:ax->Str
 |.inr a::_=>a
 |_=>⟨#[]⟩
def Jz:ax->Str × Str
 |[.inr a,.inr b]=>(a,b)
 |_=>(⟨#[]⟩,⟨#[]⟩)
def aS(hs:Xa):ag:=(bj (hs.map kH)).map ET
def bT(ts:Xb):Xb:=(bj (ts.map λt=>kT (aK t.1 t.2))).map Jz
theorem Nw(ts:Xb):(bT ts).map kT=bj (ts.map λt=>kT (aK t.1 t.2)):=by
 unfold bT;rw[cz]
 have all:∀k∈bj (ts.map λt=>kT (aK t.1 t.2)),∃t:Str × Str,k=kT t:=λk hk=>by
  let#[t,_,e]:=bG.mp ((t_ _).mem_iff.mp hk);exact#[_,e.symm]
 generalize bj (ts.map λt=>kT (aK t.1 t.2))=l at all
 induction l with
 |nil=>rfl
 |cons k l ih=>
  let#[t,rfl]:=all k gF;rw[eI,ih λk hk=>all k (fX _ hk)];rfl
theorem TH(hs:Xa):∀k∈bj (hs.map kH),∃h:Str × Int,h∈hs/\k=kH h:=λk hk=>by
 let#[t,ht,e]:=bG.mp ((t_ _).mem_iff.mp hk);exact#[t,ht,e.symm]
theorem RY(hs:Xa):((dA hs).map λkv=>kV kv.1)=(aS hs).map V.str:=by
 unfold dA aS;rw[cz,cz];apply uX λk hk=>?_;let#[h,_,rfl]:=TH hs k hk;rfl
theorem R6(hs:Xa):(dA hs).map (·.1)=(aS hs).map Sum.inr:=by
 unfold dA aS;rw[cz,cz];apply uX λk hk=>?_;let#[h,_,rfl]:=TH hs k hk;rfl
theorem gN(hs:Xa):(aS hs).Perm (hs.map (·.1)):=by
 unfold aS;let p:=(t_ (hs.map kH)).map ET;rw[cz] at p;exact p
theorem IZ{κ:Type}[DecidableEq κ]{kvs:List (κ × V)}{k:κ}(h:k∈kvs.map (·.1)):(aU kvs k).isSome=true:=by
 rw[<- B4];let#[p,hp,e]:=bG.mp h;exact List.any_eq_true.mpr #[p,hp,cw e]
theorem Ii{hs:Xa}{n:Str}:(aU (dA hs) (Sum.inr n)).isSome=decide (n∈hs.map (·.1)):=by
 by_cases h:n∈hs.map (·.1)
 ·rw[cw h];apply IZ ?_;rw[R6];exact bG.mpr #[n,(gN hs).mem_iff.mpr h,U]
 rw[fq h,ua]
 ·rfl
 rw[R6];intro m;let#[x,hx,e]:=bG.mp m;cases e;exact h ((gN hs).mem_iff.mp hx)
theorem sr:¬((uN:Str)="sorted_pairs"):=by decide +kernel
theorem Dv:¬((uN:Str)=BM):=by decide +kernel
def fh(d1 l2 d3:Addr):List (Str × V):=aB BM (.ref d3) (aB "sorted_pairs" (.ref l2) (aB uN (.ref d1) []))
theorem Hf(d1 l2 d3:Addr):(fh d1 l2 d3).lookup (uN:Str)\.ref d1:=by
 unfold fh;rw[gy,aC Dv,gy,aC sr,gy,aI U]
theorem QA(d1 l2 d3:Addr):(fh d1 l2 d3).lookup (BM:Str)\.ref d3:=by
 unfold fh;rw[gy,aI U]
variable{m:Str}
theorem pC(d1 l2 d3:Addr)(h1:¬m=uN)(h2:¬m="sorted_pairs")(h3:¬m=BM):(fh d1 l2 d3).lookup m=none:=by
 unfold fh;rw[gy,aC h3,gy,aC h2,gy,aC h1]
 all_goals rfl
structure h_ (K:ai) (C:Addr) (H:Hp) (p:Addr) (hs:Xa) (ts:Xb) (fp:av):Prop where
 ex:∃(dx d1 l2 d3:Addr) (zs:af) (as:av),fp=p::d1::l2::d3::as/\H p\.ins C dx (fh d1 l2 d3)/\H d1\.dK (dA hs)/\H l2\.lst zs/\bX K H zs ((bT ts).map kT)/\H d3\.dK (tU (aS hs) as)/\as.length=(aS hs).length /\
  ∀(i:Nat) n a,(aS hs)[i]? = some n->as[i]? = some a->H a\.lst ((near (aS hs) (bT ts) n).map V.str)
variable{H':Hp}
theorem h_.keep{K:ai}{C:Addr}{H:Hp}{p:Addr}{hs:Xa}{ts:Xb}{fp:av}(W:h_ K C H p hs ts fp)(k:∀b∈fp,∀o,H b\o->H' b\o)(kt:∀b xs,H b\.tup xs->H' b\.tup xs):h_ K C H' p hs ts fp:=by
 let#[dx,d1,l2,d3,zs,as,rfl,h1,h2,h3,h4,h5,h6,h7]:=W.ex;apply#[dx,d1,l2,d3,zs,as,U,k _ Y0 _ h1,k _ Y0 _ h2,k _ Y0 _ h3,Paired.aX h4 λy q ⟨a,e,z⟩=>#[a,e,kt _ _ z],k _ Y0 _ h5,h6,λi n a e1 e2=>k _ ?_ _ (h7 i n a e1 e2)];have:=cZ e2;simp[this]
theorem h_.same{K:ai}{C:Addr}{H:Hp}{p:Addr}{hs:Xa}{ts:Xb}{fp:av}(W:h_ K C H p hs ts fp)(s:aa H H'):h_ K C H' p hs ts fp:=W.keep (λb _ o e=>s b o e) λb xs e=>s b _ e
structure Good (hs:Xa) (ts:Xb):Prop where
 aA:∀h∈hs,oq h
 pR:(hs.map (·.1)).Nodup
 h1:1<=hs.length
 h8:hs.length<=8
 tok:∀t∈ts,wk t
 F2:(ts.map λt=>kT (aK t.1 t.2)).Nodup
 w4:ts.length<64
 vi:∀t∈ts,t.1∈hs.map (·.1)/\t.2∈hs.map (·.1)
theorem Good.oW{hs:Xa}{ts:Xb}(G:Good hs ts):(aS hs).Nodup:=(gN hs).nodup_iff.mpr G.pR
theorem Good.iB{hs:Xa}{ts:Xb}(G:Good hs ts):(aS hs).length=hs.length:=by
 rw[(gN hs).length_eq,aq]
structure Txt (K:ai) (mg:Str->Option Aa) (C:Addr):Prop where
 cl:mR K C
 nS:ml K C uN
 nP:ml K C "sorted_pairs"
 nN:ml K C BM
section v
theorem lF:bJ ["self","hands","ties","strengths","checked"] ["self","hands","ties"] (a9 rM):=bV
inductive Hu (K:ai) (C:Addr) (vs:af) (H:Hp) (Q:VK) (E:XK):Prop
 |mk:∀(p dx lh lt:Addr) (ys zs:af) (hs:Xa) (ts:Xb),vs=[.ref p,.ref lh,.ref lt]->H p\.ins C dx []->H lh\.lst ys->bX K H ys (hs.map kH)->H lt\.lst zs->bX K H zs (ts.map kT)->Good hs ts->(∀fp H',(∀b o,H b\o->b≠p->H' b\o)->h_ K C H' p hs ts fp->(∀b∈fp,b=p∨H b=none)->Q .non H')->Hu K C vs H Q E
theorem YG{C:Addr}(F:bo K "__init__" "Web.__init__" rM f fd)(T:Txt K mg C)(B:Bi mg)(cS:!br 4 "checked_strengths" ["hands"] (w9 K))(cT:!br 4 "checked_ties" ["ties","strengths"] (kU K))(cN:!br 2 "neighbours_of_all" ["names","ties"] (kZ K)) :
  ao P w K mg base a_ 5 f fd ["self","hands","ties"] (Hu K C):=by
 exists F.bU lF;let#[p,dx,lh,lt,ys,zs,hs,ts,rfl,hp,fZ,th,dH,tt,G,k]:=h
 apply#[_,au (bu 3 lF.nd (bc cS hr %[1|0]))
  (au (bu 4 lF.nd (bc cT hr %[2,3|0]))
  (au (uS (pv 0) (pv 3) U) (au (uS (pv 0) (pv 4) U)
  (aF (uS (pv 0) (bc cN hr %[iO (NG U) (by rfl) B.list ya %[3|0],4|0]) U))))),?_]
 apply#[_,U,lh,ys,hs,U,fZ,th,G.aA,G.pR,G.h1,G.h8,λd1 H1 s1 f1 pT=>?_];apply#[_,U,_,U,lt,d1,zs,ts,_,U,s1 _ _ dH,tt.same s1,G.tok,G.F2,G.w4,pT,λt ht=>?_,λl2 Jk H2 s2 f2 jo tz=>?_]
 ·rw[Ii,Ii];exact#[cw (G.vi t ht).1,cw (G.vi t ht).2]
 let Ah:=s2 _ _ pT;let km:=s2 _ _ (s1 _ _ hp);have p1:p≠d1:=bS km Ah nofun;have p2:p≠l2:=bS km jo nofun;apply#[_,U,_,U,p,C,dx,[],U,km,T.cl,T.nS,by show 0<1000;decide,?_];apply#[_,U,_,U,p,C,dx,_,U,az,T.cl,T.nP,by show 1<1000;decide,?_]
 let H3:Hp:=upd (upd H2 p (.ins C dx (aB uN (.ref d1) []))) p (.ins C dx (aB "sorted_pairs" (.ref l2) (aB uN (.ref d1) [])))
 have h3:∀{b o},H2 b\o->b≠p->H3 b\o:=λe ne=>by
  show upd (upd H2 p _) p _ _=_;rw[aw ne,aw ne];exact e
 have LV:H3 p\.ins C dx (aB "sorted_pairs" (.ref l2) (aB uN (.ref d1) [])):=az
 have Dp:∀{b},H3 b=none->H2 b=none:=λ{b} e=>by
  by_cases z:b=p
  ·subst z;rw[LV] at e;cases e
  have e:upd (upd H2 p _) p _ b=none:=e;rw[aw z,aw z] at e;exact e
 have O9:bX K H3 Jk ((bT ts).map kT):=by
  rw[Nw];exact Paired.aX tz λy q ⟨a,e,z⟩=>#[a,e,h3 z (bS z km nofun)]
 apply#[_,U,d1,_,U,.inl (h3 Ah p1.symm),λl1 fo=>?_];rw[RY];have s4:aa H3 (upd H3 l1 (.lst ((aS hs).map V.str))):=aa.new fo;have Kp:l1≠l2:=(bz (H:=H3) (h3 jo p2.symm) fo).symm;apply#[_,U,l1,l2,aS hs,Jk,bT ts,U,az,s4 _ _ (h3 jo p2.symm),O9.same s4,G.oW,by rw[G.iB];have:=G.h8;omega,Kp,λd3 as H5 s5 f5 la l_ lists=>?_];let K5:=s5 _ _ (s4 _ _ LV);apply#[_,U,p,C,dx,_,U,K5,T.cl,T.nN,by show 2<1000;decide,?_]
 have up:∀{b o},H2 b\o->b≠p->upd H5 p (.ins C dx (fh d1 l2 d3)) b\o:=λe ne=>by
  rw[aw ne];exact s5 _ _ (s4 _ _ (h3 e ne))
 have o8:∀{b},upd H3 l1 (.lst ((aS hs).map V.str)) b=none->H b=none:=λe=>s1.free (s2.free (Dp (s4.free e)));have LG:d3≠p:=(bz (s4 _ _ LV) f5).symm;apply k (p::d1::l2::d3::as) _ (λb o e ne=>up (s2 _ _ (s1 _ _ e)) ne) #[dx,d1,l2,d3,Jk,as,U,az,up Ah p1.symm,up jo p2.symm,?_,?_,la,λi n a e1 e2=>?_] λb hb=>?_
 ·exact Paired.aX (O9.same (s4.trans s5)) λy q ⟨a,e,z⟩=>#[a,e,by rw[aw (bS z K5 nofun)];exact z]
 ·rw[aw LG];exact l_
 ·let#[q1,q2]:=lists i n a e1 e2;rw[aw (bS q2 K5 nofun)];exact q2
 simp only[bY] at hb;rcases hb with rfl|rfl|rfl|rfl|hb
 ·exact .inl U
 ·exact .inr f1
 ·exact .inr (s1.free f2)
 ·exact .inr (o8 f5)
 let#[i,hi,e]:=ia hb;have e1:as[i]? = some b:=by rw[aY hi,e]
 have hn:i<(aS hs).length:=by omega
 exact .inr (o8 (lists i _ b (aY hn) e1).1)
end
structure bM (P:Ad) (w:Af) (K:ai) (mg:Str->Option Aa) (base:Heap) (C:Addr) (k:Nat) (m:Str) (ps:ag) (sp:Sp):Prop where
 ex:∃f fd,ao P w K mg base a_ k f fd ps sp/\Meth K C m f/\p7 K fd ps []
variable{o:Expr}{apos:Pos}{ta:TE}{pl:Sem Bool}
theorem iX{C:Addr}(c:bM X.prog X.w X.K X.mg X.base C k m ps sp)(cl:mR X.K C)(hr:aO k X.A)(he:PE X o ta)(ha:PA X (e::es) t)(zL:starEach (e::es) X.env=(false,eval e X.env)::starEach es X.env:=by rfl)(iE:(backTo pos (starEach es X.env)).any (·.1)=false:=by rfl)(ht:eval (.Call (.Attribute o m apos) (e::es) [] pos) X.env=(do
   let ov <- eval o X.env
   standAt apos.atName
   let (f,first) <- holding [ov] (getMethod ov m pl)
   callWith pos f first (backTo pos (starEach (e::es) X.env)) (backToKw pos (keywordEach [] X.env))):=by rfl) :
  PE X (.Call (.Attribute o m apos) (e::es) [] pos) (mX C m sp [] E0 ta t):=by
 let#[f,fd,F,hm,b]:=c.ex;exact Yk he cl hm F hr b .nil nM ha zL iE ht
theorem xW{C:Addr}(c:bM X.prog X.w X.K X.mg X.base C k m ps sp)(cl:mR X.K C)(hr:aO k X.A)(he:PE X o ta)(ht:eval (.Call (.Attribute o m apos) [] [] pos) X.env=(do
   let ov <- eval o X.env
   standAt apos.atName
   let (f,first) <- holding [ov] (getMethod ov m pl)
   callWith pos f first (backTo pos (starEach [] X.env)) (backToKw pos (keywordEach [] X.env))):=by rfl) :
  PE X (.Call (.Attribute o m apos) [] [] pos) (mX C m sp [] E0 ta oJ):=by
 let#[f,fd,F,hm,b]:=c.ex;exact Zi he cl hm F hr b .nil nM ht
theorem fX_{hs:Xa}(nd:(hs.map (·.1)).Nodup){x:Str}{n:Int}(h:(x,n)∈hs):aU (dA hs) (Sum.inr x)\.int n:=by
 have m:((Sum.inr x:Key),V.int n)∈dA hs:=by
  unfold dA;apply bG.mpr #[kH (x,n),(t_ _).mem_iff.mpr (bG.mpr #[_,h,U]),U]
 let nk:=T8 nd;generalize dA hs=kvs at m nk
 induction kvs with
 |nil=>cases m
 |cons p r ih=>
  let#[n1,n2]:=iZ.mp nk;rcases bY.mp m with e|m
  ·rw[<- e];exact x6 U
  rw[x8 (λe:p.1=Sum.inr x=>n1 (bG.mpr #[_,m,e.symm]))];exact ih m n2
variable{as:av}
theorem gQ_(nd:ns.Nodup)(la:as.length=ns.length){i:Nat}{n:Str}(hn:ns[i]? = some n):∃a,as[i]? = some a/\aU (tU ns as) (Sum.inr n)\.ref a:=by
 induction ns generalizing as i with
 |nil=>simp at hn
 |cons x ns ih=>
  cases as with
  |nil=>cases la
  |cons b as=>
   let#[n1,n2]:=iZ.mp nd;cases i with
   |zero=>
    have e:x=n:=⇑hn
    subst e;exact#[b,U,x6 U]
   |succ i=>
    have hn:ns[i]? = some n:=⇑hn
    let#[a,h1,h2]:=ih n2 ⇑la hn;apply#[a,by simpa using h1,?_];show aU ((Sum.inr x,V.ref b)::tU ns as) (Sum.inr n)=_;rw[x8 λe=>n1 (by rw[show x=n from iJ e];exact cZ hn)];exact h2
section v
theorem w_:bJ mC mC (a9 vz):=bV
inductive BO (K:ai) (C:Addr) (vs:af) (H:Hp) (Q:VK) (E:XK):Prop
 |mk:∀(p:Addr) (x:Str) (hs:Xa) (ts:Xb) (fp:av),vs=[.ref p,.str x]->h_ K C H p hs ts fp->Q (.bl (decide (x∈hs.map (·.1)))) H->BO K C vs H Q E
theorem X6{C:Addr}(F:bo K "has_hand" "Web.has_hand" vz f fd)(T:Txt K mg C)(B:Bi mg):!ao a_ 1 f fd mC (BO K C):=by
 exists F.bU w_;let#[p,x,hs,ts,fp,rfl,W,k]:=h;let hu:=fG hr;let#[dx,d1,l2,d3,zs,as,rfl,h1,h2,h3,h4,h5,h6,h7]:=W.ex;apply#[_,aF (bp (ph (cy jT (by rfl) B.jn jr %[1,jS (v:=.ty "str") (by rfl) B.str HJ U|0]) (qe (HM (AS hu (pv 1) (gG (pv 0) U)))))),?_];apply#[_,U,_,_,_,_,U,.str x,U,_,U,c_ ?_];apply#[_,U,_,U,p,C,dx,_,_,U,h1,T.cl,T.nS,Hf _ _ _,d1,_,U,.k (k:=Sum.inr x) h2,?_];rw[Ii];exact k
theorem vy:bJ ow ow (a9 lR):=bV
inductive Fv (K:ai) (C:Addr) (vs:af) (H:Hp) (Q:VK) (E:XK):Prop
 |mk:∀(p:Addr) (hs:Xa) (ts:Xb) (fp:av),vs=[.ref p]->h_ K C H p hs ts fp->(∀l,H l=none->Q (.ref l) (upd H l (.lst ((aS hs).map V.str))))->Fv K C vs H Q E
theorem hS_{C:Addr}(F:bo K "hands" "Web.hands" lR f fd)(T:Txt K mg C)(B:Bi mg):!ao a_ 1 f fd ow (Fv K C):=by
 exists F.bU vy;let#[p,hs,ts,fp,rfl,W,k]:=h;let#[dx,d1,l2,d3,zs,as,rfl,h1,h2,h3,h4,h5,h6,h7]:=W.ex;apply#[_,aF (bp (iO (NG U) (by rfl) B.list ya %[gG (pv 0) U|0])),?_];apply#[_,U,p,C,dx,_,_,U,h1,T.cl,T.nS,Hf _ _ _,d1,_,U,.inl h2,λl hl=>?_];rw[RY];exact k l hl
theorem eC':bJ wg wg (a9 Oe):=bV
inductive I0 (K:ai) (C:Addr) (vs:af) (H:Hp) (Q:VK) (E:XK):Prop
 |mk:∀(p:Addr) (x:Str) (n:Int) (hs:Xa) (ts:Xb) (fp:av),vs=[.ref p,.str x]->h_ K C H p hs ts fp->(hs.map (·.1)).Nodup->(x,n)∈hs->Q (.int n) H->I0 K C vs H Q E
theorem eB_{C:Addr}(F:bo K "strength" "Web.strength" Oe f fd)(T:Txt K mg C)(cH:!bM C 1 "has_hand" mC (BO K C)):!ao a_ 2 f fd wg (I0 K C):=by
 apply F.bU eC' λaL A outer s H vs Q E hr h=>?_;let#[p,x,n,hs,ts,fp,rfl,W,nd,hx,k]:=h;let hu:=fG hr;let#[dx,d1,l2,d3,zs,as,rfl,h1,h2,h3,h4,h5,h6,h7]:=id W.ex;apply#[_,au (cg (eZ (d7 (iX cH T.cl hr (pv 0) %[1|0]))) gg cj) (aF (bp (mI hu (gG (pv 0) U) (pv 1)))),?_];apply#[_,U,p,dx,_,U,h1,pC _ _ _ Z0 Z0 Z0,_,U,p,x,hs,ts,_,U,W,_,U,?_];rw[cw (bG.mpr #[_,hx,U])];apply aM ?_;apply#[_,U,p,C,dx,_,_,U,h1,T.cl,T.nS,Hf _ _ _,_,U,d1,_,U,?_,k];rw[<- fX_ nd hx];exact .k (k:=Sum.inr x) h2
theorem vw:bJ wg wg (a9 lK):=bV
inductive M4 (K:ai) (C:Addr) (vs:af) (H:Hp) (Q:VK) (E:XK):Prop
 |mk:∀(p:Addr) (x:Str) (hs:Xa) (ts:Xb) (fp:av),vs=[.ref p,.str x]->h_ K C H p hs ts fp->(aS hs).Nodup->x∈hs.map (·.1)->(∀l,H l=none->Q (.ref l) (upd H l (.lst ((near (aS hs) (bT ts) x).map V.str))))->M4 K C vs H Q E
theorem Qx{H:Hp}{hs:Xa}{ts:Xb}{x:Str}(nd:(aS hs).Nodup)(hx:x∈hs.map (·.1))(la:as.length=(aS hs).length)(h7:∀(i:Nat) n a,(aS hs)[i]? = some n->as[i]? = some a->H a\.lst ((near (aS hs) (bT ts) n).map V.str)):∃a,aU (tU (aS hs) as) (Sum.inr x)\.ref a/\H a\.lst ((near (aS hs) (bT ts) x).map V.str):=by
 let#[i,hi,e]:=ia ((gN hs).mem_iff.mpr hx);have hn:(aS hs)[i]? = some x:=by rw[aY hi,e]
 let#[a,h1,h2]:=gQ_ nd la hn;exact⟨a,h2,h7 i x a hn h1⟩
theorem hN_{C:Addr}(F:bo K "neighbours" "Web.neighbours" lK f fd)(T:Txt K mg C)(B:Bi mg)(cH:!bM C 1 "has_hand" mC (BO K C)):!ao a_ 2 f fd wg (M4 K C):=by
 exists F.bU vw;let#[p,x,hs,ts,fp,rfl,W,nd,hx,k]:=h;let hu:=fG hr;let#[dx,d1,l2,d3,zs,as,rfl,h1,h2,h3,h4,h5,h6,h7]:=id W.ex;let#[a,e1,ha]:=Qx nd hx h6 h7;apply#[_,au (cg (eZ (d7 (iX cH T.cl hr (pv 0) %[1|0]))) gg cj) (aF (bp (iO e2_ (by rfl) B.list ya %[mI hu (gG (pv 0) U) (pv 1)|0]))),?_];apply#[_,U,p,dx,_,U,h1,pC _ _ _ Z0 Z0 Z0,_,U,p,x,hs,ts,_,U,W,_,U,?_];rw[cw hx];apply aM ?_;apply#[_,U,p,C,dx,_,_,U,h1,T.cl,T.nN,QA _ _ _,_,U,d3,.ref a,U,?_,a,_,U,.inl (.of ha),k];rw[<- e1];exact .k (k:=Sum.inr x) h5
theorem yS:bJ jW jW (a9 q_):=bV
theorem MG{H:Hp}:∀ns:ag,Paired (rS H) (ns.map V.str) ns
 |[]=>.nil
 |_::ns=>.cons U (MG ns)
end
end Ev
namespace L2
open PySem PySem.Spec PyProof.Rows PySem.W
def FR(K:ai)(a:Addr):It:=
 #[λi H=>∃xs x,dS K H a xs/\xs[i]? = some x,λi H y H'=>∃t x,y=.ref t/\H t=none/\(∀xs,dS K H a xs->xs[i]? = some x)/\H'=upd H t (.tup [.int i,x]),λi H=>∃xs,dS K H a xs/\xs.length=i]
variable{X:Cx}{pins:List (Addr × Obj)}{σ:St}{s:Ab}{h':Heap}{t':Nat}{fp:av}
theorem Inv.gQ{H:Hp}{T:Addr}{xs:af}{its:aj}(I:Inv X pins σ H s)(k:∀b o,b∉fp->s.heap.get? b\o->h'.get? b\o)(hf:∀b∈fp,dh X pins H b)(hT:s.heap.objs.size<=T)(hz:xs.length<=sizeLine)(r:Vals xs its)(ht:IsTup h' T its.toArray/\∃o,h'.get? T\o/\o.dict=none):Inv X pins σ (upd H T (.tup xs)) { s with heap:=h',toks:=t' }:=by
 have fT:H T=none:=I.aA.fresh hT;have nf:∀b u,H b\u->b∉fp:=λb u e hb=>by rw[(hf b hb).1] at e;cases e
 have old:∀{b u},H b\u->upd H T (.tup xs) b\u:=λe=>by rw[aw (bz e fT)];exact e
 apply I.step (g':=s.gens) (d':=s.drawn) (ch:=fp) (λb hb=>?_) (λb o _ _ hc e _=>k b o hc e) (λb o _ _ hc e _=>#[o.slots,k b o hc e]) (λb o _ e n=>?_)
  (λb o hc e=>#[o,k b o hc e]) (λb ys e=>old e) (λb o u e=>old e) (λb ps e=>#[#[],by rw[Array.append_empty];exact old e]) (λm hm=>?_) (λb u e=>?_) I.bare
 ·let#[f0,f1,f2,f3,f4,f5]:=hf b hb;exact#[f3,f1,f4,f5]
 ·rw[aw (λz=>by subst z;exact absurd (bx e) (Nat.not_lt.mpr hT))];exact n
 ·let#[o,es,ep,ho,r]:=hm;exact#[o,es,ep,k _ o (λhb=>(hf _ hb).2.1 U) ho,r]
 by_cases z:b=T
 ·subst z;rw[az] at e;cases e;exact#[hz,its,r,ht]
 rw[aw z] at e;apply (I.aA b u e).eN (λc v hc q=>k c v ?_ q) (λ_ q=>old q) λ_ _ q=>old q;rcases hc with z|z
 ·rw[z];exact nf b u e
 exact nf c _ z
theorem Inv.fN{H:Hp}(I:Inv X pins σ H s)(k:∀b o,b∉fp->s.heap.get? b\o->h'.get? b\o)(hf:∀b∈fp,dh X pins H b):Inv X pins σ H { s with heap:=h',toks:=t' }:=by
 have nf:∀b u,H b\u->b∉fp:=λb u e hb=>by rw[(hf b hb).1] at e;cases e
 apply I.step (g':=s.gens) (d':=s.drawn) (ch:=fp) (λb hb=>?_) (λb o _ _ hc e _=>k b o hc e) (λb o _ _ hc e _=>#[o.slots,k b o hc e]) (λb o _ e n=>n)
  (λb o hc e=>#[o,k b o hc e]) (λb ys e=>e) (λb o u e=>e) (λb ps e=>#[#[],by rw[Array.append_empty];exact e]) (λm hm=>?_) (λb u e=>?_) I.bare
 ·let#[f0,f1,f2,f3,f4,f5]:=hf b hb;exact#[f3,f1,f4,f5]
 ·let#[o,es,ep,ho,r]:=hm;exact#[o,es,ep,k _ o (λhb=>(hf _ hb).2.1 U) ho,r]
 apply (I.aA b u e).eN (λc v hc q=>k c v ?_ q) (λ_ q=>q) λ_ _ q=>q;rcases hc with z|z
 ·rw[z];exact nf b u e
 exact nf c _ z
variable{elts:List Expr}{pos:Pos}
theorem _g{P:Ad}{w:Af}{K:ai}{k:Nat}(a e it:Addr)(h1:e≠it)(h2:a≠e)(h3:a≠it):Turn P w K (.Tuple elts k pos) (FR K a) [e,it] e (λi h=>(∃old,IsEnum h e it i old)/\h.IsListIter it a i) where
 mem:=by simp
 obj:=λi h st b hb=>by
  let#[#[old,q],o,e2,c,d]:=st;rcases bY.mp hb with rfl|hb
  ·exact#[_,q,λv z=>by cases z]
  obtain rfl:b=it:=⇑hb
  exact#[o,e2,λv z=>by rw[d] at z;cases z]
 keep:=λi h h' st kk=>by
  let#[#[old,q],eU]:=st;exact#[#[old,kk e Y0 _ q],eU.at λo q2=>kk it Y0 o q2]
 item:=by
  intro X hP hw hK hc i pins s σ H E I hf st hg;subst hP hw hK;let#[xs,x,hq,hx]:=hg;let#[its,rv,p,hz]:=I.list hq;let#[u,hu,ru]:=rv.get hx;let W:=WalksT.enumerate (prog:=X.prog) (w:=X.w) (A:=X.A) (I.ok.hd hc) e it a h1 h2 h3 its.toArray
  have hi:i<its.toArray.size:=by
   simp only[dc];exact (bW.mp hu).1
  let#[old,he]:=st.1;let hit:=st.2;apply wpAny_pyNext_enum_item he hit p.isList (x:=u) (by rw[List.getElem?_toArray];exact hu) h1 λh' ho zY xK hsz hk=>?_;have z_:e<s.heap.objs.size:=bx he;have zZ:it<s.heap.objs.size:=by let#[_,x,_]:=hit;exact bx x
  have mid:(∃x,IsEnumOut h' e it ((i:Int)+1) x s.heap.objs.size)/\h'.IsListIter it a (i+1)/\h'.IsList a its.toArray/\s.heap.objs.size≠e/\s.heap.objs.size≠it:=#[#[_,ho],zY,p.isList.at λo x=>hk a o h2 h3 x,iu z_,iu zZ];have kk:∀b o,b∉[e,it]->s.heap.get? b\o->h'.get? b\o:=λb o hb x=>hk b o (λe'=>hb (by simp[e'])) (λe'=>hb (by simp[e'])) x;have pO:h'.IsTuple s.heap.objs.size (List.toArray [.int i s.toks,u]):=#[_,xK,U,_,U];obtain⟨T,eT⟩:∃T,T=s.heap.objs.size:=#[_,U];obtain⟨t,et⟩:∃t,t=s.toks:=#[_,U];obtain⟨tk,Bx⟩:∃tk,tk=s.toks+1:=#[_,U];rw[<- eT] at pO mid xK ⊢;have hT:s.heap.objs.size<=T:=Nat.le_of_eq eT.symm;rw[<- et] at pO xK;rw[<- Bx];apply#[_,U,W.go elts k pos i T { s with heap:=h',toks:=tk } _ _ mid λgS d_ zC=>?_];have nT:T∉[e,it]:=W.apart i T h' mid
  have oZ:gS.IsTuple T (List.toArray [.int i t,u]):=by
   let#[o,q,r]:=pO;exact#[o,zC T o nT q,r]
  have I1:Inv X pins σ (upd H T (.tup [.int i,x])) { s with heap:=gS,toks:=tk }:=I.gQ (t':=tk) (fp:=[e,it]) (its:=[.int i t,u]) (λb o hb q=>zC b o hb (kk b o hb q)) hf hT (zl) (.cons #[t,U] (.cons ru .nil)) #[oZ,_,zC T _ nT xK,U];apply#[.ref T,_,I1,U,#[T,x,U,I.aA.fresh hT,λys hy=>by rw[I.g9 hy hq];exact hx,U],#[?_,d_.2.1],λb hb=>?_]
  ·let#[old,q]:=d_.1;exact#[old,by simpa using q]
  rw[aw (λz:b=T=>nT (by rw[<- z];exact hb))];exact (hf b hb).1
 done:=by
  intro X hP hw hK hc i pins s σ H E I hf st hg;subst hP hw hK;let#[xs,hq,hx]:=hg;let#[its,rv,p,hz]:=I.list hq;let W:=WalksT.enumerate (prog:=X.prog) (w:=X.w) (A:=X.A) (I.ok.hd hc) e it a h1 h2 h3 its.toArray
  have hn:its.toArray.size=i:=by
   have:=rv.length;simp only[dc];omega
  apply W.done s _ _ (by rw[hn];exact#[st.1,st.2,p.isList]) λh' tk kk=>#[U,I.fN (t':=tk) (fp:=[e,it]) kk hf]
 self:=λA i s Q E st h=>by
  let#[old,q]:=st.1;exact wpAny_pyIter_enum q h
inductive sL (K:ai) (R:It->Hp->Prop) (vs:af) (H1:Hp):Prop
 |mk:∀a,vs=[.ref a]->(∃xs,dS K H1 a xs)->R (FR K a) H1->sL K R vs H1
def DW(K:ai)(ta:TA):TI:=λσ H R=>ta σ H λvs H1=>sL K R vs H1
theorem Rl{kk:Nat}{p2:Pos}{a:Expr}{ta:TA}{p:Pos}(hg:Gl X "enumerate")(hm:X.mg "enumerate"=none)(ha:PA X [a] ta)(hs:starEach [a] X.env=[(false,eval a X.env)]:=by rfl):PI X (.Tuple elts kk p2) (.Call (.Name "enumerate" p) [a] [] pos) (DW X.K ta):=by
 intro pins s σ H R I h;apply Call_ (uT I hg hm boot_enumerate (AL (aN (ha pos pins s σ H _ I h) λus s1 ⟨vs,H1,I1,r1,q1⟩=>?_) hs U));let#[l,e,#[xs,hq],q]:=q1;subst e;cases r1 with
 |cons r rr=>
  cases rr;cases r;let#[its,rv,pl,hz]:=I1.list hq;have ll:l<s1.heap.objs.size:=by let#[_,e,_]:=pl.isList;exact bx e
  apply call_enumerate_list pl.isList λh' he hi hn kp=>?_;apply wpAny_pyIter_enum he ?_;apply#[s1.heap.objs.size+1,[s1.heap.objs.size+1,s1.heap.objs.size],_,_,H1,U,I1.kept (t':=s1.toks) kp,_g l _ _ (Nat.succ_ne_self _) (dD (Nat.lt_succ_of_lt ll)) (dD ll),#[#[_,he],hi],λb hb=>?_,q]
  have e:s1.heap.objs.size<=b:=by
   rcases bY.mp hb with rfl|hb
   ·exact Nat.le_succ _
   obtain rfl:b=s1.heap.objs.size:=⇑hb
   exact bh _
  exact I1.iH e (I1.aA.fresh e)
theorem Sj{K:ai}{a:Addr}{xs:af}{g:TG}{tb:TS}{D:Ends}{H:Hp}(Pv:bR)(h0:Pv 0 σ H)(hl:∀i σ H,i<=xs.length->Pv i σ H->dS K H a xs)(hs:∀i x σ H,xs[i]? = some x->Pv i σ H->∀t,H t=none->g (.ref t) σ (upd H t (.tup [.int i,x])) λfu H2=>tb { D with nx:=Pv (i+1),ct:=Pv (i+1),bk:=D.nx } fu H2)(hd:∀σ H,Pv xs.length σ H->D.nx σ H) :
  ∃W:Nat->Nat->St->Hp->Prop,(∃m,W 0 m σ H)/\∀i m σ H,W i m σ H->
   ((FR K a).stop i H/\D.nx σ H)∨((FR K a).go i H/\∃N:St->Hp->Prop,(∀aZ H',N aZ H'->∃m',m'<m/\W (i+1) m' aZ H')/\∀x H',(FR K a).ux i H x H'->g x σ H' λfu H2=>tb { D with nx:=N,ct:=N,bk:=D.nx } fu H2):=by
 apply#[λi m σ H=>m=xs.length - i/\i<=xs.length/\Pv i σ H,#[xs.length,by simp,gO _,h0],?_];rintro i m σ H ⟨rfl,hi,p⟩;let q:=hl i σ H hi p;by_cases dH:i<xs.length
 ·apply .inr #[#[xs,xs[i],q,by simp[dH]],Pv (i+1),λaZ H' p'=>#[xs.length - (i+1),by omega,U,dH,p'],λx H' y=>?_];let#[t,x,rfl,ht,y,rfl]:=y;exact hs i x σ H (y xs q) p t ht
 have e:i=xs.length:=by omega
 subst e;exact .inl #[#[xs,q,U],hd σ H p]
section
variable{M:Model}{A:Ag}{E:Aa->Ab->Prop}{s:Ab}{base:Heap}{env:Env}{outer:List Env}{L e:Addr}{cls cx fl:Aa}{Q:Unit->Ab->Prop}
end
section
variable{P:Ad}{w:Af}{H H':Hp}{B h0 h h1:Heap}{l:List Env}
end
section
variable{X:Cx}{pins:List (Addr × Obj)}{σ:St}{H H':Hp}{s s1:Ab}{B h:Heap}{a:Addr}{cls a0:Aa}{E:XK}
end
section
variable{P:Ad}{w:Af}{K:ai}{mg:Str->Option Aa}{base:Heap}{N:ag}{qual:Str}{scope:Scope}{f:Addr}{cd:Aa}{A:Ag}{outer:List Env}{s:Ab}{H:Hp}{E:XK}
end
section v
end
open PySem.Calls Builtin Builtin.ObjectAttr Builtin.Getset_descriptor
structure OW (K:ai) (C:Addr):Prop where
 cl:(clsIn K C).isSome=true
 ga:findIn K (.ref C) "__getattribute__"\some (.builtin "BaseException.__getattribute__")
 ha:findIn K (.ref C) "__getattr__"\none
 ca:findIn K (.ref C) "__class__"\some (.builtin "object.__class__")
 gt:specialIn K (.builtin "object.__class__") "__get__"\some (.builtin "getset_descriptor.__get__")
 tk:takesIn K (.builtin "object.__class__")\true
 mo:mroIn K C (.type "object")\true
 mb:mroIn K C (.type "BaseException")\true
section
variable{prog:Ad}{w:Af}{A:Ag}{E:Aa->Ab->Prop}{s:Ab}{K:ai}{x C:Addr}
end
inductive xj (K:ai) (xs:af) (H:Hp) (Q:VK):Prop
 |mk:∀x C t b,xs=[x,.ref C]->fH K H x t->PySem.W.kitOne K t (.ref C)\b->Q (.bl b) H->xj K xs H Q
theorem h9_:gr X (.builtin "isinstance") (xj X.K):=by
 intro pins s σ H xs us Q I r h;let#[x,C,t,b,rfl,ty,e,q]:=h;let#[u,w',rfl,ru,ig]:=vals2 r;cases (show w'=Value.ref C from ig);exact SH I ru ty e λtk=>#[.bl b,H,I.tok tk,U,q]
end L2
namespace Ev
open PySem L2
abbrev lW:Stmt:=top 58
abbrev Nu:Stmt:=top 59
abbrev NS:Stmt:=top 60
abbrev E5:Stmt:=top 61
abbrev lV:Stmt:=top 64
abbrev JZ:Stmt:=top 20
abbrev JY:Stmt:=top 21
abbrev rQ:Stmt:=top 22
abbrev rK:Stmt:=top 23
abbrev rJ:Stmt:=top 24
abbrev MX:Stmt:=top 13
abbrev M5:Stmt:=top 26
abbrev Oo:Stmt:=top 27
abbrev rH:Stmt:=top 28
abbrev Nf:Stmt:=top 29
abbrev rg:Stmt:=top 30
abbrev Nz:Stmt:=top 31
abbrev rT:Stmt:=top 33
abbrev lU:Stmt:=top 34
abbrev rp:Stmt:=top 35
abbrev Nb:Stmt:=top 36
abbrev rE:Stmt:=top 37
abbrev Hs:Stmt:=top 38
abbrev rF:Stmt:=top 39
abbrev M9:Stmt:=top 40
abbrev lP:Stmt:=top 65
abbrev Ng:Stmt:=top 66
abbrev lO:Stmt:=top 67
abbrev MU:Stmt:=top 68
abbrev Nl:Stmt:=top 69
abbrev Nq:Stmt:=top 70
abbrev lQ:Stmt:=top 71
abbrev M7:Stmt:=top 72
abbrev Nj:Stmt:=top 73
abbrev zf:Stmt:=top 43
abbrev NR:Stmt:=top 44
abbrev zc:Stmt:=top 45
abbrev lM:Stmt:=top 46
abbrev lH:Stmt:=top 47
abbrev Oi:Stmt:=top 74
abbrev MZ:Stmt:=top 75
abbrev fg:Stmt:=top 76
def aV(l:Addr)(H H':Hp):Prop:=∀b o,H b\o->b≠l->H' b\o
theorem aV.refl(l:Addr)(H:Hp):aV l H H:=λ_ _ e _=>e
variable{H1:Hp}
theorem aV.trans{l:Addr}{H H2:Hp}(h:aV l H H1)(h2:aV l H1 H2):aV l H H2:=λb o e n=>h2 b o (h b o e n) n
theorem aV.of{l:Addr}{H:Hp}(h:aa H H1):aV l H H1:=λb o e _=>h b o e
theorem aV.upd{l:Addr}{H:Hp}{o:HO}:aV l H (upd H l o):=λb u e n=>by rw[aw n];exact e
def cK(H:Hp)(l:Addr):Prop:=(∃n:Int,H l\.lst [.int n])∨∃n m c:Int,H l\.lst [.int n,.int m,.int c]
theorem cK.some{H:Hp}{l:Addr}(h:cK H l):∃xs,H l\.lst xs:=by
 rcases h with⟨n,e⟩|⟨n,m,c,e⟩
 ·exact#[_,e]
 exact#[_,e]
theorem aV.free{l b:Addr}{H H':Hp}(h:aV l H H')(s:cK H' l)(e:H' b=none):H b=none:=by
 cases z:H b with
 |none=>rfl
 |some o=>
  by_cases q:b=l
  ·subst q;let#[xs,e2]:=s.some;rw[e] at e2;cases e2
  rw[h b o z q] at e;cases e
theorem dR{α:Type}{xs:List α}{i:Int}(h0:0<=i)(h1:i<xs.length):ip xs i=xs[i.toNat]?:=by
 unfold ip vN;rw[aI h0,aI h1];rfl
section v
def wA:Sp:=λvs H Q _=>∃(l:Addr) (b:Int),vs=[.ref l,.int b]/\0<b/\b<1073741824/\cK H l/\∀r H',0<=r->r<b->aV l H H'->cK H' l->Q (.int r) H'
theorem small(x:Int):-(2 ^ 64)<x % 2147483647/\x % 2147483647<2 ^ 64:=by
 let h1:=Int.emod_nonneg x (b:=2147483647) (by decide);let h2:=Int.emod_lt_of_pos x (b:=2147483647) (by decide);exact#[by omega,by omega]
end
theorem hL_:("abcdefghijklmnopqrstuvwxyz":Str).cps.toList=[97,98,99,100,101,102,103,104,105,106,107,108,109,110,111,112,113,114,115,116,117,118,119,120,121,122]:=by decide +kernel
variable{r:Int}
theorem XN(h0:0<=r)(h1:r<26):∃c,ip ("abcdefghijklmnopqrstuvwxyz":Str).cps.toList r\c/\oU c=true:=by
 rw[hL_,dR h0 ⇑h1];have hn:r.toNat<26:=by omega
 apply#[_,aY ⇑hn,?_];have all:∀c∈[97,98,99,100,101,102,103,104,105,106,107,108,109,110,111,112,113,114,115,116,117,118,119,120,121,122],oU c=true:=by decide +kernel
 exact all _ (kJ _)
def iM{α:Type}(l:List α)(k:Nat)(x:α):List α:=l.take k++x::l.drop k
theorem A8{α:Type}(l:List α)(k:Nat)(x:α):(iM l k x).Perm (x::l):=by
 unfold iM;apply List.perm_middle.trans ?_;rw[List.take_append_drop]
theorem Ts{α β:Type}(g:α->β)(l:List α)(k:Nat)(x:α):(iM l k x).map g=iM (l.map g) k (g x):=by
 unfold iM;rw[eg,eI,List.map_take,List.map_drop]
theorem I_{α β:Type}{F:α->β->Prop}:∀{ys:List α} {ks:List β} (k:Nat) {y:α} {q:β},Paired F ys ks->F y q->Paired F (iM ys k y) (iM ks k q)
 |[],_,k,_,_,.nil,h=>by
  unfold iM;simp only[List.take_nil,List.drop_nil,List.nil_append];exact .cons h .nil
 |y::ys,_,0,_,_,.cons a t,h=>.cons h (.cons a t)
 |y::ys,_,k+1,_,_,.cons a t,h=>.cons a (I_ k t h)
theorem Ob{α:Type}(l:List α)(k:Nat)(x:α):(iM l k x).length=l.length+1:=(A8 l k x).length_eq
theorem sR{α:Type}{a b:α}(h0:0<=r)(h1:r<2):ip [a,b] r\a∨ip [a,b] r\b:=by
 have:r=0∨r=1:=by omega
 rcases this with rfl|rfl
 ·exact .inl U
 exact .inr U
theorem Ln{α:Type}{p:α->Prop}{a b c d:α}(h0:0<=r)(h1:r<4)(ha:p a)(hb:p b)(hc:p c)(hd:p d):∃x,ip [a,b,c,d] r\x/\p x:=by
 have:r=0∨r=1∨r=2∨r=3:=by omega
 rcases this with rfl|rfl|rfl|rfl
 ·exact#[_,U,ha]
 ·exact#[_,U,hb]
 ·exact#[_,U,hc]
 exact#[_,U,hd]
theorem jg{K:ai}{H H':Hp}{l:Addr}{ys:af}{ks:List ax}(t:bX K H ys ks)(b:aV l H H'){xs:af}(hl:H l\.lst xs):bX K H' ys ks:=Paired.aX t λy k ⟨a,z,q⟩=>#[a,z,b _ _ q (bS q hl nofun)]
variable{D:Addr}{ns:ag}
theorem Tv{K:ai}{H:Hp}(h:H D\.lst (ns.map V.str)):rL K rS H (.ref D) ns:=#[D,_,U,.of h,MG ns]
theorem fu_{K:ai}{a:Addr}{ys:af}{hs:Xa}{H:Hp}{Q:VK}{kP:St}(sM:kP=[none,none])(ha:H a\.lst ys)(tu:bX K H ys (hs.map kH))(h8:hs.length<=1000)(hD:H D=none)(q:∀H',aa H H'->H' D\.lst ((hs.map (·.1)).map V.str)->Q (.ref D) H'):AJ (ym K a) (fR K 2 (pW (jP 0) (pW (jP 1) tj))) qu (oI 0) kP D H Q:=by
 let sz:=cq;let le:=bH tu;rw[aq] at le;apply kK (own:=2) (fv:=[]) (xs:=ys) sM Ar (λi out H'=>aa H H'/\H' D\.lst out/\out=((hs.take i).map (·.1)).map V.str) #[aa.new hD,az,U] (λi out H' _ ⟨sm,_,_⟩=>.of (sm _ _ ha)) (λout H4 ⟨sm,o6,eo⟩=>?_) (λj y out H' hy ⟨sm,dF,eo⟩=>?_)
 ·rw[le,eR] at eo;subst eo;exact q _ sm o6
 let#[h,hh,p,rfl,hp]:=uY tu hy;apply#[_,#[p,_,_,U,.of (sm _ _ (zN hp)),U],U,λNx hN=>fw ?_];apply#[_,U,out,dF,?_,hN _ _ #[fL sm hD,az,?_]]
 ·rw[eo,aq,aq,dJ];omega
 rw[yi _ hh,eg,eo];rfl
def kO(t:Str × Str):ax:=kT (aK t.1 t.2)
structure TI (ns:ag) (k j:Nat) (ts:Xb):Prop where
 at':∀t∈ts,∃(a b:Nat) (x y:Str),b<a/\(a<k∨(a=k/\b<j))/\ns[a]? = some x/\ns[b]? = some y/\(t=(x,y)∨t=(y,x))
 nd:(ts.map kO).Nodup
 len:ts.length<=7 * k+j
variable{j k:Nat}
theorem TI.skip{ts:Xb}(h:TI ns k j ts):TI ns k (j+1) ts:=
 #[λt ht=>let #[a,b,x,y,h1,h2,h3,h4,h5]:=h.at' t ht;#[a,b,x,y,h1,by omega,h3,h4,h5],h.nd,by have:=h.len;omega]
theorem TI.next{ts:Xb}(h:TI ns k k ts)(h7:k<=7):TI ns (k+1) 0 ts:=
 #[λt ht=>let #[a,b,x,y,h1,h2,h3,h4,h5]:=h.at' t ht;#[a,b,x,y,h1,by omega,h3,h4,h5],h.nd,by have:=h.len;omega]
theorem Hc{a b:Str × Str}(h:kT a=kT b):a=b:=by
 unfold kT at h;let#[h1,h2]:=List.cons.inj h;let#[h2,_]:=List.cons.inj h2;exact Prod.ext (iJ h1) (iJ h2)
variable{x:Str}
theorem Fn(nd:ns.Nodup){i:Nat}(h:ns[i]? = some x)(h2:ns[j]? = some x):i=j:=by
 let#[hi,e1]:=bW.mp h;let#[hj,e2]:=bW.mp h2;exact (List.getElem_inj nd).mp (e1.trans e2.symm)
variable{b:Str}
theorem Qm{a c d:Str}(h:kO (a,b)=kO (c,d)):(a=c/\b=d)∨(a=d/\b=c):=by
 let h:=Hc h;dsimp only at h;rcases BW a b with e|e<;>rcases BW c d with e2|e2<;>rw[e,e2] at h<;>let h1:=(Prod.mk.inj h).1<;>let h2:=(Prod.mk.inj h).2
 ·exact .inl #[h1,h2]
 ·exact .inr #[h1,h2]
 ·exact .inr #[h2,h1]
 exact .inl #[h2,h1]
theorem TI.add{ts:Xb}(h:TI ns k j ts)(nd:ns.Nodup){y:Str}{t:Str × Str}(hj:j<k)(hx:ns[k]? = some x)(hy:ns[j]? = some y)(ht:t=(x,y)∨t=(y,x))(q:Nat):TI ns k (j+1) (iM ts q t):=by
 apply#[λu hu=>?_,?_,by have:=h.len;rw[Ob];omega]
 ·rcases bY.mp ((A8 _ _ _).mem_iff.mp hu) with rfl|hu
  ·exact#[k,j,x,y,hj,.inr #[U,by omega],hx,hy,ht]
  exact h.skip.at' u hu
 apply ((A8 ts q t).map kO).nodup_iff.mpr ?_;rw[eI];apply iZ.mpr #[λm=>?_,h.nd];let#[u,hu,e]:=bG.mp m;let#[a,b,c,d,h1,h2,h3,h4,h5]:=h.at' u hu
 have key:(c=x/\d=y)∨(c=y/\d=x):=by
  rcases h5 with rfl|rfl<;>rcases ht with rfl|rfl<;>rcases Qm e with⟨q1,q2⟩|⟨q1,q2⟩<;>simp_all
 rcases key with⟨rfl,rfl⟩|⟨rfl,rfl⟩
 ·have:=Fn nd h3 hx;have:=Fn nd h4 hy;omega
 have:=Fn nd h3 hy;have:=Fn nd h4 hx;omega
theorem TI.good{ts:Xb}(h:TI ns k j ts)(nd:ns.Nodup)(ok:∀n∈ns,iL n=true):∀t∈ts,wk t/\t.1∈ns/\t.2∈ns:=λt ht=>by
 let#[a,b,x,y,h1,h2,h3,h4,h5]:=h.at' t ht;let mx:=cZ h3;let my:=cZ h4
 have ne:x≠y:=λe=>by
  subst e;have:=Fn nd h3 h4;omega
 rcases h5 with rfl|rfl
 ·exact#[#[ok _ mx,ok _ my,ne],mx,my]
 exact#[#[ok _ my,ok _ mx,ne.symm],my,mx]
theorem Zt(ns:ag)(k:Nat):dP (ns.map V.str) none (some (k:Int))=(ns.take k).map V.str:=by
 unfold dP;rw[HT.eO,HT.dY,List.drop_zero,Nat.sub_zero,List.map_take,aq];by_cases h:k<=ns.length
 ·rw[Nat.min_eq_left h]
 rw[Nat.min_eq_right Z2,uZ (by rw[aq];omega),uZ (by rw[aq];omega)]
theorem cK.same{H H':Hp}{l:Addr}(h:cK H l)(s:aa H H'):cK H' l:=by
 rcases h with⟨n,e⟩|⟨n,m,c,e⟩
 ·exact .inl #[n,s _ _ e]
 exact .inr #[n,m,c,s _ _ e]
theorem he_{a:Str}(h:zx a b=true):zx b a=false:=SE (a:=Sum.inr a) (b:=Sum.inr b) h
theorem Zf{a:Str}(h:zx a b=false)(h2:zx b a=false):a=b:=iJ (RE (a:=Sum.inr a) (b:=Sum.inr b) h h2)
theorem NV(a b:Str):aK a b=aK b a:=by
 unfold aK;by_cases h:zx a b=true
 ·rw[aI h,aC (by rw[he_ h];decide)]
 by_cases h2:zx b a=true
 ·rw[aC h,aI h2]
 have:=Zf ⇑h ⇑h2;subst this;rw[aC h]
theorem IF{ts:Xb}{x:Str × Str}:x∈bT ts ↔ ∃t∈ts,aK t.1 t.2=x:=by
 have e:kT x∈(bT ts).map kT ↔ x∈bT ts:=#[λh=>by
  let#[y,hy,e]:=bG.mp h;rw[<- Hc e];exact hy,λh=>bG.mpr #[x,h,U]]
 rw[<- e,Nw,(t_ _).mem_iff,bG];exact#[λ⟨t,ht,q⟩=>#[t,ht,Hc q],λ⟨t,ht,q⟩=>#[t,ht,by rw[q]]]
theorem YQ(a b:Str):kO (a,b)=kO (b,a):=by
 show kT (aK a b)=kT (aK b a);rw[NV]
variable{f:Addr}{fd:Ae}
section v
theorem IH:bJ [gL,"_law_base",wa,"_law_number"] uO (a9 lV):=bV
theorem hD_(F:bo K tQ tQ lV f fd)(B:Bi mg):!ao a_ 1 f fd uO wA:=by
 exists F.bU IH;let#[l,b,rfl,h0,h1,st,k]:=h
 apply#[_,au (cg (eY BJ (cy iq (by rfl) B.len gE %[0|0]) ay)
   (aF (kI (pe ou PySem.F.slot_list_extend PySem.F.type_list_extend _h (pv 0) %[ft %[bP AM (bw gd (pv 0) ay) ay,ay|0]|0]))) cj)
  (au (cg (eY BK (bw gd (pv 0) ay) ay)
   (au (bu 2 IH.nd (bP AM (bw gd (pv 0) ay) (pv 1)))
   (au (HK (bP Fh (bw gd (pv 0) ay) (pv 1)) (Qo (pv 0) ay R9))
   (aF (bp (pv 2))))) cj)
  (au (HK (bP gz (bw gd (pv 0) ay) ay) (Qo (pv 0) ay R9))
  (au (bu 3 IH.nd (bP AM (bP qb (bP gz (bP gz (bw gd (pv 0) ay) (bP qb ay (bw gd (pv 0) ay))) ay) ay) ay))
  (au (bu 3 IH.nd (bP AM (bP qb (pv 3) (bP gz (bP Fh (pv 3) ay) ay)) ay))
  (aF (bp (bP AM (bP AM (bP qb (pv 3) (bP gz (bP Fh (pv 3) ay) ay)) ay) (pv 1)))))))),?_]
 rcases st with⟨n,kr⟩|⟨n,m,c,hl⟩
 case' inl=>
  apply#[_,U,l,_,U,.inl (.of kr),U,_,U,c_ ?_];apply#[_,U,.inl #[U,_,.of kr],_,U,l,_,_,_,U,U,.of kr,U,_,_,U,U,by show (0:Int)<2147483647;decide,zl,λq hq=>?_];apply#[l,q,_,_,U,U,aa.new hq _ _ kr,az,by show 1+2<=sizeLine;decide,?_];have bt:aV l H (upd (upd H q (.lst [.int (n % 2147483647),.int 0])) l (.lst ([.int n]++[.int (n % 2147483647),.int 0]))):=(aV.of (aa.new hq)).trans aV.upd;have hl:(upd (upd H q (.lst [.int (n % 2147483647),.int 0])) l (.lst ([.int n]++[.int (n % 2147483647),.int 0]))) l\.lst [.int n,.int (n % 2147483647),.int 0]:=az;generalize (upd (upd H q (.lst [.int (n % 2147483647),.int 0])) l (.lst ([.int n]++[.int (n % 2147483647),.int 0])))=H1 at bt hl ⊢
 case' inr=>
  apply#[_,U,l,_,U,.inl (.of hl),U,_,U,aM ?_];let bt:=aV.refl l H
 all_goals
  apply#[_,U,l,_,_,_,U,U,.of hl,U,_,_,U,U,_,U,?_];apply bQ (λc=>?_) (λc=>?_)
  ·apply#[_,U,l,_,_,_,U,U,.of hl,U,_,U,_,_,U,U,h0,?_];apply#[_,U,l,_,_,_,U,U,.of hl,U,_,U,_,_,U,U,#[h0,h1],_,U,l,_,_,0,U,U,hl,U,?_];exact#[_,U,k _ _ (Int.emod_nonneg _ Z2) (Int.emod_lt_of_pos _ h0) (bt.trans aV.upd) (.inr #[_,_,_,az])]
  apply#[_,U,l,_,_,_,U,U,.of hl,U,_,_,U,U,_,U,l,_,_,2,U,U,hl,U,?_];apply#[_,U,l,_,_,_,U,U,.of az,U,_,U,l,_,_,_,U,U,.of az,U,_,_,U,U,.inl #[by decide,by decide],_,_,U,U,_,_,U,U,_,_,U,U,.inr #[by decide,by decide],_,_,U,U,by show (0:Int)<2147483647;decide,?_];apply#[_,U,_,U,_,_,U,U,#[by decide,by decide],_,_,U,U,_,_,U,U,.inl (small _),_,_,U,U,by show (0:Int)<2147483647;decide,?_];apply#[_,U,_,U,_,_,U,U,#[by decide,by decide],_,_,U,U,_,_,U,U,.inl (small _),_,_,U,U,by show (0:Int)<2147483399;decide,_,U,_,_,U,U,h0,?_];exact k _ _ (Int.emod_nonneg _ Z2) (Int.emod_lt_of_pos _ h0) (bt.trans aV.upd) (.inr #[_,_,_,az])
theorem HW:bJ [gL,wa,"_law_k"] [gL] (a9 lP):=bV
def M0:Sp:=λvs H Q _=>∃(l:Addr),vs=[.ref l]/\cK H l/\∀x H',iL x=true->aV l H H'->cK H' l->Q (.str x) H'
theorem Zw(F:bo K "_law_name" "_law_name" lP f fd)(B:Bi mg)(cD:!br 1 tQ uO wA):!ao a_ 2 f fd [gL] M0:=by
 exists F.bU HW;let#[l,rfl,st,k]:=h;let sz:=cq
 apply#[_,au (bu 1 HW.nd tV)
  (au (d0 dM U (uW (by rfl) B.range %[bP gz ay (bc cD hr %[0,ay|0])|0]) (cu 2 HW.nd)
   (aF (bu 1 HW.nd (bP fx_ (pv 1) (bw X_ tV (bc cD hr %[0,ay|0]))))))
  (aF (bp (pv 1)))),?_]
 apply#[_,U,l,8,U,by decide,by decide,st,λr H1 r0 r8 b1 pI=>?_];apply#[_,_,U,U,_,U,by show (-(2 ^ 62):Int)<=1+r;omega,by show 1+r<(2 ^ 62:Int);omega,?_];apply wD (lo:=0) (n:=(1+r).toNat) (λi σ H2=>∃(x:Str) (v:aH),σ=[some (.ref l),some (.str x),v]/\x.length=i/\x.cps.toList.all oU=true/\aV l H H2/\cK H2 l) #["",none,U,U,U,b1,pI] ?_ ?_
 ·rintro i σ H2 hi ⟨x,v,rfl,hx,ho,b2,eU⟩;apply#[_,U,_,U,l,26,U,by decide,by decide,eU,λq H3 q0 Wh b3 ic=>?_];let#[c,hc,oc]:=XN q0 Wh;apply#[_,_,_,U,U,by decide +kernel,hc,_,_,U,U,?_,_,_,U,?_,?_,b2.trans b3,ic]
  ·have:(⟨(List.toArray [c])⟩:Str).length=1:=rfl;omega
  ·have e:(x++(⟨(List.toArray [c])⟩:Str)).cps.toList=x.cps.toList++[c]:=PySem.W.KT.app_list _ _;have:(x++(⟨(List.toArray [c])⟩:Str)).length=(x++(⟨(List.toArray [c])⟩:Str)).cps.toList.length:=by rw[t7];rfl
   rw[this,e,d4,t7];show x.length+1=i+1;omega
  have e:(x++(⟨(List.toArray [c])⟩:Str)).cps.toList=x.cps.toList++[c]:=PySem.W.KT.app_list _ _;rw[e,List.all_append,ho];simp[oc]
 rintro σ H2 ⟨x,v,rfl,hx,ho,b2,eU⟩;apply#[_,U,k x H2 ?_ b2 eU];unfold iL;rw[ho,cw (show 1<=x.length by omega),cw (show x.length<=8 by omega)];rfl
theorem FI:bJ [gL,"_law_most",wa,"_law_k","_law_name_here","_law_strength"] [gL,"_law_most"] (a9 Ng):=bV
def So(K:ai):Sp:=λvs H Q _=>∃(l:Addr) (m:Nat),vs=[.ref l,.int m]/\1<=m/\m<=8/\cK H l/\∀(a:Addr) (ys:af) (hs:Xa) (H':Hp),aV l H H'->cK H' l->H a=none->H' a\.lst ys->bX K H' ys (hs.map kH)->(∀h∈hs,oq h)->(hs.map (·.1)).Nodup->1<=hs.length->hs.length<=m->Q (.ref a) H'
theorem gc_(F:bo K "_law_hands" "_law_hands" Ng f fd)(B:Bi mg)(cD:!br 1 tQ uO wA)(cN:!br 2 "_law_name" [gL] M0):!ao a_ 3 f fd [gL,"_law_most"] (So K):=by
 exists F.bU FI;let#[l,m,rfl,m1,m8,st,k]:=h;let sz:=cq
 apply#[_,au (bu 2 FI.nd (ft bK))
  (au (d0 dM U (uW (by rfl) B.range %[bP gz ay (bc cD hr %[0,1|0])|0]) (cu 3 FI.nd)
   (au (bu 4 FI.nd (bc cN hr %[0|0]))
   (aF (cg (eY (Tt i_ (uM hr 0)) (pv 4) (js ["_law_one","_law_strength"] 2 [] (dX (pv 2)) (λfp s H=>E9 (n:=2) (dN (fW (i:=0) (show (["_law_one","_law_strength"]:ag).Nodup by decide +kernel) U (Or.inl U)) (dN (fW (i:=1) (show (["_law_one","_law_strength"]:ag).Nodup by decide +kernel) U (Or.inl U)) jh)))
     (λfp s H=>kE) (λfp s H=>pv 0)) (by with_unfolding_all rfl))
    (au (bu 5 FI.nd (bw gd (ft %[ay,bP gz ay (bc cD hr %[0,ay|0]),bP gz ay (bc cD hr %[0,ay|0]),ay|0]) (bc cD hr %[0,ay|0])))
    (aF (kI (pe ou PySem.F.slot_list_insert PySem.F.type_list_insert IM (pv 2) %[bc cD hr %[0,bP gz (cy iq (by rfl) B.len gE %[2|0]) ay|0],gh %[4,5|0]|0]))))
    cj))))
  (aF (bp (pv 2)))),?_]
 apply#[zl,λa ha=>?_];let#[Jo,kr]:=st.some;have gq:l≠a:=bz kr ha
 have VE:cK (upd H a (.lst [])) l:=by
  unfold cK;rw[aw gq];exact st
 apply#[_,U,_,U,l,m,U,by omega,by omega,VE,λr H1 r0 r8 b1 pI=>?_];apply#[_,_,U,U,_,U,by show (-(2 ^ 62):Int)<=1+r;omega,by show 1+r<(2 ^ 62:Int);omega,?_]
 apply wD (lo:=0) (n:=(1+r).toNat) (λi σ H2=>∃(v3 v4 v5:aH) (ys:af) (hs:Xa),σ=[some (.ref l),some (.int m),some (.ref a),v3,v4,v5]/\aV l H H2/\cK H2 l/\H2 a\.lst ys/\bX K H2 ys (hs.map kH)/\(∀h∈hs,oq h)/\(hs.map (·.1)).Nodup/\hs.length<=i/\(1<=i->1<=hs.length))
  #[none,none,none,[],[],U,(aV.of (aa.new ha)).trans b1,pI,b1 _ _ az gq.symm,.nil,by simp,.nil,bh _,by omega] ?_ ?_
 ·rintro i σ H2 hi ⟨v3,v4,v5,ys,hs,rfl,b2,eU,og,tu,good,nd,le,ge⟩;have i8:i<8:=by omega
  apply#[_,U,l,U,eU,λx H3 nx b3 ic=>?_];let jJ:=b3 _ _ og gq.symm;let#[O6,jo]:=eU.some;let Pb:=jg tu b3 jo;apply#[_,U,_,U,a,U,#[_,.of jJ],λD hD=>?_];let P8:=bH tu;rw[aq] at P8;apply kK (own:=2) (fv:=[]) (xs:=ys) U Ar (λi out H'=>aa H3 H'/\H' D\.lst out/\out=((hs.take i).map (·.1)).map V.str) #[aa.new hD,az,U] (λi out H' _ ⟨sm,_,_⟩=>.of (sm _ _ jJ)) (λout H4 ⟨sm,o6,eo⟩=>?_) (λj y out H' hy ⟨sm,dF,eo⟩=>?_)
  ·rw[P8,eR] at eo;subst eo;let jI:=sm _ _ jJ;have b4:aV l H H4:=(b2.trans b3).trans (aV.of sm)
   have gR:cK H4 l:=by
    rcases ic with⟨n,e⟩|⟨n,m,c,e⟩
    ·exact .inl #[n,sm _ _ e]
    exact .inr #[n,m,c,sm _ _ e]
   let yx:=Pb.same sm;apply#[x,_,U,Tv o6,_,U,?_];apply bQ (λc=>?_) (λc=>?_)
   ·have Kn:x∉hs.map (·.1):=⇑c
    apply#[_,U,l,9,U,by decide,by decide,gR,λr1 H5 q0 q1 b5 gi=>#[_,_,U,U,?_]];apply#[_,U,l,1000,U,by decide,by decide,gi,λr2 H6 q2 q3 b6 iy=>#[_,_,U,U,?_]];apply#[zl,λp hp=>?_];let#[O5,zV]:=iy.some;have lp:l≠p:=bz zV hp
    have i0:cK (upd H6 p (.lst [.int 1,.int (1+r1),.int (1+r2),.int 1000])) l:=by
     unfold cK;rw[aw lp];exact iy
    apply#[_,U,l,4,U,by decide,by decide,i0,λr3 H8 q4 q5 b8 yK=>?_];let _E:=b8 _ _ (show upd H6 p (.lst [.int 1,.int (1+r1),.int (1+r2),.int 1000]) p=_ from az) lp.symm;let#[y,hy,n,en,n1,n2]:=Ln (p:=λy:V=>∃n:Int,y=.int n/\1<=n/\n<=1000) (a:=V.int 1) (b:=.int (1+r1)) (c:=.int (1+r2)) (d:=.int 1000) q4 q5 #[1,U,by decide,by decide] #[_,U,by omega,by omega] #[_,U,by omega,by omega] #[1000,U,by decide,by decide];subst en;apply#[p,_,_,_,U,U,.of _E,hy,?_];have FH:aV l H4 H8:=((b5.trans b6).trans (aV.of (aa.new hp))).trans b8;let#[UT,En]:=gR.some;let LN:=FH _ _ jI gq.symm;let Vn:=jg yx FH En;apply#[_,U,.inl #[U,_,.of LN],_,U,_,U,a,_,U,.inl (.of LN),_,_,U,U,l,_,U,by show (0:Int)<(ys.length:Int)+1;omega,by show (ys.length:Int)+1<1073741824;omega,yK,λr4 H9 q6 q7 b9 vp=>?_];have q7:r4<(ys.length:Int)+1:=q7;let#[xs8,_O]:=yK.some;let LM:=b9 _ _ LN gq.symm;let Vm:=jg Vn b9 _O;apply#[_,U,_,U,zl,λt ht=>?_];let jw:=aa.new (o:=.tup [.str x,.int n]) ht;apply#[a,r4.toNat,ys,.ref t,U,by rw[Int.toNat_of_nonneg q6],jw _ _ LM,by omega,by omega,?_]
    have hl9:∃xs,upd H9 t (.tup [.str x,.int n]) l\.lst xs:=by
     let#[xs,e]:=vp.some;exact#[xs,jw _ _ e]
    have tt:upd H9 t (.tup [.str x,.int n]) t\.tup ((kH (x,n)).map kV):=az;have ta:t≠a:=(bz LM ht).symm;apply#[_,_,_,_,iM hs r4.toNat (x,n),U,?_,?_,az,?_,?_,?_,?_,?_]
    ·intro b o e ne;rw[aw (bz e ha)];exact jw _ _ (b9 _ _ (FH _ _ (b4 _ _ e ne) ne) ne)
    ·unfold cK;rw[aw gq,aw (bz (vp.some.choose_spec) ht)];exact vp
    ·rw[Ts];exact Im (I_ _ (Vm.same jw) #[t,U,tt]) (jw _ _ LM)
    ·intro h hh;rcases bY.mp ((A8 _ _ _).mem_iff.mp hh) with rfl|hh
     ·exact#[nx,n1,n2]
     exact good h hh
    ·apply ((A8 hs _ _).map _).nodup_iff.mpr ?_;rw[eI];exact iZ.mpr #[Kn,nd]
    ·rw[Ob];omega
    intro _;rw[Ob];omega
   apply#[_,_,_,_,hs,U,b4,gR,jI,yx,good,nd,by omega,λ_=>?_];have UR:x∈hs.map (·.1):=⇑c
   have:=List.length_pos_of_mem UR;rw[aq] at this;omega
  let#[h,hh,p,rfl,hp]:=uY Pb hy;apply#[_,#[p,_,_,U,.of (sm _ _ (zN hp)),U],U,λNx hN=>fw ?_];apply#[_,U,out,dF,?_,hN _ _ #[fL sm hD,az,?_]]
  ·rw[eo,aq,aq,dJ];omega
  rw[yi _ hh,eg,eo];rfl
 rintro σ H2 ⟨v3,v4,v5,ys,hs,rfl,b2,eU,og,tu,good,nd,le,ge⟩;exact#[_,U,k a ys hs H2 b2 eU ha og tu good nd (ge Z2) Z2]
theorem A0:bJ [gL,mF,"_law_names","_law_few",wa,"_law_k","_law_other","_law_tie"] [gL,mF] (a9 lO):=bV
inductive M_ (K:ai) (vs:af) (H:Hp) (Q:VK) (E:XK):Prop
 |mk:∀(l lh:Addr) (ys:af) (hs:Xa),vs=[.ref l,.ref lh]->cK H l->H lh\.lst ys->bX K H ys (hs.map kH)->(∀n∈hs.map (·.1),iL n=true)->(hs.map (·.1)).Nodup->hs.length<=8->lh≠l->(∀(a:Addr) (zs:af) (ts:Xb) (H':Hp),aV l H H'->cK H' l->H a=none->H' a\.lst zs->bX K H' zs (ts.map kT)->(∀t∈ts,wk t/\t.1∈hs.map (·.1)/\t.2∈hs.map (·.1))->(ts.map kO).Nodup->ts.length<64->Q (.ref a) H')->M_ K vs H Q E
theorem hY_(F:bo K "_law_ties" "_law_ties" lO f fd)(B:Bi mg)(cD:!br 1 tQ uO wA):!ao a_ 2 f fd [gL,mF] (M_ K):=by
 exists F.bU A0;let#[l,lh,ys,hs,rfl,st,fZ,tu,WE,nd,h8,l7,k]:=h;let sz:=cq
 apply#[_,au (RB (i:=2) BP 2 [] A0.nd U (Or.inl U) (dX (pv 1)) (λfp s H=>E9 (n:=2) (dN (fW (i:=0) (show (BP:ag).Nodup by decide +kernel) U (Or.inl U)) (dN (fW (i:=1) (show (BP:ag).Nodup by decide +kernel) U (Or.inl U)) jh)))
     (λfp s H=>kE) (λfp s H=>pv 0))
  (au (bu 3 A0.nd (bP gz ay (bc cD hr %[0,ay|0])))
  (au (bu 4 A0.nd (ft bK))
  (au (d0 dM U (uW (by rfl) B.range %[cy iq (by rfl) B.len gE %[2|0]|0]) (cu 5 A0.nd)
   (aF (d0 dM U (dX (AX Mn (pv 2) A4 (A3 (pv 5)))) (cu 6 A0.nd)
    (aF (cg (eY BH (bc cD hr %[0,ay|0]) (pv 3))
     (au (bu 7 A0.nd (bw gd (ft %[gh %[bw gd (pv 2) (pv 5),6|0],gh %[6,bw gd (pv 2) (pv 5)|0]|0]) (bc cD hr %[0,ay|0])))
     (aF (kI (pe ou PySem.F.slot_list_insert PySem.F.type_list_insert IM (pv 4) %[bc cD hr %[0,bP gz (cy iq (by rfl) B.len gE %[4|0]) ay|0],7|0]))))
     cj)))))
  (aF (bp (pv 4)))))),?_]
 apply#[_,U,lh,U,#[_,.of fZ],λln xC=>?_];apply fu_ U fZ tu Z2 xC λH1 s1 _I=>?_
 let ns:ag:=hs.map (·.1)
 have n8:ns.length<=8:=by show (hs.map (·.1)).length<=8;rw[aq];exact h8
 let pI:=st.same s1;apply#[_,U,l,3,U,by decide,by decide,pI,λr H2 r0 r3 b2 eU=>#[_,_,U,U,?_]];let#[UX,fo]:=pI.some
 have Bv:ln≠l:=λe=>by
  subst e;let#[xs,e2]:=st.some;rw[xC] at e2;cases e2
 let xB:=b2 _ _ _I Bv;apply#[zl,λa ha=>?_];let#[O6,jo]:=eU.some;have gq:l≠a:=bz jo ha;have Xh:ln≠a:=bz xB ha;have s3:aa H2 (upd H2 a (.lst [])):=aa.new ha
 have oh:H a=none:=by
  cases z:H a with
  |none=>rfl
  |some o=>
   have:=b2 _ _ (s1 _ _ z) gq.symm;rw[ha] at this;cases this
 apply#[_,U,ln,_,U,.inl (.of (s3 _ _ xB)),_,U,by show (-(2 ^ 62):Int)<=((ns.map V.str).length:Int);omega,by show (((hs.map (·.1)).map V.str).length:Int)<2 ^ 62;rw[aq,aq];omega,?_]
 let Iv:Nat->Nat->Hp->Prop:=λkk j H'=>∃zs ts,aV l H H'/\cK H' l/\H' ln\.lst (ns.map V.str)/\H' a\.lst zs/\bX K H' zs (ts.map kT)/\TI ns kk j ts
 have le:(ns.map V.str).length=ns.length:=aq _
 apply wD (lo:=0) (n:=((ns.map V.str).length:Int).toNat) (λi σ H'=>∃(v5 v6 v7:aH),σ=[some (.ref l),some (.ref lh),some (.ref ln),some (.int (1+r)),some (.ref a),v5,v6,v7]/\Iv i 0 H')
  #[none,none,none,U,[],[],((aV.of s1).trans b2).trans (aV.of s3),eU.same s3,s3 _ _ xB,az,.nil,#[by simp,.nil,gO _]] ?_ ?_
 ·rintro i σ H4 hi ⟨v5,v6,v7,rfl,UH,Vq,b4,gR,zS,jI,yx,Vr⟩;rw[Int.zero_add];have hi:i<ns.length:=by omega
  apply#[_,U,_,U,_,U,ln,_,U,.of zS,λp hp=>?_];rw[Zt];have s5:aa H4 (upd H4 p (.lst ((ns.take i).map V.str))):=aa.new hp
  have lp:l≠p:=by
   let#[xs,e]:=gR.some;exact bz e hp
  have pln:ln≠p:=bz zS hp;have pa:p≠a:=(bz jI hp).symm
  apply#[p,U,#[_,.of az],ib (K:=K) (a:=p) (xs:=(ns.take i).map V.str) (λj σ H'=>∃(v6 v7:aH),σ=[some (.ref l),some (.ref lh),some (.ref ln),some (.int (1+r)),some (.ref a),some (.int i),v6,v7]/\H' p\.lst ((ns.take i).map V.str)/\Iv i j H')
   #[_,_,U,az,UH,Vq,b4.trans (aV.of s5),gR.same s5,s5 _ _ zS,s5 _ _ jI,yx.same s5,Vr] (λj σ H' _ ⟨_,_,_,q,_⟩=>.of q) ?_ ?_]
  ·rintro j y σ H6 hy ⟨v6,v7,rfl,QU,u7,Bm,b6,iy,GU,vU,uy,uz⟩;let#[o,ho,rfl]:=mG hy
   have hj:j<i:=by
    have:=(bW.mp ho).1;rw[dJ] at this;omega
   have ho:ns[j]? = some o:=by
    rw[List.getElem?_take_of_lt hj] at ho;exact ho
   have hx:ns[i]? = some ns[i]:=aY hi
   have EH:ip (ns.map V.str) (i:Int)\.str ns[i]:=by
    rw[dR Z2 (by rw[aq];omega),yl,dC,hx];rfl
   apply#[_,U,l,4,U,by decide,by decide,iy,λr2 H7 q0 q1 b7 i0=>#[_,U,_,_,U,U,_,U,?_]];let#[O5,zV]:=iy.some;let GT:=b7 _ _ GU Bv;let Rf:=b7 _ _ vU gq.symm;let QT:=b7 _ _ QU lp.symm;let Pa:=jg uy b7 zV;apply bQ (λc=>?_) (λc=>?_)
   ·apply#[_,U,_,U,ln,_,_,_,U,U,.of GT,EH,_,U,zl,λt1 o4=>?_];let s8:=aa.new (o:=.tup [.str ns[i],.str o]) o4;apply#[_,U,_,U,_,U,ln,_,_,_,U,U,.of (s8 _ _ GT),EH,zl,λt2 xw=>?_];let s9:=aa.new (o:=.tup [.str o,.str ns[i]]) xw;apply#[zl,λlx jG=>?_];let C8:=aa.new (o:=.lst [.ref t1,.ref t2]) jG;let s7:=(s8.trans s9).trans C8;let jw:=i0.same s7;apply#[_,U,l,2,U,by decide,by decide,jw,λr3 OV q2 q3 Je CS=>?_]
    have Bu:lx≠l:=by
     let#[xs,e]:=(i0.same (s8.trans s9)).some;exact (bz e jG).symm
    let Ej:=Je _ _ (show upd (upd (upd H7 t1 (.tup [.str ns[i],.str o])) t2 (.tup [.str o,.str ns[i]])) lx (.lst [.ref t1,.ref t2]) lx=_ from az) Bu;let#[UW,Ep]:=jw.some;let D9:=C8 _ _ (s9 _ _ (show upd H7 t1 (.tup [.str ns[i],.str o]) t1=_ from az));let D5:=C8 _ _ (show upd (upd H7 t1 (.tup [.str ns[i],.str o])) t2 (.tup [.str o,.str ns[i]]) t2=_ from az);let D6:=Je _ _ D9 (bS D9 Ep nofun);let D4:=Je _ _ D5 (bS D5 Ep nofun)
    have pick:∃(t:Addr) (tt:Str × Str),ip [V.ref t1,V.ref t2] r3\.ref t/\OV t\.tup ((kT tt).map kV)/\(tt=(ns[i],o)∨tt=(o,ns[i])):=by
     rcases sR (a:=V.ref t1) (b:=V.ref t2) q2 q3 with e|e
     ·exact#[t1,(ns[i],o),e,D6,.inl U]
     exact#[t2,(o,ns[i]),e,D4,.inr U]
    let#[t,tt,et,ht,etc]:=pick;apply#[lx,_,_,_,U,U,.of Ej,et,?_];have tX:aV l H7 OV:=(aV.of s7).trans Je;let#[xs7,_P]:=i0.some;let An:=tX _ _ Rf gq.symm;let Lg:=tX _ _ GT Bv;let K7:=tX _ _ QT lp.symm;let JB:=jg Pa tX _P;let lz:=bH uy;rw[aq] at lz;let tl:=uz.len;apply#[_,U,.inl #[U,_,.of An],_,U,_,U,a,_,U,.inl (.of An),_,_,U,U,l,_,U,by show (0:Int)<(u7.length:Int)+1;omega,by show (u7.length:Int)+1<1073741824;omega,CS,λr4 H12 q4 q5 B6 JU=>?_];have q5:r4<(u7.length:Int)+1:=q5;let#[UV,Eo]:=CS.some;let EM:=B6 _ _ An gq.symm;let Lf:=B6 _ _ Lg Bv;let K6:=B6 _ _ K7 lp.symm;let K1:=B6 _ _ ht (bS ht Eo nofun);let JA:=jg JB B6 Eo;apply#[_,U,a,r4.toNat,u7,.ref t,U,by rw[Int.toNat_of_nonneg q4],EM,by omega,by omega,?_];apply#[_,_,U,by rw[aw pa];exact K6,_,iM Bm r4.toNat tt,?_,?_,by rw[aw Xh];exact Lf,az,?_,uz.add nd hj hx ho etc _]
    ·intro b o e ne;rw[aw (bz e oh)];exact B6 _ _ (tX _ _ (b7 _ _ (b6 _ _ e ne) ne) ne) ne
    ·unfold cK;rw[aw gq];exact JU
    rw[Ts];exact Im (I_ _ JA #[t,U,K1]) EM
   exact#[_,_,U,QT,u7,Bm,b6.trans b7,i0,GT,Rf,Pa,uz.skip]
  rintro σ H6 ⟨v6,v7,rfl,QU,u7,Bm,b6,iy,GU,vU,uy,uz⟩;rw[aq,dJ,Nat.min_eq_left Z2] at uz;exact#[_,_,_,U,u7,Bm,b6,iy,GU,vU,uy,uz.next Z2]
 rintro σ H6 ⟨v5,v6,v7,rfl,u7,Bm,b6,iy,GU,vU,uy,uz⟩;have:=uz.len;exact#[_,U,k a u7 Bm H6 b6 iy oh vU uy (uz.good nd WE) uz.nd Z2]
end
end Ev
namespace HT
open PySem PySem.Spec PyProof.Rows
end HT
namespace L2
open PySem PySem.Spec PyProof.Rows
end L2
namespace Ev
open PySem L2
theorem NY(ys:af)(k:Nat):dP ys none (some (k:Int))=ys.take k:=by
 unfold dP;rw[HT.eO,HT.dY,List.drop_zero,Nat.sub_zero];by_cases h:k<=ys.length
 ·rw[Nat.min_eq_left h]
 rw[Nat.min_eq_right Z2,uZ (bh _),uZ Z2]
theorem S3(ys:af)(k:Nat):dP ys (some (k:Int)) none=ys.drop k:=by
 unfold dP;rw[HT.dY,HT.eO];by_cases h:k<=ys.length
 ·rw[Nat.min_eq_left h,uZ (by rw[yk];omega)]
 rw[Nat.min_eq_right Z2,List.drop_eq_nil_of_le (bh _),List.drop_eq_nil_of_le Z2,List.take_nil]
theorem iY{α β:Type}{F:α->β->Prop}:∀{ys O4:List α} {ks i6:List β},Paired F ys ks->Paired F O4 i6->Paired F (ys++O4) (ks++i6)
 |_,_,_,_,.nil,h=>h
 |_,_,_,_,.cons a t,h=>.cons a (iY t h)
theorem Ey{α:Type}{p:α->Prop}{a b c:α}{r:Int}(h0:0<=r)(h1:r<3)(ha:p a)(hb:p b)(hc:p c):∃x,ip [a,b,c] r\x/\p x:=by
 have:r=0∨r=1∨r=2:=by omega
 rcases this with rfl|rfl|rfl
 ·exact#[_,U,ha]
 ·exact#[_,U,hb]
 exact#[_,U,hc]
structure E4 (ts ws:Xb):Prop where
 good:∀w∈ws,wk w
 nd:(ws.map kO).Nodup
 ij:∀w∈ws,kO w∈ts.map kO
 len:ws.length<=ts.length
theorem Y5{ts us ws:Xb}(good:∀t∈ts,wk t)(nd:(ts.map kO).Nodup)(sub:us.Sublist ts)(p:Paired (λw u=>w=u∨w=(u.2,u.1)) ws us):E4 ts ws:=by
 have e:ws.map kO=us.map kO:=by
  clear sub
  induction p with
  |nil=>rfl
  |cons h _ ih=>
   rw[eI,eI,ih];rcases h with rfl|rfl
   ·rfl
   exact ed (·::_) (YQ _ _)
 apply#[λw hw=>?_,?_,λw hw=>?_,?_]
 ·let#[i,hi,ew]:=ia hw;let hl:=bH p;let q:=d8 p i hi Z2;rw[ew] at q;let g:=good _ (sub.subset (kJ (show i<us.length by omega)));rcases q with q|q
  ·rw[q];exact g
  rw[q];exact#[g.2.1,g.1,g.2.2.symm]
 ·rw[e];exact (sub.map kO).nodup nd
 ·have:kO w∈ws.map kO:=bG.mpr #[w,hw,U];rw[e] at this;exact (sub.map kO).subset this
 rw[bH p];exact sub.length_le
def cm(K:ai)(H:Hp)(v:V):Option (Xb)->Prop
 |none=>v=.non
 |some ws=>∃a ys,v=.ref a/\H a\.lst ys/\bX K H ys (ws.map kT)
variable{K:ai}{H H':Hp}{v:V}{o:Option (Xb)}
theorem cm.same(h:cm K H v o)(s:aa H H'):cm K H' v o:=by
 cases o with
 |none=>exact h
 |some ws=>
  let#[a,ys,e,ha,t]:=h;exact#[a,ys,e,s _ _ ha,t.same s]
abbrev Pc:=Str × Int × Option (Xb)
def ji(K:ai)(H:Hp)(y:V)(p:Pc):Prop:=∃t v,y=.ref t/\H t\.tup [.str p.1,.int p.2.1,v]/\cm K H v p.2.2
abbrev kC(K:ai)(H:Hp)(ys:af)(ps:List Pc):Prop:=Paired (ji K H) ys ps
structure j8 (ts:Xb) (p:Pc):Prop where
 nm:iL p.1=true
 w1:1<=p.2.1
 w2:p.2.1<=1000000000
 ws:∀ws,p.2.2\ws->E4 ts ws
variable{l:Addr}
theorem ZU{a:Addr}{ys:af}{ks:List ax}(t:bX K H ys ks)(ha:H a\.lst ys)(st:cK H l):a≠l:=λe=>by
 subst e;rcases st with⟨n,e⟩|⟨n,m,c,e⟩
 all_goals
  rw[ha] at e;have e:ys=_:=HO.lst.inj (cX e);subst e;cases t with
  |cons h _=>
   let#[b,z,_]:=h;cases z
theorem cm.but(h:cm K H v o)(b:aV l H H')(st:cK H l):cm K H' v o:=by
 cases o with
 |none=>exact h
 |some ws=>
  let#[a,ys,e,ha,t]:=h;let#[xs,hl]:=st.some;exact#[a,ys,e,b _ _ ha (ZU t ha st),jg t b hl]
variable{y:V}{p:Pc}
theorem ji.but(h:ji K H y p)(b:aV l H H')(st:cK H l):ji K H' y p:=by
 let#[t,v,e,ht,hv]:=h;let#[xs,hl]:=st.some;exact#[t,v,e,b _ _ ht (bS ht hl nofun),hv.but b st]
theorem ji.same(h:ji K H y p)(s:aa H H'):ji K H' y p:=by
 let#[t,v,e,ht,hv]:=h;exact#[t,v,e,s _ _ ht,hv.same s]
theorem cm.put{D:Addr}{xs:af}{u:HO}(h:cm K H v o)(hD:H D\.lst xs)(ne:v≠.ref D):cm K (upd H D u) v o:=by
 cases o with
 |none=>exact h
 |some ws=>
  let#[a,ys,e,ha,t]:=h;subst e;exact#[a,ys,U,by rw[aw λz=>ne (by rw[z])];exact ha,Im t hD]
end Ev
abbrev aP:=List Ev.Pc
namespace Ev
open PySem L2
def jY(K:ai)(H:Hp)(v:V):Option Str->Prop
 |some x=>v=.str x
 |none=>∃t,fH K H v t/\PySem.W.kitOne K t (.type "str")\false
def DS(ns:ag):Option Str->Bool
 |some x=>decide (x∈ns)
 |none=>false
def BN(hs:Xa)(ts:Xb):Option Str->Option Str->Bool
 |some x,some y=>decide (x∈hs.map (·.1))&&(decide (y∈hs.map (·.1))&&decide (y∈near (aS hs) (bT ts) x))
 |_,_=>false
theorem NH(hs:Xa)(ts:Xb)(x y:Str):BN hs ts (some x) (some y)=(decide (x∈hs.map (·.1))&&(decide (y∈hs.map (·.1))&&decide (y∈near (aS hs) (bT ts) x))):=rfl
variable{f:Addr}{fd:Ae}
variable{H' H0:Hp}
variable{D:Addr}{u:HO}{v:V}{o:Option (Xb)}
section v
inductive k_ (K:ai) (C:Addr) (vs:af) (H:Hp) (Q:VK) (E:XK):Prop
 |mk:∀(p:Addr) (v:V) (x:Option Str) (hs:Xa) (ts:Xb) (fp:av),vs=[.ref p,v]->h_ K C H p hs ts fp->jY K H v x->Q (.bl (DS (hs.map (·.1)) x)) H->k_ K C vs H Q E
theorem Yp{C:Addr}(F:bo K "has_hand" "Web.has_hand" vz f fd)(T:Txt K mg C)(B:Bi mg):!ao a_ 1 f fd mC (k_ K C):=by
 exists F.bU w_;let#[p,v,x,hs,ts,fp,rfl,W,sv,k]:=h;let hu:=fG hr;let#[dx,d1,l2,d3,zs,as,rfl,h1,h2,h3,h4,h5,h6,h7]:=W.ex;apply#[_,aF (bp (ph (cy jT (by rfl) B.jn jr %[1,jS (v:=.ty "str") (by rfl) B.str HJ U|0]) (qe (HM (AS hu (pv 1) (gG (pv 0) U)))))),?_];cases x with
 |some x=>
  cases (show v=.str x from sv);apply#[_,U,_,_,_,_,U,.str x,U,_,U,c_ ?_];apply#[_,U,_,U,p,C,dx,_,_,U,h1,T.cl,T.nS,Hf _ _ _,d1,_,U,.k (k:=Sum.inr x) h2,?_];rw[Ii];exact k
 |none=>
  let#[t,ty,e]:=sv;exact#[_,U,_,_,_,_,U,ty,e,_,U,aM k]
inductive IJ (K:ai) (C:Addr) (vs:af) (H:Hp) (Q:VK) (E:XK):Prop
 |mk:∀(p:Addr) (v u:V) (x y:Option Str) (hs:Xa) (ts:Xb) (fp:av),vs=[.ref p,v,u]->h_ K C H p hs ts fp->(aS hs).Nodup->jY K H v x->jY K H u y->Q (.bl (BN hs ts x y)) H->IJ K C vs H Q E
theorem hC_{C:Addr}(F:bo K "are_tied" "Web.are_tied" q_ f fd)(T:Txt K mg C)(cH:!bM C 1 "has_hand" mC (k_ K C)):!ao a_ 2 f fd jW (IJ K C):=by
 exists F.bU yS;let#[p,v,u,x,y,hs,ts,fp,rfl,W,nd,sv,su,k]:=h;let hu:=fG hr;let#[dx,d1,l2,d3,zs,as,rfl,h1,h2,h3,h4,h5,h6,h7]:=id W.ex;have ko:(fh d1 l2 d3).lookup ("has_hand":Str)=none:=pC _ _ _ Z0 Z0 Z0;apply#[_,aF (bp (ph (iX cH T.cl hr (pv 0) %[1|0]) (ph (iX cH T.cl hr (pv 0) %[2|0]) (qe (pE (LU i_ (uM hr 0)) (pv 2) (mI hu (gG (pv 0) U) (pv 1)) (by with_unfolding_all rfl)))))),?_];apply#[_,U,p,dx,_,U,h1,ko,_,U,p,v,x,hs,ts,_,U,W,sv,_,U,?_];cases x with
 |none=>exact aM k
 |some x=>
  cases (show v=.str x from sv);apply bQ (λc=>?_) (λc=>?_)
  ·have hx:x∈hs.map (·.1):=tI c;let#[a,e1,ha]:=Qx nd hx h6 h7;apply#[_,U,p,dx,_,U,h1,ko,_,U,p,u,y,hs,ts,_,U,W,su,_,U,?_];cases y with
   |none=>exact aM k
   |some y=>
    cases (show u=.str y from su);rw[NH,cw hx,Bool.true_and] at k;apply bQ (λc2=>?_) (λc2=>?_)
    ·have hy:y∈hs.map (·.1):=tI c2;rw[cw hy,Bool.true_and] at k;apply#[_,U,_,U,p,C,dx,_,_,U,h1,T.cl,T.nN,QA _ _ _,_,U,d3,.ref a,U,?_,y,_,U,#[a,_,U,.of ha,MG _],k];rw[<- e1];exact .k (k:=Sum.inr x) h5
    have hy:¬y∈hs.map (·.1):=λz=>c2 (cw z);rw[fq hy,Bool.false_and] at k;exact k
  have hx:¬x∈hs.map (·.1):=λz=>c (cw z);cases y with
  |none=>exact k
  |some y=>
   rw[NH,fq hx,Bool.false_and] at k;exact k
theorem hJ_{hs:Xa}{ts ws:Xb}(G:Good hs ts)(W:E4 ts ws){t:Str × Str}(ht:t∈bT ws):BN hs ts (some t.1) (some t.2)=true:=by
 let#[x,hx,ex]:=IF.mp ht;let#[u,hu,eu]:=bG.mp (W.ij x hx);have eo:aK u.1 u.2=t:=(Hc eu).trans ex
 have both:t.1∈hs.map (·.1)/\t.2∈hs.map (·.1)/\aK t.1 t.2=t:=by
  let#[g1,g2]:=G.vi u hu;rcases BW u.1 u.2 with e|e
  ·rw[<- eo,e];exact#[g1,g2,e]
  rw[<- eo,e];exact#[g2,g1,(NV _ _).trans e]
 let#[m1,m2,m3]:=both;have m4:t.2∈near (aS hs) (bT ts) t.1:=mK.mpr #[(gN hs).mem_iff.mpr m2,cw (by rw[m3];exact IF.mpr #[u,hu,eo])];rw[NH,cw m1,cw m2,cw m4];rfl
theorem HY:bJ ["web","ways","found","one","other"] ["web","ways"] (a9 lW):=bV
inductive Nh (K:ai) (C:Addr) (vs:af) (H:Hp) (Q:VK) (E:XK):Prop
 |mk:∀(p:Addr) (v:V) (o:Option (Xb)) (hs:Xa) (ts:Xb) (fp:av),vs=[.ref p,v]->h_ K C H p hs ts fp->Good hs ts->cm K H v o->(∀ws,o\ws->E4 ts ws)->(∀v' H',aa H H'->cm K H' v' (o.map bT)->(∀a,v'=.ref a->H a=none)->Q v' H')->Nh K C vs H Q E
theorem Z_{C:Addr}(F:bo K "checked_ways" "checked_ways" lW f fd)(T:Txt K mg C)(cS:!br 3 "sorted_ties" ["ties"] (MO K))(cT:!bM C 2 "are_tied" jW (IJ K C)):!ao a_ 4 f fd ["web","ways"] (Nh K C):=by
 exists F.bU HY;let#[p,v,o,hs,ts,fp,rfl,W,G,wy,gw,k]:=h;let hu:=fG hr;have nZ:aO 2 _:=hr.mono (by decide)
 apply#[_,au (cg (qa (G8 (pv 1))) (aF (bp tW)) cj)
  (au (bu 2 HY.nd (bc cS hr %[1|0]))
  (au (cg (qa (G8 (pv 2))) gg cj)
  (au (d0 dM U (dX (pv 2)) (mr U (dN (cu 3 HY.nd) (dN (cu 4 HY.nd) jh)))
   (aF (cg (eZ (d7 (iX cT T.cl nZ (pv 0) %[3,4|0]))) gg cj)))
  (aF (bp (pv 2)))))),?_]
 cases o with
 |none=>
  cases (show v=.non from wy);exact#[_,U,_,U,c_ (k .non H (aa.refl H) U (λa z=>by cases z))]
 |some ws=>
  let#[a,ys,rfl,ha,tu]:=wy;let Wo:=gw ws U;apply#[_,U,_,U,aM ?_];apply#[_,U,a,ys,ws,U,ha,tu,Wo.good,Wo.nd,by have:=Wo.len;have:=G.w4;omega,λl' zs H1 s1 hf fo tz=>?_];apply#[_,U,_,U,aM ?_];let W1:=W.same s1;let#[dx,d1,l2,d3,wM,as,rfl,h1,h2,h3,h4,h5,h6,h7]:=id W1.ex;have ko:(fh d1 l2 d3).lookup ("are_tied":Str)=none:=pC _ _ _ Z0 Z0 Z0;rw[<- Nw] at tz;apply#[_,U,l',U,#[_,.of fo],ib (K:=K) (a:=l') (xs:=zs) (λi σ H2=>∃(v3 v4:aH),σ=[some (.ref p),some (.ref a),some (.ref l'),v3,v4]/\H2=H1) #[none,none,U,U] (λi σ H2 _ ⟨_,_,_,e⟩=>by subst e;exact .of fo) ?_ ?_]
  ·rintro i y σ H2 hy ⟨v3,v4,rfl,rfl⟩;let#[t,ht,q,rfl,hq]:=uY tz hy;apply#[q,_,U,.of (GR hq),U,_,_,U,_,_,U,U,?_];apply#[_,U,p,dx,_,U,h1,ko,_,U,_,U,p,_,_,some t.1,some t.2,hs,ts,_,U,W1,G.oW,U,U,_,U,?_];rw[hJ_ G Wo (cZ ht)];apply aM ?_;exact#[_,_,U,U]
  rintro σ H2 ⟨v3,v4,rfl,rfl⟩;exact#[_,U,k (.ref l') _ s1 #[l',zs,U,fo,tz] (λc z=>by cases z;exact hf)]
def pL(p:Pc):Pc:=(p.1,p.2.1,p.2.2.map bT)
def pY(K:ai)(H0 H:Hp)(y:V)(p:Pc):Prop:=∃t v,y=.ref t/\H t\.tup [.str p.1,.int p.2.1,v]/\cm K H v p.2.2/\∀a,v=.ref a->H0 a=none
theorem pY.same{K:ai}{H:Hp}{y:V}{p:Pc}(h:pY K H0 H y p)(s:aa H H'):pY K H0 H' y p:=by
 let#[t,v,e,ht,hv,hn]:=h;exact#[t,v,e,s _ _ ht,hv.same s,hn]
theorem cm.up{K:ai}{H:Hp}(h:cm K H v o)(n1:∀xs,H D≠some (.lst xs))(n2:∀xs,H D≠some (.tup xs)):cm K (upd H D u) v o:=by
 cases o with
 |none=>exact h
 |some ws=>
  let#[a,ys,e,ha,t]:=h;exact#[a,ys,e,by rw[aw (λz:a=D=>n1 ys (z▸ha))];exact ha,Paired.aX t λy k ⟨b,z,q⟩=>#[b,z,by rw[aw (λz:b=D=>n2 _ (z▸q))];exact q]]
theorem pY.up{K:ai}{H:Hp}{y:V}{p:Pc}(h:pY K H0 H y p)(n1:∀xs,H D≠some (.lst xs))(n2:∀xs,H D≠some (.tup xs)):pY K H0 (upd H D u) y p:=by
 let#[t,v,e,ht,hv,hn]:=h;exact#[t,v,e,by rw[aw (λz:t=D=>n2 _ (z▸ht))];exact ht,hv.up n1 n2,hn]
theorem MI{ps:aP}{cs:af}(nd:(ps.map (·.1)).Nodup)(hl:cs.length=ps.length):∀{j:Nat} {q:Pc} {c:V},ps[j]? = some q->cs[j]? = some c->aU ((ps.zip cs).map λq=>((Sum.inr q.1.1:Key),q.2)) (Sum.inr q.1)\c:=by
 induction ps generalizing cs with
 |nil=>
  intro j q c h;simp at h
 |cons p ps ih=>
  intro j q c h1 h2;cases cs with
  |nil=>cases hl
  |cons b cs=>
   rw[eI] at nd;let#[n1,n2]:=iZ.mp nd;cases j with
   |zero=>
    have e1:p=q:=⇑h1
    have e2:b=c:=⇑h2
    subst e1 e2;exact x6 U
   |succ j=>
    have h1:ps[j]? = some q:=⇑h1
    have h2:cs[j]? = some c:=⇑h2
    show aU ((Sum.inr p.1,b)::((ps.zip cs).map λq=>((Sum.inr q.1.1:Key),q.2))) (Sum.inr q.1)=_;rw[x8 λe=>n1 (by rw[show p.1=q.1 from iJ e];exact bG.mpr #[q,cZ h1,U])];exact ih n2 ⇑hl h1 h2
theorem qY:bJ ["web","piece"] ["web","piece"] (a9 Nu):=bV
inductive MJ (K:ai) (C:Addr) (vs:af) (H:Hp) (Q:VK) (E:XK):Prop
 |mk:∀(p:Addr) (y:V) (q:Pc) (hs:Xa) (ts:Xb) (fp:av),vs=[.ref p,y]->h_ K C H p hs ts fp->Good hs ts->ji K H y q->j8 ts q->(∀y' H',aa H H'->pY K H H' y' (pL q)->Q y' H')->MJ K C vs H Q E
theorem _t{C:Addr}(F:bo K "checked_piece" "checked_piece" Nu f fd)(B:Bi mg)(cN:!br 1 "is_name" fV Ht)(cW:!br 2 "is_whole_within" AD Ft)(cC:!br 4 "checked_ways" ["web","ways"] (Nh K C)){tk:Tok}(mW:mg "MOST_WEIGHT"\.int 1000000000 tk) :
  ao P w K mg base a_ 5 f fd ["web","piece"] (MJ K C):=by
 exists F.bU qY;let#[p,y,q,hs,ts,fp,rfl,W,G,#[t,v,rfl,ht,wy],gp,k]:=h
 apply#[_,au (cg (pf (eZ (d7 (cy jT (by rfl) B.jn jr %[1,jS (v:=.ty "tuple") (by rfl) B.tuple qf U|0])))
   (pA (eY pV (cy iq (by rfl) B.len gE %[1|0]) ay))).pt gg cj)
  (au (cg (eZ (d7 (bc cN hr %[bw cU (pv 1) ay|0]))) gg cj)
  (au (cg (eZ (d7 (bc cW hr %[bw cU (pv 1) ay,ay,BX (v:=.int 1000000000) (by rfl) mW #[tk,U]|0]))) gg cj)
  (aF (bp (gh %[bw cU (pv 1) ay,bw cU (pv 1) ay,bc cC hr %[0,bw cU (pv 1) ay|0]|0]))))),?_]
 apply#[_,U,_,_,_,_,U,.tup ht,U,_,U,aM ?_];apply#[_,U,t,_,U,.inr (.of ht),U,_,U,?_];apply xR (show V.int ((3:Nat):Int)=V.int 3 from U) ?_;apply#[_,U,t,_,_,_,U,U,.of ht,U,q.1,U,by have:=IL gp.nm;omega,λH1 s1=>#[_,U,?_]];rw[gp.nm];apply aM ?_;let o4:=s1 _ _ ht;apply#[_,U,t,_,_,_,U,U,.of o4,U,q.2.1,1,1000000000,U,_,U,?_];rw[cw gp.w1,cw gp.w2];apply aM ?_;apply#[_,U,t,_,_,_,U,U,.of o4,U,_,U,t,_,_,_,U,U,.of o4,U,_,U,_,U,t,_,_,_,U,U,.of o4,U,p,v,q.2.2,hs,ts,fp,U,W.same s1,G,wy.same s1,gp.ws,λv' H2 s2 UZ hf=>?_];apply#[zl,λt' xx=>?_];exact k (.ref t') _ (s1.trans (s2.trans (aa.new xx))) #[t',v',U,az,UZ.same (aa.new xx),λa z=>s1.free (hf a z)]
theorem Jc:bJ ["web","pieces","found","piece","checked"] ["web","pieces"] (a9 NS):=bV
structure Qs (ps qs:aP):Prop where
 zu:qs.map (·.1)=iN (ps.map (·.1))
 mem:∀q∈qs,∃p∈ps,q=pL p
inductive N9 (K:ai) (C:Addr) (vs:af) (H:Hp) (Q:VK) (E:XK):Prop
 |mk:∀(p l:Addr) (ys:af) (ps:aP) (hs:Xa) (ts:Xb) (fp:av),vs=[.ref p,.ref l]->h_ K C H p hs ts fp->Good hs ts->H l\.lst ys->kC K H ys ps->(∀q∈ps,j8 ts q)->(ps.map (·.1)).Nodup->ps.length<64->(∀l' zs qs H',aa H H'->H' l'\.lst zs->Paired (pY K H H') zs qs->Qs ps qs->Q (.ref l') H')->N9 K C vs H Q E
theorem aD{H:Hp}{a:Addr}{o:HO}(n:H a=none):aa H (upd H a o)/\upd H a o a\o:=⟨aa.new n,az⟩
theorem fO_{C:Addr}(F:bo K "checked_pieces" "checked_pieces" NS f fd)(B:Bi mg)(cP:!br 5 "checked_piece" ["web","piece"] (MJ K C)):!ao a_ 6 f fd ["web","pieces"] (N9 K C):=by
 exists F.bU Jc;let#[p,l,ys,ps,hs,ts,fp,rfl,W,G,hl,pc,gp,nd,cY,k]:=h;let hu:=fG hr;let sz:=cq;let le:=bH pc
 apply#[_,au (cg (eZ (d7 (cy jT (by rfl) B.jn jr %[1,jS (v:=.ty "list") (by rfl) B.list ya U|0]))) gg cj)
  (au (bu 2 Jc.nd Fx)
  (au (d0 dM U (dX (pv 1)) (cu 3 Jc.nd)
   (au (bu 4 Jc.nd (bc cP hr %[0,3|0]))
   (au (cg (qa (AS hu (bw cU (pv 4) ay) (pv 2))) gg cj)
   (aF (tT hu (pv 2) (bw cU (pv 4) ay) (pv 4) U)))))
  (aF (bp (js ["name","found"] 1 [2] (dX (cy (eG_ U) (by rfl) B.sorted IU %[2|0])) (λfp s H=>fW (i:=0) (show (["name","found"]:ag).Nodup by decide +kernel) U (Or.inl U)) (λfp s H=>kE)
   (λfp s H=>mI hu (pv 1) (pv 0))))))),?_]
 apply#[_,U,_,_,_,_,U,.lst hl,U,_,U,aM ?_];intro d hd;have s0:aa H (upd H d (.dK [])):=aa.new hd;apply#[_,U,l,U,#[_,.of (s0 _ _ hl)],ib (K:=K) (a:=l) (xs:=ys) (λi σ H2=>∃(v3 v4:aH) (cs:af),σ=[some (.ref p),some (.ref l),some (.ref d),v3,v4]/\aa H H2/\Paired (pY K H H2) cs ((ps.take i).map pL)/\H2 d\.dK (((ps.take i).zip cs).map λq=>(Sum.inr q.1.1,q.2))) #[none,none,[],U,s0,.nil,az] (λi σ H2 _ ⟨_,_,_,_,s2,_⟩=>.of (s2 _ _ hl)) ?_ ?_]
 ·rintro i y σ H2 hy ⟨v3,v4,cs,rfl,s2,pn,hd2⟩;have hi:i<ys.length:=(bW.mp hy).1;have hq:ps[i]? = some (ps[i]' Z2):=aY Z2;let py:=d8 pc i hi Z2;rw[(bW.mp hy).2] at py;generalize ps[i]' Z2=q at hq py;apply#[_,U,_,U,p,y,q,hs,ts,fp,U,W.same s2,G,py.same s2,gp q (cZ hq),λy' H3 s3 pw=>?_];let#[t,v,rfl,ht,wy,hf]:=pw;let l_:=s3 _ _ hd2;let lc:=bH pn;rw[aq,dJ] at lc
  have keys:((((ps.take i).zip cs).map λq=>((Sum.inr q.1.1:Key),q.2)).map (·.1))=((ps.take i).map (·.1)).map Sum.inr:=by
   rw[cz];have:((λx:Key × V=>x.1) ∘ λq:Pc × V=>((Sum.inr q.1.1:Key),q.2))=(λp:Pc=>(Sum.inr p.1:Key)) ∘ Prod.fst:=rfl;rw[this,<- cz,List.map_fst_zip (by rw[dJ];omega),cz];rfl
  have uC:aU (((ps.take i).zip cs).map λq=>((Sum.inr q.1.1:Key),q.2)) (Sum.inr q.1)=none:=ua (by
   rw[keys];intro m;let#[x,hx,e]:=bG.mp m;cases e;exact FA (g:=λp:Pc=>p.1) nd hq hx)
  apply#[_,U,t,_,_,_,U,U,.of ht,U,_,U,d,_,U,.k (k:=Sum.inr q.1) l_,_,U,?_];rw[uC];apply aM ?_;apply#[_,U,_,U,_,U,t,_,_,_,U,U,.of ht,U,d,_,U,.k (k:=Sum.inr q.1) l_ (by rw[aq,List.length_zip,dJ];omega),?_];let VR:=s2.trans s3;have n1:∀xs,H3 d≠some (.lst xs):=λxs z=>by rw[l_] at z;cases z
  have n2:∀xs,H3 d≠some (.tup xs):=λxs z=>by rw[l_] at z;cases z
  apply#[_,_,cs++[.ref t],U,λc o e=>?_,?_,?_]
  ·rw[aw (bz e hd)];exact VR _ _ e
  ·rw[tZ,hq,eg];exact iY (Paired.aX pn λy q h=>(h.same s3).up n1 n2) (.cons (pY.up #[t,v,U,ht,wy,λa z=>s2.free (hf a z)] n1 n2) .nil)
  rw[az,wx _ uC,tZ,hq,List.zip_append (by rw[dJ];omega),eg];rfl
 rintro σ H2 ⟨v3,v4,cs,rfl,s2,pn,hd2⟩;rw[le,eR] at pn hd2;let lc:=bH pn;rw[aq] at lc
 have keys:(((ps.zip cs).map λq=>((Sum.inr q.1.1:Key),q.2)).map (·.1))=(ps.map (·.1)).map Sum.inr:=by
  rw[cz];have:((λx:Key × V=>x.1) ∘ λq:Pc × V=>((Sum.inr q.1.1:Key),q.2))=(λp:Pc=>(Sum.inr p.1:Key)) ∘ Prod.fst:=rfl;rw[this,<- cz,List.map_fst_zip Z2,cz];rfl
 apply#[_,U,d,_,ps.map (·.1),U,hd2,keys,by rw[aq];exact cY,λls Lh=>?_];let#[s3,zW]:=aD (o:=.lst ((iN (ps.map (·.1))).map V.str)) Lh;apply#[ls,U,#[_,.of zW],λD hD=>?_];generalize upd H2 ls (.lst ((iN (ps.map (·.1))).map V.str))=H3 at s3 zW hD ⊢;have W_:(iN (ps.map (·.1))).length=ps.length:=by rw[(FB _).length_eq,aq]
 apply kK (own:=1) (fv:=[some (.ref d)]) (xs:=(iN (ps.map (·.1))).map V.str) U fE (λi out H'=>∃qs:aP,aa H3 H'/\H' D\.lst out/\Paired (pY K H H2) out qs/\qs.map (·.1)=(iN (ps.map (·.1))).take i/\∀q∈qs,∃p∈ps,q=pL p) #[[],aa.new hD,az,.nil,U,by simp] (λi out H' _ ⟨_,sm,_⟩=>.of (sm _ _ zW)) (λzs H4 ⟨qs,s4,o6,pq,en,mem⟩=>?_) (λi x out H' hx ⟨qs,sm,dF,pq,en,mem⟩=>?_)
 ·rw[aq,eR] at en;exact k D zs qs H4 (s2.trans (s3.trans s4)) o6 (Paired.aX pq λy q h=>h.same (s3.trans s4)) #[en,mem]
 let#[n,hn,rfl]:=mG hx;have hm:n∈ps.map (·.1):=(FB _).mem_iff.mp (cZ hn);let#[q,hq,eq]:=bG.mp hm;let#[j,hj,ej]:=ia hq;have _B:ps[j]? = some q:=by rw[aY hj,ej]
 have Q_:cs[j]? = some (cs[j]' Z2):=aY Z2;let hv:=MI nd lc _B Q_;let pj:=d8 pn j Z2 (by rw[aq];omega);rw[List.getElem_map,ej] at pj;generalize cs[j]' Z2=c at Q_ hv pj;rw[eq] at hv;let lo:=bH pq;let lq:=ed List.length en;rw[aq,dJ] at lq;have hi:i<(iN (ps.map (·.1))).length:=(bW.mp hn).1;apply#[_,U,U,λNx hN=>fw ?_];apply#[_,U,_,U,d,c,U,?_,out,dF,by omega,hN _ _ #[qs++[pL q],fL sm hD,az,?_,?_,?_]]
 ·rw[<- hv];exact .k (k:=Sum.inr n) (sm _ _ (s3 _ _ hd2))
 ·exact iY pq (.cons pj .nil)
 ·rw[eg,en,tZ,hn,<- eq];rfl
 intro q' hq';rcases dI.mp hq' with hq'|hq'
 ·exact mem q' hq'
 obtain rfl:q'=pL q:=⇑hq'
 exact#[q,hq,U]
end
abbrev lT:Stmt:=mq E5 0
abbrev rP:Stmt:=mq E5 1
abbrev Nk:Stmt:=mq E5 2
abbrev Og:Stmt:=mq E5 3
abbrev rO:Stmt:=mq E5 5
def cQ(p dw dy:Addr):List (Str × V):=aB AF (.ref dy) (aB pZ (.ref dw) (aB "web" (.ref p) []))
theorem g12:¬(("web":Str)=pZ):=by decide +kernel
theorem g13:¬(("web":Str)=AF):=by decide +kernel
theorem g23:¬((pZ:Str)=AF):=by decide +kernel
theorem yb(p dw dy:Addr):(cQ p dw dy).lookup ("web":Str)\.ref p:=by
 unfold cQ;rw[gy,aC g13,gy,aC g12,gy,aI U]
theorem MC(p dw dy:Addr):(cQ p dw dy).lookup (pZ:Str)\.ref dw:=by
 unfold cQ;rw[gy,aC g23,gy,aI U]
theorem YH(p dw dy:Addr):(cQ p dw dy).lookup (AF:Str)\.ref dy:=by
 unfold cQ;rw[gy,aI U]
theorem uU(p dw dy:Addr){m:Str}(h1:¬m="web")(h2:¬m=pZ)(h3:¬m=AF):(cQ p dw dy).lookup m=none:=by
 unfold cQ;rw[gy,aC h3,gy,aC h2,gy,aC h1]
 all_goals rfl
def kQ(qs:aP):List (Key × V):=qs.map λq=>(Sum.inr q.1,V.int q.2.1)
def u9(qs:aP)(vs:af):List (Key × V):=(qs.zip vs).map λx=>(Sum.inr x.1.1,x.2)
theorem RR(qs:aP):(kQ qs).map (·.1)=(qs.map (·.1)).map Sum.inr:=by
 unfold kQ;rw[cz,cz];rfl
variable{qs:aP}
theorem hR_{vs:af}(h:vs.length=qs.length):(u9 qs vs).map (·.1)=(qs.map (·.1)).map Sum.inr:=by
 unfold u9;rw[cz];have:((λx:Key × V=>x.1) ∘ λq:Pc × V=>((Sum.inr q.1.1:Key),q.2))=(λp:Pc=>(Sum.inr p.1:Key)) ∘ Prod.fst:=rfl;rw[this,<- cz,List.map_fst_zip Z2,cz];rfl
structure gx (K:ai) (CG CW:Addr) (H:Hp) (g p:Addr) (hs:Xa) (ts:Xb) (qs:aP) (fp:av):Prop where
 ex:∃(dx dw dy:Addr) (vs:af) (dk:av),H g\.ins CG dx (cQ p dw dy)/\h_ K CW H p hs ts dk/\H dw\.dK (kQ qs)/\H dy\.dK (u9 qs vs)/\Paired (λv (q:Pc)=>cm K H v q.2.2) vs qs /\
  g∈fp/\dw∈fp/\dy∈fp/\(∀b∈dk,b∈fp)/\∀v∈vs,∀a,v=.ref a->a∈fp
theorem Oy{α β:Type}{F G:α->β->Prop}:∀{l:List α} {m:List β},Paired F l m->(∀a∈l,∀b,F a b->G a b)->Paired G l m
 |_,_,.nil,_=>.nil
 |_,_,.cons h t,f=>.cons (f _ gF _ h) (Oy t λa ha=>f a (fX _ ha))
theorem cm.keep{K:ai}{H:Hp}(h:cm K H v o)(k:∀a,v=.ref a->∀u,H a\u->H' a\u)(kt:∀b xs,H b\.tup xs->H' b\.tup xs):cm K H' v o:=by
 cases o with
 |none=>exact h
 |some ws=>
  let#[a,ys,e,ha,t]:=h;exact#[a,ys,e,k a e _ ha,Paired.aX t λy q ⟨b,z,hb⟩=>#[b,z,kt _ _ hb]]
variable{fp:av}
theorem gx.keep{K:ai}{CG CW:Addr}{H:Hp}{g p:Addr}{hs:Xa}{ts:Xb}(G:gx K CG CW H g p hs ts qs fp)(k:∀b∈fp,∀o,H b\o->H' b\o)(kt:∀b xs,H b\.tup xs->H' b\.tup xs):gx K CG CW H' g p hs ts qs fp:=by
 let#[dx,dw,dy,vs,dk,h1,h2,h3,h4,h5,m1,m2,m3,m4,m5]:=G.ex;exact#[dx,dw,dy,vs,dk,k _ m1 _ h1,h2.keep (λb hb o e=>k b (m4 b hb) o e) kt,k _ m2 _ h3,k _ m3 _ h4,Oy h5 λv hv q h=>h.keep (λa z u e=>k a (m5 v hv a z) u e) kt,m1,m2,m3,m4,m5]
theorem gx.same{K:ai}{CG CW:Addr}{H:Hp}{g p:Addr}{hs:Xa}{ts:Xb}(G:gx K CG CW H g p hs ts qs fp)(s:aa H H'):gx K CG CW H' g p hs ts qs fp:=G.keep (λb _ o e=>s b o e) λb xs e=>s b _ e
structure fY (K:ai) (CG:Addr):Prop where
 cl:mR K CG
 nW:ml K CG "web"
 nG:ml K CG pZ
 nY:ml K CG AF
structure FS (K:ai) (C:Addr):Prop where
 ha:PySem.W.findIn K (.ref C) "__class__"\some (.builtin "object.__class__")
 hn:PySem.W.specialIn K (.builtin "object.__class__") "__get__"\some (.builtin "getset_descriptor.__get__")
 tk:PySem.W.takesIn K (.builtin "object.__class__")\true
 mo:PySem.W.mroIn K C (.type "object")\true
theorem hO_(K:ai)(c:Aa):PySem.W.kitOne K c c\true:=by
 unfold PySem.W.kitOne;rw[aI (beq_self_eq_true c)]
theorem SS{K:ai}{H0 H:Hp}:∀{zs:af} {qs:aP},Paired (pY K H0 H) zs qs->∃vs:af,vs.length=qs.length/\Paired (λz (x:Pc × V)=>∃t,z=.ref t/\H t\.tup [.str x.1.1,.int x.1.2.1,x.2]) zs (qs.zip vs)/\Paired (λv (q:Pc)=>cm K H v q.2.2) vs qs/\∀v∈vs,∀a,v=.ref a->H0 a=none
 |_,_,.nil=>#[[],U,.nil,.nil,by simp]
 |_,_,.cons ⟨t,v,e,ht,wy,hn⟩ r=>by
  let#[vs,h1,h2,h3,h4]:=SS r;apply#[v::vs,by simp[h1],.cons #[t,e,ht] h2,.cons wy h3,λu hu=>?_];rcases bY.mp hu with rfl|hu
  ·exact hn
  exact h4 u hu
theorem RW{K:ai}{l:Addr}{zs:af}{xs:List (Pc × V)}{H:Hp}{Q:VK}{kP:St}{j:Nat}(sel:Pc × V->V)(hj:∀x:Pc × V,[some (V.str x.1.1),some (V.int x.1.2.1),some x.2][j]? = some (some (sel x)))(sM:kP=[none,none,none])(hl:H l\.lst zs)(pz:Paired (λz (x:Pc × V)=>∃t,z=.ref t/\H t\.tup [.str x.1.1,.int x.1.2.1,x.2]) zs xs)(om:xs.length<=1000)(hD:H D=none)(q:∀H' out,aa H H'->H' D\.lst out->kz K H' out (xs.map λx=>(Sum.inr x.1.1,sel x))->Q (.ref D) H') :
  AJ (ym K l) (fR K 3 (pW (jP 0) (pW (jP 1) (pW (jP 2) tj)))) qu (CD (ju (oI 0) (ju (oI j) oJ))) kP D H Q:=by
 let sz:=cq;let le:=bH pz;apply kK (own:=3) (fv:=[]) (xs:=zs) sM LY (λi out H'=>aa H H'/\H' D\.lst out/\kz K H' out ((xs.take i).map λx=>(Sum.inr x.1.1,sel x))) #[aa.new hD,az,.nil] (λi out H' _ ⟨sm,_,_⟩=>.of (sm _ _ hl)) (λout H4 ⟨sm,o6,eo⟩=>?_) (λi y out H' hy ⟨sm,dF,eo⟩=>?_)
 ·rw[le,eR] at eo;exact q _ _ sm o6 eo
 have hi:i<zs.length:=(bW.mp hy).1;have hx:xs[i]? = some (xs[i]' Z2):=aY Z2;let#[t,et,ht]:=d8 pz i hi Z2;rw[(bW.mp hy).2] at et;subst et;generalize xs[i]' Z2=x at hx ht;let lo:=bH eo;rw[aq,dJ] at lo;apply#[_,#[t,_,_,_,U,.of (sm _ _ ht),U],U,λNx hN=>fw ?_];apply#[_,U,_,hj x,zl,λp hp=>?_];let s2:=aa.new (o:=.tup [.str x.1.1,sel x]) hp;apply#[out,s2 _ _ dF,by omega,hN _ _ #[fL (sm.trans s2) hD,az,?_]];rw[yi _ hx];have pD:∀{b:Addr} {ys:af},upd H' p (.tup [.str x.1.1,sel x]) b\.tup ys->b≠D:=λhb=>bS hb (s2 _ _ dF) nofun;apply iY (Paired.aX eo λy kv ⟨b,z,hb⟩=>#[b,z,by rw[aw (pD (s2 _ _ hb))];exact s2 _ _ hb]) (.cons #[p,U,?_] .nil);have km:upd H' p (.tup [.str x.1.1,sel x]) p\.tup [.str x.1.1,sel x]:=az;rw[aw (pD km)];exact km
section v
theorem nC:bJ ["self","web","pieces","checked"] ["self","web","pieces"] (a9 lT):=bV
inductive IP (K:ai) (CG CW:Addr) (vs:af) (H:Hp) (Q:VK) (E:XK):Prop
 |mk:∀(g dx p l:Addr) (ys:af) (ps:aP) (hs:Xa) (ts:Xb) (dk:av),vs=[.ref g,.ref p,.ref l]->H g\.ins CG dx []->h_ K CW H p hs ts dk->g∉dk->Good hs ts->H l\.lst ys->kC K H ys ps->(∀q∈ps,j8 ts q)->(ps.map (·.1)).Nodup->ps.length<64->(∀qs fp H',(∀b o,H b\o->b≠g->H' b\o)->gx K CG CW H' g p hs ts qs fp->Qs ps qs->(∀b∈fp,b=g∨b∈dk∨H b=none)->Q .non H')->IP K CG CW vs H Q E
theorem ZY{CG CW:Addr}(F:bo K "__init__" "Goods.__init__" lT f fd)(T:fY K CG)(TW:Txt K mg CW)(IW:FS K CW)(B:Bi mg)(Kr:mg "Web"\.ref CW)(cP:!br 6 "checked_pieces" ["web","pieces"] (N9 K CW)):!ao a_ 7 f fd ["self","web","pieces"] (IP K CG CW):=by
 exists F.bU nC;let#[g,dx,p,l,ys,ps,hs,ts,dk,rfl,hg,W,gw,G,hl,pc,gp,nd,cY,k]:=h
 apply#[_,au (cg (eZ (d7 (cy h9_ (by rfl) B.jn jr %[1,BX (v:=.ref CW) (by rfl) Kr U|0]))) gg cj)
  (au (bu 3 nC.nd (bc cP hr %[1,2|0]))
  (au (uS (pv 0) (pv 1) U)
  (au (uS (pv 0) (iO (A_ U) (by rfl) B.dict uQ %[js xU 3 [] (dX (pv 3)) (λfp s H=>E9 (n:=3) (dN (fW (i:=0) (show (xU:ag).Nodup by decide +kernel) U (Or.inl U)) (dN (fW (i:=1) (show (xU:ag).Nodup by decide +kernel) U (Or.inl U)) (dN (fW (i:=2) (show (xU:ag).Nodup by decide +kernel) U (Or.inl U)) jh)))) (λfp s H=>kE) (λfp s H=>gh %[0,1|0])|0]) U)
  (aF (uS (pv 0) (iO (A_ U) (by rfl) B.dict uQ %[js xU 3 [] (dX (pv 3)) (λfp s H=>E9 (n:=3) (dN (fW (i:=0) (show (xU:ag).Nodup by decide +kernel) U (Or.inl U)) (dN (fW (i:=1) (show (xU:ag).Nodup by decide +kernel) U (Or.inl U)) (dN (fW (i:=2) (show (xU:ag).Nodup by decide +kernel) U (Or.inl U)) jh)))) (λfp s H=>kE) (λfp s H=>gh %[0,2|0])|0]) U))))),?_]
 let#[jK,d1,l2,d3,wM,as,ef,w1,_]:=id W.ex;apply#[_,U,_,_,_,_,U,.ins w1 TW.cl IW.ha IW.hn IW.tk IW.mo,hO_ _ _,_,U,aM ?_];apply#[_,U,_,U,p,l,ys,ps,hs,ts,dk,U,W,G,hl,pc,gp,nd,cY,λlc zs qs H1 s1 xD pn Qq=>?_];let#[vs,lv,pz,UY,Cw]:=SS pn;let EA:=s1 _ _ hg
 have lq:qs.length=ps.length:=by
  have:=ed List.length Qq.zu;rw[aq,(FB _).length_eq,aq] at this;exact this
 have Wg:(qs.map (·.1)).Nodup:=by
  rw[Qq.zu];exact (FB _).nodup_iff.mpr nd
 apply#[_,U,_,U,g,CG,dx,[],U,EA,T.cl,T.nW,by show 0<1000;decide,?_];have up1:∀{b o},H1 b\o->b≠g->upd H1 g (.ins CG dx (aB "web" (.ref p) [])) b\o:=λe ne=>by rw[aw ne];exact e
 have Lv:upd H1 g (.ins CG dx (aB "web" (.ref p) [])) g\.ins CG dx (aB "web" (.ref p) []):=az
 have Mc:∀{b},upd H1 g (.ins CG dx (aB "web" (.ref p) [])) b=none->H1 b=none:=λ{b} e=>by
  by_cases z:b=g
  ·rw[z,az] at e;cases e
  rw[aw z] at e;exact e
 generalize upd H1 g (.ins CG dx (aB "web" (.ref p) []))=H2 at up1 Lv Mc ⊢;have GE:lc≠g:=bS xD EA nofun;have Wq:Paired (λz (x:Pc × V)=>∃t,z=.ref t/\H2 t\.tup [.str x.1.1,.int x.1.2.1,x.2]) zs (qs.zip vs):=Paired.aX pz λz x ⟨t,e,ht⟩=>#[t,e,up1 ht (bS ht EA nofun)];have mV:(qs.zip vs).length<=1000:=by rw[List.length_zip];omega
 apply#[_,U,lc,U,#[_,.of (up1 xD GE)],λD hD=>?_];apply RW (λx=>.int x.1.2.1) (λx=>rfl) U (up1 xD GE) Wq mV hD λH3 out s3 xM Wz=>?_;apply#[D,out,_,U,xM,Wz,by rw[aq];exact mV,λdw LC=>?_]
 have MB:((qs.zip vs).map λx:Pc × V=>((Sum.inr x.1.1:Key),V.int x.1.2.1))=kQ qs:=by
  unfold kQ;have:(λx:Pc × V=>((Sum.inr x.1.1:Key),V.int x.1.2.1))=(λq:Pc=>((Sum.inr q.1:Key),V.int q.2.1)) ∘ Prod.fst:=rfl;rw[this,<- cz,List.map_fst_zip Z2]
 have ki:(qs.map (·.1)).map (Sum.inr:Str->Key) |>.Nodup:=by
  rw[qk,uV];exact Wg.imp λn e=>n (iJ e)
 rw[MB,yc (by rw[RR];exact ki)];let s4:=aa.new (o:=.dK (kQ qs)) LC;let Q5:=s4 _ _ (s3 _ _ Lv);apply#[_,U,g,CG,dx,_,U,Q5,T.cl,T.nG,by show 1<1000;decide,?_];let Gb:=s3.trans s4;have ED:upd H3 dw (.dK (kQ qs)) dw\.dK (kQ qs):=az;have S6:dw≠g:=(bz (s3 _ _ Lv) LC).symm;have pU:∀{b},upd H3 dw (.dK (kQ qs)) b=none->H2 b=none:=λe=>Gb.free e;have dwn:H2 dw=none:=s3.free LC;generalize upd H3 dw (.dK (kQ qs))=H4 at s4 Q5 Gb ED pU ⊢;have Jx:∀{b o},H4 b\o->b≠g->upd H4 g (.ins CG dx (aB pZ (.ref dw) (aB "web" (.ref p) []))) b\o:=λe ne=>by rw[aw ne];exact e
 have Lu:upd H4 g (.ins CG dx (aB pZ (.ref dw) (aB "web" (.ref p) []))) g\.ins CG dx (aB pZ (.ref dw) (aB "web" (.ref p) [])):=az
 have o8:∀{b},upd H4 g (.ins CG dx (aB pZ (.ref dw) (aB "web" (.ref p) []))) b=none->H4 b=none:=λ{b} e=>by
  by_cases z:b=g
  ·rw[z,az] at e;cases e
  rw[aw z] at e;exact e
 generalize upd H4 g (.ins CG dx (aB pZ (.ref dw) (aB "web" (.ref p) [])))=H5 at Jx Lu o8 ⊢;have u_:∀{b o},H1 b\o->b≠g->H5 b\o:=λe ne=>Jx (Gb _ _ (up1 e ne)) ne;have Wp:Paired (λz (x:Pc × V)=>∃t,z=.ref t/\H5 t\.tup [.str x.1.1,.int x.1.2.1,x.2]) zs (qs.zip vs):=Paired.aX pz λz x ⟨t,e,ht⟩=>#[t,e,u_ ht (bS ht EA nofun)];apply#[_,U,lc,U,#[_,.of (u_ xD GE)],λD2 Aq=>?_];apply RW (λx=>x.2) (λx=>rfl) U (u_ xD GE) Wp mV Aq λH6 gj s6 hD6 Wy=>?_;apply#[D2,gj,_,U,hD6,Wy,by rw[aq];exact mV,λdy LB=>?_];rw[show ((qs.zip vs).map λx:Pc × V=>((Sum.inr x.1.1:Key),x.2))=u9 qs vs from U,yc (by rw[hR_ lv];exact ki)];let s7:=aa.new (o:=.dK (u9 qs vs)) LB;let zg:=s6.trans s7;let Q4:=zg _ _ Lu;apply#[_,U,g,CG,dx,_,U,Q4,T.cl,T.nY,by show 2<1000;decide,?_];have EC:upd H6 dy (.dK (u9 qs vs)) dy\.dK (u9 qs vs):=az;have dyg:dy≠g:=(bz (s6 _ _ Lu) LB).symm;have dyn:H5 dy=none:=s6.free LB;generalize upd H6 dy (.dK (u9 qs vs))=H7 at s7 zg Q4 EC ⊢
 have fin:∀{b o},H1 b\o->b≠g->upd H7 g (.ins CG dx (cQ p dw dy)) b\o:=λe ne=>by
  rw[aw ne];exact zg _ _ (u_ e ne)
 have Cz:∀b xs,H1 b\.tup xs->upd H7 g (.ins CG dx (cQ p dw dy)) b\.tup xs:=λb xs e=>fin e (bS e EA nofun);have nH:∀{b},H1 b=none->H b=none:=λe=>s1.free e;apply k qs (g::dw::dy::(dk++vs.filterMap λv=>match v with | .ref a=>some a|_=>none)) _ (λb o e ne=>fin (s1 _ _ e) ne) #[dx,dw,dy,vs,dk,az,?_,?_,?_,?_,by simp,by simp,by simp,λb hb=>by simp[hb],λv hv a z=>?_] Qq λb hb=>?_
 ·exact W.keep (λb hb o e=>fin (s1 _ _ e) (λz=>gw (z▸hb))) λb xs e=>Cz b xs (s1 _ _ e)
 ·rw[aw S6];exact zg _ _ (Jx ED S6)
 ·rw[aw dyg];exact EC
 ·exact Oy UY λv hv q h=>h.keep (λa z u e=>fin e (λzz=>by
   subst zz;have:=Cw v hv _ z;rw[hg] at this;cases this)) λb xs e=>Cz b xs e
 ·apply fX _ (fX _ (fX _ (kL _ (yd.mpr #[v,hv,?_]))));rw[z]
 simp only[bY,dI,yd] at hb;rcases hb with rfl|rfl|rfl|hb|⟨v,hv,e⟩
 ·exact .inl U
 ·exact .inr (.inr (nH (Mc dwn)))
 ·exact .inr (.inr (nH (Mc (Gb.free (o8 dyn)))))
 ·exact .inr (.inl hb)
 cases v with
 |ref a=>
  cases e;exact .inr (.inr (Cw _ hv _ U))
 |_=>cases e
end
end Ev
namespace L2
open PySem
end L2
namespace Ev
open PySem L2
theorem el_{kvs:List (Key × V)}{ns:ag}(h:kvs.map (·.1)=ns.map Sum.inr)(x:Str):(aU kvs (Sum.inr x)).isSome=decide (x∈ns):=by
 by_cases hx:x∈ns
 ·rw[cw hx];apply IZ ?_;rw[h];exact bG.mpr #[x,hx,U]
 rw[fq hx,ua]
 ·rfl
 rw[h];intro m;let#[y,hy,e]:=bG.mp m;cases e;exact hx hy
variable{q:Pc}
theorem Yb{qs:aP}(nd:(qs.map (·.1)).Nodup)(hq:q∈qs):aU (kQ qs) (Sum.inr q.1)\.int q.2.1:=by
 let#[j,hj,e]:=ia hq;have:=MI (ps:=qs) (cs:=qs.map λq=>V.int q.2.1) nd (by rw[aq]) (j:=j) (q:=q) (c:=.int q.2.1) (by rw[aY hj,e]) (by rw[dC,aY hj,e];rfl)
 have e2:((qs.zip (qs.map λq=>V.int q.2.1)).map λq=>((Sum.inr q.1.1:Key),q.2))=kQ qs:=by
  unfold kQ;rw[List.zip_map_right,cz]
  have:qs.zip qs=qs.map λq=>(q,q):=by
   clear nd hq this hj e j
   induction qs with
   |nil=>rfl
   |cons a l ih=>rw[List.zip_cons_cons,ih,eI]
  rw[this,cz];rfl
 rwa [e2] at this
theorem Xy{qs:aP}{vs:af}(nd:(qs.map (·.1)).Nodup){K:ai}{H:Hp}(h:Paired (λv (q:Pc)=>cm K H v q.2.2) vs qs)(hq:q∈qs):∃v∈vs,aU (u9 qs vs) (Sum.inr q.1)\v/\cm K H v q.2.2:=by
 let#[j,hj,e]:=ia hq;let hl:=bH h;have hv:j<vs.length:=by omega
 let p:=d8 h j hv hj;rw[e] at p;exact#[vs[j],kJ hv,MI nd Z2 (by rw[aY hj,e]) (aY hv),p]
def BG(hs:Xa)(ts:Xb)(o:Option (Xb))(x y:Option Str):Bool:=
 BN hs ts x y&&match o,x,y with
  |none,_,_=>true
  |some ws,some a,some b=>decide (aK a b∈ws)
  |_,_,_=>false
variable{f:Addr}{fd:Ae}
section v
theorem y8:bJ mC mC (a9 rP):=bV
inductive E3 (K:ai) (CG CW:Addr) (vs:af) (H:Hp) (Q:VK) (E:XK):Prop
 |mk:∀(g p:Addr) (v:V) (x:Option Str) (hs:Xa) (ts:Xb) (qs:aP) (fp:av),vs=[.ref g,v]->gx K CG CW H g p hs ts qs fp->jY K H v x->Q (.bl (DS (qs.map (·.1)) x)) H->E3 K CG CW vs H Q E
theorem YB{CG CW:Addr}(F:bo K "has_piece" "Goods.has_piece" rP f fd)(T:fY K CG)(B:Bi mg):!ao a_ 1 f fd mC (E3 K CG CW):=by
 exists F.bU y8;let#[g,p,v,x,hs,ts,qs,fp,rfl,G,sv,k]:=h;let hu:=fG hr;let#[dx,dw,dy,vs,dk,h1,h2,h3,h4,h5,m1,m2,m3,m4,m5]:=G.ex;apply#[_,aF (bp (ph (cy jT (by rfl) B.jn jr %[1,jS (v:=.ty "str") (by rfl) B.str HJ U|0]) (qe (HM (AS hu (pv 1) (gG (pv 0) U)))))),?_];cases x with
 |some x=>
  cases (show v=.str x from sv);apply#[_,U,_,_,_,_,U,.str x,U,_,U,c_ ?_];apply#[_,U,_,U,g,CG,dx,_,_,U,h1,T.cl,T.nG,MC _ _ _,dw,_,U,.k (k:=Sum.inr x) h3,?_];rw[el_ (RR qs)];exact k
 |none=>
  let#[t,ty,e]:=sv;exact#[_,U,_,_,_,_,U,ty,e,_,U,aM k]
theorem qV:bJ ow ow (a9 Nk):=bV
inductive A6 (K:ai) (CG CW:Addr) (vs:af) (H:Hp) (Q:VK) (E:XK):Prop
 |mk:∀(g p:Addr) (hs:Xa) (ts:Xb) (qs:aP) (fp:av),vs=[.ref g]->gx K CG CW H g p hs ts qs fp->(∀l,H l=none->Q (.ref l) (upd H l (.lst ((qs.map (·.1)).map V.str))))->A6 K CG CW vs H Q E
theorem gC_{CG CW:Addr}(F:bo K "names" "Goods.names" Nk f fd)(T:fY K CG)(B:Bi mg):!ao a_ 1 f fd ow (A6 K CG CW):=by
 exists F.bU qV;let#[g,p,hs,ts,qs,fp,rfl,G,k]:=h;let#[dx,dw,dy,vs,dk,h1,h2,h3,h4,h5,m1,m2,m3,m4,m5]:=G.ex;apply#[_,aF (bp (iO (NG U) (by rfl) B.list ya %[gG (pv 0) U|0])),?_];apply#[_,U,g,CG,dx,_,_,U,h1,T.cl,T.nG,MC _ _ _,dw,_,U,.inl h3,λl hl=>?_]
 have e:((kQ qs).map λkv=>kV kv.1)=(qs.map (·.1)).map V.str:=by
  unfold kQ;rw[cz,cz];rfl
 rw[e];exact k l hl
structure Ref (K:ai) (mg:Str->Option Aa) (x:Str) (C:Addr):Prop where
 mg:mg x\.ref C
 ex:PySem.W.excIn K C [.type "ValueError",.type "Exception",.type "BaseException",.type "object"] "ValueError.__new__"=true
theorem oO:bJ ["self","piece"] ["self","piece"] (a9 Og):=bV
inductive N4 (K:ai) (CG CW CP:Addr) (vs:af) (H:Hp) (Q:VK) (E:XK):Prop
 |mk:∀(g p:Addr) (v:V) (x:Option Str) (hs:Xa) (ts:Xb) (qs:aP) (fp:av),vs=[.ref g,v]->gx K CG CW H g p hs ts qs fp->(qs.map (·.1)).Nodup->jY K H v x->((∃q∈qs,x\q.1/\Q (.int q.2.1) H)∨False)->N4 K CG CW CP vs H Q E
theorem fV_{CG CW CP:Addr}(F:bo K "weight" "Goods.weight" Og f fd)(T:fY K CG)(cH:!bM CG 1 "has_piece" mC (E3 K CG CW)):!ao a_ 2 f fd ["self","piece"] (N4 K CG CW CP):=by
 exists F.bU oO;let#[g,p,v,x,hs,ts,qs,fp,rfl,G,nd,sv,k]:=h;let hu:=fG hr;let#[dx,dw,dy,vs,dk,h1,h2,h3,h4,h5,m1,m2,m3,m4,m5]:=id G.ex;have ko:(cQ p dw dy).lookup ("has_piece":Str)=none:=uU _ _ _ Z0 Z0 Z0;apply#[_,au (cg (eZ (d7 (iX cH T.cl hr (pv 0) %[1|0]))) gg cj) (aF (bp (mI hu (gG (pv 0) U) (pv 1)))),?_];apply#[_,U,g,dx,_,U,h1,ko,_,U,g,p,v,x,hs,ts,qs,fp,U,G,sv,_,U,?_];rcases k with⟨q,hq,rfl,k⟩|k
 ·cases (show v=.str q.1 from sv);rw[show DS (qs.map (·.1)) (some q.1)=true from cw (bG.mpr #[q,hq,U])];apply aM ?_;apply#[_,U,g,CG,dx,_,_,U,h1,T.cl,T.nG,MC _ _ _,_,U,dw,_,U,?_,k];rw[<- Yb nd hq];exact .k (k:=Sum.inr q.1) h3
 exact k.elim
theorem qW:bJ ["self","piece","one","other","ties"] ["self","piece","one","other"] (a9 rO):=bV
inductive lg (K:ai) (CG CW CP:Addr) (vs:af) (H:Hp) (Q:VK) (E:XK):Prop
 |mk:∀(g p:Addr) (v u1 u2:V) (x y1 y2:Option Str) (hs:Xa) (ts:Xb) (qs:aP) (fp:av),vs=[.ref g,v,u1,u2]->gx K CG CW H g p hs ts qs fp->(qs.map (·.1)).Nodup->(aS hs).Nodup->jY K H v x->((∃q∈qs,x\q.1/\jY K H u1 y1/\jY K H u2 y2/\∀H',aa H H'->Q (.bl (BG hs ts q.2.2 y1 y2)) H')∨False)->lg K CG CW CP vs H Q E
theorem Yj{CG CW CP:Addr}(F:bo K "may_go" "Goods.may_go" rO f fd)(T:fY K CG)(TW:Txt K mg CW)(cH:!bM CG 1 "has_piece" mC (E3 K CG CW))(cT:!bM CW 2 "are_tied" jW (IJ K CW))(cL:!br 1 "lesser_first" mw Iz) :
  ao P w K mg base a_ 3 f fd ["self","piece","one","other"] (lg K CG CW CP):=by
 exists F.bU qW;let#[g,p,v,u1,u2,x,y1,y2,hs,ts,qs,fp,rfl,G,nd,oW,sv,k]:=h;let hu:=fG hr;have iD:aO 1 _:=hr.mono (by decide);let#[dx,dw,dy,vs,dk,h1,h2,h3,h4,h5,m1,m2,m3,m4,m5]:=id G.ex;have ko:(cQ p dw dy).lookup ("has_piece":Str)=none:=uU _ _ _ Z0 Z0 Z0;let#[jK,d1,l2,d3,wM,as,ef,w1,_]:=id h2.ex;have zR:(fh d1 l2 d3).lookup ("are_tied":Str)=none:=pC _ _ _ Z0 Z0 Z0
 apply#[_,au (cg (eZ (d7 (iX cH T.cl iD (pv 0) %[1|0]))) gg cj)
  (au (cg (eZ (d7 (iX cT TW.cl hr (gG (pv 0) U) %[2,3|0]))) (aF (bp il)) cj)
  (au (bu 4 qW.nd (mI hu (gG (pv 0) U) (pv 1)))
  (aF (bp (XS (HM (G8 (pv 4))) (qe (pE (LU (Fb i_ i_) (uM hr _)) (bc cL hr %[2,3|0]) (pv 4) (by with_unfolding_all rfl)))))))),?_]
 apply#[_,U,g,dx,_,U,h1,ko,_,U,g,p,v,x,hs,ts,qs,fp,U,G,sv,_,U,?_];rcases k with⟨q,hq,rfl,s1,s2,k⟩|k
 ·cases (show v=.str q.1 from sv);rw[show DS (qs.map (·.1)) (some q.1)=true from cw (bG.mpr #[q,hq,U])];apply aM ?_;apply#[_,U,g,CG,dx,_,_,U,h1,T.cl,T.nW,yb _ _ _,p,jK,_,U,w1,zR,_,U,_,U,p,u1,u2,y1,y2,hs,ts,dk,U,h2,oW,s1,s2,_,U,?_];cases tb:BN hs ts y1 y2 with
  |false=>
   apply c_ ?_;have:=k H (aa.refl H);unfold BG at this;rw[tb,Bool.false_and] at this;exact this
  |true=>
   apply aM ?_;let#[u,sO,eu,wy]:=Xy nd h5 hq;apply#[_,U,g,CG,dx,_,_,U,h1,T.cl,T.nY,YH _ _ _,_,U,dy,u,U,?_,?_]
   ·rw[<- eu];exact .k (k:=Sum.inr q.1) h4
   apply#[_,U,_,U,?_];unfold BG at k;rw[tb] at k;cases e:q.2.2 with
   |none=>
    rw[e] at wy k;cases (show u=.non from wy);exact c_ (k H (aa.refl H))
   |some ws=>
    rw[e] at wy k;let#[a,ys,rfl,ha,tu]:=wy;cases y1 with
    |none=>cases tb
    |some a1=>
     cases y2 with
     |none=>cases tb
     |some a2=>
      cases (show u1=.str a1 from s1);cases (show u2=.str a2 from s2);apply aM #[_,U,_,U,a1,a2,U,λt ht=>?_];have s3:aa H (upd H t (.tup [.str (aK a1 a2).1,.str (aK a1 a2).2])):=aa.new ht;apply#[_,U,aK a1 a2,ws,#[t,_,_,U,.of az,U,U],#[a,ys,U,.of (s3 _ _ ha),Ml (tu.same s3)],?_];let z:=k _ s3;rw[Bool.true_and] at z;rw[aC gM];show Q (.bl _) _;have z:Q (.bl (decide (aK a1 a2∈ws))) (upd H t (.tup [.str (aK a1 a2).1,.str (aK a1 a2).2])):=z;generalize upd H t (.tup [.str (aK a1 a2).1,.str (aK a1 a2).2])=Hz at z ⊢;by_cases hm:aK a1 a2∈ws
      ·simpa [hm] using z
      simpa [hm] using z
 exact k.elim
end
end Ev
namespace L2
open PySem PySem.Spec PyProof.Rows PySem.W
variable{P:Ad}{w:Af}
theorem YW{k:Key}{key:Aa}(h:(dW P w).is k key=true):RelV (kV k) key:=by
 have e2:wb k key=true:=h;rcases qj e2 with⟨i,t,rfl,rfl⟩|⟨x,t,rfl,rfl⟩
 ·exact#[t,U]
 exact#[t,U]
def Itm(d:Addr)(o:Obj)(kvs:List (Key × V)):It:=#[λi H=>H d\.frz o (.dK kvs)/\i<kvs.length,λi H y H'=>∃t k x,y=.ref t/\H t=none/\kvs[i]? = some (k,x)/\H'=upd H t (.tup [kV k,x]),λi H=>H d\.frz o (.dK kvs)/\kvs.length<=i]
variable{elts:List Expr}{kk:Nat}
theorem fq_{K:ai}{pos:Pos}(d it:Addr)(o:Obj)(kvs:List (Key × V)){es:Array DictEntry}{ep:Nat}(ho:o.data=.dict es ep):Turn P w K (.Tuple elts kk pos) (Itm d o kvs) [it] it (λi h=>∃ok ov,IsItemIter h it d i kvs.length ep ok ov) where
 mem:=by simp
 obj:=λi h st b hb=>by
  obtain rfl:b=it:=⇑hb
  let#[ok,ov,q]:=st;exact#[_,q,λv z=>by cases z]
 keep:=λi h h' st k=>by
  let#[ok,ov,q]:=st;exact#[ok,ov,k it Y0 _ q]
 item:=by
  intro X hP hw hK hc i pins s σ H E I hf st hg;subst hP hw hK;let#[hd,hi]:=hg;let#[vs,rel,dat]:=Tc I hd ho;obtain⟨⟨k,x⟩,hx⟩:∃p,kvs[i]? = some p:=#[kvs[i],by simp[hi]];let#[u,hu,ru]:=LX rel i hx;let#[ok,ov,st]:=st;have Zm:it<s.heap.objs.size:=bx st;rw[rel.length] at st;apply wpAny_pyNext_items_item st dat hu λkey h' hk out ht sz kp=>?_;apply#[_,U,wpAny_letOwnedTupleGo_items (s:={ s with heap:=h' }) out λh2 eU sb=>?_];have nT:s.heap.objs.size≠it:=iu Zm;have I1:Inv X pins σ (upd H s.heap.objs.size (.tup [kV k,x])) { s with heap:=h2 }:=I.gQ (t':=s.toks) (fp:=[it]) (its:=[key,u]) (λb o hb q=>(sb.2 b ⇑hb).trans (kp b o ⇑hb q)) hf (bh _) (zl) (.cons (YW hk) (.cons ru .nil)) #[#[_,(sb.2 _ nT).trans ht,U,_,U],_,(sb.2 _ nT).trans ht,U];apply#[.ref _,_,I1,U,#[_,k,x,U,I.aA.fresh (bh _),hx,U],#[_,_,by rw[rel.length];exact eU],λb hb=>?_];have e:b=it:=⇑hb
  rw[aw (λz=>nT (z.symm.trans e))];exact (hf b hb).1
 done:=by
  intro X hP hw hK hc i pins s σ H E I hf st hg;subst hP hw hK;let#[hd,hi]:=hg;let#[vs,rel,dat]:=Tc I hd ho;let#[f0,f1,f2,f3,f4,f5]:=hf it Y0;let#[ok,ov,st]:=st;rw[rel.length] at st hi;exact wpAny_pyNext_items_end (I.ok.hd hc) st dat (by simp;omega) λh' eb=>#[U,I.turned (t':=s.toks) (λb o hb e=>eb b o hb e) f0 f1 f3 f4 f5]
 self:=λA i s Q E st h=>by
  let#[ok,ov,q]:=st;exact kcp_self q h
inductive nR (R:It->Hp->Prop) (x:V) (H1:Hp):Prop
 |mk:∀v d kvs,x=.ref v->H1 v\tR v d->H1 d\.dK kvs->(∀o,R (Itm d o kvs) (upd H1 d (.frz o (.dK kvs))))->nR R x H1
def zE(tv:TE):TI:=λσ H R=>tv σ H λx H1=>nR R x H1
variable{X:Cx}
theorem MN{p2:Pos}{e:Expr}{tv:TE}(he:PE X e tv):PI X (.Tuple elts kk p2) e (zE tv):=by
 intro pins s σ H R I h;apply aN (he pins s σ H _ I h) λu s1 ⟨x,H1,I1,r1,v,d,kvs,ex,hv,hd,q⟩=>?_;subst ex;cases r1;let#[iv,_,_]:=I1.aA v _ hv;let#[o,ho,I2]:=I1.freeze hd;let#[z,_,vs,rel,o',es,ep,n0,c',dt,r]:=ES I1.aA hd;rw[ho] at n0;cases n0;apply wpAny_pyIter_items (knd:=dW X.prog X.w) (kvs:=vs) (ep:=ep) iv #[o,es,ho,c',dt,r] ?_;apply#[s1.heap.objs.size,[s1.heap.objs.size],_,_,_,U,I2.kept (t':=s1.toks) λb o e=>aQ _ e,fq_ d _ o kvs dt,?_,λb hb=>?_,q o]
 ·rw[rel.length];exact#[.none,.none,cJ _ U]
 obtain rfl:b=s1.heap.objs.size:=⇑hb
 exact I2.iH (bh _) (I2.aA.fresh (bh _))
theorem N6{d:Addr}{o:Obj}{kvs:List (Key × V)}{g:TG}{tb:TS}{D:Ends}{σ:St}{H:Hp}(Pv:bR)(h0:Pv 0 σ H)(hl:∀i σ H,i<=kvs.length->Pv i σ H->H d\.frz o (.dK kvs))
  (hs:∀i k x σ H,kvs[i]? = some (k,x)->Pv i σ H->∀t,H t=none->g (.ref t) σ (upd H t (.tup [kV k,x])) λfu H2=>tb { D with nx:=Pv (i+1),ct:=Pv (i+1),bk:=D.nx } fu H2) (hd:∀σ H,Pv kvs.length σ H->D.nx σ H) :
  ∃W:Nat->Nat->St->Hp->Prop,(∃m,W 0 m σ H)/\∀i m σ H,W i m σ H->
   ((Itm d o kvs).stop i H/\D.nx σ H)∨((Itm d o kvs).go i H/\∃N:St->Hp->Prop,(∀aZ H',N aZ H'->∃m',m'<m/\W (i+1) m' aZ H')/\∀x H',(Itm d o kvs).ux i H x H'->g x σ H' λfu H2=>tb { D with nx:=N,ct:=N,bk:=D.nx } fu H2):=by
 apply#[λi m σ H=>m=kvs.length - i/\i<=kvs.length/\Pv i σ H,#[kvs.length,by simp,gO _,h0],?_];rintro i m σ H ⟨rfl,hi,p⟩;let q:=hl i σ H hi p;by_cases dH:i<kvs.length
 ·apply .inr #[#[q,dH],Pv (i+1),λaZ H' p'=>#[kvs.length - (i+1),by omega,U,dH,p'],λx H' y=>?_];let#[t,k,x,rfl,ht,hx,rfl]:=y;exact hs i k x σ H hx p t ht
 have e:i=kvs.length:=by omega
 subst e;exact .inl #[#[q,bh _],hd σ H p]
inductive qx (t:TS) (D:Ends) (σ:St) (H:Hp):Prop
 |mk:∀d kvs,H d\.dK kvs->t { nx:=λmT H1=>∃o,H1 d\.frz o (.dK kvs)/\D.nx mT (upd H1 d (.dK kvs)),rt:=λv H1=>∃o,H1 d\.frz o (.dK kvs)/\D.rt v (upd H1 d (.dK kvs)) } σ H->qx t D σ H
theorem Q6{st:Stmt}{t:TS}(h:PS X st t):PS X st (qx t):=by
 intro pins s σ H D I q;let#[d,kvs,hd,q]:=q
 have nf:∀o u,X.j7 d≠some (.frz o u):=λo u z=>by
  have:=I.base.hY _ _ _ z;rw[hd] at this;cases this
 apply aN (h pins s σ H _ I q) λf s' p=>?_;cases f with
 |next=>
  let#[mT,H1,I1,o,hf,q1]:=p;exact#[mT,_,I1.qt hf nf,q1]
 |brk=>
  let#[mT,H1,I1,q1]:=p;exact False.elim q1
 |cont=>
  let#[mT,H1,I1,q1]:=p;exact False.elim q1
 |ret u=>
  let#[v,mT,H1,I1,r,o,hf,q1]:=p;exact#[v,mT,_,I1.qt hf nf,r,q1]
end L2
namespace Ev
open PySem L2
structure Fz (d:Addr) (o:Obj) (kvs:List (Key × V)) (H H':Hp):Prop where
 at_:H' d\.frz o (.dK kvs)
 sm:∀b u,b≠d->H b\u->H' b\u
section
variable{d:Addr}{o:Obj}{kvs:List (Key × V)}{H H' H2:Hp}
theorem Fz.start:Fz d o kvs H (upd H d (.frz o (.dK kvs))):=#[az,λb u ne e=>by rw[aw ne];exact e]
theorem Fz.step(f:Fz d o kvs H H')(s:aa H' H2):Fz d o kvs H H2:=#[s _ _ f.at_,λb u ne e=>s _ _ (f.sm b u ne e)]
theorem Fz.qt(f:Fz d o kvs H H')(hd:H d\.dK kvs):aa H (upd H' d (.dK kvs)):=λb u e=>by
 by_cases z:b=d
 ·subst z;rw[hd] at e;cases e;exact az
 rw[aw z];exact f.sm b u z e
theorem Fz.xN{K:ai}{CG CW g p:Addr}{hs:Xa}{ts:Xb}{qs:aP}{fp:av}(f:Fz d o kvs H H')(hd:H d\.dK kvs)(G:gx K CG CW H g p hs ts qs fp)(nd:d∉fp):gx K CG CW H' g p hs ts qs fp:=
 G.keep (λb hb u e=>f.sm b u (λz=>nd (z▸hb)) e) λb xs e=>f.sm b _ (bS e hd nofun) e
end
def dU(ns:ag)(g:Str->V):List (Key × V):=ns.map λn=>(Sum.inr n,g n)
theorem B3(ns:ag)(g:Str->V):(dU ns g).map (·.1)=ns.map Sum.inr:=by
 unfold dU;rw[cz];rfl
theorem oy(ns:ag)(g:Str->V):(dU ns g).length=ns.length:=aq _
variable{n:Str}
theorem B0{ns:ag}{g:Str->V}(h:n∈ns):aU (dU ns g) (Sum.inr n)\g n:=by
 induction ns with
 |nil=>cases h
 |cons m ns ih=>
  by_cases e:m=n
  ·subst e;exact x6 U
  have:aU (dU (m::ns) g) (Sum.inr n)=aU (dU ns g) (Sum.inr n):=x8 λz=>e (iJ z);rw[this];rcases bY.mp h with z|z
  ·exact absurd z.symm e
  exact ih z
theorem IY{ns:ag}{g k:Str->V}(h:∀n∈ns,g n=k n):dU ns g=dU ns k:=uX λn hn=>by rw[h n hn]
variable{v:V}
theorem Se{ns:ag}{g:Str->V}(h:n∈ns):putK (dU ns g) (Sum.inr n) v=dU ns λm=>if m=n then v else g m:=by
 unfold putK;rw[aI]
 ·unfold dU;rw[cz];apply uX λm _=>?_;by_cases e:m=n
  ·subst e;simp
  have:¬((Sum.inr m:Key)=Sum.inr n):=λz=>e (iJ z);simp[e]
 apply List.any_eq_true.mpr #[(Sum.inr n,g n),bG.mpr #[n,h,U],by simp]
theorem Rz{ns:ag}{g:Str->V}(h:n∉ns):putK (dU ns g) (Sum.inr n) v=dU (ns++[n]) λm=>if m=n then v else g m:=by
 rw[wx _ (ua (by
  rw[B3];intro m;let#[x,hx,e]:=bG.mp m;exact h (iJ e▸hx)))]
 unfold dU;rw[eg];congr 1
 ·apply uX λm hm=>?_;have e:¬m=n:=λz=>h (z▸hm);simp[e]
 simp
variable{i:Nat}
theorem Lm{ns:ag}{g:Str->V}{k:Key}{x:V}(h:(dU ns g)[i]? = some (k,x)):∃n,ns[i]? = some n/\k=Sum.inr n/\x=g n:=by
 unfold dU at h;rw[dC] at h;cases e:ns[i]? with
 |none=>rw[e] at h;cases h
 |some n=>
  rw[e] at h;let h:=cX h;exact#[n,U,(ed Prod.fst h).symm,(ed Prod.snd h).symm]
theorem Si{ns:ag}(nd:ns.Nodup)(h:ns[i]? = some n):n∉ns.take i:=by
 let q:=FA (g:=id) (ts:=ns) (by rw[List.map_id];exact nd) h;rwa [List.map_id] at q
theorem uP{ns:ag}(h:ns[i]? = some n):ns.take (i+1)=ns.take i++[n]:=by
 rw[tZ,h];rfl
abbrev gC(ns:ag)(f:bF):List (Key × V):=dU ns λn=>.str (f n)
def fe(q:Pc):Str × Int:=(q.1,q.2.1)
def ld(f:bF)(ws:Xa)(h:Str):Int:=((ws.filter λx=>decide (f x.1=h)).map (·.2)).sum
theorem RA(f:bF)(ws:Xa)(x:Str × Int)(h:Str):ld f (ws++[x]) h=if h=f x.1 then ld f ws h+x.2 else ld f ws h:=by
 unfold ld;rw[List.filter_append];by_cases e:f x.1=h
 ·rw[aI e.symm,eg,List.sum_append];simp[e]
 rw[aC λz=>e z.symm];simp[e]
theorem RD:∀{l:List Int},(∀x∈l,0<=x)->0<=l.sum
 |[],_=>by simp
 |x::l,h=>by
  rw[List.sum_cons];have:=h x gF;have:=RD (l:=l) λy hy=>h y (fX _ hy);omega
theorem X5{f:bF}{ws:Xa}{h:Str}(p:∀x∈ws,0<=x.2):0<=ld f ws h:=RD λx hx=>by
 let#[y,hy,rfl]:=bG.mp hx;exact p y (mK.mp hy).1
theorem gw_{α:Type}{ps:List (Str × α)}(nd:(ps.map (·.1)).Nodup){a b:Str × α}(ha:a∈ps)(hb:b∈ps)(e:a.1=b.1):a=b:=by
 induction ps with
 |nil=>cases ha
 |cons p ps ih=>
  rw[eI,iZ] at nd;rcases bY.mp ha with za|ha
  ·rcases bY.mp hb with zb|hb
   ·rw[za,zb]
   rw[za] at e;exact absurd (show p.1∈ps.map (·.1) from bG.mpr #[b,hb,e.symm]) nd.1
  rcases bY.mp hb with zb|hb
  ·rw[zb] at e;exact absurd (show p.1∈ps.map (·.1) from bG.mpr #[a,ha,e]) nd.1
  exact ih nd.2 ha hb
def strOf(hs:Xa)(n:Str):Int:=((hs.find? λh=>decide (h.1=n)).map (·.2)).getD 0
theorem IV{hs:Xa}(h:n∈hs.map (·.1)):(n,strOf hs n)∈hs:=by
 unfold strOf;let#[x,hx,e]:=bG.mp h;cases q:hs.find? λh=>decide (h.1=n) with
 |none=>
  have:=List.find?_eq_none.mp q x hx;simp[e] at this
 |some y=>
  let m:=List.mem_of_find?_eq_some q;have:=List.find?_some q;have e2:y.1=n:=⇑this
  show (n,y.2)∈hs;rw[<- e2];exact m
theorem Sf{hs:Xa}(nd:(hs.map (·.1)).Nodup){s:Int}(h:(n,s)∈hs):strOf hs n=s:=by
 let m:=IV (bG.mpr #[_,h,U]:n∈hs.map (·.1));exact ed Prod.snd (gw_ nd m h U)
def fr(a b:Int):Int × Int:=(a / (Int.gcd a b:Int),b / (Int.gcd a b:Int))
variable{a b:Int}
theorem hG_(ha:0<=a)(h:0<b):Int.gcd b (a % b)=Int.gcd a b:=by
 let#[m,rfl]:=yf ha;let#[n,rfl]:=yf (iP h);rw[<- Int.natCast_emod];show Nat.gcd n (m % n)=Nat.gcd m n;rw[Nat.gcd_comm n,<- Nat.gcd_rec,Nat.gcd_comm]
variable{fd:Ae}
section v
theorem oN:bJ ["one","other","rest","divisor","left"] mw (a9 JZ):=bV
def vq:Sp:=λvs H Q _=>∃a b:Int,vs=[.int a,.int b]/\0<=a/\0<b/\Q (.int (Int.gcd a b)) H
theorem XR{f:Addr}(F:bo K BL BL JZ f fd):!ao a_ 1 f fd mw vq:=by
 exists F.bU oN;let#[a,b,rfl,ha,hb,k]:=h;refine' #[_,au ?s1 (au ?s2 (au ?s3 ?s4)),?kk]
 case s1=>exact bu 2 oN.nd (pv 0)
 case s2=>exact bu 3 oN.nd (pv 1)
 case s3=>exact Iy dM (eY pV (pv 2) ay) (au (bu 4 oN.nd (bP AM (pv 3) (pv 2))) (au (bu 3 oN.nd (pv 2)) (aF (bu 2 oN.nd (pv 4)))))
 case s4=>exact aF (bp (pv 3))
 apply#[_,U,_,U,?_];apply Z6 (λσ H'=>H'=H/\∃(r d:Int) (v4:aH),σ=[some (.int a),some (.int b),some (.int r),some (.int d),v4]/\0<=r/\0<d/\Int.gcd r d=Int.gcd a b) (λσ _=>match σ with | [_,_,some (.int r),_,_]=>r.toNat|_=>0) #[U,a,b,none,U,ha,hb,U] ?_ ?_
 ·rintro σ H' ⟨rfl,r,d,v4,rfl,jF,hd,e⟩;apply#[_,U,U,_,U,?_];apply bQ (λc=>?_) (λc=>?_)
  ·have iD:0<r:=by
    have:r≠0:=by
     intro z;subst z;simp at c
    omega
   apply#[_,U,_,U,_,_,U,U,iD,_,U,_,U,?_];let h1:=Int.emod_nonneg d (Int.ne_of_gt iD);let h2:=Int.emod_lt_of_pos d iD;apply#[#[U,_,_,_,U,h1,iD,?_],?_]
   ·rw[<- e,Int.gcd_comm (d % r) r,hG_ (iP hd) iD,Int.gcd_comm]
   show (d % r).toNat<r.toNat;omega
  have iD:r=0:=⇑c
  subst iD;apply#[_,U,?_]
  have e2:(Int.gcd a b:Int)=d:=by
   rw[<- e,Int.gcd_zero_left];omega
  rw[<- e2];exact k
 intro σ H' Q1 Q2 hq h;let#[x,e,h1,c,h2,h3]:=h;exact#[x,e,h1,c,h2,hq _ _ h3]
end
theorem XZ(hb:0<b)(mh:b<=1000):0<(Int.gcd a b:Int)/\(Int.gcd a b:Int)<1073741824:=by
 have h1:0<Int.gcd a b:=Int.gcd_pos_of_ne_zero_right a Z2;have h2:(Int.gcd a b:Int) ∣ b:=Int.gcd_dvd_right a b;let h3:=Int.le_of_dvd hb h2;omega
section v
structure Nm (hs:Xa) (qs:aP) (ns:ag) (f:bF):Prop where
 perm:ns.Perm (qs.map (·.1))
 at_:∀n∈ns,f n∈hs.map (·.1)
theorem Iu:bJ ["goods","stand","piece","hand","names"] ["goods","stand"] (a9 M5):=bV
inductive Il (K:ai) (CG CW:Addr) (vs:af) (H:Hp) (Q:VK) (E:XK):Prop
 |mk:∀(g p d:Addr) (hs:Xa) (ts:Xb) (qs:aP) (fp:av) (ns:ag) (f:bF),vs=[.ref g,.ref d]->gx K CG CW H g p hs ts qs fp->d∉fp->H d\.dK (gC ns f)->Nm hs qs ns f->(qs.map (·.1)).Nodup->qs.length<64->(∀d' H',aa H H'->H d'=none->H' d'\.dK (gC (qs.map (·.1)) f)->Q (.ref d') H')->Il K CG CW vs H Q E
theorem gm_{f CG CW:Addr}(F:bo K "checked_stand" "checked_stand" M5 f fd)(B:Bi mg)(T:fY K CG)(TW:Txt K mg CW)(cH:!bM CG 1 "has_piece" mC (E3 K CG CW))(cW:!bM CW 1 "has_hand" mC (BO K CW))(cN:!bM CG 1 "names" ow (A6 K CG CW)) :
  ao P w K mg base a_ 2 f fd ["goods","stand"] (Il K CG CW):=by
 exists F.bU Iu;let#[g,p,d,hs,ts,qs,fp,ns,f,rfl,G,tH,hd,so,nd,cY,k]:=h;let hu:=fG hr;let sz:=cq;refine' #[_,?r0,?kk]
 case' r0=>refine' au ?s1 ?r1
 case s1=>exact cg (eZ (d7 (cy jT (by rfl) B.jn jr %[1,jS (v:=.ty "dict") (by rfl) B.dict uQ U|0]))) gg cj
 case' r1=>refine' au ?s2 ?r2
 case' s2=>refine' Q6 (d0 dM U ?i2 ?g2 ?b2)
 case i2=>exact MN (IA (pv 1))
 case g2=>exact mr U (dN (cu 2 Iu.nd) (dN (cu 3 Iu.nd) jh))
 case b2=>exact au (cg (eZ (d7 (iX cH T.cl hr (pv 0) %[2|0]))) gg cj) (aF (cg (eZ (d7 (iX cW TW.cl hr (gG (pv 0) U) %[3|0]))) gg cj))
 case' r2=>refine' au ?s3 ?r3
 case s3=>exact bu 4 Iu.nd (xW cN T.cl hr (pv 0))
 case' r3=>refine' au ?s4 (aF ?s5)
 case s4=>exact cg (eY pV (cy gj_ (by rfl) B.len gE %[1|0]) (cy iq (by rfl) B.len gE %[4|0])) gg cj
 case s5=>exact bp (iO (A_ U) (by rfl) B.dict uQ %[js ["piece","stand"] 1 [1] (dX (pv 4)) (λfp s H=>fW (i:=0) (show (["piece","stand"]:ag).Nodup by decide +kernel) U (Or.inl U)) (λfp s H=>kE) (λfp s H=>gh %[0,mI hu (pv 1) (pv 0)|0])|0])
 have Xf:ns.length=qs.length:=by rw[so.perm.length_eq,aq]
 apply#[_,U,_,_,_,_,U,.dK hd,U,_,U,aM ?_];apply#[d,_,hd,?_];apply#[_,U,d,_,U,hd,λv hv=>?_];let#[s1,xv]:=aD (o:=tR v d) hv;let G1:=G.same s1;let pT:=s1 _ _ hd;generalize upd H v (tR v d)=H1 at s1 xv G1 pT ⊢;apply#[v,d,_,U,xv,pT,λo=>?_];apply N6 (λi σ H'=>∃(v2 v3:aH),σ=[some (.ref g),some (.ref d),v2,v3,none]/\Fz d o (gC ns f) H1 H') #[none,none,U,Fz.start] (λi σ H' _ ⟨_,_,_,z⟩=>z.at_) ?_ ?_
 ·rintro i ky x σ H2 hx ⟨v2,v3,rfl,fz⟩ t ht;let#[n,hn,rfl,rfl]:=Lm hx;let nm:=cZ hn;let s2:=aa.new (o:=.tup [.str n,.str (f n)]) ht;let Au:=fz.step s2;have e2:upd H2 t (.tup [.str n,.str (f n)]) t\.tup [.str n,.str (f n)]:=az;show fR _ _ _ _ _ (upd H2 t (.tup [.str n,.str (f n)])) _;generalize upd H2 t (.tup [.str n,.str (f n)])=H3 at s2 Au e2 ⊢;apply#[t,_,U,.of e2,U,_,_,U,_,_,U,U,?_];let G3:=Au.xN pT G1 tH;let#[dx,dw,dy,vs,dk,h1,h2,h3,h4,h5,m1,m2,m3,m4,m5]:=id G3.ex;let#[jK,d1,l2,d3,wM,as,ef,w1,_]:=id h2.ex;have ko:(cQ p dw dy).lookup ("has_piece":Str)=none:=uU _ _ _ Z0 Z0 Z0;have zR:(fh d1 l2 d3).lookup ("has_hand":Str)=none:=pC _ _ _ Z0 Z0 Z0;apply#[_,U,g,dx,_,U,h1,ko,_,U,g,p,.str n,some n,hs,ts,qs,fp,U,G3,U,_,U,?_];rw[show DS (qs.map (·.1)) (some n)=true from cw (so.perm.mem_iff.mp nm)];apply aM ?_;apply#[_,U,g,CG,dx,_,_,U,h1,T.cl,T.nW,yb _ _ _,p,jK,_,U,w1,zR,_,U,p,f n,hs,ts,dk,U,h2,_,U,?_];rw[cw (so.at_ n nm)];exact aM #[_,_,U,Au]
 rintro σ H2 ⟨v2,v3,rfl,fz⟩;apply#[o,fz.at_,?_];let s2:=s1.trans (fz.qt pT);have hd2:upd H2 d (.dK (gC ns f)) d\.dK (gC ns f):=az;generalize upd H2 d (.dK (gC ns f))=H3 at s2 hd2 ⊢;let G3:=G.same s2;let#[dx,dw,dy,vs,dk,h1,h2,h3,h4,h5,m1,m2,m3,m4,m5]:=id G3.ex;apply#[_,U,g,dx,_,U,h1,uU _ _ _ Z0 Z0 Z0,g,p,hs,ts,qs,fp,U,G3,λln xC=>?_];let#[s3,e3]:=aD (o:=.lst ((qs.map (·.1)).map V.str)) xC;let l_:=s3 _ _ hd2;generalize upd H3 ln (.lst ((qs.map (·.1)).map V.str))=H4 at s3 e3 l_ ⊢;apply#[_,U,d,_,U,l_,_,U,ln,_,U,.inl (.of e3),U,_,U,?_];rw[oy,aq,aq,Xf];simp only[bne_self_eq_false,decide_true,Bool.not_true];apply aM ?_;let lX:=s2.trans s3;apply#[_,U,ln,U,#[_,.of e3],λD hD=>?_];apply kK (own:=1) (fv:=[some (.ref d)]) (xs:=(qs.map (·.1)).map V.str) U fE (λi out H'=>aa H4 H'/\H' D\.lst out/\kz K H' out (gC ((qs.map (·.1)).take i) f)) #[aa.new hD,az,.nil] (λi out H' _ ⟨sm,_,_⟩=>.of (sm _ _ e3)) (λout H5 ⟨sm,i7,pa⟩=>?_) (λi y out H' hy ⟨sm,dF,pa⟩=>?_)
 ·rw[aq,eR] at pa;apply#[D,out,_,U,i7,pa,by rw[oy,aq];omega,λd' hU=>?_]
  have ki:((gC (qs.map (·.1)) f).map (·.1)).Nodup:=by
   rw[B3,qk,uV];exact nd.imp λn e=>n (iJ e)
  rw[yc ki];exact k d' _ ((lX.trans sm).trans (aa.new hU)) (lX.free (sm.free hU)) az
 let#[n,hn,rfl]:=mG hy;have hi:i<(qs.map (·.1)).length:=(bW.mp hn).1;rw[aq] at hi;have nm:n∈ns:=so.perm.mem_iff.mpr (cZ hn);apply#[_,U,U,λNx hN=>fw ?_];apply#[_,U,_,U,_,U,d,.str (f n),U,?_,zl,λt ht=>?_]
 ·rw[<- B0 (g:=λn=>V.str (f n)) nm];exact .k (k:=Sum.inr n) (sm _ _ l_)
 let s5:=aa.new (o:=.tup [.str n,.str (f n)]) ht;let lo:=bH pa;rw[oy,dJ,aq] at lo;apply#[out,s5 _ _ dF,by omega,hN _ _ #[fL (sm.trans s5) hD,az,?_]];have D3:upd H' t (.tup [.str n,.str (f n)]) t\.tup [.str n,.str (f n)]:=az;have pD:∀{b:Addr} {ys:af},upd H' t (.tup [.str n,.str (f n)]) b\.tup ys->b≠D:=λhb=>bS hb (s5 _ _ dF) nofun;rw[uP hn];show kz K _ _ (((qs.map (·.1)).take i++[n]).map _);rw[eg];exact iY (Paired.aX pa λy kv ⟨b,z,hb⟩=>#[b,z,by rw[aw (pD (s5 _ _ hb))];exact s5 _ _ hb]) (.cons #[t,U,by rw[aw (pD D3)];exact D3] .nil)
end
variable{C:Addr}
theorem h_.has{K:ai}{H:Hp}{p:Addr}{hs:Xa}{ts:Xb}{fp:av}(W:h_ K C H p hs ts fp){b:Addr}(hb:b∈fp):∃o,H b\o:=by
 let#[dx,d1,l2,d3,zs,as,rfl,h1,h2,h3,h4,h5,h6,h7]:=W.ex;simp only[bY] at hb;rcases hb with rfl|rfl|rfl|rfl|hb
 ·exact#[_,h1]
 ·exact#[_,h2]
 ·exact#[_,h3]
 ·exact#[_,h5]
 let#[i,hi,e]:=ia hb;exact#[_,h7 i ((aS hs)[i]' Z2) b (aY Z2) (by rw[<- e];exact aY hi)]
theorem gx.slim{K:ai}{CG CW:Addr}{H:Hp}{g p:Addr}{hs:Xa}{ts:Xb}{qs:aP}{fp:av}(G:gx K CG CW H g p hs ts qs fp):∃uG,gx K CG CW H g p hs ts qs uG/\∀b∈uG,∃o,H b\o:=by
 let#[dx,dw,dy,vs,dk,h1,h2,h3,h4,h5,m1,m2,m3,m4,m5]:=G.ex;apply#[g::dw::dy::(dk++vs.filterMap λv=>match v with | .ref a=>some a|_=>none),#[dx,dw,dy,vs,dk,h1,h2,h3,h4,h5,by simp,by simp,by simp,λb hb=>by simp[hb],λv hv a z=>?_],λb hb=>?_]
 ·have:a∈vs.filterMap λv=>match v with | .ref a=>some a|_=>none:=yd.mpr #[v,hv,by rw[z]];simp only[bY,dI];exact .inr (.inr (.inr (.inr this)))
 simp only[bY,dI] at hb;rcases hb with rfl|rfl|rfl|hb|hb
 ·exact#[_,h1]
 ·exact#[_,h3]
 ·exact#[_,h4]
 ·exact h2.has hb
 let#[v,hv,e]:=yd.mp hb;let#[i,hi,ev]:=ia hv;let le:=bH h5;let w:=d8 h5 i hi Z2;rw[ev] at w;cases o:(qs[i]' Z2).2.2 with
 |none=>
  rw[o] at w;rw[show v=.non from w] at e;cases e
 |some ws=>
  rw[o] at w;let#[a,ys,ea,ha,_]:=w;rw[ea] at e;cases e;exact#[_,ha]
section
variable{d d2:Addr}{o:Obj}{kvs:List (Key × V)}{H H' H1:Hp}{u:HO}
theorem Fz.yJ(s:aa H H1):Fz d o kvs H (upd H1 d (.frz o (.dK kvs))):=#[az,λb u ne e=>by rw[aw ne];exact s _ _ e]
theorem Fz.put(f:Fz d o kvs H H')(hn:H d2=none)(ne:d2≠d):Fz d o kvs H (upd H' d2 u):=#[by rw[aw ne.symm];exact f.at_,λb u nb e=>by rw[aw (bz e hn)];exact f.sm b u nb e]
end
section v
theorem Jd:bJ ["goods","placed","hand","found","piece"] pb (a9 Oo):=bV
structure B1 (K:ai) (CG CW:Addr) (H:Hp) (g p d:Addr) (hs:Xa) (ts:Xb) (qs:aP) (fp:av) (f:bF):Prop where
 G:gx K CG CW H g p hs ts qs fp
 Gd:Good hs ts
 tH:d∉fp
 hd:H d\.dK (gC (qs.map (·.1)) f)
 at_:∀n∈qs.map (·.1),f n∈hs.map (·.1)
 nd:(qs.map (·.1)).Nodup
 cY:qs.length<64
abbrev P9(hs:Xa)(qs:aP)(f:bF):List (Key × V):=dU (aS hs) λh=>.int (ld f (qs.map fe) h)
inductive NA (K:ai) (CG CW:Addr) (vs:af) (H:Hp) (Q:VK) (E:XK):Prop
 |mk:∀(g p d:Addr) (hs:Xa) (ts:Xb) (qs:aP) (fp:av) (f:bF),vs=[.ref g,.ref d]->B1 K CG CW H g p d hs ts qs fp f->(∀d' H',aa H H'->H d'=none->H' d'\.dK (P9 hs qs f)->Q (.ref d') H')->NA K CG CW vs H Q E
theorem fw_{f CG CW CP:Addr}(F:bo K "loads_at" "loads_at" Oo f fd)(B:Bi mg)(T:fY K CG)(TW:Txt K mg CW)(cH:!bM CW 1 "hands" ow (Fv K CW))(cW:!bM CG 2 "weight" ["self","piece"] (N4 K CG CW CP)) :
  ao P w K mg base a_ 3 f fd pb (NA K CG CW):=by
 exists F.bU Jd;let#[g,p,d,hs,ts,qs,fp,f,rfl,Pl,k]:=h;let hu:=fG hr;let sz:=cq;have iD:aO 1 _:=hr.mono (by decide);refine' #[_,?r0,?kk]
 case' r0=>refine' au ?s1 ?r1
 case s1=>exact bu 3 Jd.nd (iO (A_ U) (by rfl) B.dict uQ %[js ["hand"] 1 [] (dX (xW cH TW.cl iD (gG (pv 0) U))) (λfp s H=>fW (i:=0) (show (["hand"]:ag).Nodup by decide +kernel) U (Or.inl U)) (λfp s H=>kE) (λfp s H=>gh %[0,ay|0])|0])
 case' r1=>refine' au ?s2 ?r2
 case' s2=>refine' Q6 (d0 dM U ?i2 ?g2 (aF ?b2))
 case i2=>exact MN (IA (pv 1))
 case g2=>exact mr U (dN (cu 4 Jd.nd) (dN (cu 2 Jd.nd) jh))
 case b2=>exact tT hu (pv 3) (pv 2) (bP gz (mI hu (pv 3) (pv 2)) (iX cW T.cl hr (pv 0) %[4|0])) U
 case r2=>exact aF (bp (pv 3))
 let nl:=Pl.Gd.iB;let h8:=Pl.Gd.h8;let#[dx,dw,dy,vs,dk,h1,h2,h3,h4,h5,m1,m2,m3,m4,m5]:=id Pl.G.ex;let#[jK,d1,l2,d3,wM,as,ef,w1,_]:=id h2.ex;have zR:(fh d1 l2 d3).lookup ("hands":Str)=none:=pC _ _ _ Z0 Z0 Z0;apply#[_,U,g,CG,dx,_,_,U,h1,T.cl,T.nW,yb _ _ _,p,jK,_,U,w1,zR,p,hs,ts,dk,U,h2,λlh fZ=>?_];let#[s1,e1]:=aD (o:=.lst ((aS hs).map V.str)) fZ;generalize upd H lh (.lst ((aS hs).map V.str))=H1 at s1 e1 ⊢;apply#[lh,U,#[_,.of e1],λD hD=>?_];apply kK (own:=1) (fv:=[]) (xs:=(aS hs).map V.str) U fE (λi out H'=>aa H1 H'/\H' D\.lst out/\kz K H' out (dU ((aS hs).take i) λ_=>.int 0)) #[aa.new hD,az,.nil] (λi out H' _ ⟨sm,_,_⟩=>.of (sm _ _ e1)) (λout H5 ⟨sm,i7,pa⟩=>?_) (λi y out H' hy ⟨sm,dF,pa⟩=>?_);rotate_left 1
 ·let#[n,hn,rfl]:=mG hy;have hi:i<(aS hs).length:=(bW.mp hn).1;apply#[_,U,U,λNx hN=>fw ?_];apply#[_,U,zl,λt ht=>?_];let s5:=aa.new (o:=.tup [.str n,.int 0]) ht;let lo:=bH pa;rw[oy,dJ] at lo;apply#[out,s5 _ _ dF,by omega,hN _ _ #[fL (sm.trans s5) hD,az,?_]];have D3:upd H' t (.tup [.str n,.int 0]) t\.tup [.str n,.int 0]:=az;have pD:∀{b:Addr} {ys:af},upd H' t (.tup [.str n,.int 0]) b\.tup ys->b≠D:=λhb=>bS hb (s5 _ _ dF) nofun;rw[uP hn];show kz K _ _ (((aS hs).take i++[n]).map _);rw[eg];exact iY (Paired.aX pa λy kv ⟨b,z,hb⟩=>#[b,z,by rw[aw (pD (s5 _ _ hb))];exact s5 _ _ hb]) (.cons #[t,U,by rw[aw (pD D3)];exact D3] .nil)
 rw[aq,eR] at pa;apply#[D,out,_,U,i7,pa,by rw[oy];omega,λd2 hd2=>?_]
 have ki:((dU (aS hs) λ_=>V.int 0).map (·.1)).Nodup:=by
  rw[B3,qk,uV];exact Pl.Gd.oW.imp λn e=>n (iJ e)
 rw[yc ki];let s2:=(s1.trans sm).trans (aa.new (o:=.dK (dU (aS hs) λ_=>V.int 0)) hd2);have e2:upd H5 d2 (.dK (dU (aS hs) λ_=>V.int 0)) d2\.dK (dU (aS hs) λ_=>V.int 0):=az;have n2:H d2=none:=s1.free (sm.free hd2);show vk _ _ _ _ (upd H5 d2 (.dK (dU (aS hs) λ_=>V.int 0)));generalize upd H5 d2 (.dK (dU (aS hs) λ_=>V.int 0))=H6 at s2 e2 ⊢;have Nr:d2≠d:=(bz Pl.hd n2).symm;apply#[d,_,s2 _ _ Pl.hd,?_];apply#[_,U,d,_,U,s2 _ _ Pl.hd,λv hv=>?_];let#[s3,xv]:=aD (o:=tR v d) hv;let e3:=s3 _ _ e2;let dZ:=s2.trans s3;generalize upd H6 v (tR v d)=H7 at s3 xv e3 dZ ⊢;apply#[v,d,_,U,xv,dZ _ _ Pl.hd,λo=>?_];apply N6 (λi σ H'=>∃(v2 v4:aH),σ=[some (.ref g),some (.ref d),v2,some (.ref d2),v4]/\Fz d o (gC (qs.map (·.1)) f) H H'/\H' d2\.dK (dU (aS hs) λh=>.int (ld f ((qs.take i).map fe) h))) #[none,none,U,Fz.yJ dZ,by rw[aw Nr];exact e3] (λi σ H' _ ⟨_,_,_,z,_⟩=>z.at_) ?_ ?_
 ·rintro i ky x σ H8 hx ⟨v2,v4,rfl,fz,e8⟩ t ht;let#[n,hn,rfl,rfl]:=Lm hx
  have hi:i<qs.length:=by
   have:=(bW.mp hn).1;rwa [aq] at this
  have hq:qs[i]? = some (qs[i]'hi):=aY hi
  have en:n=(qs[i]'hi).1:=by
   rw[dC,hq] at hn;exact (cX hn).symm
  have fm:f n∈aS hs:=(gN hs).mem_iff.mpr (Pl.at_ n (cZ hn));generalize qs[i]'hi=q at hq en;let s8:=aa.new (o:=.tup [.str n,.str (f n)]) ht;let Au:=fz.step s8;let e9:=s8 _ _ e8;have et:upd H8 t (.tup [.str n,.str (f n)]) t\.tup [.str n,.str (f n)]:=az;show fR _ _ _ _ _ (upd H8 t (.tup [.str n,.str (f n)])) _;generalize upd H8 t (.tup [.str n,.str (f n)])=H9 at s8 Au e9 et ⊢;apply#[t,_,U,.of et,U,_,_,U,_,_,U,U,?_];let G9:=Au.xN Pl.hd Pl.G Pl.tH;let#[dx,dw,dy,vs,dk,h1,h2,h3,h4,h5,m1,m2,m3,m4,m5]:=id G9.ex;have ko:(cQ p dw dy).lookup ("weight":Str)=none:=uU _ _ _ Z0 Z0 Z0;apply#[_,U,_,U,d2,.int (ld f ((qs.take i).map fe) (f n)),U,?_,_,U,g,dx,_,U,h1,ko,_,U,g,p,.str n,some n,hs,ts,qs,fp,U,G9,Pl.nd,U,.inl #[q,cZ hq,ed some en,?_]]
  ·rw[<- B0 (g:=λh=>V.int (ld f ((qs.take i).map fe) h)) fm];exact .k (k:=Sum.inr (f n)) e9
  apply#[_,_,U,U,_,U,_,U,d2,_,U,.k (k:=Sum.inr (f n)) e9 (by rw[oy];omega),?_];apply#[_,_,U,Au.put n2 Nr,?_];rw[az,Se fm];congr 2;apply IY λm _=>?_
  have e5:(qs.take (i+1)).map fe=(qs.take i).map fe++[fe q]:=by
   rw[tZ,hq,eg];rfl
  rw[e5,RA];show (if m=f n then V.int (ld f ((qs.take i).map fe) (f n)+q.2.1) else V.int (ld f ((qs.take i).map fe) m))=V.int (if m=f q.1 then _ else _);rw[<- en];by_cases z:m=f n
  ·rw[aI z,aI z,z];rfl
  rw[aC z,aC z]
 rintro σ H8 ⟨v2,v4,rfl,fz,e8⟩;apply#[o,fz.at_,?_];rw[oy,aq,eR] at e8;exact#[_,U,k d2 _ (fz.qt Pl.hd) n2 (by rw[aw Nr];exact e8)]
end
structure Std (K:ai) (CG CW:Addr) (H:Hp) (g p d:Addr) (hs:Xa) (ts:Xb) (qs:aP) (fp:av) (ns:ag) (f:bF):Prop where
 G:gx K CG CW H g p hs ts qs fp
 Gd:Good hs ts
 tH:d∉fp
 hd:H d\.dK (gC ns f)
 ok:Nm hs qs ns f
 nd:(qs.map (·.1)).Nodup
 cY:qs.length<64
 wp:∀q∈qs,0<=q.2.1
variable{H:Hp}{σ:St}
theorem CZ{t u:TS}{D:Ends}(R:iS)(later:∀σ H,R σ H->u D σ H)(now:∀N:St->Hp->Prop,(∀σ H,R σ H->N σ H)->t { D with nx:=N } σ H):vk t u D σ H:=now (u D) later
theorem setG{N:iS}(h:N (σ.set i (some v)) H):jP i v σ H N:=h
structure j_ (P:Ad) (w:Af) (K:ai) (mg:Str->Option Aa) (base:Heap) (C:Addr) (k:Nat) (x:Str) (ps:ag) (sp:Sp):Prop where
 ex:∃f fd,ao P w K mg base a_ k f fd ps sp/\Mk K C f/\mg x\.ref C/\p7 K fd ps []
theorem GK{n_:Nat}{X:Cx}{k:Nat}{x:Str}{ps:ag}{sp:Sp}{p pos:Pos}{e:Expr}{es:List Expr}{t:TA}(c:j_ X.prog X.w X.K X.mg X.base C k x ps sp)(hr:aO n_ X.A)(ha:PA X (e::es) t)(hg:Gl X x:=by rfl)(sU:(x == ("__debug__":Str))=false:=by decide)(he:starEach (e::es) X.env=(false,eval e X.env)::starEach es X.env:=by rfl)(iE:(backTo pos (starEach es X.env)).any (·.1)=false:=by rfl)(hk:(k+1)<=n_:=by decide):PE X (.Call (.Name x p) (e::es) [] pos) (wU C sp [] E0 t):=by
 let#[f,fd,F,M,m,b]:=c.ex;exact YU M F (hr.mono hk) hg m b .nil nM ha sU he iE
end Ev
local macro_rules|`(tactic|lk)=>`(tactic|(refine Ev.setG ?_;dsimp only))
namespace L2
open PySem PySem.Spec PyProof.Rows PySem.W
inductive rW (K:ai) (x:V) (y:V) (H:Hp) (Q:VK):Prop
 |mk:∀a b xs,x=.ref a->y=.ref b->dS K H a xs->dS K H b []->Q (.bl (!xs.isEmpty)) H->rW K x y H Q
variable{X:Cx}
theorem MK(hu:X.A.units+0+1<cLine):d9 X (compareOp .NotEq) (rW X.K):=by
 intro pins s σ H x y v u Q I rx ry h;let#[a,b,xs,rfl,rfl,t,t',hq]:=h;cases xs with
 |nil=>exact Ya i_ hu pins s σ H (.ref a) (.ref b) v u Q I rx ry #[[],[],#[a,[],U,t,.nil],#[b,[],U,t',.nil],hq]
 |cons z zs=>
  cases rx;cases ry;let#[us,r,pl,_]:=I.list t;let#[vs,r',Gj,_]:=I.list t';let l1:=r.length;let l2:=r'.length;exact Ji.gX pl.isList Gj.isList (by simp only[dc,bne_iff_ne];simp at l1 l2;omega) Z2 #[.bl true,H,I,U,hq]
end L2
namespace Ev
open PySem L2
def gI(a n:Int):Int:=a / (Int.gcd a n:Int) * n
variable{n:Int}
theorem Y2{a:Int}(ha:0<a)(hn:0<n):gI a n=(Int.lcm a n:Int):=by
 let#[p,rfl]:=yf (iP ha);let#[q,rfl]:=yf (iP hn);show ((p:Int) / ((Nat.gcd p q:Nat):Int)) * (q:Int)=((Nat.lcm p q:Nat):Int);rw[<- Int.natCast_ediv,<- Int.natCast_mul,Nat.div_mul_right_comm (Nat.gcd_dvd_left p q)];rfl
def jD(ns:List Int):Int:=ns.foldl gI 1
theorem Ip:∀(ns:List Int) (a:Int),0<a->(∀n∈ns,0<n)->0<ns.foldl gI a/\∀x:Int,0<=x->(ns.foldl gI a ∣ x ↔ a ∣ x/\∀n∈ns,n ∣ x)
 |[],a,ha,_=>#[ha,λx _=>by simp]
 |n::ns,a,ha,h=>by
  let hn:=h n gF;let e:=Y2 ha hn
  have p:0<gI a n:=by
   rw[e];have:=Nat.lcm_pos (m:=a.natAbs) (n:=n.natAbs) Z2 Z2;have:0<Int.lcm a n:=this;omega
  let#[h1,h2]:=Ip ns (gI a n) p λm hm=>h m (fX _ hm);apply#[h1,λx hx=>(h2 x hx).trans ?_];let#[z,rfl]:=yf hx;rw[e,Int.natCast_dvd_natCast,Int.lcm_dvd_iff];constructor
  ·rintro⟨⟨q1,q2⟩,q3⟩
   exact#[q1,λm hm=>by
    rcases bY.mp hm with rfl|hm
    ·exact q2
    exact q3 m hm]
  rintro⟨q1,q2⟩;exact#[#[q1,q2 n gF],λm hm=>q2 m (fX _ hm)]
variable{ns:List Int}
theorem MF(h:∀n∈ns,0<n):0<jD ns:=(Ip ns 1 (by decide) h).1
theorem _c(h:∀n∈ns,0<n)(hn:n∈ns):n ∣ jD ns:=
 (((Ip ns 1 (by decide) h).2 _ (iP (MF h))).mp (Int.dvd_refl _)).2 n hn
theorem YS(f:bF)(x:Str × Int)(ws:Xa)(h:Str):ld f (x::ws) h=(if f x.1=h then x.2 else 0)+ld f ws h:=by
 unfold ld;by_cases e:f x.1=h
 ·simp[e]
 simp[e]
theorem Qg{f:bF}{h:Str}:∀{ws:Xa},(∀x∈ws,0<=x.2/\x.2<=1000000000)->ld f ws h<=1000000000 * ws.length
 |[],_=>by
  unfold ld;simp
 |x::ws,p=>by
  let h1:=p x gF;let h2:=Qg (f:=f) (h:=h) (ws:=ws) λy hy=>p y (fX _ hy);rw[YS,iR];by_cases z:f x.1=h
  ·rw[aI z];omega
  rw[aC z];omega
def f_(hs:Xa):Int:=jD ((aS hs).map (strOf hs))
theorem AK{hs:Xa}{ts:Xb}(G:Good hs ts){n:Str}(h:n∈aS hs):1<=strOf hs n/\strOf hs n<=1000:=(G.aA _ (IV ((gN hs).mem_iff.mp h))).2
variable{i:Nat}
variable{fd:Ae}
section v
theorem vx:bJ ["numbers","found","number"] ["numbers"] (a9 JY):=bV
def CT(K:ai):Sp:=λvs H Q _=>∃(l:Addr) (ns:List Int),vs=[.ref l]/\dS K H l (ns.map V.int)/\(∀n∈ns,1<=n/\n<=1000)/\Q (.int (jD ns)) H
theorem Zx(h:ns[i]? = some n):jD (ns.take (i+1))=gI (jD (ns.take i)) n:=by
 unfold jD;rw[tZ,h,List.foldl_append];rfl
theorem es_{y:V}(h:(ns.map V.int)[i]? = some y):∃n,ns[i]? = some n/\y=.int n:=by
 rw[dC] at h;cases e:ns[i]? with
 |none=>rw[e] at h;cases h
 |some n=>rw[e] at h;exact#[n,U,(cX h).symm]
theorem X1{f:Addr}(F:bo K "least_multiple" "least_multiple" JY f fd)(cG:!br 1 BL mw vq):!ao a_ 2 f fd ["numbers"] (CT K):=by
 exists F.bU vx;let#[l,ns,rfl,hl,b,k]:=h;refine' #[_,au ?s1 (au ?s2 (aF ?s3)),?kk]
 case s1=>exact bu 1 vx.nd ay
 case s2=>exact d0 dM U (dX (pv 0)) (cu 2 vx.nd) (aF (bu 1 vx.nd (bP qb (bP Fh (pv 1) (bc cG hr %[1,2|0])) (pv 2))))
 case s3=>exact bp (pv 1)
 apply#[_,U,l,U,#[_,hl],ib (K:=K) (a:=l) (xs:=ns.map V.int) (λi σ H'=>H'=H/\∃(v2:aH),σ=[some (.ref l),some (.int (jD (ns.take i))),v2]) #[U,none,U] (λi σ H' _ ⟨e,_⟩=>by rw[e];exact hl) ?_ ?_]
 ·rintro i y σ H' hy ⟨rfl,v2,rfl⟩;let#[n,hn,rfl]:=es_ hy;let bn:=b n (cZ hn)
  let p:=MF (ns:=ns.take i) λm hm=>by
   have:=b m (List.take_subset _ _ hm);omega
  apply#[_,U,_,U,_,U,_,_,U,iP p,by omega,_,_,U,U,XZ Z2 bn.2,_,U,_,_,U,U,.inr #[by omega,by omega],U,some (.int n),?_];rw[Zx hn];rfl
 rintro σ H' ⟨rfl,v2,rfl⟩;apply#[_,U,?_];rw[aq,eR];exact k
theorem yX:bJ ["web"] ["web"] (a9 rH):=bV
inductive Ho (K:ai) (C:Addr) (vs:af) (H:Hp) (Q:VK) (E:XK):Prop
 |mk:∀(p:Addr) (hs:Xa) (ts:Xb) (fp:av),vs=[.ref p]->h_ K C H p hs ts fp->Good hs ts->(∀H',aa H H'->Q (.int (f_ hs)) H')->Ho K C vs H Q E
theorem Yg{f CW:Addr}(F:bo K j0 j0 rH f fd)(TW:Txt K mg CW)(cL:!br 2 "least_multiple" ["numbers"] (CT K))(cH:!bM CW 1 "hands" ow (Fv K CW))(cS:!bM CW 2 "strength" wg (I0 K CW)):!ao a_ 3 f fd ["web"] (Ho K CW):=by
 exists F.bU yX;let#[p,hs,ts,fp,rfl,W,G,k]:=h;let sz:=cq;let nl:=G.iB;let h8:=G.h8;refine' #[_,aF (bp (bc cL hr %[js ["hand","web"] 1 [0] (dX (xW cH TW.cl (hr.mono (by decide)) (pv 0))) (λfp s H=>fW (i:=0) (show (["hand","web"]:ag).Nodup by decide +kernel) U (Or.inl U)) (λfp s H=>kE) (λfp s H=>?e1)|0])),?kk]
 case e1=>exact iX cS TW.cl hr (pv 1) %[0|0]
 let#[jK,d1,l2,d3,wM,as,ef,w1,_]:=id W.ex;apply#[_,U,p,jK,_,U,w1,pC _ _ _ Z0 Z0 Z0,p,hs,ts,fp,U,W,λlh fZ=>?_];let#[s1,e1]:=aD (o:=.lst ((aS hs).map V.str)) fZ;generalize upd H lh (.lst ((aS hs).map V.str))=H1 at s1 e1 ⊢;apply#[lh,U,#[_,.of e1],λD hD=>?_];apply kK (own:=1) (fv:=[some (.ref p)]) (xs:=(aS hs).map V.str) U fE (λi out H'=>aa H1 H'/\H' D\.lst out/\out=(((aS hs).take i).map (strOf hs)).map V.int) #[aa.new hD,az,U] (λi out H' _ ⟨sm,_,_⟩=>.of (sm _ _ e1)) (λout H5 ⟨sm,i7,eo⟩=>?_) (λi y out H' hy ⟨sm,dF,eo⟩=>?_)
 ·rw[aq,eR] at eo;rw[eo] at i7;apply#[D,_,U,.of i7,λn hn=>?_,k H5 (s1.trans sm)];let#[m,hm,rfl]:=bG.mp hn;exact AK G hm
 let#[n,hn,rfl]:=mG hy;have hi:i<(aS hs).length:=(bW.mp hn).1;apply#[_,U,U,λNx hN=>fw ?_];let W':=(W.same s1).same sm;let#[jK,d1,l2,d3,wM,as,ef,w1,_]:=id W'.ex;apply#[_,U,p,jK,_,U,w1,pC _ _ _ Z0 Z0 Z0,_,U,p,n,strOf hs n,hs,ts,fp,U,W',G.pR,IV ((gN hs).mem_iff.mp (cZ hn)),?_];apply#[out,dF,by rw[eo,aq,aq,dJ];omega,hN _ _ #[fL sm hD,az,?_]];rw[uP hn,eg,eg,eo];rfl
theorem FG:bJ ["goods","placed","multiple","found","hand","load"] pb (a9 Nf):=bV
def fK(hs:Xa)(qs:aP)(f:bF)(h:Str):Int:=ld f (qs.map fe) h * (f_ hs / strOf hs h)
inductive MP (K:ai) (CG CW:Addr) (vs:af) (H:Hp) (Q:VK) (E:XK):Prop
 |mk:∀(g p d:Addr) (hs:Xa) (ts:Xb) (qs:aP) (fp:av) (f:bF),vs=[.ref g,.ref d]->B1 K CG CW H g p d hs ts qs fp f->(∀q∈qs,0<=q.2.1/\q.2.1<=1000000000)->(∀d' H',aa H H'->H d'=none->H' d'\.dK (dU (aS hs) λh=>.int (fK hs qs f h))->Q (.ref d') H')->MP K CG CW vs H Q E
theorem GL{qs:aP}(wp:∀q∈qs,0<=q.2.1/\q.2.1<=1000000000)(cY:qs.length<64)(f:bF)(h:Str):0<=ld f (qs.map fe) h/\ld f (qs.map fe) h<=64000000000:=by
 have p:∀x∈qs.map fe,0<=x.2/\x.2<=1000000000:=λx hx=>by
  let#[q,hq,rfl]:=bG.mp hx;exact wp q hq
 let h1:=Qg (f:=f) (h:=h) p;rw[aq] at h1;exact#[X5 λx hx=>(p x hx).1,by omega]
theorem h4_{f CG CW:Addr}(F:bo K "levels_at" "levels_at" Nf f fd)(T:fY K CG)(TW:Txt K mg CW)(cL:!br 3 "loads_at" pb (NA K CG CW))(cM:!br 3 j0 ["web"] (Ho K CW))(cS:!bM CW 2 "strength" wg (I0 K CW)) :
  ao P w K mg base a_ 4 f fd pb (MP K CG CW):=by
 exists F.bU FG;let#[g,p,d,hs,ts,qs,fp,f,rfl,Pl,wp,k]:=h;let hu:=fG hr;let sz:=cq;have nZ:aO 2 _:=hr.mono (by decide);refine' #[_,?r0,?kk]
 case' r0=>refine' au ?s0 (au ?s1 (au ?s2 ?r2))
 case s0=>exact bu 2 FG.nd (bc cM hr %[gG (pv 0) U|0])
 case s1=>exact bu 3 FG.nd Fx
 case' s2=>refine' d0 dM U ?i2 ?g2 (aF ?b2)
 case i2=>exact MN (IA (bc cL hr %[0,1|0]))
 case g2=>exact mr U (dN (cu 4 FG.nd) (dN (cu 5 FG.nd) jh))
 case b2=>exact tT hu (pv 3) (pv 4) (bP qb (pv 5) (bP Fh (pv 2) (iX cS TW.cl nZ (gG (pv 0) U) %[4|0]))) U
 case r2=>exact aF (bp (pv 3))
 let nl:=Pl.Gd.iB;let h8:=Pl.Gd.h8;let#[dx,dw,dy,vs,dk,h1,h2,_]:=id Pl.G.ex;apply#[_,U,g,CG,dx,_,_,U,h1,T.cl,T.nW,yb _ _ _,p,hs,ts,dk,U,h2,Pl.Gd,λH0 s0=>?_];intro d2 hd2;let s1:=s0.trans (aa.new (o:=.dK []) hd2);have e1:upd H0 d2 (.dK []) d2\.dK []:=az;have n2:H d2=none:=s0.free hd2;show vk _ _ _ _ (upd H0 d2 (.dK []));generalize upd H0 d2 (.dK [])=H1 at s1 e1 ⊢;have Pl1:B1 K CG CW H1 g p d hs ts qs fp f:=#[Pl.G.same s1,Pl.Gd,Pl.tH,s1 _ _ Pl.hd,Pl.at_,Pl.nd,Pl.cY];apply#[_,U,_,U,g,p,d,hs,ts,qs,fp,f,U,Pl1,λdl H2 s2 BD e2=>?_];apply#[dl,_,U,e2,λv hv=>?_];let#[s3,xv]:=aD (o:=tR v dl) hv;let e3:=s3 _ _ e2;let J5:=s2.trans s3;generalize upd H2 v (tR v dl)=H3 at s3 xv e3 J5 ⊢;have WV:H dl=none:=s1.free BD;have TJ:d2≠dl:=bz e1 BD;apply#[v,dl,_,U,xv,e3,λo=>?_];apply N6 (λi σ H'=>∃(v4 v5:aH),σ=[some (.ref g),some (.ref d),some (.int (f_ hs)),some (.ref d2),v4,v5]/\aa H H'/\H' dl\.frz o (.dK (P9 hs qs f))/\H' d2\.dK (dU ((aS hs).take i) λh=>.int (fK hs qs f h))) #[none,none,U,fL (s1.trans J5) WV,az,by rw[aw TJ];exact J5 _ _ e1] (λi σ H' _ ⟨_,_,_,_,z,_⟩=>z) ?_ ?_
 ·rintro i ky x σ H8 hx ⟨v4,v5,rfl,s8,f8,e8⟩ t ht;let#[n,hn,rfl,rfl]:=Lm hx;have hi:i<(aS hs).length:=(bW.mp hn).1;have nm:n∈hs.map (·.1):=(gN hs).mem_iff.mp (cZ hn);let sm:=IV nm;let sg:=AK Pl.Gd (cZ hn);let lo:=GL wp Pl.cY f n;let ss:=aa.new (o:=.tup [.str n,.int (ld f (qs.map fe) n)]) ht;let s9:=s8.trans ss;let e9:=ss _ _ e8;let f9:=ss _ _ f8;have et:upd H8 t (.tup [.str n,.int (ld f (qs.map fe) n)]) t\.tup [.str n,.int (ld f (qs.map fe) n)]:=az;show fR _ _ _ _ _ (upd H8 t (.tup [.str n,.int (ld f (qs.map fe) n)])) _;generalize upd H8 t (.tup [.str n,.int (ld f (qs.map fe) n)])=H9 at ss s9 e9 f9 et ⊢;apply#[t,_,U,.of et,U,_,_,U,_,_,U,U,?_];let G9:=Pl.G.same s9;let#[dx,dw,dy,vs,dk,h1,h2,h3,h4,h5,m1,m2,m3,m4,m5]:=id G9.ex;let#[jK,d1,l2,d3,wM,as,ef,w1,_]:=id h2.ex;have zR:(fh d1 l2 d3).lookup ("strength":Str)=none:=pC _ _ _ Z0 Z0 Z0;apply#[_,U,_,U,_,U,g,CG,dx,_,_,U,h1,T.cl,T.nW,yb _ _ _,p,jK,_,U,w1,zR,_,U,p,n,strOf hs n,hs,ts,dk,U,h2,Pl.Gd.pR,sm,?_];apply#[_,_,U,U,#[by omega,by omega],_,_,U,U,.inl #[by omega,by omega],_,U,_,U,d2,_,U,.k (k:=Sum.inr n) e9 (by rw[oy,dJ];omega),?_];apply#[_,_,U,fL s9 n2,by rw[aw TJ.symm];exact f9,?_];rw[az,uP hn,Rz (Si Pl.Gd.oW hn)];congr 2;apply IY λm _=>?_;by_cases z:m=n
  ·subst z;simp[fK]
  simp[z]
 rintro σ H8 ⟨v4,v5,rfl,s8,f8,e8⟩;rw[oy,eR] at e8;exact#[_,U,k d2 H8 s8 n2 e8]
end
end Ev
namespace L2
open PySem PySem.Spec PyProof.Rows PySem.W
variable{vs:List (Key × Aa)}{prog:Ad}{w:Af}{A:Ag}
theorem TB{d it:Addr}{ep:Nat}(hh:A.handled=none)(l7:d≠it):Walks prog w A it [it,d] [it] vs.length (λi v=>∃k,vs[i]? = some (k,v)) (λi h=>h.IsValIter it d i vs.length ep/\h.DictAt (dW prog w) d vs ep) where
 sub:=λb hb=>by simp at hb;simp[hb]
 frame:=λi h h' st k=>#[st.1.at λo e=>k it Y0 o e,by
  let#[o,es,ho,r]:=st.2;exact#[o,es,k d Y0 o ho,r]]
 item:=by
  intro i s Q E hi st h;obtain⟨⟨k,v⟩,hx⟩:∃p,vs[i]? = some p:=#[vs[i],by simp[hi]];apply wpAny_pyNext_values_item st.1 st.2 hx λh' d_ sb=>?_;apply h v h' s.toks #[k,hx] #[d_,?_] λb o hb e=>(sb.2 b ⇑hb).trans e;let#[o,es,ho,r]:=st.2;exact#[o,es,(sb.2 d l7).trans ho,r]
 done:=by
  intro s Q E st h;exact wpAny_pyNext_values_end hh st.1 st.2 Y0 λh' eb=>h h' s.toks λb o hb e=>eb b o ⇑hb e
 self:=λ_ _ _ _ st h=>wpAny_pyIter_valiter st.1 h
theorem HS{ns:List (Key × Int)}(r:KV (ns.map λx=>(x.1,V.int x.2)) vs){i:Nat}{k:Key}{v:Aa}(h:vs[i]? = some (k,v)):∃n t,(ns.map (·.2))[i]? = some n/\v=.int n t:=by
 let hl:=r.length;rw[aq] at hl
 have hi:i<ns.length:=by
  have:=(bW.mp h).1;omega
 let#[u,hu,ru]:=LX r i (k:=(ns[i]'hi).1) (x:=V.int (ns[i]'hi).2) (by rw[dC,aY hi];rfl);rw[h] at hu;let e:=ed Prod.snd (cX hu);let#[t,rfl]:=(show ∃t,u=Value.int (ns[i]'hi).2 t from ru);exact#[_,t,by rw[dC,aY hi];rfl,e]
inductive xi (xs:af) (H:Hp) (Q:VK):Prop
 |mk:∀(v d:Addr) (ns:List (Key × Int)),xs=[.ref v]->H v\qc v d->Rd H d (.dK (ns.map λx=>(x.1,V.int x.2)))->0<ns.length->(∀m,m∈ns.map (·.2)->(∀a∈ns.map (·.2),a<=m)->Q (.int m) H)->xi xs H Q
inductive xh (xs:af) (H:Hp) (Q:VK):Prop
 |mk:∀(v d:Addr) (ns:List (Key × Int)),xs=[.ref v]->H v\qc v d->Rd H d (.dK (ns.map λx=>(x.1,V.int x.2)))->0<ns.length->(∀m,m∈ns.map (·.2)->(∀a∈ns.map (·.2),m<=a)->Q (.int m) H)->xh xs H Q
variable{X:Cx}
theorem gt_(hc:X.calm=true):gr X (.builtin "max") xi:=by
 intro pins s σ H xs us Q I r h;let#[v,d,ns,rfl,hv,hd,h0,q]:=h;let#[u,rfl,ru]:=vals1 r;cases ru;let#[z,l7,vs,rel,dd]:=kD I.aA hd;let#[ep,dat]:=dd.dictAt;let#[iv,_,_]:=I.aA v _ hv;let hl:=rel.length;rw[aq] at hl
 have E6:d<s.heap.objs.size:=by
  let#[o,es,ho,_]:=dat;exact bx ho
 apply call_max_walk (wpAny_pyIter_values (knd:=dW X.prog X.w) (kvs:=vs) (ep:=ep) iv dat ?_);apply⟨s.heap.objs.size,[s.heap.objs.size,d],[s.heap.objs.size],vs.length,λi v=>∃k,vs[i]? = some (k,v),_,_,rfl,TB (ep:=ep) (I.ok.hd hc) (dD E6),⟨⟨_,cJ _ rfl,rfl,rfl⟩,?_⟩,λb hb=>?_,by omega,CmpOf.ints_gt (λi=>((ns.map (·.2))[i]?).getD 0) (λi v ⟨k,hv⟩=>?_),λv' h' tk hP k=>?_⟩
 ·let#[o,es,ho,r]:=dat;exact⟨o,es,aQ _ ho,r⟩
 ·have hb:b=s.heap.objs.size∨b=d:=⇑hb
  show b<(s.heap.objs.push _).size;rw[Array.size_push];rcases hb with e|e
  ·rw[e];exact Nat.lt_succ_self _
  rw[e];exact Nat.lt_succ_of_lt E6
 ·let#[n,t,e1,e2]:=HS rel hv;apply⟨t,?_⟩;rw[e1];exact e2
 let#[k',D0]:=hP;let#[n,t,e1,rfl]:=HS rel D0;let#[b1,b2]:=argBest_gt (λi=>((ns.map (·.2))[i]?).getD 0) (vs.length - 1);rw[e1] at b2;apply⟨.int n,H,I.kept (t':=tk) (λb o e=>k b o (λm=>?_) (aQ _ e)),⟨t,rfl⟩,q n (cZ e1) λa ha=>?_⟩
 ·have m:b=s.heap.objs.size:=⇑m
  exact absurd m (dD (bx e))
 let#[j,hj,ej]:=ia ha;have:=b2 j (by rw[aq] at hj;omega);rw[aY hj,ej] at this;exact this
theorem gP_(hc:X.calm=true):gr X (.builtin "min") xh:=by
 intro pins s σ H xs us Q I r h;let#[v,d,ns,rfl,hv,hd,h0,q]:=h;let#[u,rfl,ru]:=vals1 r;cases ru;let#[z,l7,vs,rel,dd]:=kD I.aA hd;let#[ep,dat]:=dd.dictAt;let#[iv,_,_]:=I.aA v _ hv;let hl:=rel.length;rw[aq] at hl
 have E6:d<s.heap.objs.size:=by
  let#[o,es,ho,_]:=dat;exact bx ho
 apply call_min_walk (wpAny_pyIter_values (knd:=dW X.prog X.w) (kvs:=vs) (ep:=ep) iv dat ?_);apply⟨s.heap.objs.size,[s.heap.objs.size,d],[s.heap.objs.size],vs.length,λi v=>∃k,vs[i]? = some (k,v),_,_,rfl,TB (ep:=ep) (I.ok.hd hc) (dD E6),⟨⟨_,cJ _ rfl,rfl,rfl⟩,?_⟩,λb hb=>?_,by omega,CmpOf.ints_lt (λi=>((ns.map (·.2))[i]?).getD 0) (λi v ⟨k,hv⟩=>?_),λv' h' tk hP k=>?_⟩
 ·let#[o,es,ho,r]:=dat;exact⟨o,es,aQ _ ho,r⟩
 ·have hb:b=s.heap.objs.size∨b=d:=⇑hb
  show b<(s.heap.objs.push _).size;rw[Array.size_push];rcases hb with e|e
  ·rw[e];exact Nat.lt_succ_self _
  rw[e];exact Nat.lt_succ_of_lt E6
 ·let#[n,t,e1,e2]:=HS rel hv;apply⟨t,?_⟩;rw[e1];exact e2
 let#[k',D0]:=hP;let#[n,t,e1,rfl]:=HS rel D0;let#[b1,b2]:=argBest_lt (λi=>((ns.map (·.2))[i]?).getD 0) (vs.length - 1);rw[e1] at b2;apply⟨.int n,H,I.kept (t':=tk) (λb o e=>k b o (λm=>?_) (aQ _ e)),⟨t,rfl⟩,q n (cZ e1) λa ha=>?_⟩
 ·have m:b=s.heap.objs.size:=⇑m
  exact absurd m (dD (bx e))
 let#[j,hj,ej]:=ia ha;have:=b2 j (by rw[aq] at hj;omega);rw[aY hj,ej] at this;exact this
end L2
namespace EvM
open PySem PySem.Spec PyProof.Rows PySem.W
end EvM
namespace L2
open PySem PySem.Spec PyProof.Rows PySem.W
theorem SR{X:Cx}:d9 X (binaryOp .FloorDiv) (rI (λ_ j=>0<j/\j<2 ^ 100) λi j=>.int (i / j)):=Bs λi j _ _ _ _ _ hc q=>by
 have h1:(0:Int)<j:=hc.1;have h2:j<2 ^ 100:=hc.2;apply floordiv_int Z2 (by rw[Int.fdiv_eq_ediv_of_nonneg i Z2];exact q) (.inl (PyProof.noPylong_of_log2 ?_));have:j.natAbs.log2<100:=(Nat.log2_lt Z2).mpr Z2;omega
end L2
namespace Ev
open PySem L2
theorem Xu{La Lb Sa Sb ca cb M:Int}(h1:ca * Sa=M)(h2:cb * Sb=M):(La * Sb - Lb * Sa) * M=Sa * Sb * (La * ca - Lb * cb):=by
 have e1:La * Sb * M=Sa * Sb * (La * ca):=by rw[<- h1];grind
 have e2:Lb * Sa * M=Sa * Sb * (Lb * cb):=by rw[<- h2];grind
 rw[Int.sub_mul,Int.mul_sub,e1,e2]
theorem YJ{a n:Int}(ha:0<a)(hn:0<n)(h2:n<=1000):gI a n<=a * 1000:=by
 unfold gI
 have g:0<(Int.gcd a n:Int):=by
  have:=Int.gcd_pos_of_ne_zero_right a (show n≠0 by omega);omega
 have k1:a / (Int.gcd a n:Int)<=a:=Int.ediv_le_self _ (iP ha);have k0:0<=a / (Int.gcd a n:Int):=Int.ediv_nonneg (iP ha) (iP g);exact Int.mul_le_mul k1 h2 (iP hn) (iP ha)
theorem QF:∀(ns:List Int) (a:Int),0<a->(∀n∈ns,0<n/\n<=1000)->ns.foldl gI a<=a * 1000 ^ ns.length
 |[],a,_,_=>by simp
 |n::ns,a,ha,h=>by
  let hn:=h n gF
  have p:0<gI a n:=by
   have:=(Ip [n] a ha ⇑(hn.1)).1;exact this
  let k1:=QF ns (gI a n) p λm hm=>h m (fX _ hm);let k2:=YJ ha hn.1 hn.2;have e:(0:Int)<=1000 ^ ns.length:=Int.pow_nonneg (by decide);rw[List.foldl_cons,iR,Int.pow_succ];apply Int.le_trans k1 ?_;have:=Int.mul_le_mul_of_nonneg_right k2 e;have e2:a * 1000 * 1000 ^ ns.length=a * (1000 ^ ns.length * 1000):=by grind
  rw[e2] at this;exact this
theorem BR{hs:Xa}{ts:Xb}(G:Good hs ts):0<f_ hs/\f_ hs<2 ^ 100/\∀n∈aS hs,f_ hs / strOf hs n * strOf hs n=f_ hs:=by
 have pos:∀m∈(aS hs).map (strOf hs),0<m/\m<=1000:=λm hm=>by
  let#[x,hx,rfl]:=bG.mp hm;have:=AK G hx;omega
 have oS:∀m∈(aS hs).map (strOf hs),0<m:=λm hm=>(pos m hm).1;apply#[MF oS,?_,λn hn=>Int.ediv_mul_cancel (_c oS (bG.mpr #[_,hn,U]))];let k:=QF _ 1 (by decide) pos;rw[aq,G.iB,Int.one_mul] at k;let h8:=G.h8
 have k2:(1000:Int) ^ hs.length<=1000 ^ 8:=by
  have:(1000:Nat) ^ hs.length<=1000 ^ 8:=Nat.pow_le_pow_right (by decide) h8
  exact_mod_cast this
 have:f_ hs<=1000 ^ 8:=Int.le_trans k k2;have e:(1000:Int) ^ 8<2 ^ 100:=by decide
 omega
theorem XX{hs:Xa}{ts:Xb}(G:Good hs ts){qs:aP}(wp:∀q∈qs,0<=q.2.1/\q.2.1<=1000000000)(cY:qs.length<64){f:bF}{n:Str}(hn:n∈aS hs):0<=fK hs qs f n:=
 Int.mul_nonneg (GL wp cY f n).1 (Int.ediv_nonneg (iP (BR G).1) (by have:=AK G hn;omega))
def Hw(hs:Xa)(qs:aP)(f:bF)(r:Int):Prop:=∃x∈aS hs,∃y∈aS hs,r=fK hs qs f x - fK hs qs f y/\∀z∈aS hs,fK hs qs f z<=fK hs qs f x/\fK hs qs f y<=fK hs qs f z
variable{fd:Ae}
section v
theorem qX:bJ ["top","below","divisor"] ["top","below"] (a9 rQ):=bV
def qK:Sp:=λvs H Q _=>∃a b:Int,vs=[.int a,.int b]/\0<=a/\0<b/\b<2 ^ 100/\∀t,H t=none->Q (.ref t) (upd H t (.tup [.int (fr a b).1,.int (fr a b).2]))
theorem Zb{f:Addr}(F:bo K "fraction_of" "fraction_of" rQ f fd)(cG:!br 1 BL mw vq):!ao a_ 2 f fd ["top","below"] qK:=by
 exists F.bU qX;let#[a,b,rfl,ha,hb,mh,k]:=h
 have g:0<(Int.gcd a b:Int)/\(Int.gcd a b:Int)<2 ^ 100:=by
  have h1:0<Int.gcd a b:=Int.gcd_pos_of_ne_zero_right a Z2;let h3:=Int.le_of_dvd hb (Int.gcd_dvd_right a b);omega
 apply#[_,au (bu 2 qX.nd (bc cG hr %[0,1|0])) (aF (bp (gh %[bP SR (pv 0) (pv 2),bP SR (pv 1) (pv 2)|0]))),?_];apply#[_,U,_,U,a,b,U,ha,hb,?_];exact#[_,U,_,U,_,_,U,U,g,_,U,_,U,_,_,U,U,g,zl,k]
theorem qR:bJ ["goods","placed","levels"] pb (a9 rg):=bV
inductive kW (K:ai) (CG CW:Addr) (vs:af) (H:Hp) (Q:VK) (E:XK):Prop
 |mk:∀(g p d:Addr) (hs:Xa) (ts:Xb) (qs:aP) (fp:av) (f:bF),vs=[.ref g,.ref d]->B1 K CG CW H g p d hs ts qs fp f->(∀q∈qs,0<=q.2.1/\q.2.1<=1000000000)->(∀r H',aa H H'->Hw hs qs f r->Q (.int r) H')->kW K CG CW vs H Q E
theorem YV{f CG CW:Addr}(F:bo K "rise_at" "rise_at" rg f fd)(B:Bi mg)(l0:mg "min"=none)(cV:!br 4 "levels_at" pb (MP K CG CW)):!ao a_ 5 f fd pb (kW K CG CW):=by
 exists F.bU qR;let#[g,p,d,hs,ts,qs,fp,f,rfl,Pl,wp,k]:=h;let nl:=Pl.Gd.iB;let h1:=Pl.Gd.h1;refine' #[_,au ?s1 (aF ?s2),?kk]
 case s1=>exact bu 2 qR.nd (bc cV hr %[0,1|0])
 case s2=>exact bp (bP AN (cy (gt_ U) (by rfl) B.max PyProof.Rows.Boot.«max» %[IK (pv 2)|0]) (cy (gP_ U) (by rfl) l0 L9 %[IK (pv 2)|0]))
 apply#[_,U,_,U,g,p,d,hs,ts,qs,fp,f,U,Pl,wp,λdv H1 s1 n1 e1=>?_]
 have em:((aS hs).map λh=>((Sum.inr h:Key),fK hs qs f h)).map (·.2)=(aS hs).map (fK hs qs f):=by
  rw[cz];rfl
 have MB:dU (aS hs) (λh=>V.int (fK hs qs f h))=((aS hs).map λh=>((Sum.inr h:Key),fK hs qs f h)).map λx=>(x.1,V.int x.2):=by
  rw[cz];rfl
 rw[MB] at e1;apply#[_,U,dv,_,U,e1,λv hv=>?_];let#[s2,ev]:=aD (o:=qc v dv) hv;generalize upd H1 v (qc v dv)=H2 at s2 ev ⊢;apply#[v,dv,(aS hs).map λh=>((Sum.inr h:Key),fK hs qs f h),U,ev,.of (s2 _ _ e1),by rw[aq];omega,λm hm mx=>?_];rw[em] at hm mx;apply#[_,U,dv,_,U,s2 _ _ e1,λv2 _l=>?_];let#[s3,Sk]:=aD (o:=qc v2 dv) _l;generalize upd H2 v2 (qc v2 dv)=H3 at s3 Sk ⊢;apply#[v2,dv,(aS hs).map λh=>((Sum.inr h:Key),fK hs qs f h),U,Sk,.of (s3 _ _ (s2 _ _ e1)),by rw[aq];omega,λm2 QV mn=>?_];rw[em] at QV mn;let#[x,hx,rfl]:=bG.mp hm;let#[y,hy,rfl]:=bG.mp QV;exact#[_,_,U,U,k _ H3 (s1.trans (s2.trans s3)) #[x,hx,y,hy,U,λz hz=>#[mx _ (bG.mpr #[z,hz,U]),mn _ (bG.mpr #[z,hz,U])]]]
theorem eA':bJ pb pb (a9 Nz):=bV
inductive NI (K:ai) (CG CW:Addr) (vs:af) (H:Hp) (Q:VK) (E:XK):Prop
 |mk:∀(g p d:Addr) (hs:Xa) (ts:Xb) (qs:aP) (fp:av) (f:bF),vs=[.ref g,.ref d]->B1 K CG CW H g p d hs ts qs fp f->(∀q∈qs,0<=q.2.1/\q.2.1<=1000000000)->(∀t r H',aa H H'->Hw hs qs f r->H' t\.tup [.int (fr r (f_ hs)).1,.int (fr r (f_ hs)).2]->Q (.ref t) H')->NI K CG CW vs H Q E
theorem eF_{f CG CW:Addr}(F:bo K "spread_at" "spread_at" Nz f fd)(T:fY K CG)(cR:!br 5 "rise_at" pb (kW K CG CW))(cM:!br 3 j0 ["web"] (Ho K CW))(cF:!br 2 "fraction_of" ["top","below"] qK):!ao a_ 6 f fd pb (NI K CG CW):=by
 apply F.bU eA' λaL A outer s H vs Q E hr h=>?_;let#[g,p,d,hs,ts,qs,fp,f,rfl,Pl,wp,k]:=h;let mo:=BR Pl.Gd;apply#[_,aF (bp (bc cF hr %[bc cR hr %[0,1|0],bc cM hr %[gG (pv 0) U|0]|0])),?_];apply#[_,U,_,U,g,p,d,hs,ts,qs,fp,f,U,Pl,wp,λr H1 s1 ir=>?_];let G1:=Pl.G.same s1;let#[dx,dw,dy,vs,dk,h1,h2,_]:=id G1.ex;apply#[_,U,g,CG,dx,_,_,U,h1,T.cl,T.nW,yb _ _ _,p,hs,ts,dk,U,h2,Pl.Gd,λH2 s2=>?_]
 have r0:0<=r:=by
  let#[x,hx,y,hy,rfl,b]:=ir;have:=(b y hy).1;omega
 exact#[r,f_ hs,U,r0,mo.1,mo.2.1,λt ht=>k t r _ ((s1.trans s2).trans (aa.new ht)) ir az]
end
end Ev
namespace fI
open PySem PySem.W PyProof.Rows
inductive Src (h:Heap) (it l:Addr) (i:Nat) (xs:Array Aa):Prop
 |lst (a:h.IsListIter it l i) (b:h.IsList l xs):Src h it l i xs
 |tup (a:h.IsTupleIter it l i) (b:h.IsTuple l xs):Src h it l i xs
variable{h:Heap}{it l:Addr}{i:Nat}{xs:Array Aa}
theorem Src.keep{h':Heap}(x:Src h it l i xs)(k1:∀o,h.get? it\o->h'.get? it\o)(k2:∀o,h.get? l\o->h'.get? l\o):Src h' it l i xs:=by
 cases x with
 |lst a b=>exact .lst (a.at k1) (b.at k2)
 |tup a b=>exact .tup (a.at k1) (by let#[o,e,r]:=b;exact#[o,k2 o e,r])
variable{ys:Array Aa}
theorem oz(a:h.IsList l xs)(b:h.IsTuple l ys):False:=by
 let#[o,e,c,_]:=a;let#[u,f,d,_]:=b;rw[e] at f;cases f;rw[c] at d;simp at d
theorem Src.Qj(x:Src h it l i xs)(b:h.IsList l ys):h.IsListIter it l i:=by
 cases x with
 |lst a _=>exact a
 |tup _ c=>exact (oz b c).elim
theorem Src.pO(x:Src h it l i xs)(b:h.IsTuple l ys):h.IsTupleIter it l i:=by
 cases x with
 |tup a _=>exact a
 |lst _ c=>exact (oz c b).elim
theorem Src.lt(x:Src h it l i xs):it<h.objs.size/\l<h.objs.size:=by
 cases x with
 |lst a b=>let#[o,e,_]:=a;let#[u,f,_]:=b;exact#[bx e,bx f]
 |tup a b=>let#[o,e,_]:=a;let#[u,f,_]:=b;exact#[bx e,bx f]
variable{x:Aa}{E Q:Aa->Ab->Prop}{prog:Ad}{w:Af}{A:Ag}{s:Ab}
theorem nextT{t:Addr}(hit:s.heap.IsTupleIter it t i)(ht:s.heap.IsTuple t xs)(hx:xs[i]? = some x)(hQ:∀h',h'.IsTupleIter it t (i+1)->Heap.SameBut it s.heap h'->Q x { s with heap:=h' }):wpAny (model prog w) A (Builtin.SmallTypes.nextOf (.ref it)) Q E s:=by
 let#[o,ho,hc,hd]:=id hit;let#[u,hu,_,n,hv]:=ht;unfold Builtin.SmallTypes.nextOf;apply ae (uR (name:=Str.ofString "__next__") hit.typeIs F.slot_tuple_iterator_next (tK F.slot_tuple_iterator_next hit.typeIs F.entry_tuple_iterator_next ?_ (F.args_tuple_iterator_next_1 _)));apply (show wpAny _ _ (field (.ref it) 0 >>= _) _ _ s from ae (fF ho hd (x:=.ref t) U ?_));apply (show wpAny _ _ (if (Value.ref t == Value.none)=true then _ else _) _ _ s from ?_);rw[aC (show ¬((Value.ref t == Value.none)=true) from gM)];apply (show wpAny _ _ (field (.ref it) 1 >>= _) _ _ s from ae (fF ho hd (x:=.int i 0) U ?_));apply (show wpAny _ _ (seqItems? (.ref t) >>= _) _ _ s from ae (mj hu hv ?_));simp only[yl,hx];apply ae (wpAny_setField ho hd Y0 (aE #[x,U,aE (hQ _ #[_,Heap.get?_update_self _ ho (Obj.isFreed_of_fields (Obj.data_mapFields hd _)),(Obj.cls_mapFields ..).trans hc,?_] (Heap.SameBut.update ..))]));rw[Obj.data_mapFields hd];simp[rawInt]
theorem Src.next(z:Src s.heap it l i xs)(ne:l≠it)(hx:xs[i]? = some x)(hQ:∀h',Src h' it l (i+1) xs->Heap.SameBut it s.heap h'->Q x { s with heap:=h' }):wpAny (model prog w) A (Builtin.SmallTypes.nextOf (.ref it)) Q E s:=by
 cases z with
 |lst a b=>exact wpAny_nextOf_list_item a b hx λh' a' sb=>hQ h' (.lst a' (b.extBut sb.extBut ne)) sb
 |tup a b=>exact nextT a b hx λh' a' sb=>hQ h' (.tup a' (b.extBut sb.extBut ne)) sb
abbrev Zp(h:Heap)(z TI TO:Addr)(f0:Aa)(f1:Bool):Prop:=h.get? z=some { cls:=.type "zip",dict:=none,data:=.fields (List.toArray [f0,.bool f1,.bool false,.ref TI,.ref TO]),slots:=#[] }
abbrev e_(h:Heap)(T:Addr)(xs:Array Aa):Prop:=h.get? T=some { cls:=.type "tuple",data:=.seq xs }
variable{k:Nat}
theorem Fw{T:Addr}{Q:Unit->Ab->Prop}(hT:e_ s.heap T xs)(h3:xs.size<=3)(h:∀h',e_ h' T (xs.setIfInBounds k x)->Heap.SameBut T s.heap h'->Q () { s with heap:=h' }):wpAny (model prog w) A (updateSeq T (·.setIfInBounds k x)) Q E s:=by
 apply wpAny_updateSeq hT U (h _ ?_ (Heap.SameBut.update ..)) (hz:=iQ h3 (by decide)) (_hz':=by rw[Array.size_setIfInBounds];exact iQ h3 (by decide));show Heap.get? _ _=_;rw[Heap.get?_update_self _ hT U];simp[Obj.mapSeq]
structure oA (h:Heap) (z TI TO i1 i2 i3 l1 l2 l3:Addr) (k:Nat) (xs ys zs:Array Aa):Prop where
 nd:[z,TO,i1,i2,i3].Nodup
 ti:TI∉[z,TO,i1,i2,i3]
 ls:∀l∈[l1,l2,l3],l∉[z,TO,i1,i2,i3]
 hI:e_ h TI (List.toArray [.ref i1,.ref i2,.ref i3])
 hO:∃a b c,e_ h TO (List.toArray [a,b,c])
 s1:Src h i1 l1 k xs
 s2:Src h i2 l2 k ys
 s3:Src h i3 l3 k zs
variable{i1 i2 i3 l1 l2 l3 z:Addr}{zs:Array Aa}{v y:Aa}
theorem gX_{TI TO:Addr}(D:oA s.heap z TI TO i1 i2 i3 l1 l2 l3 k xs ys zs)(hz:Zp s.heap z TI TO .none false)(hx:xs[k]? = some x)(hy:ys[k]? = some y)(hv:zs[k]? = some v)(hQ:∀h',Zp h' z TI TO (rawInt s.heap.objs.size) false->oA h' z TI TO i1 i2 i3 l1 l2 l3 (k+1) xs ys zs->e_ h' s.heap.objs.size (List.toArray [x,y,v])->(∀c o,c∉[z,TO,i1,i2,i3]->s.heap.get? c\o->h'.get? c\o)->Q (.ref s.heap.objs.size) { s with heap:=h' }) :
  wpAny (model prog w) A (Builtin.«zip.__next__» #[[.ref z],[]]) (λfin s'=>∃v,fin=.done (.ret v)/\Q v s') E s:=by
 let#[nd,ti,ls,hI,#[a,b,c,hO],s1,s2,s3]:=D;simp only[iZ,bY,gf,or_false,not_or,not_false_eq_true,List.nodup_nil,and_true] at nd ti ls;let#[#[zO,z1,z2,z3],#[O1,O2,O3],#[sr,Dv],n23]:=nd;let L1:=ls l1 (.inl U);let L2:=ls l2 (.inr (.inl U));let L3:=ls l3 (.inr (.inr U));apply (show wpAny _ _ (field (.ref z) 2 >>= _) _ _ _ from ae (fF hz U (x:=.bool false) U ?_));apply (show wpAny _ _ (field (.ref z) 3 >>= _) _ _ _ from ae (fF hz U (x:=.ref TI) U ?_));apply ae (mj hI U ?_);apply (show wpAny _ _ (Builtin.SmallTypes.ownedTupleIsFree (.ref z) >>= _) _ _ _ from ae ?_);unfold Builtin.SmallTypes.ownedTupleIsFree;apply ae (fF hz U (x:=.none) U (aE ?_));simp only[if_true];apply ae (wpAny_rule (ae (fF hz U (x:=.ref TO) U (ae (p_ hz Y0 λh1 iV e1=>ae ?_)))));replace iV:Zp h1 z TI TO .ellipsis false:=iV;have LQ:e_ h1 TO (List.toArray [a,b,c]):=e1.extBut _ _ (bN zO) hO;let s1:=s1.keep (e1.extBut _ · (bN z1)) (e1.extBut _ · L1.1);let s2:=s2.keep (e1.extBut _ · (bN z2)) (e1.extBut _ · L2.1);let s3:=s3.keep (e1.extBut _ · (bN z3)) (e1.extBut _ · L3.1);simp only[List.zipIdx_cons,List.zipIdx_nil,wH,u4];apply ae (ae (wpAny_onRaise (show wpAny _ _ (Builtin.SmallTypes.nextOf (.ref i1) >>= _) _ _ _ from ae (s1.next L1.2.2.1 hx λh2 s1 e2=>aE ?_))));have EO:e_ h2 TO (List.toArray [a,b,c]):=e2.extBut _ _ O1 LQ;let s2:=s2.keep (e2.extBut _ · (bN sr)) (e2.extBut _ · L2.2.2.1);let s3:=s3.keep (e2.extBut _ · (bN Dv)) (e2.extBut _ · L3.2.2.1);apply ae (mj EO U (ae (Fw EO (bh 3) λh3 Ap e3=>ae (wpAny_letGo (aE ?_)))));replace Ap:e_ h3 TO (List.toArray [x,b,c]):=Ap;let s1:=s1.keep (e3.extBut _ · (bN O1)) (e3.extBut _ · L1.2.1);let s2:=s2.keep (e3.extBut _ · (bN O2)) (e3.extBut _ · L2.2.1);let s3:=s3.keep (e3.extBut _ · (bN O3)) (e3.extBut _ · L3.2.1);apply ae (ae (wpAny_onRaise (show wpAny _ _ (Builtin.SmallTypes.nextOf (.ref i2) >>= _) _ _ _ from ae (s2.next L2.2.2.2.1 hy λh4 s2 e4=>aE ?_))));have EN:e_ h4 TO (List.toArray [x,b,c]):=e4.extBut _ _ O2 Ap;let s1:=s1.keep (e4.extBut _ · sr) (e4.extBut _ · L1.2.2.2.1);let s3:=s3.keep (e4.extBut _ · (bN n23)) (e4.extBut _ · L3.2.2.2.1);apply ae (mj EN U (ae (Fw EN (bh 3) λh5 LP e5=>ae (wpAny_letGo (aE ?_)))));replace LP:e_ h5 TO (List.toArray [x,y,c]):=LP;let s1:=s1.keep (e5.extBut _ · (bN O1)) (e5.extBut _ · L1.2.1);let s2:=s2.keep (e5.extBut _ · (bN O2)) (e5.extBut _ · L2.2.1);let s3:=s3.keep (e5.extBut _ · (bN O3)) (e5.extBut _ · L3.2.1);apply ae (ae (wpAny_onRaise (show wpAny _ _ (Builtin.SmallTypes.nextOf (.ref i3) >>= _) _ _ _ from ae (s3.next L3.2.2.2.2 hv λh6 s3 e6=>aE ?_))));have Rh:e_ h6 TO (List.toArray [x,y,c]):=e6.extBut _ _ O3 LP;let s1:=s1.keep (e6.extBut _ · Dv) (e6.extBut _ · L1.2.2.2.2);let s2:=s2.keep (e6.extBut _ · n23) (e6.extBut _ · L2.2.2.2.2);apply ae (mj Rh U (ae (Fw Rh (bh 3) λh7 vV e7=>ae (wpAny_letGo (aE (aE ?_))))));replace vV:e_ h7 TO (List.toArray [x,y,v]):=vV;let s1:=s1.keep (e7.extBut _ · (bN O1)) (e7.extBut _ · L1.2.1);let s2:=s2.keep (e7.extBut _ · (bN O2)) (e7.extBut _ · L2.2.1);let s3:=s3.keep (e7.extBut _ · (bN O3)) (e7.extBut _ · L3.2.1);have all:∀{c o},c≠TO->c≠i1->c≠i2->c≠i3->h1.get? c\o->h7.get? c\o:=λc2 c3 c4 c5 q=>e7.extBut _ _ c2 (e6.extBut _ _ c5 (e5.extBut _ _ c2 (e4.extBut _ _ c4 (e3.extBut _ _ c2 (e2.extBut _ _ c3 q)))));have zH:Zp h7 z TI TO .ellipsis false:=all zO z1 z2 z3 iV;have LR:e_ h7 TI (List.toArray [.ref i1,.ref i2,.ref i3]):=all ti.2.1 ti.2.2.1 ti.2.2.2.1 ti.2.2.2.2 (e1.extBut _ _ ti.1 hI);have sz:h7.objs.size=s.heap.objs.size:=by rw[e7.1,e6.1,e5.1,e4.1,e3.1,e2.1,e1.1]
 apply ae (mj vV U (ae (wpAny_newTuple ?_)));apply (show wpAny _ _ (Builtin.SmallTypes.ownedTupleHandOut (.ref z) (.ref h7.objs.size) >>= _) _ _ _ from ae ?_);unfold Builtin.SmallTypes.ownedTupleHandOut;have KS:Zp (h7.push { cls:=.type "tuple",data:=.seq (List.toArray [x,y,v]) }) z TI TO .ellipsis false:=aQ _ zH;apply ae (p_ KS Y0 λh9 KR e9=>p_ (show Zp h9 z TI TO (rawInt h7.objs.size) false from KR) Y0 λhA vO eA=>aE #[_,U,?_]);have up:∀{c o},c≠z->h7.get? c\o->hA.get? c\o:=λc1 q=>eA.extBut _ _ c1 (e9.extBut _ _ c1 (aQ _ q));have hT:e_ hA h7.objs.size (List.toArray [x,y,v]):=eA.extBut _ _ (iu (bx zH)) (e9.extBut _ _ (iu (bx zH)) (cJ _ U));show Q (.ref h7.objs.size) _;rw[sz] at hT ⊢;have vO:Zp hA z TI TO (rawInt h7.objs.size) false:=vO;rw[sz] at vO;apply hQ hA vO #[?_,?_,?_,up ti.1 LR,#[_,_,_,up (bN zO) vV],s1.keep (λ_=>up (bN z1)) (λ_=>up L1.1),s2.keep (λ_=>up (bN z2)) (λ_=>up L2.1),s3.keep (λ_=>up (bN z3)) (λ_=>up L3.1)] hT λc o hc q=>?_
 ·simp[zO,z1,z2,z3,O1,O2,O3,sr,Dv,n23]
 ·simp[ti]
 ·simpa using ls
 simp only[bY,gf,or_false,not_or] at hc;exact up hc.1 (all hc.2.1 hc.2.2.1 hc.2.2.2.1 hc.2.2.2.2 (e1.extBut _ _ hc.1 q))
theorem ended(hh:A.handled=none)(a:s.heap.IsListIter it l i)(b:s.heap.IsList l xs)(hx:xs[i]? = none)(hE:∀h' e,Heap.ExtBut it s.heap h'->(∃o,h'.get? e\o/\o.cls=.type "StopIteration")->E (.ref e) { s with heap:=h' }):wpAny (model prog w) A (Builtin.SmallTypes.nextOf (.ref it)) Q E s:=wpAny_nextOf_list_end hh a b hx hE
theorem Zk{TI TO:Addr}{Q:Fin->Ab->Prop}(hh:A.handled=none)(n1:i1≠z)(n2:l1≠z)(hI:e_ s.heap TI (List.toArray [.ref i1,.ref i2,.ref i3]))(a1:s.heap.IsListIter i1 l1 k)(b1:s.heap.IsList l1 xs)(hz:Zp s.heap z TI TO .none false)(hx:xs[k]? = none)(hE:∀h' e,(∀c o,c≠z->c≠i1->s.heap.get? c\o->h'.get? c\o)->(∃o,h'.get? e\o/\o.cls=.type "StopIteration")->E (.ref e) { s with heap:=h' }):wpAny (model prog w) A (Builtin.«zip.__next__» #[[.ref z],[]]) Q E s:=by
 apply (show wpAny _ _ (field (.ref z) 2 >>= _) _ _ _ from ae (fF hz U (x:=.bool false) U ?_));apply (show wpAny _ _ (field (.ref z) 3 >>= _) _ _ _ from ae (fF hz U (x:=.ref TI) U ?_));apply ae (mj hI U ?_);apply (show wpAny _ _ (Builtin.SmallTypes.ownedTupleIsFree (.ref z) >>= _) _ _ _ from ae ?_);unfold Builtin.SmallTypes.ownedTupleIsFree;apply ae (fF hz U (x:=.none) U (aE ?_));simp only[if_true];apply ae (wpAny_rule (ae (fF hz U (x:=.ref TO) U (ae (p_ hz Y0 λh1 iV e1=>ae ?_)))));replace iV:Zp h1 z TI TO .ellipsis false:=iV;simp only[List.zipIdx_cons,List.zipIdx_nil,wH,u4];apply ae (ae (wpAny_onRaise (show wpAny _ _ (Builtin.SmallTypes.nextOf (.ref i1) >>= _) _ _ _ from ae (ended hh (a1.extBut e1.extBut n1) (b1.extBut e1.extBut n2) hx λh2 e e2 he=>?_))));let#[oe,zP,EF]:=he;have DX:Zp h2 z TI TO .ellipsis false:=e2 _ _ (bN n1) iV;have LA:e≠z:=λx=>by subst x;rw[DX] at zP;cases zP;simp at EF
 exact p_ DX Y0 λh3 _ e3=>hE h3 e (λc o c1 c3 x=>e3.extBut _ _ c1 (e2 _ _ c3 (e1.extBut _ _ c1 x))) #[oe,e3.extBut _ _ LA zP,EF]
variable{Q:Option Aa->Ab->Prop}
theorem g1_{TI TO:Addr}(D:oA s.heap z TI TO i1 i2 i3 l1 l2 l3 k xs ys zs)(hz:Zp s.heap z TI TO .none false)(hx:xs[k]? = some x)(hy:ys[k]? = some y)(hv:zs[k]? = some v)(hQ:∀h',Zp h' z TI TO (rawInt s.heap.objs.size) false->oA h' z TI TO i1 i2 i3 l1 l2 l3 (k+1) xs ys zs->e_ h' s.heap.objs.size (List.toArray [x,y,v])->(∀c o,c∉[z,TO,i1,i2,i3]->s.heap.get? c\o->h'.get? c\o)->Q (some (.ref s.heap.objs.size)) { s with heap:=h' }) :
  wpAny (model prog w) A (pyNext (.ref z)) Q E s:=by
 have hT:s.TypeIs (.ref z) "zip":=#[_,hz,U];unfold pyNext;exact ae (wpAny_attempt (uR (name:=Str.ofString "__next__") hT F.slot_zip_next (tK F.slot_zip_next hT F.entry_zip_next (gX_ D hz hx hy hv λh' a1 a2 a3 a4=>aE (hQ h' a1 a2 a3 a4)) (F.args_zip_next_1 _))))
theorem dD_{TI TO:Addr}(hh:A.handled=none)(n1:i1≠z)(n2:l1≠z)(hI:e_ s.heap TI (List.toArray [.ref i1,.ref i2,.ref i3]))(a1:s.heap.IsListIter i1 l1 k)(b1:s.heap.IsList l1 xs)(hz:Zp s.heap z TI TO .none false)(hx:xs[k]? = none)(hQ:∀h',(∀c o,c≠z->c≠i1->s.heap.get? c\o->h'.get? c\o)->Q none { s with heap:=h' }):wpAny (model prog w) A (pyNext (.ref z)) Q E s:=by
 have hT:s.TypeIs (.ref z) "zip":=#[_,hz,U];unfold pyNext;apply ae (wpAny_attempt (uR (name:=Str.ofString "__next__") hT F.slot_zip_next (tK F.slot_zip_next hT F.entry_zip_next (Zk hh n1 n2 hI a1 b1 hz hx λh' e hk he=>?_) (F.args_zip_next_1 _))));let#[o,ho,hc]:=he;exact ae (wpAny_isInstance (T:="StopIteration") (b:=true) #[o,ho,hc] isSubtype_stop (aE (hQ _ hk)))
theorem dy_(a b c:Aa):checkTypeCall "zip" #[[a,b,c],[]]=pure ():=by kernel_rfl
theorem eh_(a b c:Aa):checkBuiltinCall "zip.__new__" #[[.type "zip",a,b,c],[]]=pure ():=by kernel_rfl
theorem fn_(a b c d:Aa):argsOk "object.__init__" #[[a,b,c,d],[]]:=by
 unfold argsOk;rw[signature?_of (id:="object.__init__") (n:=['_','_','t','i','n','i','_','_']) (o:=['t','c','e','j','b','o']) (by kernel_rfl) F.owner_object];kernel_rfl
abbrev mU(h:Heap)(l:Addr):Heap:=h.push { cls:=.type "list_iterator",data:=.fields (List.toArray [.ref l,.int 0 0]) }
abbrev oH(h:Heap)(l:Addr):Heap:=h.push { cls:=.type "tuple_iterator",data:=.fields (List.toArray [.ref l,.int 0 0]) }
abbrev Cp(h:Heap)(l1 l2 l3:Addr):Heap:=oH (oH (mU h l1) l2) l3
abbrev Co(h:Heap)(l1 l2 l3:Addr):Heap:=(Cp h l1 l2 l3).push { cls:=.type "tuple",data:=.seq (List.toArray [.ref h.objs.size,.ref (mU h l1).objs.size,.ref (oH (mU h l1) l2).objs.size]) }
abbrev Cm(h:Heap)(l1 l2 l3:Addr):Heap:=(Co h l1 l2 l3).push { cls:=.type "tuple",data:=.seq (List.toArray [.none,.none,.none]) }
abbrev yu(h:Heap)(l1 l2 l3:Addr):Heap:=(Cm h l1 l2 l3).push { cls:=.type "zip",data:=.fields (List.toArray [.none,.bool false,.bool false,.ref (Cp h l1 l2 l3).objs.size,.ref (Co h l1 l2 l3).objs.size]) }
theorem fW_(l1 l2 l3:Addr)(xs ys zs:Array Aa):Meets (Builtin.«zip.__new__» #[[.type "zip",.ref l1,.ref l2,.ref l3],[]]) (λ_ R s=>s.heap.IsList l1 xs/\s.heap.IsTuple l2 ys/\s.heap.IsTuple l3 zs /\
   R (.ok (.ret (.ref (Cm s.heap l1 l2 l3).objs.size))) { s with heap:=yu s.heap l1 l2 l3 }):=
 .of_wp λprog w A R s h=>by
  let#[hp,g,d,tk,os]:=s;let#[a1,a2,a3,h]:=h;let zK:=sub_zip;have b1:Heap.IsList (Shared.heap #[hp,g,d,tk,os]) l1 xs:=a1;have b2:Heap.IsTuple (Shared.heap #[hp.push { cls:=.type "list_iterator",data:=.fields (List.toArray [.ref l1,.int 0 0]) },g,d,tk,os]) l2 ys:=Heap.IsTuple.push a2 _;have b3:Heap.IsTuple (Shared.heap #[(hp.push { cls:=.type "list_iterator",data:=.fields (List.toArray [.ref l1,.int 0 0]) }).push { cls:=.type "tuple_iterator",data:=.fields (List.toArray [.ref l2,.int 0 0]) },g,d,tk,os]) l3 zs:=Heap.IsTuple.push (Heap.IsTuple.push a3 _) _
  wp_walk using wpAny_pyIter_list b1,wpAny_pyIter_tuple b2,wpAny_pyIter_tuple b3
  exact#[_,U,h]
end fI
namespace L2
open PySem PySem.Spec PyProof.Rows PySem.W fI
def FQ(K:ai)(a b c:Addr):It:=
 #[λi H=>∃xs ys zs x y z,dS K H a xs/\er K H b ys/\er K H c zs/\xs[i]? = some x/\ys[i]? = some y/\zs[i]? = some z,
  λi H v H'=>∃t x y z,v=.ref t/\H t=none/\(∀xs,dS K H a xs->xs[i]? = some x)/\(∀xs,er K H b xs->xs[i]? = some y)/\(∀xs,er K H c xs->xs[i]? = some z)/\H'=upd H t (.tup [x,y,z]),λi H=>∃xs,dS K H a xs/\xs.length=i]
theorem _T{P:Ad}{w:Af}{K:ai}{elts:List Expr}{k:Nat}{pos:Pos}(a b c z TI TO i1 i2 i3:Addr)(nd:[z,TO,i1,i2,i3].Nodup)(ti:TI∉[z,TO,i1,i2,i3])(ls:∀l∈[a,b,c],l∉[z,TO,i1,i2,i3]) :
  Turn P w K (.Tuple elts k pos) (FQ K a b c) [z,TI,TO,i1,i2,i3] z (λi h=>Zp h z TI TO .none false/\e_ h TI (List.toArray [.ref i1,.ref i2,.ref i3])/\(∃x y v,e_ h TO (List.toArray [x,y,v]))/\h.IsListIter i1 a i/\h.IsTupleIter i2 b i/\h.IsTupleIter i3 c i) where
 mem:=by simp
 obj:=λi h st q hq=>by
  let#[h1,h2,#[x,y,v,h3],#[o1,e1,c1,d1],#[o2,e2,c2,d2],#[o3,e3,c3,d3]]:=st;simp only[bY,gf,or_false] at hq;rcases hq with rfl|rfl|rfl|rfl|rfl|rfl
  ·exact#[_,h1,λv z=>by cases z]
  ·exact#[_,h2,λv z=>by cases z]
  ·exact#[_,h3,λv z=>by cases z]
  ·exact#[o1,e1,λv z=>by rw[d1] at z;cases z]
  ·exact#[o2,e2,λv z=>by rw[d2] at z;cases z]
  exact#[o3,e3,λv z=>by rw[d3] at z;cases z]
 keep:=λi h h' st kk=>by
  let#[h1,h2,#[x,y,v,h3],s1,s2,s3]:=st;exact#[kk _ Y0 _ h1,kk _ Y0 _ h2,#[x,y,v,kk _ Y0 _ h3],s1.at λo q=>kk _ Y0 o q,s2.at λo q=>kk _ Y0 o q,s3.at λo q=>kk _ Y0 o q]
 item:=by
  intro X hP hw hK hc i pins s σ H E I hf st hg;subst hP hw hK;let#[xs,ys,zs,x,y,v,q1,q2,q3,x1,x2,x3]:=hg;let Gw:=nd;have z1:z≠i1:=by simp at nd;exact nd.1.2.1
  have z2:z≠i2:=by simp at nd;exact nd.1.2.2.1
  have UJ:z≠i3:=by simp at nd;exact nd.1.2.2.2
  have zO:TO≠z:=by simp at nd;exact bN nd.1.1
  have tz:TI≠z:=by simp at ti;exact ti.1
  let#[h1,h2,h3,s1,s2,s3]:=st;let#[u1,r1,p1,_]:=I.list q1;let#[u2,r2,p2,_]:=I.tuple q2;let#[u3,r3,p3,_]:=I.tuple q3;let#[w1,_k,VW]:=r1.get x1;let#[w2,_j,VV]:=r2.get x2;let#[w3,_i,VU]:=r3.get x3;apply g1_ (l1:=a) (l2:=b) (l3:=c) (xs:=u1.toArray) (ys:=u2.toArray) (zs:=u3.toArray) (x:=w1) (y:=w2) (v:=w3) #[nd,ti,ls,h2,h3,.lst s1 p1.isList,.tup s2 p2,.tup s3 p3] h1 ⇑_k ⇑_j ⇑_i λh' z' D' pO kk=>?_;have lt:∀{d o},s.heap.get? d\o->s.heap.objs.size≠d:=λe=>iu (bx e);obtain⟨T,eT⟩:∃T,T=s.heap.objs.size:=#[_,U];have hT:s.heap.objs.size<=T:=Nat.le_of_eq eT.symm;rw[<- eT] at z' pO ⊢;apply#[_,U,wpAny_letOwnedTupleGo_zip (s:={ s with heap:=h' }) z' λLW z3 e3=>?_]
  have nT:∀{q},q∈[z,TI,TO,i1,i2,i3]->T≠q:=λ{q} hq e=>by
   let#[x,y,v,h3]:=h3;rw[e] at eT;let#[o1,e1,_]:=s1;let#[o2,e2,_]:=s2;let#[o3,e3,_]:=s3;simp only[bY,gf,or_false] at hq;rcases hq with rfl|rfl|rfl|rfl|rfl|rfl
   ·exact lt h1 eT.symm
   ·exact lt h2 eT.symm
   ·exact lt h3 eT.symm
   ·exact lt e1 eT.symm
   ·exact lt e2 eT.symm
   exact lt e3 eT.symm
  have yq:∀{q o},q≠z->h'.get? q\o->LW.get? q\o:=λhq e=>e3.extBut _ _ hq e;have oZ:e_ LW T (List.toArray [w1,w2,w3]):=yq (nT Y0) pO;have I1:Inv X pins σ (upd H T (.tup [x,y,v])) { s with heap:=LW }:=I.gQ (t':=s.toks) (fp:=[z,TI,TO,i1,i2,i3]) (its:=[w1,w2,w3]) (λq o hq e=>yq (λhz=>hq (by simp[hz])) (kk q o (λhm=>hq (by simp at hm ⊢;rcases hm with h|h|h|h|h<;>simp[h])) e)) hf hT (zl) (.cons VW (.cons VV (.cons VU .nil))) #[#[_,oZ,U,_,U],_,oZ,U]
  apply#[.ref T,_,I1,U,#[T,x,y,v,U,I.aA.fresh hT,λys hy=>by rw[I.g9 hy q1];exact x1,λys hy=>by rw[I.di hy q2];exact x2,λys hy=>by rw[I.di hy q3];exact x3,U],?_,λq hq=>?_]
  ·let#[_,_,_,j2,#[f1,f2,f3,j3],j4,j5,j6]:=D';apply#[z3,yq tz j2,#[f1,f2,f3,yq zO j3],?_,?_,?_]
   ·exact (j4.Qj (p1.isList.at λo e=>kk a o (ls a Y0) e)).at λo e=>yq (bN z1) e
   ·exact (j5.pO (by let#[o,e,r]:=p2;exact#[o,kk b o (ls b Y0) e,r])).at λo e=>yq (bN z2) e
   exact (j6.pO (by let#[o,e,r]:=p3;exact#[o,kk c o (ls c Y0) e,r])).at λo e=>yq (bN UJ) e
  rw[aw (λz:q=T=>nT hq z.symm)];exact (hf q hq).1
 done:=by
  intro X hP hw hK hc i pins s σ H E I hf st hg;subst hP hw hK;let#[xs,hq,hx]:=hg;let#[its,rv,p,hz]:=I.list hq;let#[h1,h2,h3,s1,s2,s3]:=st;have:=rv.length;simp only[iZ,bY,gf,or_false,not_or,not_false_eq_true,List.nodup_nil,and_true] at nd ti;exact dD_ (I.ok.hd hc) (bN nd.1.2.1) (by have:=ls a Y0;simp at this;exact this.1) h2 s1 p.isList h1 (by simp;omega) λh' kk=>#[U,I.fN (t':=s.toks) (fp:=[z,TI,TO,i1,i2,i3]) (λq o hq e=>kk q o (λh=>hq (by simp[h])) (λh=>hq (by simp[h])) e) hf]
 self:=λA i s Q E st h=>wpAny_pyIter_zip st.1 h
end L2
namespace fI
open PySem PySem.W PyProof.Rows
variable{a:Addr}{prog:Ad}{w:Af}{A:Ag}{E:Aa->Ab->Prop}{s:Ab}
theorem alive{o:Obj}{Q:Option Obj->Ab->Prop}(ho:s.heap.get? a\o)(h:Q (some o) s):wpAny (model prog w) A (loadIfAlive a) Q E s:=fun Γ p _=>by
 unfold loadIfAlive;rw[Sem.wp_loadIfAlive,ho];exact (aE (M:=model prog w) (A:=A) h) Γ p (by assumption)
structure mL (h:Heap) (z TI TO i1 i2 l1 l2:Addr) (k:Nat) (xs ys:Array Aa):Prop where
 nd:[z,TO,i1,i2].Nodup
 ti:TI∉[z,TO,i1,i2]
 ls:∀l∈[l1,l2],l∉[z,TO,i1,i2]
 hI:e_ h TI (List.toArray [.ref i1,.ref i2])
 hO:∃a b,e_ h TO (List.toArray [a,b])
 s1:Src h i1 l1 k xs
 s2:Src h i2 l2 k ys
 hz:Zp h z TI TO .none false∨∃T o f1,T∉[z,TO,i1,i2]/\h.get? T\o/\Zp h z TI TO (rawInt T) f1
variable{i1 i2 l1 l2 z:Addr}{k:Nat}{xs ys:Array Aa}{x y:Aa}
theorem gO_{TI TO:Addr}{Q:Aa->Ab->Prop}(D:mL s.heap z TI TO i1 i2 l1 l2 k xs ys)(hx:xs[k]? = some x)(hy:ys[k]? = some y)(hQ:∀h',mL h' z TI TO i1 i2 l1 l2 (k+1) xs ys->e_ h' s.heap.objs.size (List.toArray [x,y])->(∀c o,c∉[z,TO,i1,i2]->s.heap.get? c\o->h'.get? c\o)->Q (.ref s.heap.objs.size) { s with heap:=h' }) :
  wpAny (model prog w) A (Builtin.«zip.__next__» #[[.ref z],[]]) (λfin s'=>∃v,fin=.done (.ret v)/\Q v s') E s:=by
 let#[Gw,JD,Kz,hI,#[a,b,hO],s1,s2,hz]:=D;let nd:=Gw;let ti:=JD;let ls:=Kz;simp only[iZ,bY,gf,or_false,not_or,not_false_eq_true,List.nodup_nil,and_true] at nd ti ls;let#[#[zO,z1,z2],#[O1,O2],sr]:=nd;let L1:=ls l1 (.inl U);let L2:=ls l2 (.inr U);have new:∀{c o},s.heap.get? c\o->s.heap.objs.size≠c:=λe=>iu (bx e)
 have nT:s.heap.objs.size∉[z,TO,i1,i2]:=by
  simp only[bY,gf,or_false,not_or];apply#[?_,new hO,iu s1.lt.1,iu s2.lt.1];rcases hz with hz|⟨T,o,f1,hT,e,hz⟩
  ·exact new hz
  exact new hz
 rcases hz with hz|⟨T,o,f1,hT,eT,hz⟩
 ·apply (show wpAny _ _ (field (.ref z) 2 >>= _) _ _ _ from ae (fF hz U (x:=.bool false) U ?_));apply (show wpAny _ _ (field (.ref z) 3 >>= _) _ _ _ from ae (fF hz U (x:=.ref TI) U ?_));apply ae (mj hI U ?_);apply (show wpAny _ _ (Builtin.SmallTypes.ownedTupleIsFree (.ref z) >>= _) _ _ _ from ae ?_);unfold Builtin.SmallTypes.ownedTupleIsFree;apply ae (fF hz U (x:=.none) U (aE ?_));simp only[if_true];apply ae (wpAny_rule (ae (fF hz U (x:=.ref TO) U (ae (p_ hz Y0 λh1 iV e1=>ae ?_)))));replace iV:Zp h1 z TI TO .ellipsis false:=iV;have LQ:e_ h1 TO (List.toArray [a,b]):=e1.extBut _ _ (bN zO) hO;let s1:=s1.keep (e1.extBut _ · (bN z1)) (e1.extBut _ · L1.1);let s2:=s2.keep (e1.extBut _ · (bN z2)) (e1.extBut _ · L2.1);simp only[List.zipIdx_cons,List.zipIdx_nil,wH,u4];apply ae (ae (wpAny_onRaise (show wpAny _ _ (Builtin.SmallTypes.nextOf (.ref i1) >>= _) _ _ _ from ae (s1.next L1.2.2.1 hx λh2 s1 e2=>aE ?_))));have EO:e_ h2 TO (List.toArray [a,b]):=e2.extBut _ _ O1 LQ;let s2:=s2.keep (e2.extBut _ · (bN sr)) (e2.extBut _ · L2.2.2.1);apply ae (mj EO U (ae (Fw EO (Nat.le_succ 2) λh3 Ap e3=>ae (wpAny_letGo (aE ?_)))));replace Ap:e_ h3 TO (List.toArray [x,b]):=Ap;let s1:=s1.keep (e3.extBut _ · (bN O1)) (e3.extBut _ · L1.2.1);let s2:=s2.keep (e3.extBut _ · (bN O2)) (e3.extBut _ · L2.2.1);apply ae (ae (wpAny_onRaise (show wpAny _ _ (Builtin.SmallTypes.nextOf (.ref i2) >>= _) _ _ _ from ae (s2.next L2.2.2.2 hy λh4 s2 e4=>aE ?_))));have EN:e_ h4 TO (List.toArray [x,b]):=e4.extBut _ _ O2 Ap;let s1:=s1.keep (e4.extBut _ · sr) (e4.extBut _ · L1.2.2.2);apply ae (mj EN U (ae (Fw EN (Nat.le_succ 2) λh7 vV e7=>ae (wpAny_letGo (aE (aE ?_))))));replace vV:e_ h7 TO (List.toArray [x,y]):=vV;let s1:=s1.keep (e7.extBut _ · (bN O1)) (e7.extBut _ · L1.2.1);let s2:=s2.keep (e7.extBut _ · (bN O2)) (e7.extBut _ · L2.2.1);have all:∀{c o},c≠TO->c≠i1->c≠i2->h1.get? c\o->h7.get? c\o:=λc2 c3 c4 q=>e7.extBut _ _ c2 (e4.extBut _ _ c4 (e3.extBut _ _ c2 (e2.extBut _ _ c3 q)));have zH:Zp h7 z TI TO .ellipsis false:=all zO z1 z2 iV;have LR:e_ h7 TI (List.toArray [.ref i1,.ref i2]):=all ti.2.1 ti.2.2.1 ti.2.2.2 (e1.extBut _ _ ti.1 hI);have sz:h7.objs.size=s.heap.objs.size:=by rw[e7.1,e4.1,e3.1,e2.1,e1.1]
  apply ae (mj vV U (ae (wpAny_newTuple ?_)));apply (show wpAny _ _ (Builtin.SmallTypes.ownedTupleHandOut (.ref z) (.ref h7.objs.size) >>= _) _ _ _ from ae ?_);unfold Builtin.SmallTypes.ownedTupleHandOut;have KS:Zp (h7.push { cls:=.type "tuple",data:=.seq (List.toArray [x,y]) }) z TI TO .ellipsis false:=aQ _ zH;apply ae (p_ KS Y0 λh9 KR e9=>p_ (show Zp h9 z TI TO (rawInt h7.objs.size) false from KR) Y0 λhA vO eA=>aE #[_,U,?_]);have up:∀{c o},c≠z->h7.get? c\o->hA.get? c\o:=λc1 q=>eA.extBut _ _ c1 (e9.extBut _ _ c1 (aQ _ q));have hT:e_ hA h7.objs.size (List.toArray [x,y]):=eA.extBut _ _ (iu (bx zH)) (e9.extBut _ _ (iu (bx zH)) (cJ _ U));show Q (.ref h7.objs.size) _;have vO:Zp hA z TI TO (rawInt h7.objs.size) false:=vO;rw[sz] at hT vO ⊢;apply hQ hA #[Gw,JD,Kz,up ti.1 LR,#[_,_,up (bN zO) vV],s1.keep (λ_=>up (bN z1)) (λ_=>up L1.1),s2.keep (λ_=>up (bN z2)) (λ_=>up L2.1),.inr #[_,_,_,nT,hT,vO]] hT λc o hc q=>?_;simp only[bY,gf,or_false,not_or] at hc;exact up hc.1 (all hc.2.1 hc.2.2.1 hc.2.2.2 (e1.extBut _ _ hc.1 q))
 apply (show wpAny _ _ (field (.ref z) 2 >>= _) _ _ _ from ae (fF hz U (x:=.bool false) U ?_));apply (show wpAny _ _ (field (.ref z) 3 >>= _) _ _ _ from ae (fF hz U (x:=.ref TI) U ?_));apply ae (mj hI U ?_);apply (show wpAny _ _ (Builtin.SmallTypes.ownedTupleIsFree (.ref z) >>= _) _ _ _ from ae ?_)
 have free:∀{Q:Bool->Ab->Prop},(∀h',Zp h' z TI TO (rawInt T) true->(∀c o,c≠z->s.heap.get? c\o->h'.get? c\o)->h'.objs.size=s.heap.objs.size->Q false { s with heap:=h' })->wpAny (model prog w) A (Builtin.SmallTypes.ownedTupleIsFree (.ref z)) Q E s:=λ{Q} h=>by
  unfold Builtin.SmallTypes.ownedTupleIsFree;apply ae (fF hz U (x:=rawInt T) U ?_);apply (show wpAny _ _ (loadIfAlive (((T:Nat):Int)).toNat >>= _) _ _ _ from ?_);rw[yl];apply ae (alive eT ?_);simp only[Option.isNone_some,qi,if_false];apply ae (fF hz U (x:=.bool f1) U ?_);cases f1 with
  |true=>
   apply wpAny_ite_false (by decide) (aE ?_);exact h _ hz (λc o _ q=>q) U
  |false=>
   apply wpAny_ite_true (by decide) ?_;apply ae (p_ hz Y0 λh1 iV e1=>aE ?_);exact h h1 iV (λc o hc q=>e1.extBut _ _ hc q) e1.1
 apply free λh1 iV k1 VB=>?_;simp only[qi,if_false];let s1:=s1.keep (k1 _ · (bN z1)) (k1 _ · L1.1);let s2:=s2.keep (k1 _ · (bN z2)) (k1 _ · L2.1);apply ae ?_;simp only[List.forIn_toArray,wH,u4];apply ae (ae (iK (show wpAny _ _ (Builtin.SmallTypes.nextOf (.ref i1) >>= _) _ _ _ from ae (s1.next L1.2.2.1 hx λh2 s1 e2=>aE (aE ?_)))));let s2:=s2.keep (e2.extBut _ · (bN sr)) (e2.extBut _ · L2.2.2.1);apply ae (ae (iK (show wpAny _ _ (Builtin.SmallTypes.nextOf (.ref i2) >>= _) _ _ _ from ae (s2.next L2.2.2.2 hy λh4 s2 e4=>aE (aE (aE ?_))))));let s1:=s1.keep (e4.extBut _ · sr) (e4.extBut _ · L1.2.2.2);have sz:h4.objs.size=s.heap.objs.size:=by rw[e4.1,e2.1,VB]
 apply (show wpAny _ _ (newTuple [x,y] >>= _) _ _ _ from ae (wpAny_newTuple (aE #[_,U,?_])));have all:∀{c o},c≠i1->c≠i2->h1.get? c\o->h4.get? c\o:=λc3 c4 q=>e4.extBut _ _ c4 (e2.extBut _ _ c3 q);have up:∀{c o},h4.get? c\o->(h4.push { cls:=.type "tuple",data:=.seq (List.toArray [x,y]) }).get? c\o:=λq=>aQ _ q;have Ao:e_ (h4.push { cls:=.type "tuple",data:=.seq (List.toArray [x,y]) }) h4.objs.size (List.toArray [x,y]):=cJ _ U;show Q (.ref h4.objs.size) _;rw[sz] at Ao ⊢;simp only[bY,gf,or_false,not_or] at hT;apply hQ _ #[Gw,JD,Kz,up (all ti.2.2.1 ti.2.2.2 (k1 _ _ ti.1 hI)),#[_,_,up (all O1 O2 (k1 _ _ (bN zO) hO))],s1.keep (λ_=>up) (λ_=>up),s2.keep (λ_=>up) (λ_=>up),.inr #[T,_,true,by simp[hT],up (all hT.2.2.1 hT.2.2.2 (k1 _ _ hT.1 eT)),up (all z1 z2 iV)]] Ao λc o hc q=>?_;simp only[bY,gf,or_false,not_or] at hc;exact up (all hc.2.2.1 hc.2.2.2 (k1 _ _ hc.1 q))
theorem hT_{TI TO:Addr}{Q:Fin->Ab->Prop}(hh:A.handled=none)(D:mL s.heap z TI TO i1 i2 l1 l2 k xs ys)(b0:s.heap.IsList l1 xs)(hx:xs[k]? = none)(hE:∀h' e,(∀c o,c∉[z,TO,i1,i2]->s.heap.get? c\o->h'.get? c\o)->(∃o,h'.get? e\o/\o.cls=.type "StopIteration")->E (.ref e) { s with heap:=h' }):wpAny (model prog w) A (Builtin.«zip.__next__» #[[.ref z],[]]) Q E s:=by
 let#[nd,ti,ls,hI,#[a,b,hO],s1,s2,hz]:=D;let a0:=s1.Qj b0;simp only[iZ,bY,gf,or_false,not_or,not_false_eq_true,List.nodup_nil,and_true] at nd ti ls;let#[#[zO,z1,z2],#[O1,O2],sr]:=nd;let L1:=ls l1 (.inl U);have go:∀(h1:Heap),(∀c o,c≠z->s.heap.get? c\o->h1.get? c\o)->∀(E':Aa->Ab->Prop) (Q':Aa->Ab->Prop),(∀h' e,Heap.ExtBut i1 h1 h'->(∃o,h'.get? e\o/\o.cls=.type "StopIteration")->E' (.ref e) { s with heap:=h' })->wpAny (model prog w) A (Builtin.SmallTypes.nextOf (.ref i1)) Q' E' { s with heap:=h1 }:=λh1 k1 E' Q' h=>ended hh (s:={ s with heap:=h1 }) (a0.at λo q=>k1 _ o (bN z1) q) (b0.at λo q=>k1 _ o L1.1 q) hx h;rcases hz with hz|⟨T,o,f1,hT,eT,hz⟩
 ·apply (show wpAny _ _ (field (.ref z) 2 >>= _) _ _ _ from ae (fF hz U (x:=.bool false) U ?_));apply (show wpAny _ _ (field (.ref z) 3 >>= _) _ _ _ from ae (fF hz U (x:=.ref TI) U ?_));apply ae (mj hI U ?_);apply (show wpAny _ _ (Builtin.SmallTypes.ownedTupleIsFree (.ref z) >>= _) _ _ _ from ae ?_);unfold Builtin.SmallTypes.ownedTupleIsFree;apply ae (fF hz U (x:=.none) U (aE ?_));simp only[if_true];apply ae (wpAny_rule (ae (fF hz U (x:=.ref TO) U (ae (p_ hz Y0 λh1 iV e1=>ae ?_)))));replace iV:Zp h1 z TI TO .ellipsis false:=iV;simp only[List.zipIdx_cons,List.zipIdx_nil,wH,u4];apply ae (ae (wpAny_onRaise (show wpAny _ _ (Builtin.SmallTypes.nextOf (.ref i1) >>= _) _ _ _ from ae (go h1 (λc o hc q=>e1.extBut _ _ hc q) _ _ λh2 e e2 he=>?_))));let#[oe,zP,EF]:=he;have DX:Zp h2 z TI TO .ellipsis false:=e2 _ _ z1 iV;have LA:e≠z:=λx=>by subst x;rw[DX] at zP;cases zP;simp at EF
  exact p_ DX Y0 λh3 _ e3=>hE h3 e (λc o hc x=>by
   simp only[bY,gf,or_false,not_or] at hc;exact e3.extBut _ _ hc.1 (e2 _ _ hc.2.2.1 (e1.extBut _ _ hc.1 x))) #[oe,e3.extBut _ _ LA zP,EF]
 apply (show wpAny _ _ (field (.ref z) 2 >>= _) _ _ _ from ae (fF hz U (x:=.bool false) U ?_));apply (show wpAny _ _ (field (.ref z) 3 >>= _) _ _ _ from ae (fF hz U (x:=.ref TI) U ?_));apply ae (mj hI U ?_);apply (show wpAny _ _ (Builtin.SmallTypes.ownedTupleIsFree (.ref z) >>= _) _ _ _ from ae ?_)
 have free:∀{Q:Bool->Ab->Prop},(∀h',(∀c o,c≠z->s.heap.get? c\o->h'.get? c\o)->Q false { s with heap:=h' })->wpAny (model prog w) A (Builtin.SmallTypes.ownedTupleIsFree (.ref z)) Q E s:=λ{Q} h=>by
  unfold Builtin.SmallTypes.ownedTupleIsFree;apply ae (fF hz U (x:=rawInt T) U ?_);apply (show wpAny _ _ (loadIfAlive (((T:Nat):Int)).toNat >>= _) _ _ _ from ?_);rw[yl];apply ae (alive eT ?_);simp only[Option.isNone_some,qi,if_false];apply ae (fF hz U (x:=.bool f1) U ?_);cases f1 with
  |true=>exact wpAny_ite_false (by decide) (aE (h _ λc o _ q=>q))
  |false=>exact wpAny_ite_true (by decide) (ae (p_ hz Y0 λh1 iV e1=>aE (h h1 λc o hc q=>e1.extBut _ _ hc q)))
 apply free λh1 k1=>?_;simp only[qi,if_false];apply ae ?_;simp only[List.forIn_toArray,wH,u4];apply ae (ae (iK (show wpAny _ _ (Builtin.SmallTypes.nextOf (.ref i1) >>= _) _ _ _ from ae (go h1 k1 _ _ λh2 e e2 he=>hE h2 e (λc o hc x=>?_) he))));simp only[bY,gf,or_false,not_or] at hc;exact e2 _ _ hc.2.2.1 (k1 _ _ hc.1 x)
theorem mL.ty{TI TO:Addr}(D:mL s.heap z TI TO i1 i2 l1 l2 k xs ys):s.TypeIs (.ref z) "zip":=by
 rcases D.hz with hz|⟨T,o,f1,hT,eT,hz⟩
 ·exact#[_,hz,U]
 exact#[_,hz,U]
variable{Q:Option Aa->Ab->Prop}
theorem _e{TI TO:Addr}(D:mL s.heap z TI TO i1 i2 l1 l2 k xs ys)(hx:xs[k]? = some x)(hy:ys[k]? = some y)(hQ:∀h',mL h' z TI TO i1 i2 l1 l2 (k+1) xs ys->e_ h' s.heap.objs.size (List.toArray [x,y])->(∀c o,c∉[z,TO,i1,i2]->s.heap.get? c\o->h'.get? c\o)->Q (some (.ref s.heap.objs.size)) { s with heap:=h' }):wpAny (model prog w) A (pyNext (.ref z)) Q E s:=by
 unfold pyNext;exact ae (wpAny_attempt (uR (name:=Str.ofString "__next__") D.ty F.slot_zip_next (tK F.slot_zip_next D.ty F.entry_zip_next (gO_ D hx hy λh' a2 a3 a4=>aE (hQ h' a2 a3 a4)) (F.args_zip_next_1 _))))
theorem dt_{TI TO:Addr}(hh:A.handled=none)(D:mL s.heap z TI TO i1 i2 l1 l2 k xs ys)(b0:s.heap.IsList l1 xs)(hx:xs[k]? = none)(hQ:∀h',(∀c o,c∉[z,TO,i1,i2]->s.heap.get? c\o->h'.get? c\o)->Q none { s with heap:=h' }):wpAny (model prog w) A (pyNext (.ref z)) Q E s:=by
 unfold pyNext;apply ae (wpAny_attempt (uR (name:=Str.ofString "__next__") D.ty F.slot_zip_next (tK F.slot_zip_next D.ty F.entry_zip_next (hT_ hh D b0 hx λh' e hk he=>?_) (F.args_zip_next_1 _))));let#[o,ho,hc]:=he;exact ae (wpAny_isInstance (T:="StopIteration") (b:=true) #[o,ho,hc] isSubtype_stop (aE (hQ _ hk)))
abbrev Ck(h:Heap)(l1 l2:Addr):Heap:=oH (mU h l1) l2
abbrev Cj(h:Heap)(l1 l2:Addr):Heap:=(Ck h l1 l2).push { cls:=.type "tuple",data:=.seq (List.toArray [.ref h.objs.size,.ref (mU h l1).objs.size]) }
abbrev Ci(h:Heap)(l1 l2:Addr):Heap:=(Cj h l1 l2).push { cls:=.type "tuple",data:=.seq (List.toArray [.none,.none]) }
abbrev yr(h:Heap)(l1 l2:Addr):Heap:=(Ci h l1 l2).push { cls:=.type "zip",data:=.fields (List.toArray [.none,.bool false,.bool false,.ref (Ck h l1 l2).objs.size,.ref (Cj h l1 l2).objs.size]) }
theorem fT_(l1 l2:Addr)(xs ys:Array Aa):Meets (Builtin.«zip.__new__» #[[.type "zip",.ref l1,.ref l2],[]]) (λ_ R s=>s.heap.IsList l1 xs/\s.heap.IsTuple l2 ys/\R (.ok (.ret (.ref (Ci s.heap l1 l2).objs.size))) { s with heap:=yr s.heap l1 l2 }):=
 .of_wp λprog w A R s h=>by
  let#[hp,g,d,tk,os]:=s;let#[a1,a2,h]:=h;let zK:=sub_zip;have b1:Heap.IsList (Shared.heap #[hp,g,d,tk,os]) l1 xs:=a1;have b2:Heap.IsTuple (Shared.heap #[hp.push { cls:=.type "list_iterator",data:=.fields (List.toArray [.ref l1,.int 0 0]) },g,d,tk,os]) l2 ys:=Heap.IsTuple.push a2 _
  wp_walk using wpAny_pyIter_list b1,wpAny_pyIter_tuple b2
  exact#[_,U,h]
theorem mL.zo{h:Heap}{TI TO:Addr}(D:mL h z TI TO i1 i2 l1 l2 k xs ys){h':Heap}(up:∀c o,h.get? c\o->h'.get? c\o):mL h' z TI TO i1 i2 l1 l2 k xs ys:=by
 let#[nd,ti,ls,hI,#[a,b,hO],s1,s2,hz]:=D;apply#[nd,ti,ls,up _ _ hI,#[a,b,up _ _ hO],s1.keep (up _) (up _),s2.keep (up _) (up _),?_];rcases hz with hz|⟨T,o,f1,hT,eT,hz⟩
 ·exact .inl (up _ _ hz)
 exact .inr #[T,o,f1,hT,up _ _ eT,up _ _ hz]
theorem gx_{Q:Aa->Ab->Prop}(a1:s.heap.IsList l1 xs)(a2:s.heap.IsTuple l2 ys)(h:∀h' z TI TO i1 i2,mL h' z TI TO i1 i2 l1 l2 0 xs ys->Zp h' z TI TO .none false->(∀b∈[z,TO,i1,i2],s.heap.objs.size<=b)->(∀c o,s.heap.get? c\o->h'.get? c\o)->Q (.ref z) { s with heap:=h' }):wpAny (model prog w) A (call (.type "zip") [.ref l1,.ref l2]) Q E s:=by
 apply callType_new F.called_zip (by decide) (F.typeCall_zip_2 _ _) (F.newCall_zip_2 _ _) (λobj=>F.args_object_init_3 obj _ _) F.entry_zip_new (fT_ l1 l2 xs ys) #[a1,a2,?_];have z1:(mU s.heap l1).objs.size=s.heap.objs.size+1:=mi ..;have z2:(Ck s.heap l1 l2).objs.size=s.heap.objs.size+2:=by rw[mi,z1]
 have z3:(Cj s.heap l1 l2).objs.size=s.heap.objs.size+3:=by rw[mi,z2]
 have z4:(Ci s.heap l1 l2).objs.size=s.heap.objs.size+4:=by rw[mi,z3]
 have g5:(yr s.heap l1 l2).get? (Ci s.heap l1 l2).objs.size\_:=cJ _ U;have g4:(yr s.heap l1 l2).get? (Cj s.heap l1 l2).objs.size\_:=aQ _ (cJ _ U);have g3:(yr s.heap l1 l2).get? (Ck s.heap l1 l2).objs.size\_:=aQ _ (aQ _ (cJ _ U));have g2:(yr s.heap l1 l2).get? (mU s.heap l1).objs.size\_:=aQ _ (aQ _ (aQ _ (cJ _ U)));have g1:(yr s.heap l1 l2).get? s.heap.objs.size\_:=aQ _ (aQ _ (aQ _ (aQ _ (cJ _ U))));have up:∀c o,s.heap.get? c\o->(yr s.heap l1 l2).get? c\o:=λc o x=>aQ _ (aQ _ (aQ _ (aQ _ (aQ _ x))));have Ky:l1<s.heap.objs.size:=by let#[_,e,_]:=a1;exact bx e
 have Kx:l2<s.heap.objs.size:=by let#[_,e,_]:=a2;exact bx e
 show _/\_;apply#[#[_,g5,U],h _ (Ci s.heap l1 l2).objs.size (Ck s.heap l1 l2).objs.size (Cj s.heap l1 l2).objs.size s.heap.objs.size (mU s.heap l1).objs.size #[?_,?_,?_,g3,#[_,_,g4],.lst #[_,g1,U,U] (a1.at λo e=>up _ o e),.tup #[_,g2,U,U] (by let#[o,e,r]:=a2;exact#[o,up _ o e,r]),.inl g5] g5 ?_ up]
 ·rw[z1,z3,z4];generalize s.heap.objs.size=n;simp
 ·rw[z1,z2,z3,z4];generalize s.heap.objs.size=n;simp
 ·intro l hl hm
  have lt:l<s.heap.objs.size:=by
   simp only[bY,gf,or_false] at hl;rcases hl with rfl|rfl
   ·exact Ky
   exact Kx
  simp only[bY,gf,or_false] at hm;rcases hm with rfl|rfl|rfl|rfl
  ·rw[z4] at lt;exact absurd lt (Nat.not_lt.mpr (tY _ _))
  ·rw[z3] at lt;exact absurd lt (Nat.not_lt.mpr (tY _ _))
  ·exact ub _ lt
  rw[z1] at lt;exact absurd lt (Nat.not_lt.mpr (tY _ _))
 intro b hb;simp only[bY,gf,or_false] at hb;rcases hb with rfl|rfl|rfl|rfl
 ·rw[z4];exact tY _ _
 ·rw[z3];exact tY _ _
 ·exact bh _
 rw[z1];exact tY _ _
theorem dB_:typeLookup (.type "zip") "keys"=pure none:=by rw[typeLookup_type,builtinLookup_eq_fast];kernel_rfl
theorem co_:typeLookup (.type "zip") "__getattr__"=pure none:=by rw[typeLookup_type,builtinLookup_eq_fast];kernel_rfl
theorem dV_:entryFor table "zip.__getattribute__"\Builtin.«object.__getattribute__»:=entryFor_alias (id':="object.__getattribute__") (by kernel_rfl) Z0 Z0 (by kernel_rfl)
theorem cZ_(a:Addr)(fs:Array Aa)(u:Tok):Meets (Builtin.«object.__getattribute__» #[[.ref a,.str "keys" u],[]]) (λA R s=>s.heap.get? a=some { cls:=.type "zip",dict:=none,data:=.fields fs,slots:=#[] }/\raisesAttr (.ref a) "keys" A R s):=
 Meets.of_wp λprog w A R s hs=>by
  let#[hp,g,d,tk,os]:=s;let#[hx,hs]:=hs;have hT:(#[hp,g,d,tk,os]:Ab).TypeIs (.ref a) "zip":=#[_,hx,U];let hm:=dB_;unfold Builtin.«object.__getattribute__»
  repeat (any_goals (first|assumption|wp_step))
  repeat (any_goals (first|assumption|wp_step))
  exact wpAny_raiseAttrError hs.1 hs.2 (attrMsg_fits Z0 (by size_fits))
variable{fs:Array Aa}
theorem fz_{tk:Tok}{R:Result->Ab->Prop}(hx:s.heap.get? a=some { cls:=.type "zip",dict:=none,data:=.fields fs,slots:=#[] })(h:raisesAttr (.ref a) "keys" A R s) :
  codeAny (model prog w) A (.call (.builtin "zip.__getattribute__") #[[.ref a,.str "keys" tk],[]]) R s:=by
 apply codeAny_call_builtin F.slot_zip_getattribute.plain dV_ (F.slot_zip_getattribute.check _ _ _ _ _ _ _ _ #[_,hx,U] (F.args_zip_getattribute_2 _ _) ?_);exact cZ_ a fs tk prog w A R s #[hx,h]
theorem vF(hx:s.heap.get? a=some { cls:=.type "zip",dict:=none,data:=.fields fs,slots:=#[] })(hA:A.handled=none)(h:∀h' tk,(∀b o,s.heap.get? b\o->h'.get? b\o)->Q none { s with heap:=h',toks:=tk }):wpAny (model prog w) A (getAttr? (.ref a) "keys") Q E s:=by
 let#[hp,g,d,tk,os]:=s;have ty:∀fO,(#[hp,g,d,fO,os]:Ab).TypeIs (.ref a) "zip":=λ_=>#[_,hx,U];let f1:=sub_AttributeError;let f2:=F.slot_zip_getattribute.lookup;let f3:=F.slot_zip_getattribute.bind (.ref a);let f4:=co_;unfold getAttr? getAttrBy? getAttrBy
 repeat (any_goals (first|assumption|exact ty _|wp_step))
 apply fz_ hx #[hA,λh' fO e vP=>?_];let#[t',u',he]:=vP.there;apply (show wpAny _ _ (getattributeRaised _ _ _ _ _ _ _) _ _ _ from ?_);unfold getattributeRaised
 repeat (any_goals (first|assumption|wp_step))
 exact h _ _ vP.keeps
variable{Q:Aa->Ab->Prop}
section
variable{prog:Ad}{w:Af}{K:Type}[DecidableEq K]{knd:PySem.KeyKind prog w K}{A:Ag}
theorem ZS{TI TO d:Addr}(hd:d∉[z,TO,i1,i2])(hh:A.handled=none){xs ys:aj}(rest:List K):∀(i:Nat) (kvs:List (K × Aa)) (s:Ab) (R:Result->Ab->Prop) (tk:Tok),i+rest.length=xs.length->i+rest.length=ys.length->
  (∀(j:Nat) k,rest[j]? = some k->∃v,xs[i+j]? = some v/\knd.is k v=true)->mL s.heap z TI TO i1 i2 l1 l2 i xs.toArray ys.toArray->s.heap.IsList l1 xs.toArray->s.heap.DictOf knd d kvs->kvs.length+rest.length<=1000->
  (∀h' fO,h'.DictOf knd d (eP kvs (rest.zip (ys.drop i)))->(∀b o,b≠d->b∉[z,TO,i1,i2]->s.heap.get? b\o->h'.get? b\o)->R (.ok (.ret .none)) { s with heap:=h',toks:=fO })->
  codeAny (model prog w) A (.builtin "dict.update.loop" #[[.ref d,.ref z,.int i tk,.none],[]]) R s:=by
 induction rest with
 |nil=>
  intro i kvs s R tk e1 e2 hk D b0 pS hz hR;apply codeAny_builtin B2 ?_;rw[xT qh _,BU];apply ae (dt_ hh D b0 (by simp at e1 ⊢;omega) λh' kp=>?_);exact ae (m:=Builtin.Dict.addKeywords d []) (aE (aE (hR h' s.toks (FD pS λo q=>kp _ _ hd q) λb o _ hb q=>kp b o hb q)))
 |cons k rest ih=>
  intro i kvs s R tk e1 e2 hk D b0 pS hz hR;simp only[iR] at e1 e2 hz;let#[v,hv,kv]:=hk 0 k U;have hy:ys[i]? = some ys[i]:=aY Z2;apply codeAny_builtin B2 ?_;rw[xT qh _,BU];apply ae (_e D (x:=v) (y:=ys[i]) ⇑hv ⇑hy λh1 D1 hT kp=>?_);apply ae (iK (ae (wpAny_tryCatch ?_)));unfold Builtin.Dict.pairItems;apply ae (wpAny_typeOf (T:="tuple") #[_,hT,U] ?_);rw[aI (by decide)];unfold seqItems?;apply ae (ae (wpAny_load hT (aE (aE ?_))));apply (show wpAny _ _ (holding [v,ys[i]] (dictSet d v ys[i])) _ _ _ from iK (wpAny_dictSet_pairs kv (FD pS λo q=>kp _ _ hd q) (λh2 hd2 pQ=>?_) (by have:=cq;omega)));have c1:((i:Int)+1)=((i+1:Nat):Int):=by omega
  have ndT:s.heap.objs.size≠d:=by
   let#[o,es,ep,ho,_]:=pS;exact iu (bx ho)
  apply aE #[plainId_quiet qh _,?_];have d5:∀{c o},c≠d->h1.get? c\o->h2.get? c\o:=λhc q=>pQ.extBut _ _ hc q;let#[nd,ti,ls,hI,#[a,b,hO],s1,s2,QG]:=D1;have dn:∀{c},c∈[z,TO,i1,i2]->c≠d:=λhc e=>hd (by rw[<- e];exact hc)
  have si:∀{c xs},h1.IsTuple c xs->c≠d:=λ{c xs} q e=>by
   let#[o,ho,hc,_]:=q;let#[o2,es,ep,eQ,jq,_]:=pS;let eQ:=kp _ _ hd eQ;subst e;rw[ho] at eQ;cases eQ;let sY:=jq.1;rw[hc] at sY;exact absurd sY (by decide)
  have sj:∀{c xs},h1.IsList c xs->c≠d:=λ{c xs} q e=>by
   let#[o,ho,hc,_]:=q;let#[o2,es,ep,eQ,jq,_]:=pS;let eQ:=kp _ _ hd eQ;subst e;rw[ho] at eQ;cases eQ;let sY:=jq.1;rw[hc] at sY;exact absurd sY (by decide)
  have ld:∀{it l k zs},Src h1 it l k zs->l≠d:=λq=>by
   cases q with
   |lst _ b=>exact sj b
   |tup _ b=>exact si b
  have D2:mL h2 z TI TO i1 i2 l1 l2 (i+1) xs.toArray ys.toArray:=by
   apply#[nd,ti,ls,d5 (si #[_,hI,U,_,U]) hI,#[a,b,d5 (dn Y0) hO],s1.keep (λ_=>d5 (dn Y0)) (λ_=>d5 (ld s1)),s2.keep (λ_=>d5 (dn Y0)) (λ_=>d5 (ld s2)),?_];rcases QG with hz|⟨T,o,f1,Ao,eT,hz⟩
   ·exact .inl (d5 (dn Y0) hz)
   by_cases c:T=d
   ·let#[o2,es,ep,eQ,_]:=hd2;exact .inr #[T,o2,f1,Ao,by rw[c];exact eQ,d5 (dn Y0) hz]
   exact .inr #[T,o,f1,Ao,d5 c eT,d5 (dn Y0) hz]
  rw[c1]
  apply ih (i+1) (stored kvs k ys[i]) _ R 0 Z2 Z2 (λj k' hj=>?_) D2 (b0.at λo q=>d5 (sj (b0.at λo q=>kp _ _ (ls _ Y0) q)) (kp _ _ (ls _ Y0) q)) hd2 (by have:=Tb kvs k ys[i];omega) λh' fO hU DN=>hR h' fO (by
   have e:ys.drop i=ys[i]::ys.drop (i+1):=List.drop_eq_getElem_cons Z2;rw[e];exact hU) λb o h3 h4 q=>DN b o h3 h4 (d5 h3 (kp b o h4 q))
  let#[v,e,r]:=hk (j+1) k' hj;exact#[v,by rw[<- e];congr 1;omega,r]
theorem fP_{TI TO:Addr}{xs ys:aj}{ks:List K}(hh:A.handled=none)(D:mL s.heap z TI TO i1 i2 l1 l2 0 xs.toArray ys.toArray)(hz:Zp s.heap z TI TO .none false)(b0:s.heap.IsList l1 xs.toArray)(e1:ks.length=xs.length)(e2:ks.length=ys.length)(hk:∀(j:Nat) k,ks[j]? = some k->∃v,xs[j]? = some v/\knd.is k v=true)(om:ks.length<=1000)(h:∀h' fO,h'.DictOf knd s.heap.objs.size (eP [] (ks.zip ys))->(∀b o,b∉[z,TO,i1,i2]->s.heap.get? b\o->h'.get? b\o)->Q (.ref s.heap.objs.size) { s with heap:=h',toks:=fO }) :
  wpAny (model prog w) A (call (.type "dict") [.ref z]) Q E s:=by
 apply callType_codes (Q₁:=λobj aJ=>obj=.ref s.heap.objs.size/\aJ={ s with heap:=s.heap.push { cls:=.type "dict",data:=.dict #[] } }) F.kt_called_dict (F.kt_typeCall_dict_1 _) F.entry_dict_init (kt_code_dict_new _ #[U,U]) ?_;rintro obj aJ ⟨rfl,rfl⟩;have gn:(s.heap.push { cls:=.type "dict",data:=.dict #[] }).DictOf knd s.heap.objs.size []:=Heap.DictOf.new s.heap;have z1:Zp (s.heap.push { cls:=.type "dict",data:=.dict #[] }) z TI TO .none false:=aQ _ hz;apply#[gn.typeIs,F.args_dict_init_2 _ _,?_];unfold Builtin.«dict.__init__» Builtin.Dict.selfAndRest;apply ae (ae (wpAny_notOrdered_dict gn.typeIs ?_));apply (show wpAny _ _ (pure (s.heap.objs.size,[Value.ref z])) _ _ _ from aE ?_);apply (show wpAny _ _ (Builtin.Dict.updateFrom "dict.__init__" s.heap.objs.size (.ref z) [] .none) _ _ _ from ?_);unfold Builtin.Dict.updateFrom;apply ae (wpAny_typeOf (T:="zip") #[_,z1,U] ?_);rw[aI (by decide)];apply ae (vF z1 hh λh2 Pd k2=>?_);simp only[Option.isNone_none,if_true];have z2:IsZip h2 z TI TO .none:=k2 _ _ z1;apply ae (wpAny_rule (ae (wpAny_pyIter_zip z2 ?_)));apply aE #[plainId_quiet qh _,?_];have all:∀c o,s.heap.get? c\o->h2.get? c\o:=λc o q=>k2 _ _ (aQ _ q)
 have lt:∀{b},b∈[z,TO,i1,i2]->b<s.heap.objs.size:=λ{b} hb=>by
  let#[nd,ti,ls,hI,#[a,b,hO],s1,s2,QG]:=D;simp only[bY,gf,or_false] at hb;rcases hb with rfl|rfl|rfl|rfl
  ·exact bx hz
  ·exact bx hO
  ·exact s1.lt.1
  exact s2.lt.1
 apply ZS (A:=A.in1) (knd:=knd) (d:=s.heap.objs.size) (xs:=xs) (ys:=ys) (λhm=>ub _ (lt hm)) hh ks 0 [] _ _ 0 Z2 Z2 (λj k hj=>by simpa using hk j k hj) (D.zo all) (b0.at λo q=>all _ _ q) (FD gn λo q=>k2 _ _ q) ⇑om λh' fO hU kp=>#[U,h h' fO ⇑hU λb o hb q=>kp b o (dD (bx q)) hb (all _ _ q)]
end
theorem gF_{l3:Addr}{zs:Array Aa}(a1:s.heap.IsList l1 xs)(a2:s.heap.IsTuple l2 ys)(a3:s.heap.IsTuple l3 zs)(h:∀h' z TI TO i1 i2 i3,[z,TO,i1,i2,i3].Nodup->TI∉[z,TO,i1,i2,i3]->(∀b∈[z,TI,TO,i1,i2,i3],s.heap.objs.size<=b)->Zp h' z TI TO .none false->e_ h' TI (List.toArray [.ref i1,.ref i2,.ref i3])->e_ h' TO (List.toArray [.none,.none,.none])->h'.IsListIter i1 l1 0->h'.IsTupleIter i2 l2 0->h'.IsTupleIter i3 l3 0->(∀c o,s.heap.get? c\o->h'.get? c\o)->Q (.ref z) { s with heap:=h' }):wpAny (model prog w) A (call (.type "zip") [.ref l1,.ref l2,.ref l3]) Q E s:=by
 apply callType_new F.called_zip (by decide) (dy_ _ _ _) (eh_ _ _ _) (λobj=>fn_ obj _ _ _) F.entry_zip_new (fW_ l1 l2 l3 xs ys zs) #[a1,a2,a3,?_];have z1:(mU s.heap l1).objs.size=s.heap.objs.size+1:=mi ..;have z2:(oH (mU s.heap l1) l2).objs.size=s.heap.objs.size+2:=by rw[mi,z1]
 have z3:(Cp s.heap l1 l2 l3).objs.size=s.heap.objs.size+3:=by rw[mi,z2]
 have z4:(Co s.heap l1 l2 l3).objs.size=s.heap.objs.size+4:=by rw[mi,z3]
 have z5:(Cm s.heap l1 l2 l3).objs.size=s.heap.objs.size+5:=by rw[mi,z4]
 have g6:(yu s.heap l1 l2 l3).get? (Cm s.heap l1 l2 l3).objs.size\_:=cJ _ U;have g5:(yu s.heap l1 l2 l3).get? (Co s.heap l1 l2 l3).objs.size\_:=aQ _ (cJ _ U);have g4:(yu s.heap l1 l2 l3).get? (Cp s.heap l1 l2 l3).objs.size\_:=aQ _ (aQ _ (cJ _ U));have g3:(yu s.heap l1 l2 l3).get? (oH (mU s.heap l1) l2).objs.size\_:=aQ _ (aQ _ (aQ _ (cJ _ U)));have g2:(yu s.heap l1 l2 l3).get? (mU s.heap l1).objs.size\_:=aQ _ (aQ _ (aQ _ (aQ _ (cJ _ U))));have g1:(yu s.heap l1 l2 l3).get? s.heap.objs.size\_:=aQ _ (aQ _ (aQ _ (aQ _ (aQ _ (cJ _ U)))));show _/\_;apply#[#[_,g6,U],h _ (Cm s.heap l1 l2 l3).objs.size (Cp s.heap l1 l2 l3).objs.size (Co s.heap l1 l2 l3).objs.size s.heap.objs.size (mU s.heap l1).objs.size (oH (mU s.heap l1) l2).objs.size ?_ ?_ ?_ g6 g4 g5 #[_,g1,U,U] #[_,g2,U,U] #[_,g3,U,U] λc o x=>aQ _ (aQ _ (aQ _ (aQ _ (aQ _ (aQ _ x)))))]
 ·rw[z1,z2,z4,z5];generalize s.heap.objs.size=n;simp
 ·rw[z1,z2,z3,z4,z5];generalize s.heap.objs.size=n;simp
 intro b hb;simp only[bY,gf,or_false] at hb;rcases hb with rfl|rfl|rfl|rfl|rfl|rfl
 ·rw[z5];exact tY _ _
 ·rw[z3];exact tY _ _
 ·rw[z4];exact tY _ _
 ·exact bh _
 ·rw[z1];exact tY _ _
 rw[z2];exact tY _ _
end fI
namespace L2
open PySem PySem.Spec PySem.Calls PyProof.Rows PySem.W fI
inductive sH (K:ai) (R:It->Hp->Prop) (vs:af) (H1:Hp):Prop
 |mk:∀a b c xs ys zs,vs=[.ref a,.ref b,.ref c]->dS K H1 a xs->er K H1 b ys->er K H1 c zs->R (FQ K a b c) H1->sH K R vs H1
def DT(K:ai)(ta:TA):TI:=λσ H R=>ta σ H λvs H1=>sH K R vs H1
variable{X:Cx}{p2:Pos}{a:Expr}{es:List Expr}{ta:TA}
theorem Yo{elts:List Expr}{kk:Nat}{p pos:Pos}(hg:Gl X "zip")(hm:X.mg "zip"=none)(ha:PA X (a::es) ta)(hs:starEach (a::es) X.env=(false,eval a X.env)::starEach es X.env:=by rfl)(iE:(backTo pos (starEach es X.env)).any (·.1)=false:=by rfl):PI X (.Tuple elts kk p2) (.Call (.Name "zip" p) (a::es) [] pos) (DT X.K ta):=by
 intro pins s σ H R I h;apply Call_ (uT I hg hm boot_zip (AL (aN (ha pos pins s σ H _ I h) λus s1 ⟨vs,H1,I1,r1,q1⟩=>?_) hs iE));let#[a,b,c,xs,ys,zs,e,q1,q2,q3,q]:=q1;subst e;cases r1 with
 |cons ra rr=>
 cases rr with
 |cons rb rr=>
 cases rr with
 |cons rc rr=>
 cases rr;cases ra;cases rb;cases rc;let#[u1,_,p1,_]:=I1.list q1;let#[u2,_,p2,_]:=I1.tuple q2;let#[u3,_,p3,_]:=I1.tuple q3;have Ky:a<s1.heap.objs.size:=by let#[_,e,_]:=p1.isList;exact bx e
 have Kx:b<s1.heap.objs.size:=by let#[_,e,_]:=p2;exact bx e
 have W9:c<s1.heap.objs.size:=by let#[_,e,_]:=p3;exact bx e
 apply gF_ p1.isList p2 p3 λh' z TI TO i1 i2 i3 nd ti new hz hI hO VS s2 s3 kp=>?_;apply wpAny_pyIter_zip hz ?_;apply#[z,[z,TI,TO,i1,i2,i3],_,_,H1,U,I1.kept (t':=s1.toks) kp,_T a b c z TI TO i1 i2 i3 nd ti λl hl hm=>?_,#[hz,hI,#[_,_,_,hO],VS,s2,s3],λd hd=>I1.iH (new d hd) (I1.aA.fresh (new d hd)),q];have hm:s1.heap.objs.size<=l:=new l (by simp at hm ⊢;rcases hm with h|h|h|h|h<;>simp[h])
 simp only[bY,gf,or_false] at hl;rcases hl with rfl|rfl|rfl
 ·exact Nat.not_lt.mpr hm Ky
 ·exact Nat.not_lt.mpr hm Kx
 exact Nat.not_lt.mpr hm W9
theorem ZR{K:ai}{a b c:Addr}{xs ys zs:af}{g:TG}{tb:TS}{D:Ends}{σ:St}{H:Hp}(l2:ys.length=xs.length)(l3:zs.length=xs.length)(Pv:bR)(h0:Pv 0 σ H)(hl:∀i σ H,i<=xs.length->Pv i σ H->dS K H a xs/\er K H b ys/\er K H c zs)
  (hs:∀i x y z σ H,xs[i]? = some x->ys[i]? = some y->zs[i]? = some z->Pv i σ H->∀t,H t=none->g (.ref t) σ (upd H t (.tup [x,y,z])) λfu H2=>tb { D with nx:=Pv (i+1),ct:=Pv (i+1),bk:=D.nx } fu H2) (hd:∀σ H,Pv xs.length σ H->D.nx σ H) :
  ∃W:Nat->Nat->St->Hp->Prop,(∃m,W 0 m σ H)/\∀i m σ H,W i m σ H->
   ((FQ K a b c).stop i H/\D.nx σ H)∨((FQ K a b c).go i H/\∃N:St->Hp->Prop,(∀aZ H',N aZ H'->∃m',m'<m/\W (i+1) m' aZ H')/\∀x H',(FQ K a b c).ux i H x H'->g x σ H' λfu H2=>tb { D with nx:=N,ct:=N,bk:=D.nx } fu H2):=by
 apply#[λi m σ H=>m=xs.length - i/\i<=xs.length/\Pv i σ H,#[xs.length,by simp,gO _,h0],?_];rintro i m σ H ⟨rfl,hi,p⟩;let#[q1,q2,q3]:=hl i σ H hi p;by_cases dH:i<xs.length
 ·apply .inr #[#[xs,ys,zs,xs[i],ys[i]' Z2,zs[i]' Z2,q1,q2,q3,by simp[dH],by simp[l2,dH],by simp[l3,dH]],Pv (i+1),λaZ H' p'=>#[xs.length - (i+1),by omega,U,dH,p'],λv H' y=>?_];let#[t,x,y,z,rfl,ht,y1,y2,y3,rfl]:=y;exact hs i x y z σ H (y1 xs q1) (y2 ys q2) (y3 zs q3) p t ht
 have e:i=xs.length:=by omega
 subst e;exact .inl #[#[xs,q1,U],hd σ H p]
inductive S8 (K:ai) (Q:VK) (vs:af) (H1:Hp):Prop
 |mk:∀(l t:Addr) (ns:ag) (ys:af),vs=[.ref l,.ref t]->dS K H1 l (ns.map V.str)->er K H1 t ys->ys.length=ns.length->ns.length<=1000->(∀d,H1 d=none->Q (.ref d) (upd H1 d (.dK (we [] ((ns.zip ys).map λp=>(Sum.inr p.1,p.2))))))->S8 K Q vs H1
def qC(K:ai)(ta:TA):TE:=λσ H Q=>ta σ H λvs H1=>S8 K Q vs H1
theorem Qz:∀{ns:ag} {ys:af} {us:aj},Vals ys us->KV ((ns.zip ys).map λp=>((Sum.inr p.1:Key),p.2)) ((ns.map Sum.inr).zip us)
 |[],_,_,_=>by simp only[List.zip_nil_left,List.map_nil];exact Paired.nil
 |_::_,_,_,.nil=>by simp only[List.zip_nil_right,List.map_nil];exact Paired.nil
 |n::ns,y::ys,u::us,.cons r t=>.cons #[U,r] (Qz t)
theorem fo_{p1 oS oR:Pos}(gD:Gl X "dict")(mD:X.mg "dict"=none)(gZ:Gl X "zip")(mZ:X.mg "zip"=none)(ha:PA X (a::es) ta)(hc:X.calm=true:=by rfl)(h1:starEach (a::es) X.env=(false,eval a X.env)::starEach es X.env:=by rfl)(h2:starEach [.Call (.Name "zip" p2) (a::es) [] oR] X.env=(false,eval (.Call (.Name "zip" p2) (a::es) [] oR) X.env)::starEach [] X.env:=by rfl)(h3:(backTo oS (starEach [] X.env)).any (·.1)=false:=by rfl)(h4:(backTo oR (starEach es X.env)).any (·.1)=false:=by rfl):PE X (.Call (.Name "dict" p1) [.Call (.Name "zip" p2) (a::es) [] oR] [] oS) (qC X.K ta):=by
 intro pins s σ H Q I h;apply wpAny_Call_Name_kw (uT I gD mD uQ ?_ (by decide) (by decide));apply AL ?_ h2 h3;rw[h2];apply (show wpAny _ _ (spliced ((false,eval (.Call (.Name "zip" p2) (a::es) [] oR) X.env)::backTo oS (starEach [] X.env))) _ _ s from Calls.spliced_cons ?_);apply wpAny_Call_Name_kw (uT I gZ mZ boot_zip ?_ (by decide) (by decide));apply AL (aN (ha oR pins s σ H _ I h) λus s1 ⟨vs,H1,I1,r1,q1⟩=>?_) h1 h4;let#[l,t,ns,ys,e,sq,VF,ly,om,q]:=q1;subst e;cases r1 with
 |cons ra rr=>
 cases rr with
 |cons rb rr=>
 cases rr;cases ra;cases rb;let#[u1,v1,p1,_]:=I1.list sq;let#[u2,v2,p2,_]:=I1.tuple VF;let e1:=v1.length;let e2:=v2.length;rw[aq] at e1;apply gx_ p1.isList p2 λh' z TI TO i1 i2 D hz new kp=>?_;have I2:Inv X pins σ H1 { s1 with heap:=h' }:=I1.kept (t':=s1.toks) kp;apply Calls.spliced_nil ?_;apply fP_ (knd:=dW X.prog X.w) (s:={ s1 with heap:=h' }) (ks:=ns.map Sum.inr) (I1.ok.hd hc) D hz (p1.isList.at λo e=>kp _ _ e) (by rw[aq];omega) (by rw[aq];omega) (λj k hj=>?_) (by rw[aq];exact om) λgS tk hd XB=>?_
 ·rw[dC,Ca] at hj;let#[n,hn,rfl]:=hj;let#[u,hu,ru]:=v1.get (i:=j) (x:=V.str n) (by rw[dC,hn];rfl);exact#[u,hu,v_ (k:=Sum.inr n) ru]
 have hk:∀b o,s1.heap.get? b\o->gS.get? b\o:=λb o e=>XB b o (λhm=>Nat.not_lt.mpr (new b hm) (bx e)) (kp _ _ e);have fresh:s1.heap.objs.size<=h'.objs.size:=Nat.le_of_lt (Nat.lt_of_le_of_lt (new z Y0) (bx hz));let big:=I2.big;apply#[.ref h'.objs.size,_,I1.laid (t':=tk) hk fresh (L5 ?_ (beq_eq_false_iff_ne.mpr (bN (dD big))) (KV.eP (Qz v2) .nil) hd),U,q _ (I1.aA.fresh fresh)];show (we [] ((ns.zip ys).map λp=>((Sum.inr p.1:Key),p.2))).length<=sizeLine;have:=Ow ((ns.zip ys).map λp=>((Sum.inr p.1:Key),p.2)) [];rw[aq,List.length_zip] at this;have:=cq;simp only[List.length_nil] at *;omega
end L2
namespace fI
open PySem PySem.W PyProof.Rows
variable{prog:Ad}{w:Af}{A:Ag}
theorem N3(hh:A.handled=none)(it l:Addr)(ne:l≠it)(xs:Array Aa):Draws prog w A it [it,l] xs.size (λi v=>xs[i]? = some v) λi h=>h.IsTupleIter it l i/\h.IsTuple l xs where
 live:=λi h ⟨⟨o,e,_⟩,_⟩=>#[o,e]
 frame:=λi h h' ⟨a,b⟩ k=>#[a.at λo e=>k it Y0 o e,by let#[o,e,r]:=b;exact#[o,k l Y0 o e,r]]
 item:=λi s Q E hi ⟨a,b⟩ h=>nextT a b (Array.getElem?_eq_getElem hi) λh' a' sb=>h _ h' s.toks (Array.getElem?_eq_getElem hi) #[a',b.extBut sb.extBut ne] sb
 done:=λs Q E ⟨a,b⟩ hE=>by
  let#[o,ho,hc,hd]:=id a;let#[u,hu,_,n,hv]:=b;have hx:xs[xs.size]? = none:=Array.getElem?_eq_none (bh _);unfold Builtin.SmallTypes.nextOf;apply ae (uR (name:=Str.ofString "__next__") a.typeIs F.slot_tuple_iterator_next (tK F.slot_tuple_iterator_next a.typeIs F.entry_tuple_iterator_next ?_ (F.args_tuple_iterator_next_1 _)));apply (show wpAny _ _ (field (.ref it) 0 >>= _) _ _ s from ae (fF ho hd (x:=.ref l) U ?_));apply (show wpAny _ _ (if (Value.ref l == Value.none)=true then _ else _) _ _ s from ?_);rw[aC (show ¬((Value.ref l == Value.none)=true) from gM)];apply (show wpAny _ _ (field (.ref it) 1 >>= _) _ _ s from ae (fF ho hd (x:=.int xs.size 0) U ?_));apply (show wpAny _ _ (seqItems? (.ref l) >>= _) _ _ s from ae (mj hu hv ?_));simp only[yl,hx];apply ae (wpAny_rule (ae (wpAny_setField ho hd Y0 ?_)));apply (show wpAny _ _ (newExc (.type "StopIteration") [] >>= _) _ _ _ from ae ?_);simp only[newExc,newTuple];apply ae (p9 ?_ (by size_fits));apply ae (m:=firstArgMember _ _) (wpAny_of_eq (a:=Value.none) (by first|rfl|(simp only[firstArgMember];rfl)) ?_);apply p9 ?_ (by size_fits);simp only[raiseNew];apply ae (wpAny_handled ?_)
  first|rw[show A.in1.handled=none from hh]|rw[hh]
  apply ae (aE (wpAny_throw ?_));exact hE _ _ (((Heap.SameBut.update ..).extBut.push _).push _) #[_,cJ _ U,U]
variable{s:Ab}
theorem en_(l:Addr)(xs:Array Aa):Meets (Builtin.«enumerate.__new__» #[[.type "enumerate",.ref l],[]]) (λ_ R s=>s.heap.IsTuple l xs /\
   R (.ok (.ret (.ref (oH s.heap l).objs.size))) { s with heap:=(oH s.heap l).push { cls:=.type "enumerate",data:=.fields (List.toArray [.none,.bool false,.ref s.heap.objs.size,rawInt 0,.none,.none]) } }):=
 .of_wp λprog w A R s h=>by
  let#[hp,g,d,tk,os]:=s;let#[a,h]:=h;let zK:=sub_enumerate;let#[o,ho,hc,n,hd]:=id a;have hL:Heap.IsTuple (Shared.heap #[hp,g,d,tk,os]) l xs:=a
  wp_walk using AutoSeq1.wpAny_loadPart' ho
  apply wpAny_stack_any λst=>aE ?_;split
  ·rename_i c _ _ _ _ _
   cases (c == Value.type "enumerate")
   ·wp_walk using AutoSeq1.wpAny_loadPart' ho,wpAny_pyIter_tuple hL
    exact#[_,U,h]
   wp_walk using AutoSeq1.wpAny_loadPart' ho,wpAny_pyIter_tuple hL
   exact#[_,U,h]
  wp_walk using AutoSeq1.wpAny_loadPart' ho,wpAny_pyIter_tuple hL
  exact#[_,U,h]
variable{E:Aa->Ab->Prop}
theorem fF_{l:Addr}{xs:Array Aa}{Q:Aa->Ab->Prop}(hL:s.heap.IsTuple l xs)
  (h:∀h',IsEnum h' (s.heap.objs.size+1) s.heap.objs.size 0 .none->h'.IsTupleIter s.heap.objs.size l 0->(∀b o,s.heap.get? b\o->h'.get? b\o)->Q (.ref (s.heap.objs.size+1)) { s with heap:=h' }) :
  wpAny (model prog w) A (call (.type "enumerate") [.ref l]) Q E s:=by
 apply callType_new F.called_enumerate (by decide) (F.typeCall_enumerate_1 _) (F.newCall_enumerate_1 _) (λobj=>F.args_object_init_2 obj _) F.entry_enumerate_new (en_ l xs) #[hL,?_];have hz:(oH s.heap l).objs.size=s.heap.objs.size+1:=mi ..;have g2:((oH s.heap l).push { cls:=.type "enumerate",data:=.fields (List.toArray [.none,.bool false,.ref s.heap.objs.size,rawInt 0,.none,.none]) }).get? (oH s.heap l).objs.size\_:=cJ _ U;have g1:((oH s.heap l).push { cls:=.type "enumerate",data:=.fields (List.toArray [.none,.bool false,.ref s.heap.objs.size,rawInt 0,.none,.none]) }).get? s.heap.objs.size\_:=aQ _ (cJ _ U);show _/\_;rw[hz] at g2 ⊢;exact#[#[_,g2,U],h _ g2 #[_,g1,U,U] λb o x=>aQ _ (aQ _ x)]
end fI
namespace L2
open PySem PySem.Spec PyProof.Rows PySem.W fI
def ur(K:ai)(a:Addr):It:=
 #[λi H=>∃xs x,er K H a xs/\xs[i]? = some x,λi H y H'=>∃t x,y=.ref t/\H t=none/\(∀xs,er K H a xs->xs[i]? = some x)/\H'=upd H t (.tup [.int i,x]),λi H=>∃xs,er K H a xs/\xs.length=i]
variable{elts:List Expr}{pos:Pos}
theorem fp_{P:Ad}{w:Af}{K:ai}{k:Nat}(a e it:Addr)(h1:e≠it)(h2:a≠e)(h3:a≠it):Turn P w K (.Tuple elts k pos) (ur K a) [e,it] e (λi h=>(∃old,IsEnum h e it i old)/\h.IsTupleIter it a i) where
 mem:=by simp
 obj:=λi h st b hb=>by
  let#[#[old,q],o,e2,c,d]:=st;rcases bY.mp hb with rfl|hb
  ·exact#[_,q,λv z=>by cases z]
  obtain rfl:b=it:=⇑hb
  exact#[o,e2,λv z=>by rw[d] at z;cases z]
 keep:=λi h h' st kk=>by
  let#[#[old,q],eU]:=st;exact#[#[old,kk e Y0 _ q],eU.at λo q2=>kk it Y0 o q2]
 item:=by
  intro X hP hw hK hc i pins s σ H E I hf st hg;subst hP hw hK;let#[xs,x,hq,hx]:=hg;let#[its,rv,p,hz]:=I.tuple hq;let#[u,hu,ru]:=rv.get hx;have p:s.heap.IsTuple a its.toArray:=p;let W:=WalksT.enumerateD (A:=X.A) (N3 (prog:=X.prog) (w:=X.w) (A:=X.A.in1) (I.ok.hd hc) it a h3 its.toArray) e h1 (by simp[h1,bN h2]) Y0
  have hi:i<its.toArray.size:=by
   simp only[dc];exact (bW.mp hu).1
  let#[old,he]:=st.1;apply wpAny_pyNext_enum_itemD (N3 (prog:=X.prog) (w:=X.w) (A:=X.A.in1) (I.ok.hd hc) it a h3 its.toArray) he #[st.2,p] hi h1 (by simp[h1,bN h2]) λx' h' t vP ho d_ xK hsz hk=>?_
  have ex:x'=u:=by
   rw[List.getElem?_toArray,hu] at vP;exact (cX vP).symm
  subst ex;have z_:e<s.heap.objs.size:=bx he;have zZ:it<s.heap.objs.size:=by let#[_,x,_]:=st.2;exact bx x
  have mid:(∃x,IsEnumOut h' e it ((i:Int)+1) x s.heap.objs.size)/\(h'.IsTupleIter it a (i+1)/\h'.IsTuple a its.toArray)/\s.heap.objs.size≠e/\s.heap.objs.size≠it:=#[#[_,ho],d_,iu z_,iu zZ];have kk:∀b o,b∉[e,it]->s.heap.get? b\o->h'.get? b\o:=λb o hb x=>hk b o (λe'=>hb (by simp[e'])) (λe'=>hb (by simp[e'])) x;have pO:h'.IsTuple s.heap.objs.size (List.toArray [.int i t,x']):=#[_,xK,U,_,U];obtain⟨T,eT⟩:∃T,T=s.heap.objs.size:=#[_,U];obtain⟨tk,Bx⟩:∃tk,tk=t+1:=#[_,U];rw[<- eT] at pO mid xK ⊢;have hT:s.heap.objs.size<=T:=Nat.le_of_eq eT.symm;rw[<- Bx];apply#[_,U,W.go elts k pos i T { s with heap:=h',toks:=tk } _ _ mid λgS d_ zC=>?_];have nT:T∉[e,it]:=W.apart i T h' mid
  have oZ:gS.IsTuple T (List.toArray [.int i t,x']):=by
   let#[o,q,r]:=pO;exact#[o,zC T o nT q,r]
  have I1:Inv X pins σ (upd H T (.tup [.int i,x])) { s with heap:=gS,toks:=tk }:=I.gQ (t':=tk) (fp:=[e,it]) (its:=[.int i t,x']) (λb o hb q=>zC b o hb (kk b o hb q)) hf hT (zl) (.cons #[t,U] (.cons ru .nil)) #[oZ,_,zC T _ nT xK,U];apply#[.ref T,_,I1,U,#[T,x,U,I.aA.fresh hT,λys hy=>by rw[I.di hy hq];exact hx,U],#[?_,d_.2.1],λb hb=>?_]
  ·let#[old,q]:=d_.1;exact#[old,by simpa using q]
  rw[aw (λz:b=T=>nT (by rw[<- z];exact hb))];exact (hf b hb).1
 done:=by
  intro X hP hw hK hc i pins s σ H E I hf st hg;subst hP hw hK;let#[xs,hq,hx]:=hg;let#[its,rv,p,hz]:=I.tuple hq;have p:s.heap.IsTuple a its.toArray:=p;let W:=WalksT.enumerateD (A:=X.A) (N3 (prog:=X.prog) (w:=X.w) (A:=X.A.in1) (I.ok.hd hc) it a h3 its.toArray) e h1 (by simp[h1,bN h2]) Y0
  have hn:its.toArray.size=i:=by
   have:=rv.length;simp only[dc];omega
  apply W.done s _ _ (by rw[hn];exact#[st.1,st.2,p]) λh' tk kk=>#[U,I.fN (t':=tk) (fp:=[e,it]) kk hf]
 self:=λA i s Q E st h=>by
  let#[old,q]:=st.1;exact wpAny_pyIter_enum q h
inductive nU (K:ai) (R:It->Hp->Prop) (vs:af) (H1:Hp):Prop
 |mk:∀a,vs=[.ref a]->(∃xs,er K H1 a xs)->R (ur K a) H1->nU K R vs H1
def zF(K:ai)(ta:TA):TI:=λσ H R=>ta σ H λvs H1=>nU K R vs H1
variable{X:Cx}
theorem ZI{kk:Nat}{p2:Pos}{a:Expr}{ta:TA}{p:Pos}(hg:Gl X "enumerate")(hm:X.mg "enumerate"=none)(ha:PA X [a] ta)(hs:starEach [a] X.env=[(false,eval a X.env)]:=by rfl):PI X (.Tuple elts kk p2) (.Call (.Name "enumerate" p) [a] [] pos) (zF X.K ta):=by
 intro pins s σ H R I h;apply Call_ (uT I hg hm boot_enumerate (AL (aN (ha pos pins s σ H _ I h) λus s1 ⟨vs,H1,I1,r1,q1⟩=>?_) hs U));let#[l,e,#[xs,hq],q]:=q1;subst e;cases r1 with
 |cons r rr=>
  cases rr;cases r;let#[its,rv,pl,hz]:=I1.tuple hq;have pl:s1.heap.IsTuple l its.toArray:=pl;have ll:l<s1.heap.objs.size:=by let#[_,e,_]:=pl;exact bx e
  apply fF_ pl λh' he hi kp=>?_;apply wpAny_pyIter_enum he ?_;apply#[s1.heap.objs.size+1,[s1.heap.objs.size+1,s1.heap.objs.size],_,_,H1,U,I1.kept (t':=s1.toks) kp,fp_ l _ _ (Nat.succ_ne_self _) (dD (Nat.lt_succ_of_lt ll)) (dD ll),#[#[_,he],hi],λb hb=>?_,q]
  have e:s1.heap.objs.size<=b:=by
   rcases bY.mp hb with rfl|hb
   ·exact Nat.le_succ _
   obtain rfl:b=s1.heap.objs.size:=⇑hb
   exact bh _
  exact I1.iH e (I1.aA.fresh e)
theorem gG_{K:ai}{a:Addr}{xs:af}{g:TG}{tb:TS}{D:Ends}{σ:St}{H:Hp}(Pv:bR)(h0:Pv 0 σ H)(hl:∀i σ H,i<=xs.length->Pv i σ H->er K H a xs)
  (hs:∀i x σ H,xs[i]? = some x->Pv i σ H->∀t,H t=none->g (.ref t) σ (upd H t (.tup [.int i,x])) λfu H2=>tb { D with nx:=Pv (i+1),ct:=Pv (i+1),bk:=D.nx } fu H2) (hd:∀σ H,Pv xs.length σ H->D.nx σ H) :
  ∃W:Nat->Nat->St->Hp->Prop,(∃m,W 0 m σ H)/\∀i m σ H,W i m σ H->
   ((ur K a).stop i H/\D.nx σ H)∨((ur K a).go i H/\∃N:St->Hp->Prop,(∀aZ H',N aZ H'->∃m',m'<m/\W (i+1) m' aZ H')/\∀x H',(ur K a).ux i H x H'->g x σ H' λfu H2=>tb { D with nx:=N,ct:=N,bk:=D.nx } fu H2):=by
 apply#[λi m σ H=>m=xs.length - i/\i<=xs.length/\Pv i σ H,#[xs.length,by simp,gO _,h0],?_];rintro i m σ H ⟨rfl,hi,p⟩;let q:=hl i σ H hi p;by_cases dH:i<xs.length
 ·apply .inr #[#[xs,xs[i],q,by simp[dH]],Pv (i+1),λaZ H' p'=>#[xs.length - (i+1),by omega,U,dH,p'],λx H' y=>?_];let#[t,x,rfl,ht,y,rfl]:=y;exact hs i x σ H (y xs q) p t ht
 have e:i=xs.length:=by omega
 subst e;exact .inl #[#[xs,q,U],hd σ H p]
def yB(tk tv:TE):TE:=λσ H Q=>∀p,H p=none->tk σ (upd H p (.dT [])) λx H1=>tv σ H1 λy H2=>H2 p\.dT []/\∃b k,x=.ref b/\H2 b\.tup (k.map kV)/\Q (.ref p) (upd H2 p (.dT [(k,y)]))
theorem SN{k v:Expr}{tk tv:TE}(hu:X.A.units+1<cLine)(hk:PE X k tk)(hv:PE X v tv):PE X (.Dict [some k] [v] pos) (yB tk tv):=by
 intro pins s σ H Q I q;let hn:=I.aA.fresh (bh s.heap.objs.size);let I1:=I.laid (a:=s.heap.objs.size) (o:=.dT []) (h':=s.heap.push { cls:=.type "dict",data:=.dict #[] }) (t':=s.toks) (λ_ _ q=>aQ _ q) (bh _) (SK s.heap I.big);let shape:=zip_pairTrees [some k] [v] X.env pos U U;rw[arm_eval_Dict,shape,dictDisplay_pairs (pairTrees [some k] [v] X.env pos) (by intro e;exact absurd (ed List.length e) (by rw[pairTrees_length [some k] [v] X.env pos U U];exact Nat.one_ne_zero)) (by rw[pairTrees_length [some k] [v] X.env pos U U];exact (by decide:1<17))];apply ae (wpAny_standAt (ae ?_));unfold subDict;apply ae (wpAny_alloc (ae (iK ?_)));rw[aI (by rw[pairTrees_length [some k] [v] X.env pos U U];exact (by decide:1<=15))];apply ae (pairTrees_cons_walk (aN (hk pins _ σ _ _ I1 (q _ hn)) λu s2 ⟨x,H2,I2,rx,q2⟩=>aN (hv pins s2 σ H2 _ I2 q2) λr s3 ⟨y,H3,I3,ry,e,b,kk,ex,eb,q3⟩=>pairTrees_nil_walk ?_));subst ex;cases rx;let#[z,hd,xs,rel,dd]:=Qc I3.aA e;cases rel;apply iK ?_;apply ae ?_;simp only[wH,u4];apply ae (ae (wpAny_dictSet_heap (hsz:=by simp) (show (tupleKind (dW X.prog X.w)).room X.A from Nat.lt_of_succ_lt hu) (wz I3.aA eb) dd λh' BS hs=>aE (aE (aE (aE (aE ?_))))));let#[ob,es,ep,hq,h2,h3,h4,_,h5]:=BS;apply#[.ref s.heap.objs.size,_,Ms (ob:=.dT [(kk,y)]) I3 (by rw[e];exact True.intro) hs #[ob,hq] #[zl,hd,_,(KT.put (H:=H3) (kvs:=[]) (xs:=[]) .nil kk eb ry).keeps λc ys ec=>?_,ob,es,ep,hq,h2,h3,h4,h5],U,q3];rw[aw (bS ec e nofun)];exact ec
open PySem.Builtin PySem.Builtin.Str
theorem RX:∀{ss:ag} {us:aj},Vals (ss.map V.str) us->StrsAre us ss
 |[],_,.nil=>.nil
 |x::ss,_,.cons r rs=>by
  let#[t,rfl]:=r;exact .cons x t (RX rs)
end L2
namespace fI
open PySem PySem.W PyProof.Rows
end fI
namespace L2
open PySem PySem.Spec PyProof.Rows PySem.W fI
section
variable{X:Cx}{o i e value:Expr}{pos pos' JC:Pos}{td ty tv:TE}
end
section
variable{X:Cx}{CX:u6}{k:Nat}{f C:Addr}{fd:Ae}{ps ks:ag}{sp:Sp}{E:XK}{m:Str}{pos apos:Pos}{e o:Expr}{es:List Expr}{Bw:List Keyword}{ta:TE}{t tk:TA}{g:aj->aj->aj}{gV:af->af->af}
end
structure FunD (K:ai) (x qual:Str) (st:Stmt) (f:Addr) (fd:Ae):Prop where
 ex:∃(oc:Aa) (od:Option Addr) (T:Addr) (kV doc pm:Aa) (an:Option Addr) (aL ct:Aa) (kh:Array (Option Aa)) (o:Obj) (n:Nat),
  fd=PySem.W.fnOf x qual (gU st) (gc st) (a9 st) (.ref T) kV doc pm an aL ct/\K.lookup f=some #[oc,od,.func fd,kh]/\PySem.W.codeIn K aL qual=true/\K.lookup T\o/\o.data=.seq (List.toArray [.none]) n
open AutoSeq1 (wpAny_loadPart')
variable{prog:Ad}{w:Af}
theorem d1_(r:Addr)(o:Obj)(hc:o.cls=.type "dict_values")(φ:aj->Ab->Prop) :
  MeetsIn prog w (Builtin.«tuple.__new__» #[[.type "tuple",.ref r],[]]) (λA R s=>s.heap.get? r\o/\A.handled=none/\(∀(A':Ag) (E':Aa->Ab->Prop) (Rr:aj->Ab->Prop),A'.handled=none->(∀vs s1,φ vs s1->Rr vs s1)->wpAny (model prog w) A' (collect (.ref r)) Rr E' s)/\∀vs s1,φ vs s1->vs.length<=sizeLine/\R (.ok (.ret (.ref s1.heap.objs.size))) { s1 with heap:=s1.heap.push { cls:=.type "tuple",data:=.seq vs.toArray } }):=
 .of_wp λA R s h=>by
  let#[hp,g,d,tk,os]:=s;let#[ht,hh,col,h]:=h;let zK:=sub_tuple_self;let Q0:=init_tuple_lookup;let hmh:=madeHere_tuple;have hT:Shared.TypeIs #[hp,g,d,tk,os] (.ref r) "dict_values":=#[o,ht,hc];have NB:∀{Rr:aj->Ab->Prop} {E':Aa->Ab->Prop},(∀vs s1,φ vs s1->Rr vs s1)->wpAny (model prog w) A.in1 (collect (.ref r)) Rr E' #[hp,g,d,tk,os]:=λh=>col A.in1 _ _ hh h
  wp_walk using pB ht,wpAny_typeOf hT,NB
  intro vs s1 hv;let#[hz,h]:=h vs s1 hv;apply (show wpAny _ _ (Builtin.Tuple.tupleExact vs.toArray >>= λv=>ret v) _ _ _ from ?_);unfold Builtin.Tuple.tupleExact;apply ae (p9 ?_ (by show vs.toArray.size<=sizeLine;simpa using hz));exact aE #[_,U,h]
inductive xf (xs:af) (H:Hp) (Q:VK):Prop
 |mk:∀v d kvs,xs=[.ref v]->H v\qc v d->H d\.dK kvs->(∀l,H l=none->Q (.ref l) (upd H l (.tup (kvs.map (·.2)))))->xf xs H Q
variable{X:Cx}
theorem Tq(hc:X.calm=true):gr X (.type "tuple") xf:=by
 intro pins s σ H xs us Q I r h;let#[v,d,kvs,rfl,hv,hd,q]:=h;let#[u,rfl,ru]:=vals1 r;cases ru;let#[z,hdn,vs,rel,dd]:=kD I.aA (.inl hd);let#[ep,dat]:=dd.dictAt;let#[iv,_,_]:=I.aA v _ hv;let hl:=rel.length;let#[o,ho,oc,_]:=id iv
 have col:∀(A':Ag) (E':Aa->Ab->Prop) (Rr:aj->Ab->Prop),A'.handled=none->(∀ws s1,(Inv X pins σ H s1/\Vals (kvs.map (·.2)) ws)->Rr ws s1)->wpAny (model X.prog X.w) A' (collect (.ref v)) Rr E' s:=λA' E' Rr hh q=>by
  apply kdu_collect (kdl_values (knd:=dW X.prog X.w) (kvs:=vs) (ep:=ep)) hh #[iv,dat] Z2 λh' tk acc k a=>q _ _ #[I.kept k,?_];have a':ItemsOf (λi v=>∃k,vs[i]? = some (k,v)) acc (kvs.map (·.2)).length:=by rw[aq,hl];exact a
  apply Ja a' λj v ⟨k,e⟩ y hy=>?_;rw[dC] at hy;cases e3:kvs[j]? with
  |none=>rw[e3] at hy;cases hy
  |some kv=>
   rw[e3] at hy;let#[u,hu,ru]:=LX rel j (k:=kv.1) (x:=kv.2) e3;rw[e] at hu;let hu:=cX hu;have g2:v=u:=ed Prod.snd hu;cases (cX hy:kv.2=y);rw[g2];exact ru
 apply callType_newIn F.called_tuple (by decide) (F.typeCall_tuple_1 _) (F.newCall_tuple_1 _) (λobj=>F.args_object_init_2 obj _) F.entry_tuple_new
  (d1_ v o oc λws s1=>Inv X pins σ H s1/\Vals (kvs.map (·.2)) ws) #[ho,I.ok.hd hc,col,λws s1 ⟨I1,r1⟩=>#[?_,#[_,cJ _ U,U],?_]]
 ·rw[<- r1.length,aq];exact z
 exact#[.ref s1.heap.objs.size,_,I1.laid (t':=s1.toks) (λb o e=>aQ _ e) (bh _) (show fi X.prog X.w _ _ _ (.tup (kvs.map (·.2))) from #[by rw[aq];exact z,ws,r1,IsTup.new _ _,_,cJ _ U,U]),U,q _ (I1.aA.fresh (bh _))]
theorem Z4{A:Ag}{E:Aa->Ab->Prop}{s:Ab}{t b:Addr}{ws:aj}{Q:Aa->Ab->Prop}(ht:IsTup s.heap t #[])(hb:IsTup s.heap b ws.toArray)(h:Q (.ref b) s):wpAny (model prog w) A (binaryOp .Add (.ref t) (.ref b)) Q E s:=by
 let#[#[cls,dd,data,sl],ho,hc,n,hd]:=id ht;let#[#[ND,Ic,data2,F9],eQ,jq,n2,hd2]:=id hb;simp only at hc hd jq hd2;subst hc hd jq hd2;exact concat_meets #[_,ho,U] #[_,eQ,U] noFill_tuple_add seq_tuple_add PySem.F.slot_tuple_add PySem.F.entry_tuple_add (PySem.F.args_tuple_add_2 _ _) (tuple_addW0 t b #[] ws.toArray n n2 dd Ic sl F9 U) #[ho,eQ,h]
inductive xk (x:V) (y:V) (H:Hp) (Q:VK):Prop
 |mk:∀a b xs ys,x=.ref a->y=.ref b->H a\.tup xs->H b\.tup ys->xs.length+ys.length<=sizeLine->(∀p H',aa H H'->H' p\.tup (xs++ys)->Q (.ref p) H')->xk x y H Q
theorem HZ:d9 X (binaryOp .Add) xk:=by
 intro pins s σ H x y v u Q I rx ry h;let#[a,b,xs,ys,rfl,rfl,ha,hb,hz,q]:=h;cases rx;cases ry;let#[its,r1,p1,_]:=I.tuple (.of ha);let#[iC,r2,p2,_]:=I.tuple (.of hb);by_cases z:its=[]
 ·subst z;let e:=r1.nQ.mp rfl;exact Z4 p1 p2 ⟨.ref b,H,I,rfl,q _ _ (aa.refl H) (by rw[e];exact hb)⟩
 apply HT.wc p1 p2 z (λz2=>⟨.ref a,H,I,rfl,q _ _ (aa.refl H) ?_⟩) (λz2=>?_) (by rw[<- r1.length,<- r2.length];exact hz)
 ·rw[r2.nQ.mp z2,wI];exact ha
 apply⟨.ref s.heap.objs.size,_,I.laid (t':=s.toks) (o:=.tup (xs++ys)) (λb ob q=>aQ _ q) (bh _) ?_,rfl,q _ _ (aa.new (I.aA.fresh (bh _))) az⟩;exact⟨by rw[d4];exact hz,_,r1.append r2,IsTup.new _ _,_,cJ _ rfl,rfl⟩
end L2
namespace fI
open PySem PySem.W PyProof.Rows
variable{prog:Ad}{w:Af}
theorem fN_(d:Addr)(es:Array DictEntry)(ep:Nat)(hd:(d == sysModules)=false):MeetsIn prog w (Builtin.«dict.__len__» ⟨[.ref d],[]⟩) (λ_ R s=>Raw s.heap d es ep/\R (.ok (.ret (.int es.size s.toks))) { s with toks:=s.toks+1 }):=
 .of_wp λA R s ⟨hm,h⟩=>by
  let#[o,ho,hc,jH]:=hm;apply (show wpAny _ _ (dictSize d >>= _) _ _ s from ?_);unfold dictSize;apply ae (ae (wpAny_dictEntries ho jH (aE ?_)));apply (show wpAny _ _ (Builtin.Dict.pendingCount d >>= _) _ _ s from ae (wpAny_pendingCount_other hd ?_));apply wpAny_ret_mkInt ?_;rw[Nat.add_zero];exact h
theorem g0_{A:Ag}{E:Aa->Ab->Prop}{s:Ab}{d:Addr}{es:Array DictEntry}{ep:Nat}{Q:Aa->Ab->Prop}(hd:(d == sysModules)=false)(hm:Raw s.heap d es ep)(hfit:(es.size:Int)<2 ^ 63)(h:Q (.int es.size (s.toks+1)) { s with toks:=s.toks+1+1 }):wpAny (model prog w) A (call (.builtin "len") [.ref d]) Q E s:=by
 apply Calls.call_function_entry kind_len plain_len entry_len (args_len1 _) ?_;unfold Builtin.«len»;apply ae (m:=oneArg "len" _) (aE ?_);apply ae (m:=callSpecial? (.ref d) (Str.ofString "__len__")) (uR (name:=Str.ofString "__len__") hm.ty F.slot_dict_len (call_meetsIn F.slot_dict_len hm.ty F.entry_dict_len (F.args_dict_len_1 _) (fN_ d es ep hd) #[hm,?_]));apply (show wpAny _ _ _ _ _ { s with toks:=s.toks+1 } from ae (iK (aE ?_)));apply ae (wpAny_letGo ?_);apply (show wpAny _ _ (if ((es.size:Nat):Int)<0 then _ else _) _ _ _ from ?_);rw[aC Z2];apply (show wpAny _ _ (if ((es.size:Nat):Int) ≥ 2 ^ 63 then _ else _) _ _ _ from ?_);rw[aC Z2];exact ae (wpAny_mkInt (aE #[_,U,h]))
end fI
namespace L2
open PySem PySem.Spec PyProof.Rows PySem.W fI
inductive T_ (xs:af) (H:Hp) (Q:VK):Prop
 |mk:∀a kvs,xs=[V.ref a]->H a\.dT kvs->Q (.int kvs.length) H->T_ xs H Q
theorem Tp{X:Cx}:gr X (.builtin "len") T_:=by
 intro pins s σ H xs us Q I r h;let#[a,kvs,rfl,ha,q]:=h;let#[u,rfl,ru]:=vals1 r;cases ru;let#[z,hd,xs,rel,o,es,ep,ho,hc,jH,vS,nd]:=I.aA a _ ha
 have l1:es.size=xs.length:=by
  have:=ed List.length vS;simpa using this
 let l2:=bH rel;let sz:=cq;apply g0_ (es:=es) (ep:=ep) hd ⟨o,ho,hc,jH⟩ Z2 ⟨.int kvs.length,H,I.tok _,⟨_,by rw[l2,<- l1]⟩,q⟩
end L2
namespace Ev
open PySem L2
abbrev ak:=ag
def sK(s:ak):ax:=s.map Sum.inr
abbrev sV(s:ak):af:=s.map V.str
theorem iz(s:ak):(sK s).map kV=sV s:=by
 unfold sK;rw[cz];rfl
variable{a:ak}
theorem BV{b:ak}(h:sK a=sK b):a=b:=by
 unfold sK at h;exact List.map_inj_right (λx y e=>iJ e) |>.mp h
inductive Wk (N:ak->ak->Prop) (s0:ak):Nat->ak->Prop
 |z:Wk N s0 0 s0
 |s {k:Nat} {a b:ak}:Wk N s0 k a->N a b->Wk N s0 (k+1) b
def Ds(N:ak->ak->Prop)(s0:ak)(k:Nat)(s:ak):Prop:=Wk N s0 k s/\∀j,j<k->¬Wk N s0 j s
variable{N:ak->ak->Prop}{s0:ak}
theorem Wk.ds:∀{k:Nat} {s:ak},Wk N s0 k s->∃j,j<=k/\Ds N s0 j s:=λ{k s} h=>by
 induction k using Nat.strongRecOn with
 |_ k ih=>
  by_cases c:∃j,j<k/\Wk N s0 j s
  ·let#[j,hj,hw]:=c;let#[i,hi,d]:=ih j hj hw;exact#[i,by omega,d]
  exact#[k,bh _,h,λj hj hw=>c #[j,hj,hw]]
variable{s:ak}
theorem Ds.prev{k:Nat}(h:Ds N s0 (k+1) s):∃a,Ds N s0 k a/\N a s:=by
 let#[hw,hn]:=h;cases hw with
 |@s _ a _ ha xJ=>exact#[a,#[ha,λj hj hw=>hn (j+1) Z2 (.s hw xJ)],xJ]
theorem Ds.down:∀{k:Nat} {s:ak},Ds N s0 k s->∀i,i<=k->∃t,Ds N s0 i t
 |0,s,h,i,hi=>#[s,by rw[show i=0 by omega];exact h]
 |k+1,s,h,i,hi=>by
  by_cases c:i=k+1
  ·exact#[s,by rw[c];exact h]
  let#[a,ha,_]:=h.prev;exact ha.down i Z2
variable{j:Nat}
theorem Ds.inj{k:Nat}(h:Ds N s0 j s)(h2:Ds N s0 k s):j=k:=by
 rcases Nat.lt_trichotomy j k with c|c|c
 ·exact absurd h.1 (h2.2 j c)
 ·exact c
 exact absurd h2.1 (h.2 k c)
structure Bf (N:ak->ak->Prop) (s0:ak) (k:Nat) (ks nw:List ak):Prop where
 nd:ks.Nodup
 nn:nw.Nodup
 all:∀s,s∈ks ↔ ∃j,j<=k/\Wk N s0 j s
 new:∀s,s∈nw ↔ Ds N s0 k s
structure Wd (old seen ks fd:List ak):Prop where
 nd:ks.Nodup
 nf:fd.Nodup
 all:∀s,s∈ks ↔ s∈old∨s∈seen
 new:∀s,s∈fd ↔ s∈seen/\s∉old
variable{old:List ak}
theorem Wd.start(nd:old.Nodup):Wd old [] old []:=#[nd,.nil,by simp,by simp]
variable{fd ks seen:List ak}
theorem Wd.skip(h:Wd old seen ks fd)(ha:a∈ks):Wd old (seen++[a]) ks fd:=by
 apply#[h.nd,h.nf,λs=>?_,λs=>?_]
 ·rw[h.all,dI,eJ];apply#[λx=>x.imp id .inl,λx=>?_];rcases x with x|x|rfl
  ·exact .inl x
  ·exact .inr x
  exact (h.all _).mp ha
 rw[h.new,dI,eJ];apply#[λ⟨x,y⟩=>#[.inl x,y],λ⟨x,y⟩=>#[?_,y]];rcases x with x|rfl
 ·exact x
 exact ((h.all _).mp ha).resolve_left y
theorem Wd.add(h:Wd old seen ks fd)(ha:a∉ks):Wd old (seen++[a]) (ks++[a]) (fd++[a]):=by
 have no:a∉old:=λx=>ha ((h.all _).mpr (.inl x));have nf:a∉fd:=λx=>ha ((h.all _).mpr (.inr ((h.new _).mp x).1));apply#[?_,?_,λs=>?_,λs=>?_]
 ·rw[wG];exact#[h.nd,by simp,λx hx y hy e=>ha (by rw[<- eJ.mp hy,<- e];exact hx)]
 ·rw[wG];exact#[h.nf,by simp,λx hx y hy e=>nf (by rw[<- eJ.mp hy,<- e];exact hx)]
 ·rw[dI,dI,h.all];constructor
  ·rintro ((x|x)|x)
   ·exact .inl x
   ·exact .inr (.inl x)
   exact .inr (.inr x)
  rintro (x|x|x)
  ·exact .inl (.inl x)
  ·exact .inl (.inr x)
  exact .inr x
 rw[dI,dI,h.new,eJ];constructor
 ·rintro (⟨x,y⟩|rfl)
  ·exact#[.inl x,y]
  exact#[.inr U,no]
 rintro⟨x|x,y⟩
 ·exact .inl #[x,y]
 exact .inr x
theorem Bf.start:Bf N s0 0 [s0] [s0]:=by
 have w0:∀s,Wk N s0 0 s ↔ s=s0:=λs=>#[λh=>by cases h;rfl,λh=>by rw[h];exact .z];apply#[by simp,by simp,λs=>?_,λs=>?_]
 ·rw[eJ,<- w0];exact#[λh=>#[0,bh _,h],λ⟨j,hj,h⟩=>by rw[show j=0 by omega] at h;exact h]
 rw[eJ,<- w0];exact#[λh=>#[h,λj hj=>by omega],λh=>h.1]
theorem Bf.next{k:Nat}{nw i6:List ak}(B:Bf N s0 k ks nw)(W:Wd ks seen i6 fd)(hs:∀s,s∈seen ↔ ∃a∈nw,N a s):Bf N s0 (k+1) i6 fd:=by
 have key:∀s,Wk N s0 (k+1) s->(∃j,j<=k/\Wk N s0 j s)∨s∈seen:=λs h=>by
  cases h with
  |@s _ a _ ha xJ=>
   by_cases c:∃j,j<k/\Wk N s0 j a
   ·let#[j,hj,hw]:=c;exact .inl #[j+1,by omega,.s hw xJ]
   exact .inr ((hs s).mpr #[a,(B.new a).mpr #[ha,λj hj hw=>c #[j,hj,hw]],xJ])
 have sw:∀s,s∈seen->Wk N s0 (k+1) s:=λs h=>by
  let#[a,ha,hn]:=(hs s).mp h;exact .s ((B.new a).mp ha).1 hn
 apply#[W.nd,W.nf,λs=>?_,λs=>?_]
 ·rw[W.all,B.all];constructor
  ·rintro (⟨j,hj,h⟩|h)
   ·exact#[j,by omega,h]
   exact#[k+1,bh _,sw s h]
  rintro⟨j,hj,h⟩;by_cases c:j=k+1
  ·rw[c] at h;exact key s h
  exact .inl #[j,by omega,h]
 rw[W.new,B.all];constructor
 ·rintro⟨h,n⟩;exact#[sw s h,λj hj hw=>n #[j,by omega,hw]]
 rintro⟨h,n⟩;have no:¬∃j,j<=k/\Wk N s0 j s:=λ⟨j,hj,hw⟩=>n j Z2 hw;exact#[(key s h).resolve_left no,no]
theorem Bf.last{k:Nat}(B:Bf N s0 k ks [])(h:Ds N s0 j s):j<k:=by
 by_cases c:j<k
 ·exact c
 let#[t,ht]:=h.down k Z2;exact absurd ((B.new t).mpr ht) Y0
def pF(ns:ag):Nat->List ak
 |0=>[[]]
 |n+1=>ns.flatMap λh=>(pF ns n).map (h::·)
theorem R0(ns:ag):∀n,(pF ns n).length=ns.length ^ n
 |0=>rfl
 |n+1=>by
  unfold pF;rw[List.length_flatMap];have:(ns.map λh=>((pF ns n).map (h::·)).length)=ns.map λ_=>ns.length ^ n:=uX λh _=>by rw[aq,R0 ns n]
  rw[this,List.map_const',List.sum_replicate_nat,Nat.pow_succ,Nat.mul_comm]
theorem SO{ns:ag}:∀{n:Nat} {s:ak},s.length=n->(∀h∈s,h∈ns)->s∈pF ns n
 |0,s,e,_=>by rw[List.length_eq_zero_iff.mp e];exact eJ.mpr U
 |n+1,[],e,_=>by cases e
 |n+1,h::s,e,hm=>by
  unfold pF;rw[List.mem_flatMap];exact#[h,hm h Y0,bG.mpr #[s,SO ⇑e (λx hx=>hm x (by simp[hx])),U]]
variable{ns:ag}
theorem Ik{n:Nat}{l:List ak}(nd:l.Nodup)(h:∀s∈l,s.length=n/\∀x∈s,x∈ns):l.length<=ns.length ^ n:=by
 rw[<- R0];exact List.Nodup.length_le_of_subset nd λs hs=>SO (h s hs).1 (h s hs).2
def tF(hs:Xa)(ts:Xb)(q:Pc)(h:Str):ag:=(near (aS hs) (bT ts) h).filter λo=>BG hs ts q.2.2 (some h) (some o)
structure Mv (hs:Xa) (ts:Xb) (qs:aP) (a b:ak) (m:Str × Str × Str):Prop where
 ex:∃(k:Nat) (q:Pc) (h h':Str),qs[k]? = some q/\a[k]? = some h/\h'∈tF hs ts q h/\b=a.set k h'/\m=(q.1,h,h')
def Nx(hs:Xa)(ts:Xb)(qs:aP)(a b:ak):Prop:=∃m,Mv hs ts qs a b m
structure Vs (hs:Xa) (qs:aP) (a:ak):Prop where
 len:a.length=qs.length
 ij:∀h∈a,h∈aS hs
theorem Nx.vs{hs:Xa}{ts:Xb}{qs:aP}{b:ak}(h:Nx hs ts qs a b)(v:Vs hs qs a):Vs hs qs b:=by
 let#[m,k,q,x,y,h1,h2,h3,rfl,_]:=h;apply#[by rw[List.length_set];exact v.len,λz hz=>?_];rcases List.mem_or_eq_of_mem_set hz with h|rfl
 ·exact v.ij z h
 exact (mK.mp (mK.mp h3).1).1
theorem Wk.vs{hs:Xa}{ts:Xb}{qs:aP}(v:Vs hs qs s0):∀{k:Nat} {s:ak},Wk (Nx hs ts qs) s0 k s->Vs hs qs s:=λh=>by
 induction h with
 |z=>exact v
 |s _ n ih=>exact n.vs ih
inductive Bb (hs:Xa) (ts:Xb) (qs:aP):ak->List (Str × Str × Str)->ak->Prop
 |nil {a:ak}:Bb hs ts qs a [] a
 |cons {a b c:ak} {m:Str × Str × Str} {ms:List (Str × Str × Str)}:Mv hs ts qs a b m->Bb hs ts qs b ms c->Bb hs ts qs a (m::ms) c
def Mq(hs:Xa)(qs:aP)(f:bF)(a b:Int):Prop:=∀x∈aS hs,∀y∈aS hs,b * (fK hs qs f x - fK hs qs f y)<=a * f_ hs
variable{a b r:Int}
theorem Y4{hs:Xa}{qs:aP}{f:bF}(R:Hw hs qs f r)(hb:0<b):Mq hs qs f a b ↔ b * r<=a * f_ hs:=by
 let#[x,hx,y,hy,rfl,up]:=R;constructor
 ·exact λh=>h x hx y hy
 intro h z hz u hu;let h1:=(up z hz).1;let h2:=(up u hu).2;have:b * (fK hs qs f z - fK hs qs f u)<=b * (fK hs qs f x - fK hs qs f y):=Int.mul_le_mul_of_nonneg_left Z2 Z2;omega
theorem ZD{M:Int}(hr:0<=r)(hM:0<M):a * (fr r M).2<(fr r M).1 * b ↔ a * M<r * b:=by
 have g0:0<(Int.gcd r M:Int):=by
  have:Int.gcd r M≠0:=λe=>by
   have:=Int.gcd_eq_zero_iff.mp e;omega
  omega
 have e1:(fr r M).1 * (Int.gcd r M:Int)=r:=Int.ediv_mul_cancel (Int.gcd_dvd_left ..);have e2:(fr r M).2 * (Int.gcd r M:Int)=M:=Int.ediv_mul_cancel (Int.gcd_dvd_right ..);have h1:a * (fr r M).2 * (Int.gcd r M:Int)=a * M:=by rw[Int.mul_assoc,e2]
 have h2:(fr r M).1 * b * (Int.gcd r M:Int)=r * b:=by rw[Int.mul_right_comm,e1]
 rw[<- h1,<- h2];exact#[λh=>Int.mul_lt_mul_of_pos_right h g0,λh=>Int.lt_of_mul_lt_mul_right h (iP g0)]
def Aw(ns:ag)(s:ak):bF:=λn=>((ns.zip s).lookup n).getD n
theorem G_(nd:ns.Nodup){k:Nat}{n h:Str}(hn:ns[k]? = some n)(hh:s[k]? = some h):Aw ns s n=h:=by
 unfold Aw
 have:(ns.zip s).lookup n\h:=by
  induction ns generalizing s k with
  |nil=>cases hn
  |cons m ns ih=>
   cases s with
   |nil=>cases hh
   |cons x s=>
    cases k with
    |zero=>
     cases cX hn;cases cX hh;simp[List.lookup]
    |succ k=>
     have hn:ns[k]? = some n:=⇑hn
     have hh:s[k]? = some h:=⇑hh
     have ne:(n == m)=false:=by
      rw[beq_eq_false_iff_ne];intro e;subst e;exact (iZ.mp nd).1 (cZ hn)
     rw[List.zip_cons_cons,qg,ne];exact ih (iZ.mp nd).2 hn hh
 rw[this];rfl
theorem Qp(nd:ns.Nodup)(hl:s.length=ns.length):((ns.zip (sV s)).map λp=>((Sum.inr p.1:Key),p.2))=gC ns (Aw ns s):=by
 apply List.ext_getElem? ?_;intro k;unfold gC dU;rw[dC,dC];by_cases c:k<ns.length
 ·have h1:ns[k]? = some ns[k]:=aY c;have h2:s[k]? = some (s[k]' Z2):=aY Z2
  have h3:(ns.zip (sV s))[k]? = some (ns[k],V.str (s[k]' Z2)):=by
   rw[List.getElem?_zip_eq_some];exact#[h1,by rw[dC,h2];rfl]
  rw[h3,h1,Option.map_some,Option.map_some];dsimp only;rw[G_ nd h1 h2]
 rw[List.getElem?_eq_none (by rw[List.length_zip];omega),List.getElem?_eq_none Z2];rfl
end Ev
namespace L2
open PySem PySem.Spec PyProof.Rows PySem.W
theorem SW{i:Int}(h:-(2 ^ 250)<i/\i<2 ^ 250):Builtin.Int.intBits i<=250:=by
 rw[intBits_le_iff];omega
def FV(i j:Int):Prop:=(-(2 ^ 250)<i/\i<2 ^ 250)/\(-(2 ^ 250)<j/\j<2 ^ 250)
theorem Rn{X:Cx}:d9 X (binaryOp .Mult) (rI FV λi j=>.int (i * j)):=Bs λi j _ _ _ _ _ hc q=>mul_int q (by
 let h1:=SW hc.1;let h2:=SW hc.2;let e:=bitsLine_eq;unfold IntMulOk Builtin.Int.intTooBig;have z:¬((Builtin.Int.intBits i:Int)+(Builtin.Int.intBits j:Int) > (bitsLine:Int)):=by omega
 simp[z])
end L2
namespace Ev
open PySem L2
variable{f0:Addr}{fd:Ae}
variable{H':Hp}
section v
theorem qP:bJ ["thing","least"] ["thing","least"] (a9 MX):=bV
def MR:Sp:=λvs H Q _=>∃i a:Int,vs=[.int i,.int a]/\Q (.bl (decide (a<=i))) H
theorem _n(F:bo K "is_whole_from" "is_whole_from" MX f0 fd)(cI:!br 1 "is_whole" fV nj):!ao a_ 2 f0 fd ["thing","least"] MR:=by
 exists F.bU qP;let#[i,a,rfl,k]:=h;apply#[_,aF (bp (ph (bc cI hr %[0|0]) (qe (pE xQ (pv 1) (pv 0))))),?_];exact#[_,U,i,U,_,U,c_ #[_,U,_,U,_,_,U,U,k]]
structure tL (l:Int × Int):Prop where
 b1:1<=l.2
 b2:l.2<2 ^ 200
 a1:-(2 ^ 200)<l.1
 a2:l.1<2 ^ 200
 g:Int.gcd l.1 l.2=1
abbrev gP(H:Hp)(t:Addr)(x:Int × Int):Prop:=H t=some (.tup [.int x.1,.int x.2])
theorem y0:bJ fV fV (a9 rK):=bV
def qI:Sp:=λvs H Q _=>∃(t:Addr) (l:Int × Int),vs=[.ref t]/\gP H t l/\tL l/\Q (.bl true) H
theorem Y6{f:Addr}(F:bo K "is_fraction" "is_fraction" rK f fd)(B:Bi mg)(Kt:mg "abs"=none)(cI:!br 1 "is_whole" fV nj)(cF:!br 2 "is_whole_from" ["thing","least"] MR)(cG:!br 1 BL mw vq):!ao a_ 3 f fd fV qI:=by
 exists F.bU y0;let#[t,l,rfl,ht,lo,k]:=h;refine' #[_,au ?s1 (au ?s2 (aF ?s3)),?kk]
 case s1=>exact cg (pf (eZ (d7 (cy jT (by rfl) B.jn jr %[0,jS (v:=.ty "tuple") (by rfl) B.tuple qf U|0]))) (pA (eY pV (cy iq (by rfl) B.len gE %[0|0]) ay))).pt (aF (bp il)) cj
 case s2=>exact cg (pf (eZ (d7 (bc cI hr %[bw cU (pv 0) ay|0]))) (pA (eZ (d7 (bc cF hr %[bw cU (pv 0) ay,ay|0]))))).pt (aF (bp il)) cj
 case s3=>exact bp (pE BJ (bc cG hr %[cy hI_ (by rfl) Kt PyProof.Rows.Boot.«abs» %[bw cU (pv 0) ay|0],bw cU (pv 0) ay|0]) ay)
 apply#[_,U,_,_,_,_,U,.tup ht,U,_,U,aM ?_];apply#[_,U,t,_,U,.inr (.of ht),U,_,U,?_];apply xR (show V.int ((2:Nat):Int)=V.int 2 from U) ?_;apply#[_,U,t,_,_,_,U,U,.of ht,U,l.1,U,_,U,aM ?_];apply#[_,U,t,_,_,_,U,U,.of ht,U,l.2,1,U,_,U,?_];rw[cw lo.b1];apply aM ?_;apply#[_,U,t,_,_,_,U,U,.of ht,U,l.1,U,_,U,t,_,_,_,U,U,.of ht,U,_,l.2,U,?_,lo.b1,?_]
 ·split<;>omega
 have e:Int.gcd (if l.1<0 then -l.1 else l.1) l.2=1:=by
  split
  ·rw[Int.neg_gcd];exact lo.g
  exact lo.g
 rw[e];exact#[U,k]
theorem yY:bJ mw mw (a9 rJ):=bV
def Sm(x:Int × Int):Prop:=(-(2 ^ 250)<x.1/\x.1<2 ^ 250)/\(-(2 ^ 250)<x.2/\x.2<2 ^ 250)
inductive k9 (vs:af) (H:Hp) (Q:VK) (E:XK):Prop
 |mk:∀(t u:Addr) (x y:Int × Int),vs=[.ref t,.ref u]->gP H t x->gP H u y->Sm x->Sm y->Q (.bl (decide (x.1 * y.2<y.1 * x.2))) H->k9 vs H Q E
theorem ZV{f:Addr}(F:bo K "is_less" "is_less" rJ f fd):!ao a_ 1 f fd mw k9:=by
 exists F.bU yY;let#[t,u,x,y,rfl,ht,hu,sx,sy,k]:=h;refine' #[_,aF ?s1,?kk]
 case s1=>exact bp (pE BH (bP Rn (bw cU (pv 0) ay) (bw cU (pv 1) ay)) (bP Rn (bw cU (pv 1) ay) (bw cU (pv 0) ay)))
 apply#[_,U,t,_,_,_,U,U,.of ht,U,_,U,u,_,_,_,U,U,.of hu,U,_,_,U,U,#[sx.1,sy.2],?_];exact#[_,U,u,_,_,_,U,U,.of hu,U,_,U,t,_,_,_,U,U,.of ht,U,_,_,U,U,#[sy.1,sx.2],_,_,U,U,k]
theorem y9:bJ fV fV (a9 rT):=bV
def lD:Sp:=λvs H Q _=>∃(t:Addr) (l:Int × Int),vs=[.ref t]/\gP H t l/\tL l/\Q .non H
theorem Yt{f:Addr}(F:bo K "check_limit" "check_limit" rT f fd)(cF:!br 3 "is_fraction" fV qI):!ao a_ 4 f fd fV lD:=by
 exists F.bU y9;let#[t,l,rfl,ht,lo,k]:=h;apply#[_,aF (cg (eZ (d7 (bc cF hr %[0|0]))) gg cj),?_];exact#[_,U,t,l,U,ht,lo,_,U,aM k]
structure Gs (K:ai) (CG CW:Addr) (H:Hp) (g p:Addr) (hs:Xa) (ts:Xb) (qs:aP) (fp:av):Prop where
 G:gx K CG CW H g p hs ts qs fp
 Gd:Good hs ts
 nd:(qs.map (·.1)).Nodup
 cY:qs.length<64
 wp:∀q∈qs,0<=q.2.1/\q.2.1<=1000000000
theorem Gs.same{CG CW:Addr}{H:Hp}{g p:Addr}{hs:Xa}{ts:Xb}{qs:aP}{fp:av}(G:Gs K CG CW H g p hs ts qs fp)(s:aa H H'):Gs K CG CW H' g p hs ts qs fp:=#[G.G.same s,G.Gd,G.nd,G.cY,G.wp]
theorem Gs.placed{CG CW:Addr}{H:Hp}{g p d:Addr}{hs:Xa}{ts:Xb}{qs:aP}{fp:av}{f:bF}(G:Gs K CG CW H g p hs ts qs fp)(s:aa H H')(hn:H d=none)(hd:H' d\.dK (gC (qs.map (·.1)) f))(at_:∀n∈qs.map (·.1),f n∈hs.map (·.1)):∃uG,B1 K CG CW H' g p d hs ts qs uG f:=by
 let#[uG,G',h]:=G.G.slim;apply#[uG,G'.same s,G.Gd,λhm=>?_,hd,at_,G.nd,G.cY];let#[o,e]:=h d hm;rw[hn] at e;cases e
theorem Vs.at_{hs:Xa}{qs:aP}{s:ak}(v:Vs hs qs s)(nd:(qs.map (·.1)).Nodup):∀n∈qs.map (·.1),Aw (qs.map (·.1)) s n∈hs.map (·.1):=λn hn=>by
 let#[k,hk,e]:=ia hn;have hl:k<s.length:=by rw[v.len];simpa using hk
 rw[G_ nd (k:=k) (by rw[aY hk,e]) (aY hl)];exact (gN hs).mem_iff.mp (v.ij _ (kJ hl))
abbrev fS(qs:aP)(s:ak):bF:=Aw (qs.map (·.1)) s
theorem yT:bJ ["goods","hands"] ["goods","hands"] (a9 rp):=bV
inductive kY (K:ai) (CG CW:Addr) (vs:af) (H:Hp) (Q:VK) (E:XK):Prop
 |mk:∀(g p t:Addr) (hs:Xa) (ts:Xb) (qs:aP) (fp:av) (s:ak),vs=[.ref g,.ref t]->Gs K CG CW H g p hs ts qs fp->H t\.tup (sV s)->s.length=qs.length->(∀d H',aa H H'->H d=none->H' d\.dK (gC (qs.map (·.1)) (fS qs s))->Q (.ref d) H')->kY K CG CW vs H Q E
theorem Yn{f CG CW:Addr}(F:bo K "placed_by" "placed_by" rp f fd)(B:Bi mg)(mZ:mg "zip"=none)(T:fY K CG)(cN:!bM CG 1 "names" ow (A6 K CG CW)):!ao a_ 2 f fd ["goods","hands"] (kY K CG CW):=by
 exists F.bU yT;let#[g,p,t,hs,ts,qs,fp,s,rfl,G,ht,hl,k]:=h;let cY:=G.cY;apply#[_,aF (bp (fo_ (by rfl) B.dict (by rfl) mZ %[xW cN T.cl (hr.mono (by decide)) (pv 0),1|0])),?_];let#[dx,dw,dy,vs,dk,h1,_]:=id G.G.ex;apply#[_,U,g,dx,_,U,h1,uU _ _ _ Z0 Z0 Z0,g,p,hs,ts,qs,fp,U,G.G,λl fo=>?_];let#[s1,e1]:=aD (o:=.lst ((qs.map (·.1)).map V.str)) fo;generalize upd H l (.lst ((qs.map (·.1)).map V.str))=H1 at s1 e1 ⊢;apply#[_,U,l,t,qs.map (·.1),sV s,U,.of e1,.of (s1 _ _ ht),by rw[aq,aq];exact hl,by rw[aq];omega,λd hd=>?_];rw[Qp G.nd (by rw[aq];exact hl)]
 have ki:((gC (qs.map (·.1)) (fS qs s)).map (·.1)).Nodup:=by
  rw[B3,qk,uV];exact G.nd.imp λn e=>n (iJ e)
 rw[yc ki];exact k d _ (s1.trans (aa.new hd)) (s1.free hd) az
theorem YT{hs:Xa}{ts:Xb}{qs:aP}{f:bF}{r:Int}(G:Good hs ts)(wp:∀q∈qs,0<=q.2.1/\q.2.1<=1000000000)(cY:qs.length<64)(R:Hw hs qs f r):0<=r/\r<2 ^ 140:=by
 let#[x,hx,y,hy,rfl,up]:=R;let h1:=(up y hy).1;let h2:=XX G wp cY (f:=f) hy
 have h3:fK hs qs f x<=64000000000 * f_ hs:=by
  unfold fK;let l1:=GL wp cY f x;let mo:=BR G;let so:=AK G hx;have q:f_ hs / strOf hs x<=f_ hs:=Int.ediv_le_self _ (iP mo.1);have q0:0<=f_ hs / strOf hs x:=Int.ediv_nonneg (iP mo.1) Z2;exact Int.le_trans (Int.mul_le_mul_of_nonneg_left q l1.1) (Int.mul_le_mul_of_nonneg_right l1.2 (iP mo.1))
 let mo:=BR G;omega
theorem XU{r M:Int}(hr:0<=r)(nZ:r<2 ^ 140)(hM:0<M)(hM2:M<2 ^ 100):0<=(fr r M).1/\(fr r M).1<2 ^ 140/\1<=(fr r M).2/\(fr r M).2<2 ^ 100/\Int.gcd (fr r M).1 (fr r M).2=1:=by
 have g0:0<Int.gcd r M:=by
  rcases Nat.eq_zero_or_pos (Int.gcd r M) with e|e
  ·have:=Int.gcd_eq_zero_iff.mp e;omega
  exact e
 have g1:0<(Int.gcd r M:Int):=by omega
 have e2:(fr r M).2 * (Int.gcd r M:Int)=M:=Int.ediv_mul_cancel (Int.gcd_dvd_right ..);have p1:0<=(fr r M).1:=Int.ediv_nonneg hr (iP g1);have p2:(fr r M).1<=r:=Int.ediv_le_self _ hr;have p3:(fr r M).2<=M:=Int.ediv_le_self _ (iP hM)
 have p4:1<=(fr r M).2:=by
  by_cases c:1<=(fr r M).2
  ·exact c
  have:(fr r M).2 * (Int.gcd r M:Int)<=0 * (Int.gcd r M:Int):=Int.mul_le_mul_of_nonneg_right Z2 (iP g1);omega
 exact#[p1,by omega,p4,by omega,Int.gcd_ediv_gcd_ediv_gcd g0]
noncomputable def eW (hs:Xa) (qs:aP) (s:ak) (l:Int × Int):Bool:=@decide (Mq hs qs (fS qs s) l.1 l.2) (Classical.propDecidable _)
theorem RC{hs:Xa}{qs:aP}{s:ak}{l:Int × Int}:eW hs qs s l=true ↔ Mq hs qs (fS qs s) l.1 l.2:=by
 unfold eW;exact @decide_eq_true_iff _ (Classical.propDecidable _)
theorem qU:bJ jX jX (a9 Nb):=bV
inductive IE (K:ai) (CG CW:Addr) (vs:af) (H:Hp) (Q:VK) (E:XK):Prop
 |mk:∀(g p t lt:Addr) (hs:Xa) (ts:Xb) (qs:aP) (fp:av) (s:ak) (l:Int × Int),vs=[.ref g,.ref t,.ref lt]->Gs K CG CW H g p hs ts qs fp->H t\.tup (sV s)->Vs hs qs s->gP H lt l->tL l->(∀H',aa H H'->Q (.bl (eW hs qs s l)) H')->IE K CG CW vs H Q E
theorem g9_{f CG CW:Addr}(F:bo K "is_even" "is_even" Nb f fd)(cL:!br 1 "is_less" mw k9)(cS:!br 6 "spread_at" pb (NI K CG CW))(cP:!br 2 "placed_by" ["goods","hands"] (kY K CG CW)):!ao a_ 7 f fd jX (IE K CG CW):=by
 exists F.bU qU;let#[g,p,t,lt,hs,ts,qs,fp,s,l,rfl,G,ht,v,hl,lo,k]:=h;apply#[_,aF (bp (QB (bc cL hr %[2,bc cS hr %[0,bc cP hr %[0,1|0]|0]|0]))),?_];apply#[_,U,_,U,_,U,_,U,g,p,t,hs,ts,qs,fp,s,U,G,ht,v.len,λd H1 s1 n1 e1=>?_];let#[RQ,Pl]:=G.placed s1 n1 e1 (v.at_ G.nd);apply#[g,p,d,hs,ts,qs,RQ,fS qs s,U,Pl,G.wp,λu r H2 s2 R e2=>?_];let rl:=YT G.Gd G.wp G.cY R;let mo:=BR G.Gd;let fb:=XU rl.1 rl.2 mo.1 mo.2.1;apply#[lt,u,l,fr r (f_ hs),U,s2 _ _ (s1 _ _ hl),e2,?_,?_,?_]
 ·have:=lo.a1;have:=lo.a2;have:=lo.b1;have:=lo.b2;exact#[#[by omega,by omega],by omega,by omega]
 ·exact#[#[by omega,by omega],by omega,by omega]
 let kk:=k H2 (s1.trans s2)
 have e:(!decide (l.1 * (fr r (f_ hs)).2<(fr r (f_ hs)).1 * l.2))=eW hs qs s l:=by
  rw[Bool.eq_iff_iff,RC,Y4 R (by have:=lo.b1;omega),Bool.not_eq_true',decide_eq_false_iff_not,ZD rl.1 mo.1,Int.not_lt,Int.mul_comm]
 apply#[_,U,?_];rw[e];exact kk
end
structure Ce (H:Hp) (d:Addr) (hs:Xa) (ts:Xb) (ns:ag) (q:Pc) (ad:Str->Addr):Prop where
 at_:H d\.dK (dU ns λh=>.ref (ad h))
 is:∀h∈ns,H (ad h)\.lst ((tF hs ts q h).map V.str)
def FT(H:Hp)(d:Addr)(hs:Xa)(ts:Xb)(q:Pc):Prop:=∃ad,Ce H d hs ts (aS hs) q ad
variable{q:Pc}
theorem Ce.same{H:Hp}{d:Addr}{hs:Xa}{ts:Xb}{ns:ag}{ad:Str->Addr}(h:Ce H d hs ts ns q ad)(s:aa H H'):Ce H' d hs ts ns q ad:=#[s _ _ h.at_,λx hx=>s _ _ (h.is x hx)]
theorem FT.same{H:Hp}{d:Addr}{hs:Xa}{ts:Xb}(h:FT H d hs ts q)(s:aa H H'):FT H' d hs ts q:=by
 let#[ad,h]:=h;exact#[ad,h.same s]
def wL(H:Hp)(l d:Addr)(hs:Xa)(ts:Xb)(q:Pc):Prop:=∃ad,Ce H d hs ts (aS hs) q ad/\∀x∈aS hs,ad x≠l
theorem wL.same{H:Hp}{l d:Addr}{hs:Xa}{ts:Xb}(h:wL H l d hs ts q)(s:aa H H'):wL H' l d hs ts q:=by
 let#[ad,h,n]:=h;exact#[ad,h.same s,n]
def qo(H:Hp)(l:Addr)(hs:Xa)(ts:Xb)(qs:aP):Prop:=∃ds:av,H l\.lst (ds.map V.ref)/\Paired (λd q=>FT H d hs ts q) ds qs
theorem qo.same{H:Hp}{l:Addr}{hs:Xa}{ts:Xb}{qs:aP}(h:qo H l hs ts qs)(s:aa H H'):qo H' l hs ts qs:=by
 let#[ds,h1,h2]:=h;exact#[ds,s _ _ h1,Paired.aX h2 λd q x=>x.same s]
section v
theorem BY:bJ ["goods","web","found","piece","exits","one"] ["goods"] (a9 lU):=bV
inductive Nv (K:ai) (CG CW:Addr) (vs:af) (H:Hp) (Q:VK) (E:XK):Prop
 |mk:∀(g p:Addr) (hs:Xa) (ts:Xb) (qs:aP) (fp:av),vs=[.ref g]->Gs K CG CW H g p hs ts qs fp->(∀l H',aa H H'->H l=none->qo H' l hs ts qs->Q (.ref l) H')->Nv K CG CW vs H Q E
theorem hU_{f CG CW CP:Addr}(F:bo K "exits_of" "exits_of" lU f fd)(T:fY K CG)(TW:Txt K mg CW)(cN:!bM CG 1 "names" ow (A6 K CG CW))(cH:!bM CW 1 "hands" ow (Fv K CW))(cE:!bM CW 2 "neighbours" wg (M4 K CW))(cM:!bM CG 3 "may_go" ["self","piece","one","other"] (lg K CG CW CP)):!ao a_ 4 f fd ["goods"] (Nv K CG CW):=by
 exists F.bU BY;let#[g,p,hs,ts,qs,fp,rfl,G,k]:=h;let hu:=fG hr;let sz:=cq;let cY:=G.cY;let nl:=G.Gd.iB;let h8:=G.Gd.h8;let oW:=G.Gd.oW;have iD:aO 1 _:=hr.mono (by decide);have nZ:aO 2 _:=hr.mono (by decide);have By:aO 3 _:=hr.mono (by decide);refine' #[_,au ?s1 (au ?s2 (au ?s3 (aF ?s4))),?kk]
 case s1=>exact bu 1 BY.nd (gG (pv 0) U)
 case s2=>exact bu 2 BY.nd (ft bK)
 case' s3=>refine' d0 dM U ?i3 ?g3 (au ?b1 (au ?b2 (aF ?b3)))
 case i3=>exact dX (xW cN T.cl iD (pv 0))
 case g3=>exact cu 3 BY.nd
 case b1=>exact bu 4 BY.nd Fx
 case' b2=>refine' d0 dM U ?i4 ?g4 (aF ?b4)
 case i4=>exact dX (xW cH TW.cl iD (pv 1))
 case g4=>exact cu 5 BY.nd
 case' b4=>refine' tT hu (pv 4) (pv 5) (js ["other","goods","one","piece"] 1 [0,5,3] (dX (iX cE TW.cl nZ (pv 1) %[5|0])) (λfp s H=>?g5) (λfp s H=>?c5) (λfp s H=>?e5)) U
 case g5=>exact fW (i:=0) (show (["other","goods","one","piece"]:ag).Nodup by decide +kernel) U (Or.inl U)
 case c5=>exact Ih (d7 (iX cM T.cl By (pv 1) %[3,2,0|0]))
 case e5=>exact pv 0
 case b3=>exact kI (pe ou xY xZ wC (pv 2) %[4|0])
 case s4=>exact bp (pv 2)
 let#[dx,dw,dy,vs,dk,h1,h2,_]:=id G.G.ex;have gno:(cQ p dw dy).lookup ("names":Str)=none:=uU _ _ _ Z0 Z0 Z0;have gnm:(cQ p dw dy).lookup ("may_go":Str)=none:=uU _ _ _ Z0 Z0 Z0;apply#[_,U,g,CG,dx,_,_,U,h1,T.cl,T.nW,yb _ _ _,?_];apply#[zl,λl hl=>?_];let#[s1,e1]:=aD (o:=.lst []) hl;generalize upd H l (.lst [])=H1 at s1 e1 ⊢;apply#[_,U,g,dx,_,U,s1 _ _ h1,gno,g,p,hs,ts,qs,fp,U,G.G.same s1,λln xC=>?_];let#[s2,e2]:=aD (o:=.lst ((qs.map (·.1)).map V.str)) xC;have Km:H ln=none:=s1.free xC;have Xg:ln≠l:=(bz e1 xC).symm;let el:=s2 _ _ e1;let jk:=s1.trans s2;generalize upd H1 ln (.lst ((qs.map (·.1)).map V.str))=H2 at s2 e2 el jk ⊢
 let Iv:bR:=λi σ H'=>∃(v3 v4 v5:aH) (ds:av),σ=[some (.ref g),some (.ref p),some (.ref l),v3,v4,v5]/\aa H H'/\H' ln\.lst ((qs.map (·.1)).map V.str)/\H' l\.lst (ds.map V.ref)/\Paired (λd q=>wL H' l d hs ts q) ds (qs.take i)
 apply#[ln,U,#[_,.of e2],ib (K:=K) (a:=ln) (xs:=(qs.map (·.1)).map V.str) Iv #[none,none,none,[],U,jk,e2,el,.nil] (λi σ H' _ ⟨_,_,_,_,_,_,q,_⟩=>.of q) ?_ ?_]
 ·rintro i y σ H3 hy ⟨v3,v4,v5,ds,rfl,dZ,e3,uI,pd⟩;let#[n,hn,rfl]:=mG hy;rw[dC,Ca] at hn;let#[q,hq,rfl]:=hn;let qm:=cZ hq;have hi:i<qs.length:=(bW.mp hq).1;intro d hd;let s4:=aa.new (o:=.dK []) hd;have e4:upd H3 d (.dK []) d\.dK (dU [] λh=>.ref d):=az;have dn:H d=none:=dZ.free hd;let lX:=dZ.trans s4;let iW:=s4 _ _ uI;let Sn:=s4 _ _ e3;let Dg:=Paired.aX (G:=λa q=>wL (upd H3 d (.dK [])) l a hs ts q/\a≠d) pd λa q x=>#[x.same s4,by let#[ad,x,_]:=x;exact bz x.at_ hd];have dl:d≠l:=(bz uI hd).symm;have dln:d≠ln:=(bz e3 hd).symm;generalize upd H3 d (.dK [])=H4 at s4 e4 lX iW Sn Dg ⊢;let W4:=h2.same lX;let#[jK,d1,l2,d3,wM,as,ef,w1,_]:=id h2.ex;have U3:(fh d1 l2 d3).lookup ("hands":Str)=none:=pC _ _ _ Z0 Z0 Z0;have U4:(fh d1 l2 d3).lookup ("neighbours":Str)=none:=pC _ _ _ Z0 Z0 Z0;apply#[_,U,p,jK,_,U,lX _ _ w1,U3,p,hs,ts,dk,U,W4,λlh fZ=>?_];let#[s5,e5]:=aD (o:=.lst ((aS hs).map V.str)) fZ;let jx:=lX.trans s5;have hn5:H lh=none:=lX.free fZ;have Xm:lh≠d:=(bz e4 fZ).symm;let S5:=s5 _ _ e4;let tG:=s5 _ _ iW;let Sl:=s5 _ _ Sn;let PL:=Paired.aX (G:=λa q=>wL (upd H4 lh (.lst ((aS hs).map V.str))) l a hs ts q/\a≠d) Dg λa q x=>#[x.1.same s5,x.2];generalize upd H4 lh (.lst ((aS hs).map V.str))=H5 at s5 e5 jx S5 tG Sl PL ⊢
  let Iw:bR:=λj σ H'=>∃(v5:aH) (ad:Str->Addr),σ=[some (.ref g),some (.ref p),some (.ref l),some (.str q.1),some (.ref d),v5]/\aa H H'/\H' ln\.lst ((qs.map (·.1)).map V.str)/\H' l\.lst (ds.map V.ref)/\H' lh\.lst ((aS hs).map V.str)/\Paired (λa q=>wL H' l a hs ts q/\a≠d) ds (qs.take i)/\Ce H' d hs ts ((aS hs).take j) q ad/\∀x∈(aS hs).take j,ad x≠l
  apply#[lh,U,#[_,.of e5],ib (K:=K) (a:=lh) (xs:=(aS hs).map V.str) Iw #[_,_,U,jx,Sl,tG,e5,PL,#[S5,by simp],by simp] (λj σ H' _ ⟨_,_,_,_,_,_,z,_⟩=>.of z) ?_ ?_]
  ·rintro j y σ H6 hy ⟨Ju,ad,rfl,iA,MA,uH,e6,Gk,ex,Hg⟩;let#[h,hh,rfl]:=mG hy;let hm:=cZ hh;have hj:j<(aS hs).length:=(bW.mp hh).1;let l9:=(gN hs).mem_iff.mp hm;let Lc:=Si oW hh;let W6:=h2.same iA;apply#[_,U,p,jK,_,U,iA _ _ w1,U4,_,U,p,h,hs,ts,dk,U,W6,oW,l9,λlx jG=>?_];let#[s7,e7]:=aD (o:=.lst ((near (aS hs) (bT ts) h).map V.str)) jG;generalize upd H6 lx (.lst ((near (aS hs) (bT ts) h).map V.str))=H7 at s7 e7 ⊢;have WQ:(near (aS hs) (bT ts) h).length<=8:=iQ (B9 ..) Z2;apply#[lx,U,#[_,.of e7],λD hD=>?_];apply kK (own:=1) (fv:=[some (.ref g),some (.str h),some (.str q.1)]) (xs:=(near (aS hs) (bT ts) h).map V.str) U fE (λi out H'=>aa H7 H'/\H' D\.lst out/\out=(((near (aS hs) (bT ts) h).take i).filter λo=>BG hs ts q.2.2 (some h) (some o)).map V.str) #[aa.new hD,az,U] (λi out H' _ ⟨sm,_,_⟩=>.of (sm _ _ e7)) (λout H8 ⟨sm,hD8,eo⟩=>?_) (λi' y out H' hy ⟨sm,dF,eo⟩=>?_)
   ·rw[aq,eR] at eo;let Bq:=s7.trans sm;let EY:=ex.same Bq;have Dn:H6 D=none:=s7.free hD;apply#[_,U,_,U,d,_,U,.k (k:=Sum.inr h) EY.at_ (by rw[oy,dJ];omega),?_];have Dd:D≠d:=λz=>by rw[z,ex.at_] at Dn;cases Dn
    apply#[_,λx=>if x=h then D else ad x,U,fL (iA.trans Bq) dn,by rw[aw dln.symm];exact Bq _ _ MA,by rw[aw dl.symm];exact Bq _ _ uH,by rw[aw Xm];exact Bq _ _ e6,Paired.aX Gk λa q ⟨⟨OH,x,xl⟩,ne⟩=>#[#[OH,?_,xl],ne],#[?_,λx hx=>?_],λx hx=>?_]
    ·let x:=x.same Bq;exact#[by rw[aw ne];exact x.at_,λz hz=>by rw[aw (bS (x.is z hz) EY.at_ (by intro e;cases e))];exact x.is z hz]
    ·rw[az,uP hh,Rz Lc];exact ed (λz=>some (HO.dK z)) (IY λn _=>by split<;>rfl)
    ·rw[uP hh] at hx;rcases dI.mp hx with hx|hx
     ·have:x≠h:=λe=>Lc (by rw[<- e];exact hx);rw[aC this,aw (bS (EY.is x hx) EY.at_ (by intro e;cases e))];exact EY.is x hx
     rw[eJ.mp hx,aI U,aw Dd,hD8,eo];rfl
    rw[uP hh] at hx;rcases dI.mp hx with hx|hx
    ·have:x≠h:=λe=>Lc (by rw[<- e];exact hx);show (if x=h then D else ad x)≠l;rw[aC this];exact Hg x hx
    rw[eJ.mp hx];show (if h=h then D else ad h)≠l;rw[aI U];exact λz=>by rw[z,uH] at Dn;cases Dn
   let#[o,ho,rfl]:=mG hy;apply#[_,U,U,λNx hN=>?_];let G':=G.G.same (((iA.trans s7)).trans sm);let s_:=(iA.trans s7).trans sm _ _ h1;apply#[_,U,g,dx,_,U,s_,gnm,_,U,_,U,_,U,g,p,.str q.1,.str h,.str o,some q.1,some h,some o,hs,ts,qs,fp,U,G',G.nd,oW,U,.inl #[q,qm,U,U,U,λH9 s9=>#[_,U,?_]]]
   have lo:out.length<=8:=by
    rw[eo,aq];exact iQ (B9 ..) (iQ (by rw[dJ];exact Nat.min_le_right ..) WQ)
   apply bQ (λc=>?_) (λc=>?_)
   ·apply#[_,U,out,s9 _ _ dF,by omega,hN _ _ #[fL (sm.trans s9) hD,az,?_]];rw[IS _ ho,eg,<- eo];rw[aI c];rfl
   apply hN out _ #[sm.trans s9,s9 _ _ dF,?_];rw[IS _ ho,eg,<- eo,aC c];simp
  rintro σ H6 ⟨Ju,ad,rfl,iA,MA,uH,e6,Gk,ex,Hg⟩;rw[aq,eR] at ex Hg;let lp:=bH Gk;rw[dJ] at lp;apply#[_,U,.inl #[U,_,.of uH],_,U,l,_,_,U,U,uH,by rw[aq];omega,?_];have pl:∀{a q},wL H6 l a hs ts q->wL (upd H6 l (.lst (ds.map V.ref++[.ref d]))) l a hs ts q:=λ{a q} ⟨OH,x,xl⟩=>#[OH,#[by rw[aw (bS x.at_ uH (by intro e;cases e))];exact x.at_,λz hz=>by rw[aw (xl z hz)];exact x.is z hz],xl];apply#[_,_,_,ds++[d],U,fL iA hl,by rw[aw Xg];exact MA,?_,?_]
  ·rw[az,eg];rfl
  rw[mJ,hq];exact iY (Paired.aX Gk λa q x=>pl x.1) (.cons (pl #[ad,ex,Hg]) .nil)
 rintro σ H3 ⟨v3,v4,v5,ds,rfl,dZ,e3,uI,pd⟩;rw[aq,aq,eR] at pd;exact#[_,U,k l H3 dZ hl #[ds,uI,Paired.aX pd λa q ⟨ad,x,_⟩=>#[ad,x]]]
end
abbrev lJ:Stmt:=mq Hs 0
abbrev lI:Stmt:=mq Hs 1
abbrev M6:Stmt:=mq Hs 2
abbrev rh:Stmt:=mq Hs 3
theorem To(f:Str)(u v:V):∀fs:List (Str × V),aB f v (aB f u fs)=aB f v fs
 |[]=>by
  show aB f v [(f,u)]=[(f,v)];show (if f=f then _ else _)=_;rw[aI U]
 |(g,x)::r=>by
  by_cases c:g=f
  ·rw[show aB f u ((g,x)::r)=(g,u)::r from aI c,show aB f v ((g,u)::r)=(g,v)::r from aI c,show aB f v ((g,x)::r)=(g,v)::r from aI c]
  rw[show aB f u ((g,x)::r)=(g,x)::aB f u r from aC c,show aB f v ((g,x)::aB f u r)=(g,x)::aB f v (aB f u r) from aC c,show aB f v ((g,x)::r)=(g,x)::aB f v r from aC c,To f u v r]
def bZ(x a n:Addr):List (Str × V):=aB "newest" (.ref n) (aB pX (.ref a) (aB jQ (.ref x) []))
theorem Wc:¬((jQ:Str)=pX):=by decide +kernel
theorem Wa:¬((jQ:Str)="newest"):=by decide +kernel
theorem V9:¬((pX:Str)="newest"):=by decide +kernel
theorem Yh(x a n:Addr):(bZ x a n).lookup (jQ:Str)\.ref x:=by
 unfold bZ;rw[gy,aC Wa,gy,aC Wc,gy,aI U]
theorem Ie(x a n:Addr):(bZ x a n).lookup (pX:Str)\.ref a:=by
 unfold bZ;rw[gy,aC V9,gy,aI U]
theorem Mw(x a n:Addr):(bZ x a n).lookup ("newest":Str)\.ref n:=by
 unfold bZ;rw[gy,aI U]
theorem Ir(x a n:Addr){m:Str}(h1:¬m=jQ)(h2:¬m=pX)(h3:¬m="newest"):(bZ x a n).lookup m=none:=by
 unfold bZ;rw[gy,aC h3,gy,aC h2,gy,aC h1]
 all_goals rfl
structure jV (K:ai) (CR:Addr):Prop where
 cl:mR K CR
 nX:ml K CR jQ
 nA:ml K CR pX
 nN:ml K CR "newest"
def jf(H:Hp):af->List ak->Prop:=Paired λy s=>∃t,y=.ref t/\H t\.tup (sV s)
theorem jf.keep{H:Hp}{ys:af}{l:List ak}(h:jf H ys l)(k:∀b xs,H b\.tup xs->H' b\.tup xs):jf H' ys l:=Paired.aX h λy s ⟨t,e,ht⟩=>#[t,e,k _ _ ht]
def UA(H:Hp)(v:V):Option ak->Prop
 |none=>v=.non
 |some q=>∃b,v=.ref b/\H b\.tup (sV q)
def fJ(H:Hp):List (ax × V)->List (ak × Option ak)->Prop:=Paired λkv e=>kv.1=sK e.1/\UA H kv.2 e.2
variable{kvs:List (ax × V)}
theorem fJ.keep{H:Hp}{pa:List (ak × Option ak)}(h:fJ H kvs pa)(k:∀b xs,H b\.tup xs->H' b\.tup xs):fJ H' kvs pa:=Paired.aX h λkv e ⟨h1,h2⟩=>#[h1,by
 cases z:e.2 with
 |none=>rw[z] at h2;exact h2
 |some q=>
  rw[z] at h2;let#[b,e1,hb]:=h2;exact#[b,e1,k _ _ hb]]
theorem fJ.keys{H:Hp}:∀{kvs:List (ax × V)} {pa:List (ak × Option ak)},fJ H kvs pa->kvs.map (·.1)=(pa.map (·.1)).map sK
 |_,_,.nil=>rfl
 |_,_,.cons h t=>by
  rw[eI,eI,eI,h.1,fJ.keys t]
theorem fJ.none{H:Hp}{pa:List (ak × Option ak)}(h:fJ H kvs pa){s:ak}(hs:s∉pa.map (·.1)):aU kvs (sK s)=none:=ua (by
 rw[h.keys];intro hm;let#[x,hx,e]:=bG.mp hm;rw[<- BV e] at hs;exact hs hx)
theorem fJ.isSome{H:Hp}{pa:List (ak × Option ak)}(h:fJ H kvs pa)(s:ak):(aU kvs (sK s)).isSome=decide (s∈pa.map (·.1)):=by
 by_cases c:s∈pa.map (·.1)
 ·rw[cw c];exact IZ (by rw[h.keys];exact bG.mpr #[s,c,U])
 rw[fq c,h.none c];rfl
theorem fJ.get{H:Hp}:∀{kvs:List (ax × V)} {pa:List (ak × Option ak)},fJ H kvs pa->(pa.map (·.1)).Nodup->∀{e:ak × Option ak},e∈pa->∃v,aU kvs (sK e.1)\v/\UA H v e.2
 |_,_,.nil,_,_,he=>by cases he
 |_,_,.cons (a:=kv) (b:=e0) h t,nd,e,he=>by
  rw[eI,iZ] at nd;rcases bY.mp he with rfl|he
  ·exact#[kv.2,by unfold aU;rw[yj];simp[h.1],h.2]
  let#[v,h1,h2]:=fJ.get t nd.2 he;apply#[v,?_,h2]
  have ne:¬kv.1=sK e.1:=λz=>by
   rw[h.1] at z;exact nd.1 (by rw[BV z];exact bG.mpr #[e,he,U])
  unfold aU at h1 ⊢;rw[yj];simp[ne,h1]
theorem wx{k:ax}{v:V}(h:aU kvs k=none):putK kvs k v=kvs++[(k,v)]:=by
 unfold putK;rw[B4,h];rfl
def uo(N:ak->ak->Prop)(s0:ak)(pa:List (ak × Option ak)):Prop:=∀e∈pa,(e.1=s0/\e.2=none)∨∃q d,e.2\q/\Ds N s0 d q/\Ds N s0 (d+1) e.1/\N q e.1
structure xV (CR:Addr) (H:Hp) (r a x n:Addr) (hs:Xa) (ts:Xb) (qs:aP) (pa:List (ak × Option ak)) (nw:List ak):Prop where
 ins:∃dx,H r\.ins CR dx (bZ x a n)
 ex:qo H x hs ts qs
 ah:∃kvs,H a\.dT kvs/\fJ H kvs pa
 ne:∃ys,H n\.lst ys/\jf H ys nw
theorem xV.same{CR:Addr}{H:Hp}{r a x n:Addr}{hs:Xa}{ts:Xb}{qs:aP}{pa:List (ak × Option ak)}{nw:List ak}(R:xV CR H r a x n hs ts qs pa nw)(s:aa H H'):xV CR H' r a x n hs ts qs pa nw:=by
 let#[#[dx,h1],h2,#[kvs,h3,h4],#[ys,h5,h6]]:=R;exact#[#[dx,s _ _ h1],h2.same s,#[kvs,s _ _ h3,h4.keep λb xs e=>s _ _ e],#[ys,s _ _ h5,h6.keep λb xs e=>s _ _ e]]
section v
theorem nu:bJ ["self","goods","placed","first"] oC (a9 lJ):=bV
inductive Ib (K:ai) (CG CW CR:Addr) (vs:af) (H:Hp) (Q:VK) (E:XK):Prop
 |mk:∀(r dx g p d:Addr) (hs:Xa) (ts:Xb) (qs:aP) (fp:av) (f:bF),vs=[.ref r,.ref g,.ref d]->H r\.ins CR dx []->Gs K CG CW H g p hs ts qs fp->H d\.dK (gC (qs.map (·.1)) f)->(∀a x n H',(∀b o,H b\o->b≠r->H' b\o)->H a=none->xV CR H' r a x n hs ts qs [((qs.map (·.1)).map f,none)] [(qs.map (·.1)).map f]->Q .non H')->Ib K CG CW CR vs H Q E
theorem ZL{f CG CW CR:Addr}(F:bo K "__init__" "Reach.__init__" lJ f fd)(T:jV K CR)(B:Bi mg)(cE:!br 4 "exits_of" ["goods"] (Nv K CG CW)):!ao a_ 5 f fd oC (Ib K CG CW CR):=by
 exists F.bU nu;let#[r,dx,g,p,d,hs,ts,qs,fp,f,rfl,jF,G,hd,k]:=h;let hu:=fG hr;refine' #[_,au ?s1 (au ?s2 (au ?s3 (aF ?s4))),?kk]
 case s1=>exact bu 3 nu.nd (iO (Tq U) (by rfl) B.tuple qf %[IK (pv 2)|0])
 case s2=>exact uS (pv 0) (bc cE hr %[1|0]) U
 case s3=>exact uS (pv 0) (SN hu (pv 3) tW) U
 case s4=>exact uS (pv 0) (ft %[3|0]) U
 apply#[_,U,d,_,U,hd,λv hv=>?_];let#[s1,e1]:=aD (o:=qc v d) hv;generalize upd H v (qc v d)=H1 at s1 e1 ⊢;apply#[v,d,_,U,e1,s1 _ _ hd,λt ht=>?_]
 have ev:(gC (qs.map (·.1)) f).map (·.2)=sV ((qs.map (·.1)).map f):=by
  simp only[gC,dU,sV,cz];rfl
 rw[ev];obtain⟨s0,QP⟩:∃s0,s0=(qs.map (·.1)).map f:=#[_,U];rw[<- QP];rw[<- QP] at k;let#[s2,e2]:=aD (o:=.tup (sV s0)) ht;let jk:=s1.trans s2;generalize upd H1 t (.tup (sV s0))=H2 at s2 e2 jk ⊢;apply#[_,U,g,p,hs,ts,qs,fp,U,G.same jk,λx H3 s3 nx ex=>?_];let dZ:=jk.trans s3;apply#[_,U,r,CR,dx,[],U,dZ _ _ jF,T.cl,T.nX,by show 0<1000;decide,?_];have FZ:∀{b o},H3 b\o->b≠r->upd H3 r (.ins CR dx (aB jQ (.ref x) [])) b\o:=λe ne=>by rw[aw ne];exact e
 have r4:upd H3 r (.ins CR dx (aB jQ (.ref x) [])) r\.ins CR dx (aB jQ (.ref x) []):=az
 have pU:∀{b},upd H3 r (.ins CR dx (aB jQ (.ref x) [])) b=none->H3 b=none:=λ{b} e=>by
  by_cases z:b=r
  ·rw[z,az] at e;cases e
  rw[aw z] at e;exact e
 generalize upd H3 r (.ins CR dx (aB jQ (.ref x) []))=H4 at FZ r4 pU ⊢;let By:=dZ _ _ jF;have tr:t≠r:=bS (s3 _ _ e2) By nofun;have e4:H4 t\.tup (sV s0):=FZ (s3 _ _ e2) tr;intro a ha;let#[s5,e5]:=aD (o:=.dT []) ha;have an:H a=none:=dZ.free (pU ha);have ar:a≠r:=(bz r4 ha).symm;generalize upd H4 a (.dT [])=H5 at s5 e5 ⊢;apply#[_,U,e5,t,sK s0,U,by rw[iz];exact s5 _ _ e4,_,U,?_];have ta:t≠a:=bS (s5 _ _ e4) e5 nofun;have Jw:∀{b o},H5 b\o->b≠a->upd H5 a (.dT [(sK s0,.non)]) b\o:=λe ne=>by rw[aw ne];exact e
 have e6:upd H5 a (.dT [(sK s0,.non)]) a\.dT [(sK s0,.non)]:=az
 have BI:∀{b},upd H5 a (.dT [(sK s0,.non)]) b=none->H5 b=none:=λ{b} e=>by
  by_cases z:b=a
  ·rw[z,az] at e;cases e
  rw[aw z] at e;exact e
 generalize upd H5 a (.dT [(sK s0,.non)])=H6 at Jw e6 BI ⊢;apply#[r,CR,dx,_,U,Jw (s5 _ _ r4) ar.symm,T.cl,T.nA,by show 1<1000;decide,?_];have Jv:∀{b o},H6 b\o->b≠r->upd H6 r (.ins CR dx (aB pX (.ref a) (aB jQ (.ref x) []))) b\o:=λe ne=>by rw[aw ne];exact e
 have r7:upd H6 r (.ins CR dx (aB pX (.ref a) (aB jQ (.ref x) []))) r\.ins CR dx (aB pX (.ref a) (aB jQ (.ref x) [])):=az
 have xO:∀{b},upd H6 r (.ins CR dx (aB pX (.ref a) (aB jQ (.ref x) []))) b=none->H6 b=none:=λ{b} e=>by
  by_cases z:b=r
  ·rw[z,az] at e;cases e
  rw[aw z] at e;exact e
 generalize upd H6 r (.ins CR dx (aB pX (.ref a) (aB jQ (.ref x) [])))=H7 at Jv r7 xO ⊢
 have e47:∀{b o},H3 b\o->b≠r->H7 b\o:=λ{b o} e ne=>by
  let e4':=s5 _ _ (FZ e ne)
  have ba:b≠a:=λz=>by
   have:=FZ e ne;rw[z,ha] at this;cases this
  exact Jv (Jw e4' ba) ne
 apply#[_,U,zl,λn hn=>?_];let#[s8,e8]:=aD (o:=.lst [.ref t]) hn;have nr:n≠r:=(bz r7 hn).symm;generalize upd H7 n (.lst [.ref t])=H8 at s8 e8 ⊢;apply#[_,U,r,CR,dx,_,U,s8 _ _ r7,T.cl,T.nN,by show 2<1000;decide,?_];have FY:∀{b o},H8 b\o->b≠r->upd H8 r (.ins CR dx (bZ x a n)) b\o:=λe ne=>by rw[aw ne];exact e
 have r9:upd H8 r (.ins CR dx (bZ x a n)) r\.ins CR dx (bZ x a n):=az;show Q .non (upd H8 r (.ins CR dx (bZ x a n)));generalize upd H8 r (.ins CR dx (bZ x a n))=H9 at FY r9 ⊢;have E2:∀{b o},H3 b\o->b≠r->H9 b\o:=λe ne=>FY (s8 _ _ (e47 e ne)) ne;apply k a x n H9 (λb o e ne=>E2 (dZ _ _ e) ne) an #[#[dx,r9],?_,#[_,FY (s8 _ _ (Jv e6 ar)) ar,.cons #[U,U] .nil],#[_,FY e8 nr,.cons #[t,U,E2 (s3 _ _ e2) tr] .nil]];let#[ds,x1,x2]:=ex
 have Kh:∀{b o},H3 b\o->(∀C dx fs,o≠.ins C dx fs)->b≠r:=λe no z=>by
  rw[z,By] at e;cases e;exact no _ _ _ U
 exact#[ds,E2 x1 (Kh x1 (by intro _ _ _ z;cases z)),Paired.aX x2 λd q ⟨ad,y1,y2⟩=>#[ad,E2 y1 (Kh y1 (by intro _ _ _ z;cases z)),λh hh=>E2 (y2 h hh) (Kh (y2 h hh) (by intro _ _ _ z;cases z))]]
end
theorem Tn{s:ak}{i:Nat}(h:i<s.length)(o:Str):(sV s).take i++[V.str o]++(sV s).drop (i+1)=sV (s.set i o):=by
 show (s.map V.str).take i++[V.str o]++(s.map V.str).drop (i+1)=(s.set i o).map V.str;rw[List.set_eq_take_append_cons_drop,aI h,eg,eI,List.map_take,List.map_drop,List.append_assoc];rfl
def Jg(hs:Xa)(ts:Xb)(qs:aP)(s:ak)(i:Nat)(b:ak):Prop:=∃(k:Nat) (q:Pc) (h h':Str),k<i/\qs[k]? = some q/\s[k]? = some h/\h'∈tF hs ts q h/\b=s.set k h'
theorem Y_{hs:Xa}{ts:Xb}{qs:aP}{s b:ak}:Jg hs ts qs s s.length b ↔ Nx hs ts qs s b:=by
 constructor
 ·rintro⟨k,q,h,h',_,h1,h2,h3,h4⟩;exact#[_,k,q,h,h',h1,h2,h3,h4,U]
 rintro⟨m,k,q,h,h',h1,h2,h3,h4,_⟩;exact#[k,q,h,h',(bW.mp h2).1,h1,h2,h3,h4]
theorem qo.at_{H:Hp}{l:Addr}{hs:Xa}{ts:Xb}{qs:aP}(h:qo H l hs ts qs){k:Nat}(hq:qs[k]? = some q):∃(ds:av) (d:Addr),H l\.lst (ds.map V.ref)/\(ds.map V.ref)[k]? = some (.ref d)/\FT H d hs ts q:=by
 let#[ds,h1,h2]:=h;have hk:k<qs.length:=(bW.mp hq).1;let hl:=bH h2;have:=d8 h2 k Z2 hk;rw[aY hk] at hq;cases hq;exact#[ds,ds[k]' Z2,h1,by rw[dC,aY Z2];rfl,this]
section v
theorem Fq:bJ ["self","hands","found","place","one","other"] AE (a9 lI):=bV
inductive Ia (CR:Addr) (vs:af) (H:Hp) (Q:VK) (E:XK):Prop
 |mk:∀(r dx t x a n:Addr) (hs:Xa) (ts:Xb) (qs:aP) (s:ak),vs=[.ref r,.ref t]->H r\.ins CR dx (bZ x a n)->qo H x hs ts qs->H t\.tup (sV s)->Vs hs qs s->(aS hs).length<=8->qs.length<64->(∀l ys L H',aa H H'->H l=none->H' l\.lst ys->jf H' ys L->(∀b,b∈L ↔ Nx hs ts qs s b)->L.length<=512->Q (.ref l) H')->Ia CR vs H Q E
theorem Z3{f CR:Addr}(F:bo K "one_move_on" "Reach.one_move_on" lI f fd)(T:jV K CR)(B:Bi mg):!ao a_ 1 f fd AE (Ia CR):=by
 exists F.bU Fq;let#[r,dx,t,x,a,n,hs,ts,qs,s,rfl,GP,ex,ht,v,n8,Ge,k]:=h;let hu:=fG hr;let sz:=cq;let vl:=v.len;refine' #[_,au ?s1 (au ?s2 (aF ?s3)),?kk]
 case s1=>exact bu 2 Fq.nd (ft bK)
 case' s2=>refine' d0 dM U ?i2 ?g2 (aF ?b2)
 case i2=>exact ZI (by rfl) B.enum %[1|0]
 case g2=>exact mr U (dN (cu 3 Fq.nd) (dN (cu 4 Fq.nd) jh))
 case' b2=>refine' d0 dM U ?i3 ?g3 (aF ?b3)
 case i3=>exact dX (mI hu (bw gd (gG (pv 0) U) (pv 3)) (pv 4))
 case g3=>exact cu 5 Fq.nd
 case b3=>exact kI (pe ou xY xZ wC (pv 2) %[bP HZ (bP HZ (AX HP (pv 1) A4 (A3 (pv 3))) (gh %[5|0])) (AX HP (pv 1) (A3 (bP gz (pv 3) ay)) A4)|0])
 case s3=>exact bp (pv 2)
 apply#[zl,λl hl=>?_];let#[s1,e1]:=aD (o:=.lst []) hl;generalize upd H l (.lst [])=H1 at s1 e1 ⊢;apply#[_,U,t,U,#[_,.of (s1 _ _ ht)],?_]
 let Iv:bR:=λi σ H'=>∃(v3 v4 v5:aH) (ys:af) (L:List ak),σ=[some (.ref r),some (.ref t),some (.ref l),v3,v4,v5]/\aa H H'/\H' l\.lst ys/\jf H' ys L/\(∀b,b∈L ↔ Jg hs ts qs s i b)/\L.length<=8 * i
 apply gG_ (xs:=sV s) Iv #[none,none,none,[],[],U,s1,e1,.nil,λb=>by simp[Jg],by simp] (λi σ H' _ ⟨_,_,_,_,_,_,sm,_⟩=>.of (sm _ _ ht)) ?_ ?_
 ·rintro i y σ H2 hy ⟨v3,v4,v5,ys,L,rfl,s2,e2,sp,mem,len⟩ tt zI;let#[h,hh,rfl]:=mG hy;have hi:i<s.length:=(bW.mp hh).1;have hq:qs[i]? = some (qs[i]' Z2):=aY Z2;obtain⟨q,eq⟩:∃q,q=qs[i]' Z2:=#[_,U];rw[<- eq] at hq;let hm:=v.ij h (cZ hh);let#[s3,e3]:=aD (o:=.tup [.int i,.str h]) zI;let dZ:=s2.trans s3;let uI:=s3 _ _ e2;let qN:=sp.keep λb xs e=>s3 _ _ e;show fR _ _ _ _ _ (upd H2 tt (.tup [.int i,.str h])) _;generalize upd H2 tt (.tup [.int i,.str h])=H3 at s3 e3 dZ uI qN ⊢;apply#[tt,_,U,.of e3,U,_,_,U,_,_,U,U,?_];let#[ds,d,x1,x2,ad,x3,x4]:=ex.at_ hq;apply#[_,U,r,CR,dx,_,_,U,dZ _ _ GP,T.cl,T.nX,Yh _ _ _,_,U,x,_,i,.ref d,U,U,.of (dZ _ _ x1),L2.dR x2,_,U,d,.ref (ad h),U,?_,ad h,U,#[_,.of (dZ _ _ (x4 h hm))],?_]
  ·have:=da.k (k:=.inr h) (dZ _ _ x3);rw[B0 (g:=λn=>V.ref (ad n)) hm] at this;exact this
  let Iw:bR:=λj σ H'=>∃(v5:aH) (ys:af) (L:List ak),σ=[some (.ref r),some (.ref t),some (.ref l),some (.int i),some (.str h),v5]/\aa H H'/\H' l\.lst ys/\jf H' ys L/\(∀b,b∈L ↔ Jg hs ts qs s i b∨∃o∈(tF hs ts q h).take j,b=s.set i o)/\L.length<=8 * i+j
  have el8:(tF hs ts q h).length<=8:=iQ (B9 ..) (iQ (B9 ..) n8);apply ib (K:=K) (a:=ad h) (xs:=(tF hs ts q h).map V.str) Iw #[_,ys,L,U,dZ,uI,qN,λb=>by rw[mem];simp,by omega] (λj σ H' _ ⟨_,_,_,_,sm,_⟩=>.of (sm _ _ (x4 h hm))) ?_ ?_
  ·rintro j y σ H4 hy ⟨Ju,ys,L,rfl,s4,iW,ie,fC,l6⟩;let#[o,ho,rfl]:=mG hy;have hj:j<(tF hs ts q h).length:=(bW.mp ho).1;let uD:=bH ie;let pP:=s4 _ _ ht;apply#[_,U,.inl #[U,_,.of iW],?_];apply#[_,U,_,U,_,U,t,_,U,.of pP,?_,λp1 xA=>?_]
   ·rw[HT.eO,HT.dY,aq];omega
   rw[NY];let#[s5,e5]:=aD (o:=.tup ((sV s).take i)) xA;generalize upd H4 p1 (.tup ((sV s).take i))=H5 at s5 e5 ⊢;apply#[_,U,zl,λp2 km=>?_];let#[s6,e6]:=aD (o:=.tup [.str o]) km;generalize upd H5 p2 (.tup [.str o])=H6 at s6 e6 ⊢;apply#[p1,p2,_,_,U,U,s6 _ _ e5,e6,by rw[dJ,aq,jU];omega,λp3 H7 s7 e7=>?_];let xc:=(s5.trans s6).trans s7;apply#[_,U,_,U,_,_,U,U,_,U,t,_,U,.of (xc _ _ pP),?_,λp4 Eb=>?_]
   ·rw[show ((i:Int)+1)=((i+1:Nat):Int) by omega,HT.dY,aq];omega
   rw[show ((i:Int)+1)=((i+1:Nat):Int) by omega,S3];let#[s8,e8]:=aD (o:=.tup ((sV s).drop (i+1))) Eb;generalize upd H7 p4 (.tup ((sV s).drop (i+1)))=H8 at s8 e8 ⊢;apply#[p3,p4,_,_,U,U,s8 _ _ e7,e8,by rw[d4,dJ,aq,jU,yk,aq];omega,λp5 H9 s9 e9=>?_];rw[Tn hi] at e9;let zh:=(xc.trans s8).trans s9;let AA:=zh _ _ iW;apply#[l,_,_,U,U,AA,by omega,?_]
   have kt:∀b xs,H9 b\.tup xs->upd H9 l (.lst (ys++[.ref p5])) b\.tup xs:=λb xs e=>by
    rw[aw (bS e AA nofun)];exact e
   apply#[_,_,L++[s.set i o],U,fL (s4.trans zh) hl,az,iY ((ie.keep λb xs e=>zh _ _ e).keep kt) (.cons #[p5,U,kt _ _ e9] .nil),λb=>?_,by rw[d4,jU];omega];rw[dI,fC,eJ,uP ho];constructor
   ·rintro ((x|⟨z,hz,e⟩)|e)
    ·exact .inl x
    ·exact .inr #[z,dI.mpr (.inl hz),e]
    exact .inr #[o,by simp,e]
   rintro (x|⟨z,hz,e⟩)
   ·exact .inl (.inl x)
   rcases dI.mp hz with hz|hz
   ·exact .inl (.inr #[z,hz,e])
   rw[eJ.mp hz] at e;exact .inr e
  rintro σ H4 ⟨Ju,ys,L,rfl,s4,iW,ie,fC,l6⟩;rw[aq] at fC l6;apply#[_,_,_,ys,L,U,s4,iW,ie,λb=>?_,by omega];rw[fC,eR];constructor
  ·rintro (⟨k',q',h',o',k1,k2⟩|⟨o,ho,e⟩)
   ·exact#[k',q',h',o',by omega,k2]
   exact#[i,q,h,o,by omega,hq,hh,ho,e]
  rintro⟨k',q',h',o',k1,k2,k3,k4,k5⟩;by_cases c:k'=i
  ·subst c;rw[hq] at k2;rw[hh] at k3;cases k2;cases k3;exact .inr #[o',k4,k5]
  exact .inl #[k',q',h',o',by omega,k2,k3,k4,k5]
 rintro σ H2 ⟨v3,v4,v5,ys,L,rfl,s2,e2,sp,mem,len⟩;rw[aq] at mem len;exact#[_,U,k l ys L H2 s2 hl e2 sp (λb=>(mem b).trans Y_) Z2]
end
def Bj(r a:Addr)(H H':Hp):Prop:=∀b o,H b\o->b≠r->b≠a->H' b\o
theorem aV.gW{a:Addr}{H:Hp}{o:HO}(b:aV a H H')(ha:H a\o)(no:∀xs,o≠.tup xs):∀c xs,H c\.tup xs->H' c\.tup xs:=λc xs e=>b _ _ e λz=>by
 rw[z,ha] at e;cases e;exact no _ U
theorem qo.but{a:Addr}{H:Hp}{l:Addr}{hs:Xa}{ts:Xb}{qs:aP}(h:qo H l hs ts qs)(b:aV a H H')(ha:H a\.dT kvs):qo H' l hs ts qs:=by
 have k:∀{c o},H c\o->o≠.dT kvs->H' c\o:=λe ne=>b _ _ e λz=>by
  rw[z,ha] at e;cases e;exact ne U
 let#[ds,h1,h2]:=h;exact#[ds,k h1 nofun,Paired.aX h2 λd q ⟨ad,x1,x2⟩=>#[ad,k x1 nofun,λy hy=>k (x2 y hy) nofun]]
section v
theorem Iq:bJ ["self","most","found","hands","after"] ["self","most"] (a9 M6):=bV
def More(N:ak->ak->Prop)(s0:ak)(m:Nat):Prop:=∃l:List ak,l.Nodup/\(∀s∈l,∃j,Wk N s0 j s)/\m<l.length
inductive MT (CR:Addr) (vs:af) (H:Hp) (Q:VK) (E:XK):Prop
 |mk:∀(r x a n:Addr) (hs:Xa) (ts:Xb) (qs:aP) (pa:List (ak × Option ak)) (nw:List ak) (s0:ak) (k m:Nat),vs=[.ref r,.int m]->xV CR H r a x n hs ts qs pa nw->Bf (Nx hs ts qs) s0 k (pa.map (·.1)) nw->uo (Nx hs ts qs) s0 pa->(∀s∈nw,Vs hs qs s)->(aS hs).length<=8->qs.length<64->m<=1000000->pa.length<=1000000->(∀H',Bj r a H H'->More (Nx hs ts qs) s0 m->Q (.bl false) H')->(∀n' oT uB H',Bj r a H H'->H n'=none->xV CR H' r a x n' hs ts qs oT uB->Bf (Nx hs ts qs) s0 (k+1) (oT.map (·.1)) uB->uo (Nx hs ts qs) s0 oT->oT.length=pa.length+uB.length->(oT.length<=m∨uB=[])->Q (.bl true) H')->MT CR vs H Q E
theorem _A{f CR:Addr}(F:bo K "widen" "Reach.widen" M6 f fd)(T:jV K CR)(B:Bi mg)(cM:!bM CR 1 "one_move_on" AE (Ia CR)):!ao a_ 2 f fd ["self","most"] (MT CR):=by
 exists F.bU Iq;let#[r,x,a,n,hs,ts,qs,pa,nw,s0,k,m,rfl,R,bf,po,vv,n8,Ge,m6,p6,kF,kT]:=h;let hu:=fG hr;let sz:=cq;refine' #[_,au ?s1 (au ?s2 (au ?s3 (aF ?s4))),?kk]
 case s1=>exact bu 2 Iq.nd (ft bK)
 case' s2=>refine' d0 dM U ?i2 ?g2 (aF ?b2)
 case i2=>exact dX (gG (pv 0) U)
 case g2=>exact cu 3 Iq.nd
 case' b2=>refine' d0 dM U ?i3 ?g3 (aF ?b3)
 case i3=>exact dX (iX cM T.cl hr (pv 0) %[3|0])
 case g3=>exact cu 4 Iq.nd
 case' b3=>refine' cg (qa (IX hu (pv 4) (gG (pv 0) U))) (au ?c1 (au ?c2 (aF ?c3))) cj
 case c1=>exact cg (eY X0 (cy Tp (by rfl) B.len gE %[gG (pv 0) U|0]) (pv 1)) (aF (bp il)) cj
 case c2=>exact tT hu (gG (pv 0) U) (pv 4) (pv 3) U
 case c3=>exact kI (pe ou xY xZ wC (pv 2) %[4|0])
 case s3=>exact uS (pv 0) (pv 2) U
 case s4=>exact bp il
 let#[#[dx,jF],ex,#[kvs,oh,OG],#[Jm,GV,JX]]:=R;apply#[zl,λl hl=>?_];let#[s1,e1]:=aD (o:=.lst []) hl;generalize upd H l (.lst [])=H1 at s1 e1 ⊢;apply#[_,U,r,CR,dx,_,_,U,s1 _ _ jF,T.cl,T.nN,Mw _ _ _,n,U,#[_,.of (s1 _ _ GV)],?_];have vi:∀{b:Addr} {H':Hp},aV a H H'->∀c xs,H c\.tup xs->H' c\.tup xs:=λbt=>aV.gW bt oh (by intro xs z;cases z);have J8:r≠a:=bS jF oh nofun;have WN:n≠a:=bS GV oh nofun
 let J:List ak->Hp->Prop:=λseen H'=>∃(kvs:List (ax × V)) (oT:List (ak × Option ak)) (fs:af) (fd:List ak),aV a H H'/\H' a\.dT kvs/\fJ H' kvs oT/\H' l\.lst fs/\jf H' fs fd/\Wd (pa.map (·.1)) seen (oT.map (·.1)) fd/\uo (Nx hs ts qs) s0 oT/\oT.length=pa.length+fd.length/\(oT.length<=m∨fd=[])
 let Iv:bR:=λi σ H'=>∃(v3 v4:aH) (seen:List ak),σ=[some (.ref r),some (.int m),some (.ref l),v3,v4]/\J seen H'/\(∀b,b∈seen ↔ ∃h∈nw.take i,Nx hs ts qs h b)
 let Xi:=bH JX;apply ib (K:=K) (a:=n) (xs:=Jm) Iv #[none,none,[],U,#[kvs,pa,[],[],aV.of s1,s1 _ _ oh,OG.keep λb xs e=>s1 _ _ e,e1,.nil,Wd.start bf.nd,po,by simp,.inr U],by simp] (λi σ H' _ ⟨_,_,_,_,⟨_,_,_,_,bt,_⟩,_⟩=>.of (bt _ _ GV WN)) ?_ ?_
 ·rintro i y σ H2 hy ⟨v3,v4,seen,rfl,⟨DM,Kf,RK,Mj,wq,og,OF,Hq,yQ,Jq,Ke,ln2,Kg⟩,mem⟩;have hi:i<Jm.length:=(bW.mp hy).1
  obtain⟨h,hh,t,rfl,ht⟩:∃h,nw[i]? = some h/\∃t,y=.ref t/\H t\.tup (sV h):=by
   have:=d8 JX i hi Z2;rw[aY hi] at hy;cases hy;exact#[nw[i]' Z2,aY Z2,this]
  let hm:=cZ hh;let sS:=(bf.new h).mp hm;let xw:=vi (b:=a) wq _ _ ht;let nZ:=wq _ _ jF J8;apply#[_,U,r,dx,_,U,nZ,Ir _ _ _ Z0 Z0 Z0,_,U,r,dx,t,x,a,n,hs,ts,qs,h,U,nZ,ex.but wq oh,xw,vv h hm,n8,Ge,λl3 qq L H3 s3 pM e3 qN lZ KF=>?_];have Qa:l3≠l:=λz=>by rw[z,Hq] at pM;cases pM
  have GH:l3≠a:=λz=>by rw[z,og] at pM;cases pM
  have l3n:H l3=none:=by
   cases z:H l3 with
   |none=>rfl
   |some o=>
    have:=wq _ _ z GH;rw[pM] at this;cases this
  let KA:=bH qN
  let Iw:bR:=λj σ H'=>∃(v4:aH) (dB:List ak),σ=[some (.ref r),some (.int m),some (.ref l),some (.ref t),v4]/\H' l3\.lst qq/\jf H' qq L/\H' t\.tup (sV h)/\J dB H'/\(∀b,b∈dB ↔ b∈seen∨b∈L.take j)
  apply#[l3,U,#[_,.of e3],?_];apply ib (K:=K) (a:=l3) (xs:=qq) Iw ?_ ?_ ?_ ?_
  ·exact#[_,seen,U,e3,qN,s3 _ _ xw,#[DM,Kf,RK,Mj,wq.trans (aV.of s3),s3 _ _ og,OF.keep λb xs e=>s3 _ _ e,s3 _ _ Hq,yQ.keep λb xs e=>s3 _ _ e,Jq,Ke,ln2,Kg],λb=>#[.inl,λz=>z.elim id λw=>absurd w (gf)]]
  ·rintro j σ H' _ ⟨_,_,_,e,_⟩;exact .of e
  ·rintro j y σ H4 hy ⟨Vf,dB,rfl,e4,ie,pP,⟨g_,Dh,RJ,R5,IR,jI,B8,iW,yO,Cu,PD,Xe,WC⟩,fC⟩;have hj:j<qq.length:=(bW.mp hy).1
   obtain⟨b,hb,u,rfl,QK⟩:∃b,L[j]? = some b/\∃u,y=.ref u/\H4 u\.tup (sV b):=by
    have:=d8 ie j hj Z2;rw[aY hj] at hy;cases hy;exact#[L[j]' Z2,aY Z2,this]
   let GQ:=IR _ _ jF J8;have bL:Nx hs ts qs h b:=(lZ b).mp (cZ hb)
   have tk:∀c,c∈L.take (j+1) ↔ c∈L.take j∨c=b:=λc=>by
    rw[mJ,hb];simp
   have hK:H4 u\.tup ((sK b).map kV):=by rw[iz];exact QK
   apply#[_,U,_,U,r,CR,dx,_,_,U,GQ,T.cl,T.nA,Ie _ _ _,a,_,U,.t jI hK,_,U,?_];rw[B8.isSome];by_cases c:b∈Dh.map (·.1)
   ·rw[cw c];apply aM ?_;apply#[_,dB++[b],U,e4,ie,pP,#[g_,Dh,RJ,R5,IR,jI,B8,iW,yO,Cu.skip c,PD,Xe,WC],λz=>?_];rw[dI,fC,tk,eJ,or_assoc]
   rw[fq c];apply c_ ?_;let lk:=bH B8;let lf:=bH yO;apply#[_,U,r,CR,dx,_,_,U,GQ,T.cl,T.nA,Ie _ _ _,a,_,U,jI,_,U,_,_,U,U,_,U,?_]
   have OE:∀z∈Dh.map (·.1),∃j,Wk (Nx hs ts qs) s0 j z:=λz hz=>by
    rcases (Cu.all z).mp hz with y|y
    ·let#[j,_,w]:=(bf.all z).mp y;exact#[j,w]
    rcases (fC z).mp y with y|y
    ·let#[h',sQ,nx]:=(mem z).mp y;exact#[_,.s ((bf.new h').mp (List.mem_of_mem_take sQ)).1 nx]
    exact#[_,.s sS.1 ((lZ z).mp (List.mem_of_mem_take y))]
   apply bQ (λc2=>?_) (λc2=>?_)
   ·apply kF H4 (λc o e n1 n2=>IR _ _ e n2) #[Dh.map (·.1)++[b],?_,λz hz=>?_,?_]
    ·rw[wG];exact#[Cu.nd,by simp,λx hx y hy e=>c (by rw[<- eJ.mp hy,<- e];exact hx)]
    ·rcases dI.mp hz with hz|hz
     ·exact OE z hz
     rw[eJ.mp hz];exact#[_,.s sS.1 bL]
    have:(m:Int)<=(g_.length:Int):=tI c2;rw[d4,aq,jU];omega
   have lt:g_.length<m:=by
    have:¬(m:Int)<=(g_.length:Int):=of_decide_eq_false ⇑c2;omega
   apply#[_,U,_,U,r,CR,dx,_,_,U,GQ,T.cl,T.nA,Ie _ _ _,_,U,a,_,U,.t jI hK Z2,?_];rw[wx (B8.none c)];have Ui:aV a H (upd H4 a (.dT (g_++[(sK b,.ref t)]))):=IR.trans aV.upd;have k5:∀{c o},H4 c\o->c≠a->upd H4 a (.dT (g_++[(sK b,.ref t)])) c\o:=λe ne=>by rw[aw ne];exact e
   have t5:∀c xs,H4 c\.tup xs->upd H4 a (.dT (g_++[(sK b,.ref t)])) c\.tup xs:=λc xs e=>k5 e (bS e jI nofun);have e5:upd H4 a (.dT (g_++[(sK b,.ref t)])) a\.dT (g_++[(sK b,.ref t)]):=az;have la:l≠a:=bS iW jI nofun;generalize upd H4 a (.dT (g_++[(sK b,.ref t)]))=H5 at Ui k5 t5 e5 ⊢;let tG:=k5 iW la;apply#[_,U,.inl #[U,_,.of tG],_,U,l,_,_,U,U,tG,by omega,?_]
   have t6:∀c xs,H5 c\.tup xs->upd H5 l (.lst (RJ++[.ref u])) c\.tup xs:=λc xs e=>by
    rw[aw (bS e tG nofun)];exact e
   let Bn:=λc xs e=>t6 c xs (t5 c xs e);have kb:¬∃j,j<=k/\Wk (Nx hs ts qs) s0 j b:=λz=>c ((Cu.all b).mpr (.inl ((bf.all b).mpr z)));apply#[_,dB++[b],U,by rw[aw Qa];exact k5 e4 GH,ie.keep Bn,Bn _ _ pP,#[_,Dh++[(b,some h)],_,R5++[b],λc o e ne=>?_,by rw[aw la.symm];exact e5,iY (B8.keep Bn) (.cons #[U,t,U,Bn _ _ pP] .nil),az,iY (yO.keep Bn) (.cons #[u,U,Bn _ _ QK] .nil),?_,?_,?_,?_],λz=>?_]
   ·rw[aw (bz e hl)];exact Ui _ _ e ne
   ·rw[eg];exact Cu.add c
   ·intro e he;rcases dI.mp he with he|he
    ·exact PD e he
    rw[eJ.mp he];exact .inr #[h,k,U,sS,#[.s sS.1 bL,λj hj w=>kb #[j,by omega,w]],bL]
   ·rw[d4,d4,jU,jU];omega
   ·left
    rw[d4,jU];omega
   rw[dI,fC,tk,eJ,or_assoc]
  rintro σ H4 ⟨Vf,dB,rfl,e4,ie,pP,jj,fC⟩;apply#[_,_,dB,U,jj,λb=>?_];rw[fC,mem,show qq.length=L.length from KA,eR,lZ,mJ,hh];simp only[Option.toList_some,dI,eJ];constructor
  ·rintro (⟨h',sQ,nx⟩|nx)
   ·exact#[h',.inl sQ,nx]
   exact#[h,.inr U,nx]
  rintro⟨h',sQ|rfl,nx⟩
  ·exact .inl #[h',sQ,nx]
  exact .inr nx
 rintro σ H2 ⟨v3,v4,seen,rfl,⟨DM,Kf,RK,Mj,wq,og,OF,Hq,yQ,Jq,Ke,ln2,Kg⟩,mem⟩;let nZ:=wq _ _ jF J8;apply#[_,U,_,U,r,CR,dx,_,U,nZ,T.cl,T.nN,?_,?_]
 ·show 3<1000;decide
 have ef:aB "newest" (V.ref l) (bZ x a n)=bZ x a l:=To _ _ _ _;rw[ef];have k3:∀{c o},H2 c\o->c≠r->upd H2 r (.ins CR dx (bZ x a l)) c\o:=λe ne=>by rw[aw ne];exact e
 have ni:∀{c o},H2 c\o->(∀C dx fs,o≠.ins C dx fs)->upd H2 r (.ins CR dx (bZ x a l)) c\o:=λe no=>k3 e λz=>by
  rw[z,nZ] at e;cases e;exact no _ _ _ U
 let#[ds,x1,x2]:=ex.but wq oh;apply kT l Kf Mj _ (λc o e n1 n2=>by rw[aw n1];exact wq _ _ e n2) hl #[#[dx,az],#[ds,ni x1 (by intro _ _ _ z;cases z),Paired.aX x2 λd q ⟨ad,y1,y2⟩=>#[ad,ni y1 (by intro _ _ _ z;cases z),λh hh=>ni (y2 h hh) (by intro _ _ _ z;cases z)]],#[_,ni og (by intro _ _ _ z;cases z),OF.keep λb xs e=>ni e (by intro _ _ _ z;cases z)],#[_,ni Hq (by intro _ _ _ z;cases z),yQ.keep λb xs e=>ni e (by intro _ _ _ z;cases z)]] (bf.next Jq λb=>?_) Ke ln2 Kg;rw[mem,Xi,eR]
end
def Cn(N:ak->ak->Prop):List ak->Prop
 |[]=>True
 |[_]=>True
 |a::b::r=>N a b/\Cn N (b::r)
structure Row (N:ak->ak->Prop) (a s:ak) (k:Nat) (row:List ak):Prop where
 cn:Cn N row
 hd:row.head? = some a
 lt:row.getLast? = some s
 len:row.length=k+1
variable{N:ak->ak->Prop}
theorem Row.one{s:ak}:Row N s s 0 [s]:=#[trivial,U,U,U]
theorem Row.more{a b s:ak}{k:Nat}{row:List ak}(h:Row N b s k row)(n:N a b):Row N a s (k+1) (a::row):=by
 cases row with
 |nil=>cases h.hd
 |cons c r=>
  have e:c=b:=cX h.hd;subst e;exact#[#[n,h.cn],U,by rw[List.getLast?_cons_cons];exact h.lt,by rw[iR,h.len]]
theorem TK{α β:Type}{F:α->β->Prop}:∀{l:List α} {m:List β},Paired F l m->Paired F l.reverse m.reverse
 |_,_,.nil=>.nil
 |_,_,.cons h t=>by
  rw[List.reverse_cons,List.reverse_cons];exact iY (TK t) (.cons h .nil)
section v
theorem Hr:bJ ["self","hands","row","there"] AE (a9 rh):=bV
inductive kX (CR:Addr) (vs:af) (H:Hp) (Q:VK) (E:XK):Prop
 |mk:∀(r x a n t:Addr) (hs:Xa) (ts:Xb) (qs:aP) (pa:List (ak × Option ak)) (nw:List ak) (s0 s:ak) (k:Nat),vs=[.ref r,.ref t]->xV CR H r a x n hs ts qs pa nw->H t\.tup (sV s)->Ds (Nx hs ts qs) s0 k s->(pa.map (·.1)).Nodup->(∀j z,j<=k->Wk (Nx hs ts qs) s0 j z->z∈pa.map (·.1))->uo (Nx hs ts qs) s0 pa->k<1000000->(∀l ys row H',aa H H'->H l=none->H' l\.lst ys->jf H' ys row->Row (Nx hs ts qs) s0 s k row->Q (.ref l) H')->kX CR vs H Q E
theorem YR{f CR:Addr}(F:bo K "row_to" "Reach.row_to" rh f fd)(T:jV K CR):!ao a_ 1 f fd AE (kX CR):=by
 exists F.bU Hr;let#[r,x,a,n,t,hs,ts,qs,pa,nw,s0,s,k,rfl,R,ht,ds,nd,all,po,p6,kk]:=h;let hu:=fG hr;let sz:=cq;refine' #[_,au ?s1 (au ?s2 (au ?s3 (au ?s4 (aF ?s5)))),?kk]
 case s1=>exact bu 2 Hr.nd (ft bK)
 case s2=>exact bu 3 Hr.nd (pv 1)
 case' s3=>refine' Iy dM ?c1 (au ?b1 (aF ?b2))
 case c1=>exact qa (Y9 (pv 3))
 case b1=>exact kI (pe ou xY xZ wC (pv 2) %[3|0])
 case b2=>exact bu 3 Hr.nd (mI hu (gG (pv 0) U) (pv 3))
 case s4=>exact kI (XH ou PySem.F.slot_list_reverse PySem.F.type_list_reverse fG_ (pv 2))
 case s5=>exact bp (pv 2)
 let#[#[dx,jF],ex,#[kvs,oh,OG],#[Jm,GV,JX]]:=R;apply#[zl,λl hl=>?_];let#[s1,e1]:=aD (o:=.lst []) hl;generalize upd H l (.lst [])=H1 at s1 e1 ⊢;apply#[_,U,?_]
 let Iv:bR:=λm σ H'=>∃(v:V) (ys:af) (wr:List ak),σ=[some (.ref r),some (.ref t),some (.ref l),some v]/\aa H H'/\H' l\.lst ys/\jf H' ys wr.reverse/\wr.length<=k+1/\((v=.non/\m=0/\Row (Nx hs ts qs) s0 s k wr)∨∃u z,v=.ref u/\H u\.tup (sV z)/\m+wr.length=k+1/\0<m/\Ds (Nx hs ts qs) s0 (m - 1) z/\((wr=[]/\z=s)∨∃b,Nx hs ts qs z b/\∃j,wr.length=j+1/\Row (Nx hs ts qs) b s j wr))
 apply#[Iv,#[k+1,.ref t,[],[],U,s1,e1,.nil,by simp,.inr #[t,s,U,ht,by simp,by omega,by simpa using ds,.inl #[U,U]]],?_];rintro m σ H2 ⟨v,ys,wr,rfl,s2,e2,yQ,lw,cs⟩;let uD:=bH yQ;rw[List.length_reverse] at uD;rcases cs with⟨rfl,rfl,row⟩|⟨u,z,rfl,hz,lm,m0,dz,cs⟩
 ·apply#[_,U,_,U,aM ?_];apply#[_,U,.inl #[U,_,.of e2],l,_,U,U,e2,?_]
  have t3:∀c xs,H2 c\.tup xs->upd H2 l (.lst ys.reverse) c\.tup xs:=λc xs e=>by
   rw[aw (bS e e2 nofun)];exact e
  let qN:=TK (yQ.keep t3);rw[List.reverse_reverse] at qN;exact#[_,U,kk l _ wr _ (fL s2 hl) hl az qN row]
 apply#[_,U,_,U,c_ #[λaZ H'=>∃m',m'<m/\Iv m' aZ H',λ_ _ h=>h,?_]];apply#[_,U,.inl #[U,_,.of e2],_,U,l,_,_,U,U,e2,by omega,?_]
 have t3:∀c xs,H2 c\.tup xs->upd H2 l (.lst (ys++[.ref u])) c\.tup xs:=λc xs e=>by
  rw[aw (bS e e2 nofun)];exact e
 have s3:aa H (upd H2 l (.lst (ys++[.ref u]))):=fL s2 hl;have e3:upd H2 l (.lst (ys++[.ref u])) l\.lst (ys++[.ref u]):=az;let qN:=iY (yQ.keep t3) (.cons #[u,U,s3 _ _ hz] .nil:jf (upd H2 l (.lst (ys++[.ref u]))) [.ref u] [z]);generalize upd H2 l (.lst (ys++[.ref u]))=H3 at s3 e3 qN ⊢;have Jl:z∈pa.map (·.1):=all _ z Z2 dz.1;let#[e,he,rfl]:=bG.mp Jl;let#[v',gv,Gi]:=OG.get nd he;apply#[_,U,r,CR,dx,_,_,U,s3 _ _ jF,T.cl,T.nA,Ie _ _ _,_,U,a,v',U,?_,?_]
 ·rw[<- gv];exact .t (s3 _ _ oh) (by rw[iz];exact s3 _ _ hz)
 have ig:∃j,(e.1::wr).length=j+1/\Row (Nx hs ts qs) e.1 s j (e.1::wr):=by
  rcases cs with⟨rfl,rfl⟩|⟨b,nb,j,lj,rj⟩
  ·exact#[0,U,.one]
  exact#[j+1,by rw[iR,lj],rj.more nb]
 have CU:jf H3 (ys++[.ref u]) (e.1::wr).reverse:=by rw[List.reverse_cons];exact qN
 have lc:(e.1::wr).length=wr.length+1:=iR;rcases po e he with⟨e0,en⟩|⟨q,d,eq,dq,de,nq⟩
 ·rw[en] at Gi
  have dz0:m - 1=0:=by
   rw[e0] at dz;exact dz.inj #[.z,λj hj=>by omega]
  let#[j,lj,rj]:=ig;apply#[0,by omega,v',_,e.1::wr,U,s3,e3,CU,by omega,.inl #[Gi,U,?_]];rw[<- e0];have:j=k:=by omega
  rw[<- this];exact rj
 rw[eq] at Gi;let#[b,rfl,hb]:=Gi;let dm:=dz.inj de;apply#[m - 1,by omega,_,_,e.1::wr,U,s3,e3,CU,by omega,.inr #[b,q,U,hb,by omega,by omega,?_,.inr #[e.1,nq,ig]]];rw[show m - 1 - 1=d by omega];exact dq
end
theorem Xz{hs:Xa}{ts:Xb}(G:Good hs ts){h h':Str}(m:h'∈tF hs ts q h):h≠h':=by
 intro e;subst e;let m2:=(mK.mp (mK.mp m).1).2;let#[t,ht,et]:=IF.mp (tI m2);let g:=(G.tok t ht).2.2;have e1:aK h h=(h,h):=by rcases BW h h with e|e<;>exact e
 rw[e1] at et;rcases BW t.1 t.2 with e|e
 ·rw[e] at et;exact g ((ed Prod.fst et).trans (ed Prod.snd et).symm)
 rw[e] at et;exact g ((ed Prod.snd et).trans (ed Prod.fst et).symm)
def oG(H:Hp):af->List (Str × Str × Str)->Prop:=Paired λy m=>∃t,y=.ref t/\H t\.tup [.str m.1,.str m.2.1,.str m.2.2]
theorem Qt{hs:Xa}{ts:Xb}{qs:aP}:∀{ms:List (Str × Str × Str)} {row:List ak} {a s:ak},row.length=ms.length+1->(∀(j:Nat) m,ms[j]? = some m->∃x y,row[j]? = some x/\row[j+1]? = some y/\Mv hs ts qs x y m)->row.head? = some a->row.getLast? = some s->Bb hs ts qs a ms s
 |[],[],_,_,hl,_,_,_=>by cases hl
 |[],[x],a,s,_,_,h1,h2=>by
  cases cX h1;cases cX h2;exact .nil
 |[],_::_::_,_,_,hl,_,_,_=>by simp at hl
 |m::ms,[],_,_,hl,_,_,_=>by cases hl
 |m::ms,[x],_,_,hl,_,_,_=>by simp at hl
 |m::ms,x::y::r,a,s,hl,hm,h1,h2=>by
  cases cX h1;let#[x',y',e1,e2,mv]:=hm 0 m U;cases cX e1;cases cX e2;apply .cons mv (Qt ⇑hl (λj m' hj=>hm (j+1) m' hj) U ?_);rw[List.getLast?_cons_cons] at h2;exact h2
section v
theorem Hl:bJ ["goods","hands","after","piece","one","other"] ["goods","hands","after"] (a9 rE):=bV
inductive k6 (K:ai) (CG CW:Addr) (vs:af) (H:Hp) (Q:VK) (E:XK):Prop
 |mk:∀(g p t u:Addr) (hs:Xa) (ts:Xb) (qs:aP) (fp:av) (a b:ak) (m:Str × Str × Str),vs=[.ref g,.ref t,.ref u]->Gs K CG CW H g p hs ts qs fp->H t\.tup (sV a)->H u\.tup (sV b)->a.length=qs.length->Mv hs ts qs a b m->(∀x H',aa H H'->H' x\.tup [.str m.1,.str m.2.1,.str m.2.2]->Q (.ref x) H')->k6 K CG CW vs H Q E
theorem Ym{f CG CW:Addr}(F:bo K "move_between" "move_between" rE f fd)(mZ:mg "zip"=none)(T:fY K CG)(cN:!bM CG 1 "names" ow (A6 K CG CW)):!ao a_ 2 f fd ["goods","hands","after"] (k6 K CG CW):=by
 exists F.bU Hl;let#[g,p,t,u,hs,ts,qs,fp,a,b,m,rfl,G,ht,hu,la,mv,k]:=h;have iD:aO 1 _:=hr.mono (by decide);refine' #[_,au ?s1 (aF ?s2),?kk]
 case' s1=>refine' d0 dM U ?i1 ?g1 (aF ?b1)
 case i1=>exact Yo (by rfl) mZ %[xW cN T.cl iD (pv 0),1,2|0]
 case g1=>exact mr U (dN (cu 3 Hl.nd) (dN (cu 4 Hl.nd) (dN (cu 5 Hl.nd) jh)))
 case b1=>exact cg (eY pV (pv 4) (pv 5)) (aF (bp (gh %[3,4,5|0]))) cj
 case s2=>exact bp tW
 let#[k0,q,h,h',q1,q2,q3,rfl,rfl]:=mv;let ne:=Xz G.Gd q3;have hk:k0<qs.length:=(bW.mp q1).1;let#[dx,dw,dy,vs,dk,h1,_]:=id G.G.ex;apply#[_,U,g,dx,_,U,h1,uU _ _ _ Z0 Z0 Z0,g,p,hs,ts,qs,fp,U,G.G,λl hl=>?_];let#[s1,e1]:=aD (o:=.lst ((qs.map (·.1)).map V.str)) hl;generalize upd H l (.lst ((qs.map (·.1)).map V.str))=H1 at s1 e1 ⊢;apply#[_,U,_,U,l,t,u,_,_,_,U,.of e1,.of (s1 _ _ ht),.of (s1 _ _ hu),?_]
 let Iv:bR:=λi σ H'=>∃(v3 v4 v5:aH),σ=[some (.ref g),some (.ref t),some (.ref u),v3,v4,v5]/\aa H1 H'/\i<=k0
 apply ZR (by rw[aq,aq,aq];exact la) (by rw[aq,aq,aq,List.length_set];exact la) Iv #[none,none,none,U,aa.refl _,gO _] (λi σ H' _ ⟨_,_,_,_,sm,_⟩=>#[.of (sm _ _ e1),.of (sm _ _ (s1 _ _ ht)),.of (sm _ _ (s1 _ _ hu))]) ?_ ?_
 ·rintro i x y z σ H2 hx hy hz ⟨v3,v4,v5,rfl,s2,le⟩ tt zI;let#[n,hn,rfl]:=mG hx;let#[o1,o5,rfl]:=mG hy;let#[o2,eQ,rfl]:=mG hz;let#[s3,e3]:=aD (o:=.tup [.str n,.str o1,.str o2]) zI;show fR _ _ _ _ _ (upd H2 tt (.tup [.str n,.str o1,.str o2])) _;generalize upd H2 tt (.tup [.str n,.str o1,.str o2])=H3 at s3 e3 ⊢;apply#[tt,_,U,.of e3,U,_,_,U,_,_,U,_,_,U,U,?_];apply#[_,U,_,U,U,_,U,?_];by_cases c:i=k0
  ·subst c;rw[q2] at o5;cases o5;rw[List.getElem?_set_self Z2] at eQ;cases eQ;rw[dC,q1] at hn;cases hn;rw[fq (λz:V.str h=V.str h'=>ne (V.str.inj z))];apply c_ #[_,U,_,U,_,U,zl,λx hx=>?_];exact k x _ (((s1.trans s2).trans s3).trans (aa.new hx)) az
  rw[List.getElem?_set_ne (bN c),o5] at eQ;cases eQ;rw[cw U];exact aM #[_,_,_,U,s2.trans s3,by omega]
 rintro σ H2 ⟨v3,v4,v5,rfl,s2,le⟩;rw[aq,aq] at le;omega
theorem yW:bJ ["goods","row"] ["goods","row"] (a9 rF):=bV
inductive k8 (K:ai) (CG CW:Addr) (vs:af) (H:Hp) (Q:VK) (E:XK):Prop
 |mk:∀(g p l:Addr) (ys:af) (hs:Xa) (ts:Xb) (qs:aP) (fp:av) (a s:ak) (n:Nat) (row:List ak),vs=[.ref g,.ref l]->Gs K CG CW H g p hs ts qs fp->H l\.lst ys->jf H ys row->Row (Nx hs ts qs) a s n row->(∀z∈row,z.length=qs.length)->n<1000000->(∀x zs ms H',aa H H'->H x=none->H' x\.lst zs->oG H' zs ms->Bb hs ts qs a ms s->ms.length=n->Q (.ref x) H')->k8 K CG CW vs H Q E
theorem Qd{N:ak->ak->Prop}:∀{row:List ak},Cn N row->∀{j:Nat} {x y:ak},row[j]? = some x->row[j+1]? = some y->N x y
 |[],_,_,_,_,h,_=>by cases h
 |[_],_,j,_,_,_,h=>by simp at h
 |a::b::r,c,0,x,y,h1,h2=>by
  cases cX h1;cases cX h2;exact c.1
 |a::b::r,c,j+1,x,y,h1,h2=>Qd c.2 ⇑h1 ⇑h2
theorem K4{H:Hp}{ys:af}{l:List ak}(h:jf H ys l){j:Nat}{s:ak}(hs:l[j]? = some s):∃t,ys[j]? = some (.ref t)/\H t\.tup (sV s):=by
 have hj:j<l.length:=(bW.mp hs).1;let hl:=bH h;let#[t,e,ht]:=d8 h j Z2 hj;rw[aY hj] at hs;cases hs;exact#[t,by rw[aY Z2,e],ht]
theorem YD{f CG CW:Addr}(F:bo K "moves_along" "moves_along" rF f fd)(B:Bi mg)(cB:!br 2 "move_between" ["goods","hands","after"] (k6 K CG CW)):!ao a_ 3 f fd ["goods","row"] (k8 K CG CW):=by
 exists F.bU yW;let#[g,p,l,ys,hs,ts,qs,fp,a,s,n,row,rfl,G,hl,sp,Gc,vl,n6,k]:=h;let sz:=cq;let uD:=bH sp;let lr:=Gc.len;refine' #[_,aF (bp (js ["k","goods","row"] 1 [0,1] (uW (by rfl) B.range %[bP AN (cy iq (by rfl) B.len gE %[1|0]) ay|0]) (λfp s H=>?g1) (λfp s H=>kE) (λfp s H=>?e1))),?kk]
 case g1=>exact fW (i:=0) (show (["k","goods","row"]:ag).Nodup by decide +kernel) U (Or.inl U)
 case e1=>exact bc cB hr %[1,bw (zD (K:=K) rY gd) (pv 2) (pv 0),bw (zD (K:=K) rY gd) (pv 2) (bP gz (pv 0) ay)|0]
 apply#[_,U,l,_,U,.inl (.of hl),_,_,U,U,_,U,by show (-(2 ^ 62):Int)<=(ys.length:Int) - 1;omega,by show (ys.length:Int) - 1<2 ^ 62;omega,λD hD=>?_];apply H_ (own:=1) (fv:=[some (.ref g),some (.ref l)]) U fE n (λi out H'=>aa H H'/\H' D\.lst out/\∃ms,oG H' out ms/\ms.length=i/\∀(j:Nat) m,ms[j]? = some m->∃x y,row[j]? = some x/\row[j+1]? = some y/\Mv hs ts qs x y m) #[aa.new hD,az,[],.nil,U,by simp] (λout H' ⟨sm,dF,ms,mv,lm,tr⟩=>?_) (λi out H' hi ⟨sm,dF,ms,mv,lm,tr⟩=>?_)
 ·apply#[?_,k D out ms H' sm hD dF mv (Qt Z2 tr Gc.hd Gc.lt) lm];show ((ys.length:Int) - 1).toNat<=n;omega
 apply#[by show i<((ys.length:Int) - 1).toNat;omega,?_];rintro x H2 ⟨rfl,rfl⟩;rw[Int.zero_add];apply#[_,U,U,λNx' hN=>fw ?_];have h1:row[i]? = some (row[i]' Z2):=aY Z2;have h2:row[i+1]? = some (row[i+1]' Z2):=aY Z2;obtain⟨x1,e1⟩:∃x,x=row[i]' Z2:=#[_,U];obtain⟨x2,e2⟩:∃x,x=row[i+1]' Z2:=#[_,U];rw[<- e1] at h1;rw[<- e2] at h2;let#[t1,y1,o4]:=K4 sp h1;let#[t2,y2,xw]:=K4 sp h2;let#[m,mm]:=Qd Gc.cn h1 h2;apply#[_,U,_,U,_,U,l,_,i,.ref t1,U,U,.of (sm _ _ hl),L2.dR y1,_,U,_,U,_,_,U,U,l,_,((i:Int)+1),.ref t2,U,U,.of (sm _ _ hl),?_,g,p,t1,t2,hs,ts,qs,fp,x1,x2,m,U,G.same sm,sm _ _ o4,sm _ _ xw,vl _ (cZ h1),mm,λz H3 s3 e3=>?_]
 ·rw[show ((i:Int)+1)=((i+1:Nat):Int) by omega];exact L2.dR y2
 let lo:=bH mv;apply#[out,s3 _ _ dF,by omega,hN _ _ #[fL (sm.trans s3) hD,az,ms++[m],?_,by rw[d4,lm];rfl,λj m' hj=>?_]]
 ·have tD:∀{c xs},H3 c\.tup xs->upd H3 D (.lst (out++[.ref z])) c\.tup xs:=λe=>by
   rw[aw (bS e (s3 _ _ dF) nofun)];exact e
  exact iY (Paired.aX mv λy m ⟨t,e,ht⟩=>#[t,e,tD (s3 _ _ ht)]) (.cons #[z,U,tD e3] .nil)
 by_cases c:j<ms.length
 ·rw[yg c] at hj;exact tr j m' hj
 have:j=ms.length:=by
  have:=(bW.mp hj).1;rw[d4,jU] at this;omega
 subst this;rw[Ba (bh _),Nat.sub_self] at hj;cases cX hj;rw[lm];exact#[x1,x2,h1,h2,mm]
end
theorem Qe{hs:Xa}{ts:Xb}{qs:aP}:∀{row:List ak} {a:ak},Cn (Nx hs ts qs) row->row.head? = some a->Vs hs qs a->∀z∈row,Vs hs qs z
 |[],_,_,_,_,_,hz=>by cases hz
 |[x],a,_,h,v,z,hz=>by
  cases cX h;rw[eJ.mp hz];exact v
 |x::y::r,a,c,h,v,z,hz=>by
  cases cX h;rcases bY.mp hz with rfl|hz
  ·exact v
  exact Qe c.2 U (c.1.vs v) z hz
section v
theorem IB:bJ ["goods","stand","limit","most","placed","reach","hands"] oE (a9 M9):=bV
structure AI (H:Hp) (d:Addr) (hs:Xa) (qs:aP) (fp:av) (s0:ak) (ns:ag) (f:bF):Prop where
 hd:H d\.dK (gC ns f)
 tH:d∉fp
 ok:Nm hs qs ns f
 s0:s0=(qs.map (·.1)).map f
inductive IG (K:ai) (CG CW:Addr) (vs:af) (H:Hp) (Q:VK) (E:XK):Prop
 |mk:∀(g p d lt:Addr) (hs:Xa) (ts:Xb) (qs:aP) (fp:av) (s0:ak) (ns:ag) (f:bF) (l:Int × Int) (m:Nat),vs=[.ref g,.ref d,.ref lt,.int m]->Gs K CG CW H g p hs ts qs fp->AI H d hs qs fp s0 ns f->gP H lt l->tL l->1<=m->m<1000000->(∀t x ys ms s H',aa H H'->H x=none->H' t\.tup [.str "moves",.ref x]->H' x\.lst ys->oG H' ys ms->Bb hs ts qs s0 ms s->Ds (Nx hs ts qs) s0 ms.length s->eW hs qs s l=true->(∀j z,j<ms.length->Ds (Nx hs ts qs) s0 j z->eW hs qs z l=false)->Q (.ref t) H')->(∀t H',aa H H'->H' t\.tup [.str "none"]->(∀j z,Ds (Nx hs ts qs) s0 j z->eW hs qs z l=false)->Q (.ref t) H')->(∀t H',aa H H'->H' t\.tup [.str "more"]->More (Nx hs ts qs) s0 m->Q (.ref t) H')->IG K CG CW vs H Q E
theorem AI.vs{H:Hp}{d:Addr}{hs:Xa}{qs:aP}{fp:av}{s0:ak}{ns:ag}{f:bF}(S:AI H d hs qs fp s0 ns f):Vs hs qs s0:=by
 apply⟨by rw[S.s0,aq,aq],λh hh=>?_⟩;rw[S.s0] at hh;let#[n,hn,rfl]:=bG.mp hh;exact (gN hs).mem_iff.mpr (S.ok.at_ n (S.ok.perm.mem_iff.mpr hn))
theorem _C{CG CW CR:Addr}(F:bo K "fewest_moves" "fewest_moves" M9 f0 fd)(B:Bi mg)(T:jV K CR)(cL:!br 4 "check_limit" fV lD)(cS:!br 2 "checked_stand" ["goods","stand"] (Il K CG CW))(cF:!br 2 "is_whole_from" ["thing","least"] MR)(cR:!j_ CR 5 "Reach" oC (Ib K CG CW CR))(cE:!br 7 "is_even" jX (IE K CG CW))(cA:!br 3 "moves_along" ["goods","row"] (k8 K CG CW))(cT:!bM CR 1 "row_to" AE (kX CR))(cW:!bM CR 2 "widen" ["self","most"] (MT CR)):!ao a_ 8 f0 fd oE (IG K CG CW):=by
 exists F.bU IB;let#[g,p,d,lt,hs,ts,qs,fp,s0,ns,f,l,m,rfl,G,S,hl,lo,m1,m6,kM,kN,kO]:=h;let hu:=fG hr;let sz:=cq;have n8:(aS hs).length<=8:=by rw[G.Gd.iB];exact G.Gd.h8
 have iD:aO 1 _:=hr.mono (by decide);have nZ:aO 2 _:=hr.mono (by decide);have GQ:aO 4 _:=hr.mono (by decide);refine' #[_,au ?s1 (au ?s2 (au ?s3 (au ?s4 (au ?s5 (aF ?s6))))),?kk]
 case s1=>exact kI (bc cL hr %[2|0])
 case s2=>exact bu 4 IB.nd (bc cS hr %[0,1|0])
 case s3=>exact cg (eZ (d7 (bc cF hr %[3,ay|0]))) gg cj
 case s4=>exact bu 5 IB.nd (GK cR hr %[0,4|0])
 case' s5=>refine' Iy dM ?c5 (au ?b1 (aF ?b2))
 case c5=>exact eY (MK (uM hr 0)) (gG (pv 5) U) (ft bK)
 case' b1=>refine' d0 dM U ?i1 ?g1 (aF ?e1)
 case i1=>exact dX (gG (pv 5) U)
 case g1=>exact cu 6 IB.nd
 case e1=>exact cg (d7 (bc cE hr %[0,6,2|0])) (aF (bp (gh %[tV,bc cA hr %[0,iX cT T.cl iD (pv 5) %[6|0]|0]|0]))) cj
 case b2=>exact cg (eZ (d7 (iX cW T.cl nZ (pv 5) %[3|0]))) (aF (bp (iO IT (by rfl) B.tuple qf %[ft %[tV|0]|0]))) cj
 case s6=>exact bp (iO IT (by rfl) B.tuple qf %[ft %[tV|0]|0])
 apply#[_,U,lt,l,U,hl,lo,?_];apply#[_,U,_,U,g,p,d,hs,ts,qs,fp,ns,f,U,G.G,S.tH,S.hd,S.ok,G.nd,G.cY,λd1 H1 s1 n1 e1=>?_];apply#[_,U,m,1,U,_,U,?_];rw[cw (show (1:Int)<=(m:Int) by omega)];apply aM ?_;apply#[_,U,_,U,λr dx jF Ac ne=>?_];have s2:aa H1 (upd (upd H1 dx (.own r)) r (.ins CR dx [])):=(aa.new Ac).trans (aa.new (by rw[aw ne.symm];exact jF));have e2:upd (upd H1 dx (.own r)) r (.ins CR dx []) r\.ins CR dx []:=az;have rn:H r=none:=s1.free jF;generalize upd (upd H1 dx (.own r)) r (.ins CR dx [])=H2 at s2 e2 ⊢;let jk:=s1.trans s2;apply#[r,dx,g,p,d1,hs,ts,qs,fp,f,U,e2,G.same jk,s2 _ _ e1,λa x n H3 k3 an R3=>#[U,?_]];have vY:(qs.map (·.1)).map f=s0:=S.s0.symm;rw[vY] at R3;have an0:H a=none:=jk.free an;have dZ:aa H H3:=λb o e=>k3 b o (jk _ _ e) (bz e rn);let v0:=S.vs
 let N:ak->ak->Prop:=Nx hs ts qs
 let Iv:bR:=λq σ H'=>∃(v6:aH) (n:Addr) (pa:List (ak × Option ak)) (nw:List ak) (k:Nat),σ=[some (.ref g),some (.ref d),some (.ref lt),some (.int m),some (.ref d1),some (.ref r),v6]/\aa H H'/\xV CR H' r a x n hs ts qs pa nw/\Bf N s0 k (pa.map (·.1)) nw/\uo N s0 pa/\pa.length<=m/\(nw≠[]->k+1<=pa.length)/\(∀j z,j<k->Ds N s0 j z->eW hs qs z l=false)/\q=(m - pa.length)+(if nw=[] then 0 else 1)
 apply#[Iv,#[_,_,n,[(s0,none)],[s0],0,U,dZ,R3,Bf.start,?_,by simpa using m1,by simp,λj z hj=>by omega,U],?_]
 ·intro e he;rw[eJ.mp he];exact .inl #[U,U]
 rintro q σ H4 ⟨v6,n,pa,nw,k,rfl,s4,R,bf,po,pm,kp,ev,rfl⟩;let#[#[HR,vQ],ex4,#[g_,jI,B8],#[Bk,zS,ie]]:=id R;let l4:=bH ie;have Cy:∀z∈nw,Vs hs qs z:=λz hz=>((bf.new z).mp hz).1.vs v0;apply#[_,U,r,CR,HR,_,_,U,vQ,T.cl,T.nN,Mw _ _ _,zl,λb hb=>?_];let#[s5,e5]:=aD (o:=.lst []) hb;generalize upd H4 b (.lst [])=H5 at s5 e5 ⊢;apply#[n,b,Bk,U,U,.of (s5 _ _ zS),.of e5,_,U,?_];let jx:=s4.trans s5;by_cases c:nw=[]
 ·have ye:Bk=[]:=List.length_eq_zero_iff.mp (by rw[l4,c];rfl);rw[ye];apply aM ?_;apply#[zl,λl1 fo=>?_];let#[s6,e6]:=aD (o:=.lst [.str "none"]) fo;generalize upd H5 l1 (.lst [.str "none"])=H6 at s6 e6 ⊢;apply#[l1,_,U,.inl #[.of e6,λt ht=>?_]];apply kN t _ ((jx.trans s6).trans (aa.new ht)) az λj z dz=>?_;rw[c] at bf;exact ev j z (bf.last dz) dz
 have ye:Bk.isEmpty=false:=by
  cases Bk with
  |nil=>
   cases nw with
   |nil=>exact absurd U c
   |cons _ _=>cases l4
  |cons _ _=>rfl
 rw[ye];let kpa:=kp c;apply c_ #[λaZ H'=>∃q',q'<(m - pa.length)+(if nw=[] then 0 else 1)/\Iv q' aZ H',λ_ _ h=>h,?_];rw[aC c];apply#[_,U,r,CR,HR,_,_,U,s5 _ _ vQ,T.cl,T.nN,Mw _ _ _,n,U,#[_,.of (s5 _ _ zS)],?_]
 let Iw:bR:=λi σ H'=>∃(v6:aH),σ=[some (.ref g),some (.ref d),some (.ref lt),some (.int m),some (.ref d1),some (.ref r),v6]/\aa H4 H'/\∀(j:Nat) z,j<i->nw[j]? = some z->eW hs qs z l=false
 apply ib (K:=K) (a:=n) (xs:=Bk) Iw ?_ ?_ ?_ ?_
 ·exact#[_,U,s5,λj z hj=>by omega]
 ·rintro i σ H' _ ⟨_,_,sm,_⟩;exact .of (sm _ _ zS)
 ·rintro i y σ H6 hy ⟨Ve,rfl,s6,Mp⟩;have hi:i<Bk.length:=(bW.mp hy).1;have hz:nw[i]? = some (nw[i]' Z2):=aY Z2;obtain⟨z,ez⟩:∃z,z=nw[i]' Z2:=#[_,U];rw[<- ez] at hz;let#[t,yt,ht]:=K4 ie hz;rw[hy] at yt;cases yt;let zm:=cZ hz;let zd:=(bf.new z).mp zm;let iA:=s4.trans s6;apply#[_,U,_,U,_,U,g,p,t,lt,hs,ts,qs,fp,z,l,U,G.same iA,s6 _ _ ht,Cy z zm,iA _ _ hl,lo,λH7 s7=>#[_,U,?_]];let xc:=s6.trans s7;let kg:=s4.trans xc;apply bQ (λcc=>?_) (λcc=>?_)
  ·apply#[_,U,_,U,r,HR,_,U,xc _ _ vQ,Ir _ _ _ Z0 Z0 Z0,_,U,r,x,a,n,t,hs,ts,qs,pa,nw,s0,z,k,U,R.same xc,xc _ _ ht,zd,bf.nd,λj u hj wu=>(bf.all u).mpr #[j,hj,wu],po,by omega,λl8 UO row H8 s8 n8' e8 VG J7=>?_];apply#[g,p,l8,UO,hs,ts,qs,fp,s0,z,k,row,U,(G.same kg).same s8,e8,VG,J7,λu sO=>(Qe J7.cn J7.hd v0 u sO).len,by omega,λx9 zs ms H9 s9 n9 e9 mv tr lm=>#[zl,λt9 zJ=>?_]];let VQ:=s8.trans s9;let uA:=kg.trans VQ;let sA:=aa.new (o:=.tup [.str "moves",.ref x9]) zJ;apply kM t9 x9 zs ms z _ (uA.trans sA) (kg.free (s8.free n9)) az (sA _ _ e9) (Paired.aX mv λy m ⟨t,e,ht⟩=>#[t,e,sA _ _ ht]) tr (by rw[lm];exact zd) cc λj u hj du=>ev j u Z2 du
  apply#[_,U,xc,λj u hj sO=>?_];by_cases c2:j=i
  ·subst c2;rw[hz] at sO;cases sO;simpa using cc
  exact Mp j u Z2 sO
 rintro σ H6 ⟨Ve,rfl,s6,Mp⟩;let iA:=s4.trans s6
 have evk:∀j z,j<k+1->Ds N s0 j z->eW hs qs z l=false:=λj z hj dz=>by
  by_cases c2:j=k
  ·subst c2;let#[i,hi,e]:=ia ((bf.new z).mpr dz);exact Mp i z Z2 (by rw[aY hi,e])
  exact ev j z Z2 dz
 have sN:∀{H7:Hp},Bj r a H6 H7->aa H H7:=λb7 b o e=>b7 b o (iA _ _ e) (bz e rn) (bz e an0);apply#[_,U,r,HR,_,U,s6 _ _ vQ,Ir _ _ _ Z0 Z0 Z0,_,U,r,x,a,n,hs,ts,qs,pa,nw,s0,k,m,U,R.same s6,bf,po,Cy,n8,G.cY,by omega,by omega,λH7 b7 more=>#[_,U,c_ ?_],λn' oT uB H7 b7 nn R7 bf7 Wr vL PU=>#[_,U,aM ?_]]
 ·apply#[zl,λl1 fo=>?_];let#[s8,e8]:=aD (o:=.lst [.str "more"]) fo;generalize upd H7 l1 (.lst [.str "more"])=H8 at s8 e8 ⊢;apply#[l1,_,U,.inl #[.of e8,λt ht=>?_]];exact kO t _ (((sN b7).trans s8).trans (aa.new ht)) az more
 apply#[_,?_,_,n',oT,uB,k+1,U,sN b7,R7,bf7,Wr,?_,?_,evk,U]
 ·split
  ·rename_i c3
   rw[c3] at vL;simp at vL;omega
  rename_i c3
  have:1<=uB.length:=by
   cases uB with
   |nil=>exact absurd U c3
   |cons _ _=>simp
  rcases PU with o|o
  ·omega
  exact absurd o c3
 ·rcases PU with o|o
  ·exact o
  rw[o] at vL;simp at vL;omega
 intro c3
 have:1<=uB.length:=by
  cases uB with
  |nil=>exact absurd U c3
  |cons _ _=>simp
 omega
end
end Ev
namespace fI
open PySem PySem.W PyProof.Rows
end fI
namespace L2
open PySem PySem.Spec PyProof.Rows PySem.W
end L2
namespace fI
open PySem PySem.W PyProof.Rows
variable{h:Heap}{d:Addr}
variable{l:Addr}{its:aj}
section
variable{prog:Ad}{w:Af}{K:Type}[DecidableEq K]{knd:PySem.HeapKind prog w K}{A:Ag}
def mO(knd:PySem.HeapKind prog w K)(h:Heap):aj->List (K × Addr × Aa)->Prop:=Paired λv p=>∃a,v=.ref a/\IsTup h a (List.toArray [.ref p.2.1,p.2.2])/\knd.is h p.1 p.2.1
def gY(xs ps:List (K × Addr × Aa)):List (K × Addr × Aa):=ps.foldl (λacc p=>storedH acc p.1 p.2.1 p.2.2) xs
theorem ey_(xs:List (K × Addr × Aa))(k:K)(a:Addr)(v:Aa):(storedH xs k a v).length<=xs.length+1:=by
 unfold storedH;split
 ·simp
 simp
theorem Th{h':Heap}{xs:List (K × Addr × Aa)}(q:h.DictOfH knd d xs)(k:∀o,h.get? d\o->h'.get? d\o)(t:∀x a,knd.is h x a->knd.is h' x a):h'.DictOfH knd d xs:=by
 let#[o,es,ep,ho,h1,h2,h3,h4,h5]:=q;exact#[o,es,ep,k _ ho,h1,h2,h3,λx hx=>t _ _ (h4 x hx),h5]
def Bg(knd:PySem.HeapKind prog w K):Prop:=∀(h h':Heap) (x:K) (a:Addr),knd.is h x a->(∀o,h.get? a\o->h'.get? a\o)->knd.is h' x a
def uq(knd:PySem.HeapKind prog w K):Prop:=∀(h:Heap) (x:K) (a:Addr),knd.is h x a->∃ys,IsTup h a ys
theorem Rk{b:Addr}{ys:Array Aa}{xs:List (K × Addr × Aa)}(t:IsTup h b ys)(q:h.DictOfH knd d xs):b≠d:=λz=>by
 let#[o,ho,hc,_]:=t;let#[o2,es,ep,eQ,jq,_]:=q;subst z;rw[ho] at eQ;cases eQ;let sY:=jq.1;rw[hc] at sY;exact absurd sY (by decide)
theorem Yr{it:Addr}(fm:Bg knd)(ot:uq knd)(hu:knd.room A.in1)(Lp:l≠it)(sT:d≠it)(BD:d≠l)(hh:A.handled=none)(rest:aj):∀(ps:List (K × Addr × Aa)) (i:Nat) (xs:List (K × Addr × Aa)) (s:Ab) (R:Result->Ab->Prop) (tk:Tok),its.drop i=rest->mO knd s.heap rest ps->
  s.heap.IsListIter it l i->s.heap.IsList l its.toArray->s.heap.DictOfH knd d xs->xs.length+ps.length<=1000->
  (∀h' fO,h'.DictOfH knd d (gY xs ps)->(∀b o,b≠d->b≠it->s.heap.get? b\o->h'.get? b\o)->R (.ok (.ret .none)) { s with heap:=h',toks:=fO })->
  codeAny (model prog w) A (.builtin "dict.update.loop" #[[.ref d,.ref it,.int i tk,.none],[]]) R s:=by
 induction rest with
 |nil=>
  intro ps i xs s R tk e hp hit hl hd hz hR;cases hp
  have hi:its.toArray[i]? = none:=by
   have:=ed List.length e;simp only[yk,List.length_nil] at this;simp;omega
  apply codeAny_builtin B2 ?_;rw[xT qh _,BU];apply ae (wpAny_pyNext_list_end hh hit hl hi λh' he=>?_);apply ae (m:=Builtin.Dict.addKeywords d []) (aE (aE (hR h' s.toks (Th hd (λo q=>he _ _ sT q) λx a q=>fm _ _ _ _ q λo e=>he _ _ ?_ e) λb o _ hb q=>he b o hb q)));let#[ys,t]:=ot _ _ _ q;exact A9 t hit
 |cons v rest ih=>
  intro ps i xs s R tk e hp hit hl hd hz hR;cases hp with
  |@cons _ p _ ps h0 hr=>
  let#[a,hv,ht,hk]:=h0;let#[k,ka,x]:=p;subst hv
  have hi:its.toArray[i]? = some (.ref a):=by
   have q:(its.drop i)[0]? = some (.ref a):=by rw[e];rfl
   rw[List.getElem?_drop] at q;simpa using q
  have e':its.drop (i+1)=rest:=by
   rw[<- List.drop_drop,e];rfl
  simp only[iR] at hz;apply codeAny_builtin B2 ?_;rw[xT qh _,BU];apply ae (wpAny_pyNext_list_item hit hl hi λh1 zX xy=>?_);let#[oo,K9,Ai,nt,LD]:=id ht;have sP:h1.get? a\oo:=xy.extBut _ _ (A9 ht hit) K9;apply ae (iK (ae (wpAny_tryCatch ?_)));unfold Builtin.Dict.pairItems;apply ae (wpAny_typeOf (T:="tuple") #[oo,sP,Ai] ?_);rw[aI (by decide)];unfold seqItems?;apply ae (ae (wpAny_load sP ?_));rw[LD];apply aE (aE ?_)
  have DP:∀x a,knd.is s.heap x a->knd.is h1 x a:=λx a q=>fm _ _ _ _ q λo e=>by
   let#[ys,t]:=ot _ _ _ q;exact xy.extBut _ _ (A9 t hit) e
  have pT:h1.DictOfH knd d xs:=Th hd (λo q=>xy.extBut _ _ sT q) DP;apply (show wpAny _ _ (holding [Value.ref ka,x] (dictSet d (.ref ka) x)) _ _ _ from iK (wpAny_dictSet_heap hu (DP _ _ hk) pT (λh2 hd2 pQ=>?_) (by have:=cq;omega)));have kp:∀b o,b≠d->b≠it->s.heap.get? b\o->h2.get? b\o:=λb o h3 h4 q=>pQ.extBut _ _ h3 (xy.extBut _ _ h4 q);let sR:=zX.extBut pQ.extBut (bN sT);have c1:((i:Int)+1)=((i+1:Nat):Int):=by omega
  rw[c1];apply aE #[plainId_quiet qh _,?_];apply ih ps (i+1) (storedH xs k ka x) { s with heap:=h2,toks:=s.toks+knd.draws k } R 0 e' (L2.Paired.aX hr λv p ⟨b,e1,t1,k1⟩=>#[b,e1,?_,fm _ _ _ _ k1 λo q=>?_]) sR (hl.at λo q=>kp _ _ (bN BD) Lp q) hd2 (by have:=ey_ xs k ka x;omega) λh' fO hU DN=>hR h' fO hU λb o h3 h4 q=>DN b o h3 h4 (kp b o h3 h4 q)
  ·let#[o,ho,r]:=id t1;exact#[o,kp _ _ (Rk t1 hd) (A9 t1 hit) ho,r]
  let#[ys,t]:=ot _ _ _ k1;exact kp _ _ (Rk t hd) (A9 t hit) q
theorem iI{E:Aa->Ab->Prop}{s:Ab}{n:Nat}{ps:List (K × Addr × Aa)}{Q:Aa->Ab->Prop}(fm:Bg knd)(ot:uq knd)(hu:knd.room A.in1.in1)(hh:A.handled=none)(ho:s.heap.get? l\seqObj "list" its.toArray n)(hp:mO knd s.heap its ps)(hz:ps.length<=1000)(h:∀h' fO,h'.DictOfH knd s.heap.objs.size (gY [] ps)->(∀b o,s.heap.get? b\o->h'.get? b\o)->Q (.ref s.heap.objs.size) { s with heap:=h',toks:=fO }) :
  wpAny (model prog w) A (call (.type "dict") [.ref l]) Q E s:=by
 apply callType_codes (Q₁:=λobj aJ=>obj=.ref s.heap.objs.size/\aJ={ s with heap:=s.heap.push { cls:=.type "dict",data:=.dict #[] } }) F.kt_called_dict (F.kt_typeCall_dict_1 _) F.entry_dict_init (kt_code_dict_new _ #[U,U]) ?_;rintro obj aJ ⟨rfl,rfl⟩;have gn:(s.heap.push { cls:=.type "dict",data:=.dict #[] }).DictOfH knd s.heap.objs.size []:=Heap.DictOfH.new s.heap;have fo:(s.heap.push { cls:=.type "dict",data:=.dict #[] }).get? l\seqObj "list" its.toArray n:=aQ _ ho;apply#[gn.typeIs,F.args_dict_init_2 _ _,?_];unfold Builtin.«dict.__init__» Builtin.Dict.selfAndRest;apply ae (ae (wpAny_notOrdered_dict gn.typeIs ?_));apply (show wpAny _ _ (pure (s.heap.objs.size,[Value.ref l])) _ _ _ from aE ?_);apply (show wpAny _ _ (Builtin.Dict.updateFrom "dict.__init__" s.heap.objs.size (.ref l) [] .none) _ _ _ from ?_);unfold Builtin.Dict.updateFrom;apply ae (wpAny_typeOf (T:="list") #[_,fo,U] ?_);rw[aI (by decide)];apply ae (sf fo hh λh2 Pd k2=>?_);simp only[Option.isNone_none,if_true];have jo:h2.get? l\seqObj "list" its.toArray n:=k2 _ _ fo;apply ae (wpAny_rule (ae (wpAny_pyIter_list #[_,jo,U,_,U] ?_)));apply aE #[plainId_quiet qh _,?_];have all:∀{b o},s.heap.get? b\o->(h2.push { cls:=.type "list_iterator",data:=.fields (List.toArray [.ref l,.int 0 0]) }).get? b\o:=λq=>aQ _ (k2 _ _ (aQ _ q));let#[o1,es1,ep1,o5,r1,r2,r3,r4,r5]:=gn;have yH:s.heap.objs.size<h2.objs.size:=bx (k2 _ _ o5);have lz:l<s.heap.objs.size:=bx ho
 apply Yr (A:=A.in1) (knd:=knd) (its:=its) (it:=h2.objs.size) (l:=l) (d:=s.heap.objs.size) fm ot hu (dD (Nat.lt_trans lz yH)) (dD yH) (iu lz) hh its ps 0 [] _ _ 0 U (L2.Paired.aX hp λv p ⟨b,e1,t1,k1⟩=>#[b,e1,t1.keeps λb o q=>all q,fm _ _ _ _ k1 λo q=>all q])
  #[_,cJ _ U,U,U] #[_,aQ _ jo,U,_,U] #[o1,es1,ep1,aQ _ (k2 _ _ o5),r1,r2,r3,(by intro x hx;cases hx),r5] ⇑hz λh' fO hU kp=>#[U,h h' fO hU λb o q=>?_]
 have bl:b<s.heap.objs.size:=bx q;exact kp b o (dD bl) (dD (Nat.lt_trans bl yH)) (all q)
end
variable{prog:Ad}{w:Af}
theorem tq{K:Type}[DecidableEq K](k:PySem.KeyKind prog w K):Bg (tupleKind k):=λh h' x a q e=>by
 let#[o,ys,n,h1,h2]:=q;exact#[o,ys,n,e o h1,h2]
theorem oV{K:Type}[DecidableEq K](k:PySem.KeyKind prog w K):uq (tupleKind k):=λh x a q=>by
 let#[o,ys,n,h1,h2,h3,_]:=q;exact#[ys,o,h1,h2,n,h3]
end fI
namespace L2
open PySem PySem.Spec PyProof.Rows PySem.W
def mN(H:Hp):af->List (ax × V)->Prop:=Paired λy p=>∃a b,y=V.ref a/\H a\.tup [.ref b,p.2]/\H b\.tup (p.1.map kV)
def AW(kvs more:List (ax × V)):List (ax × V):=more.foldl (λacc kv=>putK acc kv.1 kv.2) kvs
theorem KT.gY{H:Hp}:∀{more:List (ax × V)} {rs:List (ax × Addr × Aa)} {kvs:List (ax × V)} {xs:List (ax × Addr × Aa)},KT H more rs->KT H kvs xs->KT H (AW kvs more) (fI.gY xs rs):=λ{more rs kvs xs} h=>by
 induction h generalizing kvs xs with
 |nil=>exact λh=>h
 |@cons p q _ _ h _ ih=>
  intro h2;let#[k,y]:=p;let#[k',b,u]:=q;let#[h1,h3,h4]:=h;have h1:k=k':=h1;subst h1;exact ih (h2.put k h3 h4)
theorem Ul:∀(more kvs:List (ax × V)),(AW kvs more).length<=kvs.length+more.length
 |[],kvs=>bh _
 |kv::more,kvs=>by
  let h1:=Ul more (putK kvs kv.1 kv.2);let h2:=IQ kvs kv.1 kv.2;show (AW (putK kvs kv.1 kv.2) more).length<=_;simp only[iR];omega
inductive SF (xs:af) (H:Hp) (Q:VK):Prop
 |mk:∀p ys kvs,xs=[.ref p]->H p\.lst ys->mN H ys kvs->kvs.length<=1000->(∀l,H l=none->Q (.ref l) (upd H l (.dT (AW [] kvs))))->SF xs H Q
variable{X:Cx}
theorem dK_(hc:X.calm=true)(hu:X.A.units+2<cLine):gr X (.type "dict") SF:=by
 intro pins s σ H xs us Q I r h;let#[p,ys,kvs,rfl,hp,t,hz,q]:=h;let#[u,rfl,ru]:=vals1 r;cases ru;let#[z,its,n,rv,hl,ho]:=I.i5 hp
 have gen:∀{ys:af} {its:aj} {kvs:List (ax × V)},Vals ys its->mN H ys kvs->∃ps,KT H kvs ps/\fI.mO (tupleKind (dW X.prog X.w)) s.heap its ps:=λ{ys its kvs} rv t=>by
  induction t generalizing its with
  |nil=>
   cases rv;exact#[[],.nil,.nil]
  |@cons y p ys kvs h t ih=>
   cases rv with
   |cons r0 rv=>
    let#[ps,h1,h2]:=ih rv;let#[a,b,e,sq,sb]:=h;subst e;cases r0;let#[tv,rt,it,_]:=I.tuple (er.of sq);let#[key,x,e2,rk,rx]:=vals2 rt;subst e2;cases (show key=Value.ref b from rk);apply#[(p.1,b,x)::ps,Paired.cons (show p.1=p.1/\H b\.tup (p.1.map kV)/\RelV p.2 x from #[U,sb,rx]) h1,Paired.cons (show ∃a',Value.ref a=.ref a'/\IsTup s.heap a' (List.toArray [.ref b,x])/\(tupleKind (dW X.prog X.w)).is s.heap p.1 b from #[a,U,it,wz I.aA sb]) h2]
 let#[ps,h1,h2]:=gen rv t;let lp:=bH h1;apply fI.iI (knd:=tupleKind (dW X.prog X.w)) (fI.tq _) (fI.oV _) (tupleKind_room_in1 (A:=X.A.in1) (by show X.A.units+1+1<cLine;omega)) (I.ok.hd hc) ho h2 Z2 λh' tk hd kp=>?_;let#[q1,es,ep,hq,g2,g3,g4,_,g5]:=hd;apply#[.ref s.heap.objs.size,_,I.laid (t':=tk) kp (bh _) (show fi X.prog X.w _ h' _ (.dT (AW [] kvs)) from #[?_,beq_eq_false_iff_ne.mpr (bN (dD I.big)),_,(KT.gY h1 .nil).keeps λc ys ec=>?_,q1,es,ep,hq,g2,g3,g4,g5]),U,q _ I.fresh]
 ·have:=Ul kvs [];have:=cq;simp only[List.length_nil] at *;omega
 rw[aw (bz ec I.fresh)];exact ec
theorem S2:∀(more kvs:List (ax × V)),((kvs++more).map (·.1)).Nodup->AW kvs more=kvs++more
 |[],kvs,_=>(wI _).symm
 |kv::more,kvs,nd=>by
  show AW (putK kvs kv.1 kv.2) more=_
  have e:putK kvs kv.1 kv.2=kvs++[kv]:=by
   unfold putK;rw[aC];intro h;let#[q,hq,e]:=List.any_eq_true.mp h;let e:=tI e;rw[eg,wG] at nd;exact nd.2.2 q.1 (List.mem_map_of_mem hq) kv.1 Y0 e
  rw[e,S2 more (kvs++[kv]) ⇑nd];simp
variable{K:ai}
theorem ZZ{a:Addr}{xs:af}{g:TG}{tc:TT}{te:TE}{own:Nat}{fv:List aH}{dec:V->Hp->List aH->Prop}{D:Addr}{H:Hp}{Q:VK}{kP:St}(sM:kP=List.replicate own none++fv)(G:Cd g own fv dec)(Pv:Nat->af->Hp->Prop)(h0:Pv 0 [] (upd H D (.lst [])))(hl:∀i out H',i<=xs.length->Pv i out H'->er K H' a xs)(hd:∀out H',Pv xs.length out H'->Q (.ref D) H')(Ez:∀i x out H',xs[i]? = some x->Pv i out H'->∃o3,dec x H' o3/\o3.length=own/\∀Nx:Hp->Prop,(∀lY H2,Pv (i+1) lY H2->Nx H2)->
   tc (o3++fv) H' λb H4=>if b=true then te (o3++fv) H4 λy H5=>∃gj,H5 D\.lst gj/\gj.length<sizeLine/\Nx (upd H5 D (.lst (gj++[y]))) else Nx H4) :
  AJ (OS K a) g tc te kP D H Q:=by
 apply H_ sM G xs.length Pv h0 (λout H' p=>#[#[xs,hl _ _ _ (bh _) p,bh _],hd out H' p]) λi out H' hi p=>?_;let q:=hl i out H' (Nat.le_of_lt hi) p;apply#[#[xs,xs[i],q,by simp[hi]],λx H2 y=>?_];let#[e,y]:=y;subst e;exact Ez i x out _ (y xs q) p
theorem Za{e:Expr}{ta:TE}{f:Str}{pos:Pos}(hK:X.K=K)(he:PE X e ta)(hb:PySem.attributeBase e f X.env (eval e X.env)=eval e X.env):PE X (.Attribute e f pos) (CK K ta f):=by
 subst hK;exact gG he hb
end L2
namespace Ev
open PySem L2
def eD(H:Hp):af->List (ak × Nat)->Prop:=Paired λy e=>∃a t,y=.ref a/\H a\.tup [.ref t,.int (e.2:Nat)]/\H t\.tup (sV e.1)
theorem eD.keep{H H':Hp}{ys:af}{l:List (ak × Nat)}(h:eD H ys l)(k:∀b xs,H b\.tup xs->H' b\.tup xs):eD H' ys l:=Paired.aX h λy e ⟨a,t,e1,h1,h2⟩=>#[a,t,e1,k _ _ h1,k _ _ h2]
theorem eD.same{H H':Hp}{ys:af}{l:List (ak × Nat)}(h:eD H ys l)(s:aa H H'):eD H' ys l:=h.keep λ_ _ e=>s _ _ e
structure Be (hs:Xa) (qs:aP) (c:Nat) (l:List (ak × Nat)):Prop where
 nd:(l.map (·.1)).Nodup
 v:∀e∈l,Vs hs qs e.1/\e.2<c
 len:l.length<=1000
variable{fd:Ae}
variable{f:Addr}
section v
theorem xa:bJ ["goods","stand","limit","count","placed"] uc (a9 zf):=bV
inductive qM (K:ai) (CG CW:Addr) (vs:af) (H:Hp) (Q:VK) (E:XK):Prop
 |mk:∀(g p d lt:Addr) (hs:Xa) (ts:Xb) (qs:aP) (fp:av) (s0:ak) (ns:ag) (f:bF) (l:Int × Int) (c:Nat),vs=[.ref g,.ref d,.ref lt,.int c]->Gs K CG CW H g p hs ts qs fp->AI H d hs qs fp s0 ns f->gP H lt l->tL l->1<=c->c<=100->(∀d' H',aa H H'->H d'=none->H' d'\.dK (gC (qs.map (·.1)) f)->Q (.ref d') H')->qM K CG CW vs H Q E
theorem X8{f0 CG CW:Addr}(F:bo K "checked_shut_start" "checked_shut_start" zf f0 fd){tk:Tok}(mM:mg "MOST_COUNT"\.int 100 tk)(cL:!br 4 "check_limit" fV lD)(cS:!br 2 "checked_stand" ["goods","stand"] (Il K CG CW))(cW:!br 2 "is_whole_within" AD Ft):!ao a_ 5 f0 fd uc (qM K CG CW):=by
 exists F.bU xa;let#[g,p,d,lt,hs,ts,qs,fp,s0,ns,f,l,c,rfl,G,S,hl,lo,c1,c2,k]:=h;refine' #[_,au ?s1 (au ?s2 (au ?s3 (aF ?s4))),?kk]
 case s1=>exact kI (bc cL hr %[2|0])
 case s2=>exact bu 4 xa.nd (bc cS hr %[0,1|0])
 case s3=>exact cg (eZ (d7 (bc cW hr %[3,ay,BX (v:=.int 100) (by rfl) mM #[tk,U]|0]))) gg cj
 case s4=>exact bp (pv 4)
 apply#[_,U,lt,l,U,hl,lo,?_];apply#[_,U,_,U,g,p,d,hs,ts,qs,fp,ns,f,U,G.G,S.tH,S.hd,S.ok,G.nd,G.cY,λd1 H1 s1 n1 e1=>?_];apply#[_,U,c,1,100,U,_,U,?_];rw[cw (show (1:Int)<=(c:Int) by omega),cw (show (c:Int)<=100 by omega)];exact aM #[_,U,k d1 H1 s1 n1 e1]
theorem oM:bJ oB oB (a9 NR):=bV
inductive N1 (K:ai) (CG CW:Addr) (vs:af) (H:Hp) (Q:VK) (E:XK):Prop
 |mk:∀(g p a t:Addr) (hs:Xa) (ts:Xb) (qs:aP) (fp:av) (z:ak) (n c:Nat),vs=[.ref g,.int c,.ref a]->Gs K CG CW H g p hs ts qs fp->H a\.tup [.ref t,.int n]->H t\.tup (sV z)->Vs hs qs z->n<c->c<=100->(∀H',aa H H'->Q (.bl true) H')->N1 K CG CW vs H Q E
theorem fM_{CG CW:Addr}(F:bo K "is_entry" "is_entry" NR f fd)(B:Bi mg)(T:fY K CG)(TW:Txt K mg CW)(cN:!bM CG 1 "names" ow (A6 K CG CW))(cH:!bM CW 1 "has_hand" mC (BO K CW))(cW:!br 2 "is_whole_within" AD Ft):!ao a_ 3 f fd oB (N1 K CG CW):=by
 exists F.bU oM;let#[g,p,a,t,hs,ts,qs,fp,z,n,c,rfl,G,ha,ht,v,nc,c2,k]:=h;let sz:=cq;have iD:aO 1 _:=hr.mono (by decide);refine' #[_,au ?s1 (au ?s2 (aF ?s3)),?kk]
 case s1=>exact cg (pf (eZ (d7 (cy jT (by rfl) B.jn jr %[2,jS (v:=.ty "tuple") (by rfl) B.tuple qf U|0]))) (pA (eY pV (cy iq (by rfl) B.len gE %[2|0]) ay))).pt (aF (bp il)) cj
 case s2=>exact cg (pf (eZ (d7 (cy jT (by rfl) B.jn jr %[bw cU (pv 2) ay,jS (v:=.ty "tuple") (by rfl) B.tuple qf U|0]))) (pA (eY pV (cy iq (by rfl) B.len gE %[bw cU (pv 2) ay|0]) (cy iq (by rfl) B.len gE %[xW cN T.cl iD (pv 0)|0])))).pt (aF (bp il)) cj
 case' s3=>refine' bp (ph (cy (RT U) (by rfl) B.all PyProof.Rows.Boot.«all» %[js ["hand","goods"] 1 [0] (XO (bw cU (pv 2) ay)) (λfp s H=>?g3) (λfp s H=>kE) (λfp s H=>?e3)|0]) (qe (bc cW hr %[bw cU (pv 2) ay,ay,bP AN (pv 1) ay|0])))
 case g3=>exact fW (i:=0) (show (["hand","goods"]:ag).Nodup by decide +kernel) U (Or.inl U)
 case e3=>exact iX cH TW.cl iD (Za (K:=K) U (pv 1) U) %[0|0]
 apply#[_,U,_,_,_,_,U,.tup ha,U,_,U,aM ?_];apply#[_,U,a,_,U,.inr (.of ha),U,_,U,?_];apply xR (show V.int ((2:Nat):Int)=V.int 2 from U) ?_;let G1:=G;let#[dx,dw,dy,vs,dk,h1,h2,_]:=id G.G.ex;apply#[_,U,a,_,0,_,U,U,.of ha,L2.dR (j:=0) U,_,_,_,_,U,.tup ht,U,_,U,aM ?_];apply#[_,U,a,_,0,_,U,U,.of ha,L2.dR (j:=0) U,t,_,U,.inr (.of ht),_,U,g,dx,_,U,h1,uU _ _ _ Z0 Z0 Z0,g,p,hs,ts,qs,fp,U,G.G,λl hl=>?_];let#[s1,e1]:=aD (o:=.lst ((qs.map (·.1)).map V.str)) hl;generalize upd H l (.lst ((qs.map (·.1)).map V.str))=H1 at s1 e1 ⊢;apply#[l,_,U,.inl (.of e1),U,_,U,?_];apply xR (by rw[aq,aq,aq,v.len]) ?_;let BF:=s1 _ _ ha;let o4:=s1 _ _ ht;let UD:=G.same s1;let#[dx',dw',dy',FX,fpw',s_,gS,_]:=id UD.G.ex;apply#[_,U,a,_,0,_,U,U,.of BF,L2.dR (j:=0) U,t,U,#[_,.of o4],λD hD=>?_];apply ZZ (own:=1) (fv:=[some (.ref g)]) (xs:=sV z) U fE (λj out H'=>aa H1 H'/\∃bs:List Bool,H' D\.lst (bs.map V.bl)/\out=bs.map V.bl/\bs.length=j/\∀b∈bs,b=true) #[aa.new hD,[],az,U,U,by simp] (λj out H' _ ⟨sm,_⟩=>.of (sm _ _ o4)) (λout H5 ⟨s5,bs,i7,eo,_,all⟩=>?_) (λj y out H' hy ⟨sm,bs,dF,eo,lb,all⟩=>?_);rotate_left 1
 ·have hj:j<(sV z).length:=(bW.mp hy).1;rw[aq] at hj
  have ey:y=V.str z[j]:=by
   rw[dC,aY hj] at hy;exact (cX hy).symm
  subst ey;let cY:=G.cY;let lz:=v.len;have Jl:z[j]∈hs.map (·.1):=(gN hs).mem_iff.mp (v.ij _ (kJ hj));let Gg2:=UD.same sm;let#[dx2,dw2,dy2,vs2,Mf,q1,q2,_]:=id Gg2.G.ex;apply#[_,U,U,λNx hN=>fw ?_];let#[jK,_,_,_,_,_,_,w1,_]:=id q2.ex;have l1:out.length<sizeLine:=by rw[eo,aq];omega
  apply#[_,U,g,CG,dx2,_,_,U,q1,T.cl,T.nW,yb _ _ _,p,jK,_,U,w1,pC _ _ _ Z0 Z0 Z0,_,U,p,z[j],hs,ts,Mf,U,q2,out,by rw[eo];exact dF,l1,hN (out++[.bl true]) _ #[fL sm hD,bs++[true],?_,?_,by rw[d4,lb];rfl,λb hb=>?_]]
  ·rw[cw Jl,az,eo,eg];rfl
  ·rw[eo,eg];rfl
  rcases dI.mp hb with hb|hb
  ·exact all b hb
  exact eJ.mp hb
 have ev:bs.all id=true:=List.all_eq_true.mpr λb hb=>all b hb;apply#[D,bs,U,.of i7,?_];rw[ev];apply#[_,U,c_ ?_];apply#[_,U,a,_,1,_,U,U,.of (s5 _ _ BF),L2.dR (j:=1) U,_,U,_,_,U,U,n,0,(c:Int) - 1,U,?_];rw[cw (show (0:Int)<=(n:Int) by omega),cw (show (n:Int)<=(c:Int) - 1 by omega)];exact k H5 (s1.trans s5)
end
structure j9 (ts:Xb) (p:Pc):Prop where
 g:j8 ts p
 sub:∀ws,p.2.2\ws->∀w∈ws,w∈ts
theorem Ue:∀us:Xb,Paired (λw u=>w=u∨w=(u.2,u.1)) us us
 |[]=>.nil
 |u::us=>.cons (.inl U) (Ue us)
section v
theorem A7:bJ [gL,"_law_ties_here","_law_most",wa,"_law_k","_law_name_here","_law_some","_law_weight","_law_ways"] uf (a9 MU):=bV
inductive Oa (K:ai) (vs:af) (H:Hp) (Q:VK) (E:XK):Prop
 |mk:∀(l lt:Addr) (m:Nat) (zs:af) (ts:Xb),vs=[.ref l,.ref lt,.int m]->m<=8->cK H l->H lt\.lst zs->bX K H zs (ts.map kT)->lt≠l->ts.length<64->(∀t∈ts,wk t)->(ts.map kO).Nodup->(∀(a:Addr) (ys:af) (ps:aP) (H':Hp),aV l H H'->cK H' l->H a=none->H' a\.lst ys->kC K H' ys ps->(∀p∈ps,j9 ts p)->(ps.map (·.1)).Nodup->ps.length<=m->Q (.ref a) H')->Oa K vs H Q E
theorem fC_(F:bo K "_law_pieces" "_law_pieces" MU f fd)(B:Bi mg)(cD:!br 1 tQ uO wA)(cN:!br 2 "_law_name" [gL] M0):!ao a_ 3 f fd uf (Oa K):=by
 exists F.bU A7;let#[l,lt,m,zs,ts,rfl,m8,st,dH,tu,xq,cY,good,nd,k]:=h;let sz:=cq;let lz:=bH tu;rw[aq] at lz;refine' #[_,au ?s1 (au ?s2 (aF ?s3)),?kk]
 case s1=>exact bu 3 A7.nd (ft bK)
 case' s2=>refine' d0 dM U ?i2 ?g2 (au ?b1 (aF ?b2))
 case i2=>exact uW (by rfl) B.range %[bc cD hr %[0,bP gz (pv 2) ay|0]|0]
 case g2=>exact cu 4 A7.nd
 case b1=>exact bu 5 A7.nd (bc cN hr %[0|0])
 case' b2=>refine' cg (eY (Tt i_ (uM hr 0)) (pv 5) (js [wm] 1 [] (dX (pv 3)) (λfp s H=>?g3) (λfp s H=>kE) (λfp s H=>?e3)) (by with_unfolding_all rfl)) (au ?c1 (au ?c2 (au ?c3 (aF ?c4)))) cj
 case g3=>exact fW (i:=0) (show ([wm]:ag).Nodup by decide +kernel) U (Or.inl U)
 case e3=>exact bw (zD (K:=K) oQ cU) (pv 0) ay
 case c1=>exact bu 6 A7.nd (ft %[bP gz ay (bc cD hr %[0,ay|0]),bP gz ay (bc cD hr %[0,ay|0]),bP gz ay (bc cD hr %[0,bP XE ay ay|0])|0])
 case c2=>exact bu 7 A7.nd (bw gd (pv 6) (bc cD hr %[0,ay|0]))
 case' c3=>refine' RB (i:=8) ["_law_tie",gL] 1 [0] A7.nd U (Or.inl U) (dX (pv 1)) (λfp s H=>?g4) (λfp s H=>?t4) (λfp s H=>?e4)
 case g4=>exact fW (i:=0) (show (["_law_tie",gL]:ag).Nodup by decide +kernel) U (Or.inl U)
 case t4=>exact Ih (eY BK (bc cD hr %[1,ay|0]) ay)
 case e4=>exact pv 0
 case c4=>exact kI (pe ou xY xZ wC (pv 3) %[gh %[5,7,bw gd (ft %[tW,tW,8|0]) (bc cD hr %[0,ay|0])|0]|0])
 case s3=>exact bp (pv 3)
 apply#[zl,λa ha=>?_];let#[Jo,kr]:=st.some;have gq:l≠a:=bz kr ha;let#[s1,e1]:=aD (o:=.lst []) ha;let pI:=st.same s1;generalize upd H a (.lst [])=H1 at s1 e1 pI ⊢;apply#[_,U,_,U,_,_,U,U,l,(m:Int)+1,U,by omega,by omega,pI,λr H2 r0 rm b2 eU=>?_];apply#[_,U,by show (-(2 ^ 62):Int)<=r;omega,by show r<(2 ^ 62:Int);omega,?_]
 let Iv:bR:=λi σ H'=>∃(v4 v5 v6 v7 v8:aH) (ys:af) (ps:aP),σ=[some (.ref l),some (.ref lt),some (.int m),some (.ref a),v4,v5,v6,v7,v8]/\aV l H H'/\cK H' l/\H' a\.lst ys/\Paired (λy p=>∃t v,y=.ref t/\H' t\.tup [.str p.1,.int p.2.1,v]/\cm K H' v p.2.2/\v≠.ref a) ys ps/\(∀p∈ps,j9 ts p)/\(ps.map (·.1)).Nodup/\ps.length<=i
 apply wD (lo:=0) (n:=r.toNat) Iv #[none,none,none,none,none,[],[],U,(aV.of s1).trans b2,eU,b2 _ _ e1 gq.symm,.nil,by simp,.nil,bh _] ?_ ?_
 ·rintro i σ H3 hi ⟨v4,v5,v6,v7,v8,ys,ps,rfl,b3,ic,jJ,Gp,gp,vB,le⟩;let ly:=bH Gp;apply#[_,U,l,U,ic,λx H4 nx b4 gR=>?_];let#[UU,zW]:=ic.some;let jI:=b4 _ _ jJ gq.symm
  have Gm:∀{Ha Hb:Hp},aV l Ha Hb->cK Ha l->∀{y p},(∃t v,y=V.ref t/\Ha t\.tup [.str p.1,.int p.2.1,v]/\cm K Ha v p.2.2/\v≠.ref a)->∃t v,y=V.ref t/\Hb t\.tup [.str (p:Pc).1,.int p.2.1,v]/\cm K Hb v p.2.2/\v≠.ref a:=by
   intro Ha Hb bb sb y p h;let#[t,v,e,ht,wy,na]:=h;let#[xs,e2]:=sb.some;exact#[t,v,e,bb _ _ ht (bS ht e2 nofun),wy.but bb sb,na]
  let PR:=Paired.aX Gp λy p h=>Gm b4 ic h;apply#[_,U,_,U,a,U,#[_,.of jI],λD hD=>?_];apply kK (own:=1) (fv:=[]) (xs:=ys) U fE (λi out H'=>aa H4 H'/\H' D\.lst out/\out=((ps.take i).map (·.1)).map V.str) #[aa.new hD,az,U] (λi out H' _ ⟨sm,_,_⟩=>.of (sm _ _ jI)) (λout H5 ⟨s5,i7,eo⟩=>?_) (λj y out H' hy ⟨sm,dF,eo⟩=>?_);rotate_left 1
  ·have hj:j<ys.length:=(bW.mp hy).1;let#[t,v,e,ht,_]:=d8 PR j hj Z2;rw[aY hj] at hy;cases hy;rw[e];have hp:ps[j]? = some (ps[j]' Z2):=aY Z2;apply#[_,U,U,λNx hN=>fw ?_];apply#[_,U,t,_,0,_,U,U,.of (sm _ _ ht),L2.dR (j:=0) U,out,dF,?_,hN _ _ #[fL sm hD,az,?_]]
   ·rw[eo,aq,aq,dJ];omega
   rw[yi _ hp,eg,eo];rfl
  rw[ly,eR] at eo;subst eo;have b5:aV l H H5:=(b3.trans b4).trans (aV.of s5);let gi:=gR.same s5;let EL:=s5 _ _ jI;let PQ:=Paired.aX PR λy p h=>Gm (aV.of s5) gR h;apply#[x,_,U,Tv i7,_,U,?_];apply bQ (λc=>?_) (λc=>?_)
  ·have Kn:x∉ps.map (·.1):=⇑c
   apply#[_,U,l,3,U,by decide,by decide,gi,λr1 H6 q0 q1 b6 iy=>#[_,_,U,U,?_]];apply#[_,U,l,9,U,by decide,by decide,iy,λr2 H7 q2 q3 b7 i0=>#[_,_,U,U,?_]];apply#[_,U,_,_,U,U,#[by decide,by decide,by decide],l,_,U,by decide,by decide,i0,λr3 H8 q4 q5 b8 yK=>#[_,_,U,U,?_]];have q5:r3<1000000000:=q5;apply#[zl,λp hp=>?_];let#[s9,e9]:=aD (o:=.lst [.int (1+r1),.int (1+r2),.int (1+r3)]) hp;let vp:=yK.same s9
   have pl:p≠l:=by
    let#[xs,e]:=yK.some;exact (bz e hp).symm
   have Ut:aV l H5 (upd H8 p (.lst [.int (1+r1),.int (1+r2),.int (1+r3)])):=((b6.trans b7).trans b8).trans (aV.of s9);generalize upd H8 p (.lst [.int (1+r1),.int (1+r2),.int (1+r3)])=H9 at s9 e9 vp Ut ⊢;apply#[_,U,_,U,l,3,U,by decide,by decide,vp,λr4 HA q6 q7 bA Bo=>?_];let#[y,hy,wt,ew,w1,w2]:=Ey (p:=λy:V=>∃n:Int,y=.int n/\1<=n/\n<=1000000000) (a:=V.int (1+r1)) (b:=.int (1+r2)) (c:=.int (1+r3)) q6 q7 #[_,U,by omega,by omega] #[_,U,by omega,by omega] #[_,U,by omega,by omega];subst ew;apply#[p,_,_,_,U,U,.of (bA _ _ e9 pl),hy,?_];let OB:=Ut.trans bA;have QX:aV l H HA:=b5.trans OB;let Ek:=QX _ _ dH xq;let Vl:=jg tu QX kr;apply#[_,U,lt,U,#[_,.of Ek],λD2 Aq=>?_]
   have OX:D2≠l:=by
    let#[xs,e]:=Bo.some;exact (bz e Aq).symm
   apply kK (own:=1) (fv:=[some (.ref l)]) (xs:=zs) U fE (λi out H'=>∃us:Xb,aV l HA H'/\cK H' l/\H' D2\.lst out/\bX K H' out (us.map kT)/\us.Sublist (ts.take i)) #[[],aV.of (aa.new Aq),Bo.same (aa.new Aq),az,.nil,List.nil_sublist _] (λi out H' _ ⟨_,b,_⟩=>.of (b _ _ Ek xq)) (λUP HB ⟨us,bB,oK,G6,Vk,sub⟩=>?_) (λi x out H' hx ⟨us,b,stx,hDx,O_,sub⟩=>?_);rotate_left 1
   ·let#[t,ht,p,rfl,hp]:=uY Vl hx;apply#[_,U,U,λNx hN=>?_];apply#[_,U,l,3,U,by decide,by decide,stx,λr2 H4 q0 q1 b4 gR=>#[_,_,U,U,_,U,?_]];let#[US,jG]:=stx.some;let yx:=jg O_ b4 jG;let o6:=b4 _ _ hDx OX;let#[UX,e1]:=Bo.some;have iE:p≠l:=bS hp e1 nofun;apply bQ (λc2=>?_) (λc2=>?_)
    ·let lo:=bH O_;rw[aq] at lo;let ls:=sub.length_le;rw[dJ] at ls;let Eb:=b4 _ _ (b _ _ hp iE) iE;apply#[_,U,out,o6,by omega,hN _ _ #[us++[t],λb' o e ne=>?_,?_,az,?_,?_]]
     ·rw[aw (bz e Aq)];exact b4 _ _ (b _ _ e ne) ne
     ·unfold cK;rw[aw OX.symm];exact gR
     ·rw[eg];exact Im (gu_ yx Eb) o6
     rw[tZ,ht];exact sub.append (List.Sublist.refl _)
    apply hN _ _ #[us,b.trans b4,gR,o6,yx,sub.trans ?_];rw[tZ];exact List.sublist_append_left _ _
   rw[lz,eR] at sub;let OA:=OB.trans bB;let Re:=OA _ _ EL gq.symm;let Wx:=Paired.aX PQ λy p h=>Gm OA gi h
   have D2a:D2≠a:=λz=>by
    have:=OB _ _ EL gq.symm;rw[<- z,Aq] at this;cases this
   apply#[_,U,.inl #[U,_,.of Re],_,U,_,U,_,U,zl,λlx jG=>?_];let#[sC,eC]:=aD (o:=.lst [.non,.non,.ref D2]) jG;let stC:=oK.same sC
   have Bu:lx≠l:=by
    let#[xs,e]:=oK.some;exact (bz e jG).symm
   generalize upd HB lx (.lst [.non,.non,.ref D2])=HC at sC eC stC ⊢;apply#[_,U,l,3,U,by decide,by decide,stC,λr5 HD q8 q9 bD F8=>?_];have FE:aV l HB HD:=(aV.of sC).trans bD;let Vi:=jg Vk FE (oK.some.choose_spec);let hDD:=FE _ _ G6 OX;let#[v,hv,o,wy,fresh,gw,gs]:=Ey (p:=λv:V=>∃o,cm K HD v o/\v≠.ref a/\(∀ws,o\ws->E4 ts ws)/\∀ws,o\ws->∀w∈ws,w∈ts) (a:=V.non) (b:=.non) (c:=.ref D2) q8 q9 #[none,U,nofun,(λws z=>by cases z),(λws z=>by cases z)] #[none,U,nofun,(λws z=>by cases z),(λws z=>by cases z)] #[some us,#[D2,UP,U,hDD,Vi],(λz=>D2a (V.ref.inj z)),(λws z=>by cases z;exact Y5 good nd sub (Ue us)),(λws z w hw=>by cases z;exact sub.subset hw)];apply#[lx,_,_,_,U,U,.of (bD _ _ eC Bu),hv,zl,λt ht=>?_];let haD:=FE _ _ Re gq.symm;let#[sE,eE]:=aD (o:=.tup [.str x,.int wt,v]) ht;let Br:=Paired.aX Wx λy p h=>Gm (FE.trans (aV.of sE)) oK h;let F7:=F8.same sE;let O7:=wy.same sE;let bE:=(b5.trans OA).trans (FE.trans (aV.of sE));let BE:=sE _ _ haD;generalize upd HD t (.tup [.str x,.int wt,v])=HE at sE eE Br F7 O7 bE BE ⊢;apply#[a,_,_,U,U,BE,by omega,?_];apply#[_,_,_,_,_,_,ps++[(x,wt,o)],U,λb' o' e ne=>?_,?_,az,?_,?_,?_,?_]
   ·rw[aw (bz e ha)];exact bE _ _ e ne
   ·unfold cK;rw[aw gq];exact F7
   ·exact iY (Paired.aX Br λy p ⟨t',v,e,xx,wy,na⟩=>#[t',v,e,by rw[aw (bS xx BE nofun)];exact xx,wy.put BE na,na]) (.cons #[t,v,U,by rw[aw (bS eE BE nofun)];exact eE,O7.put BE fresh,fresh] .nil)
   ·intro q hq;rcases dI.mp hq with hq|hq
    ·exact gp q hq
    rw[eJ.mp hq];exact#[#[nx,w1,w2,gw],gs]
   ·rw[eg,wG];exact#[vB,by simp,λa1 h1 a2 h2 e=>Kn (by rw[<- (eJ.mp h2:a2=x),<- e];exact h1)]
   rw[d4,jU];omega
  exact#[_,_,_,_,_,ys,ps,U,b5,gi,EL,PQ,gp,vB,by omega]
 rintro σ H3 ⟨v4,v5,v6,v7,v8,ys,ps,rfl,b3,ic,jJ,Gp,gp,vB,le⟩;exact#[_,U,k a ys ps H3 b3 ic ha jJ (Paired.aX Gp λy p ⟨t,v,e,ht,wy,_⟩=>#[t,v,e,ht,wy]) gp vB Z2]
end
section v
theorem qT:bJ oF oF (a9 Nl):=bV
inductive Oj (K:ai) (vs:af) (H:Hp) (Q:VK) (E:XK):Prop
 |mk:∀(l lh lp:Addr) (yh yp:af) (hs:Xa) (ps:aP),vs=[.ref l,.ref lh,.ref lp]->cK H l->H lh\.lst yh->bX K H yh (hs.map kH)->lh≠l->1<=hs.length->hs.length<=8->H lp\.lst yp->kC K H yp ps->lp≠l->(ps.map (·.1)).Nodup->ps.length<=8->(∀d f H',aV l H H'->cK H' l->H d=none->H' d\.dK (gC (ps.map (·.1)) f)->(∀n∈ps.map (·.1),f n∈hs.map (·.1))->Q (.ref d) H')->Oj K vs H Q E
theorem g4_(F:bo K "_law_stand" "_law_stand" Nl f fd)(B:Bi mg)(cD:!br 1 tQ uO wA):!ao a_ 2 f fd oF (Oj K):=by
 exists F.bU qT;let#[l,lh,lp,yh,yp,hs,ps,rfl,st,fZ,th,uE,h1,h8,kq,pc,DJ,nd,p8,k]:=h;let sz:=cq;let zw:=bH th;rw[aq] at zw;let DI:=bH pc;refine' #[_,aF (bp (iO (A_ U) (by rfl) B.dict uQ %[js [wm,mF,gL] 1 [1,0] (dX (pv 2)) (λfp s H=>?g1) (λfp s H=>kE) (λfp s H=>?e1)|0])),?kk]
 case g1=>exact fW (i:=0) (show ([wm,mF,gL]:ag).Nodup by decide +kernel) U (Or.inl U)
 case e1=>exact gh %[bw (zD (K:=K) oQ cU) (pv 0) ay,bw (zD (K:=K) oQ cU) (bw (zD (K:=K) rY gd) (pv 1) (bc cD hr %[2,cy (Fc (K:=K) Oz iq) (by rfl) B.len gE %[1|0]|0])) ay|0]
 let#[Jo,kr]:=st.some;apply#[_,U,lp,U,#[_,.of kq],λD hD=>?_];have Dl:D≠l:=(bz kr hD).symm;apply kK (own:=1) (fv:=[some (.ref lh),some (.ref l)]) (xs:=yp) U fE (λi out H'=>∃hh:ak,aV l H H'/\cK H' l/\H' D\.lst out/\hh.length=i/\(∀h∈hh,h∈hs.map (·.1))/\kz K H' out ((((ps.map (·.1)).take i).zip (sV hh)).map λp=>(Sum.inr p.1,p.2))) #[[],aV.of (aa.new hD),st.same (aa.new hD),az,U,by simp,by simp;exact .nil] (λi out H' _ ⟨_,b,_⟩=>.of (b _ _ kq DJ)) (λout H5 ⟨hh,b5,gi,i7,KC,mem,pa⟩=>?_) (λi y out H' hy ⟨hh,b,stx,dF,Xn,mem,pa⟩=>?_)
 ·rw[DI] at KC;have lt:(ps.map (·.1)).take yp.length=ps.map (·.1):=by rw[DI];exact uZ Y0
  rw[lt] at pa;have ln:(ps.map (·.1)).length=ps.length:=aq _;rw[Qp nd (by rw[ln];exact KC)] at pa;apply#[D,out,_,U,i7,pa,by rw[oy,ln];omega,λd hd=>?_]
  have ki:((gC (ps.map (·.1)) (Aw (ps.map (·.1)) hh)).map (·.1)).Nodup:=by
   rw[B3,qk,uV];exact nd.imp λn e=>n (iJ e)
  rw[yc ki];apply k d (Aw (ps.map (·.1)) hh) _ (b5.trans (aV.of (aa.new hd))) (gi.same (aa.new hd)) (b5.free gi hd) az λn hn=>?_;let#[j,hj,e]:=ia hn;have Eu:j<hh.length:=by rw[KC,<- ln];exact hj
  rw[G_ nd (k:=j) (by rw[aY hj,e]) (aY Eu)];exact mem _ (kJ Eu)
 have hi:i<yp.length:=(bW.mp hy).1;let#[t,v,e,ht,_]:=d8 pc i hi Z2;rw[aY hi] at hy;cases hy;rw[e];have hp:ps[i]? = some (ps[i]' Z2):=aY Z2;obtain⟨pz,ep⟩:∃p,p=ps[i]' Z2:=#[_,U];rw[<- ep] at hp ht;have tl:t≠l:=bS ht kr nofun;apply#[_,U,U,λNx hN=>fw ?_];apply#[_,U,t,_,0,_,U,U,.of (b _ _ ht tl),L2.dR (j:=0) U,_,U,_,U,_,U,lh,_,U,.inl (.of (b _ _ fZ uE)),l,(yh.length:Int),U,by omega,by omega,stx,λr H2 r0 r1 b2 eU=>?_];let#[r,rfl]:=yf r0;have QQ:r<yh.length:=by omega
 let#[u,eu,hu]:=d8 th r QQ (by rw[aq];omega);let bb:=b.trans b2;have hh':(hs.map kH)[r]'(by rw[aq];omega)=kH (hs[r]' Z2):=List.getElem_map ..;rw[hh'] at hu;let _p:=zN (bb _ _ hu (bS hu kr nofun));apply#[lh,_,r,.ref u,U,U,.of (bb _ _ fZ uE),L2.dR (by rw[aY QQ,eu]),u,_,0,_,U,U,.of _p,L2.dR (j:=0) U,zl,λz hz=>?_];let#[s3,e3]:=aD (o:=.tup [.str pz.1,.str (hs[r]' Z2).1]) hz;let ic:=eU.same s3;let xM:=s3 _ _ (b2 _ _ dF Dl);generalize upd H2 z (.tup [.str pz.1,.str (hs[r]' Z2).1])=H3 at s3 e3 ic xM ⊢;let lo:=bH pa;rw[aq,List.length_zip,dJ,aq,aq] at lo
 have tD:∀{c xs},H3 c\.tup xs->upd H3 D (.lst (out++[.ref z])) c\.tup xs:=λe=>by
  rw[aw (bS e xM nofun)];exact e
 let#[US,jG]:=stx.some;apply#[out,xM,by omega,hN _ _ #[hh++[(hs[r]' Z2).1],λc o e ne=>?_,?_,az,by rw[d4,Xn];rfl,λh hm=>?_,?_]]
 ·rw[aw (bz e hD)];exact s3 _ _ (bb _ _ e ne)
 ·unfold cK;rw[aw Dl.symm];exact ic
 ·rcases dI.mp hm with hm|hm
  ·exact mem h hm
  rw[eJ.mp hm];exact bG.mpr #[_,kJ Z2,U]
 have ez:((ps.map (·.1)).take (i+1)).zip (sV (hh++[(hs[r]' Z2).1]))=((ps.map (·.1)).take i).zip (sV hh)++[(pz.1,V.str (hs[r]' Z2).1)]:=by
  rw[uP (n:=pz.1) (by rw[dC,hp];rfl)];show _=_;rw[show sV (hh++[(hs[r]' Z2).1])=sV hh++[V.str (hs[r]' Z2).1] from eg,List.zip_append (by rw[dJ,aq,aq];omega)];rfl
 rw[ez,eg];apply iY (Paired.aX pa λy p ⟨c,e,hc⟩=>#[c,e,tD (s3 _ _ (b2 _ _ hc (bS hc jG nofun)))]) (.cons #[z,U,tD e3] .nil)
theorem MM:bJ [mF,o_,"_law_spot",wa,"_law_k"] ui (a9 Nq):=bV
def jC(ss:aP)(s:ak)(h:Str):Int:=ld (fS ss s) (ss.map fe) h
inductive NW (K:ai) (vs:af) (H:Hp) (Q:VK) (E:XK):Prop
 |mk:∀(lh lp t:Addr) (yh yp:af) (hs:Xa) (ss:aP) (s:ak),vs=[.ref lh,.ref lp,.ref t]->H lh\.lst yh->bX K H yh (hs.map kH)->(hs.map (·.1)).Nodup->hs.length<=8->H lp\.lst yp->kC K H yp ss->(ss.map (·.1)).Nodup->ss.length<=8->H t\.tup (sV s)->s.length=ss.length->(∀h∈s,h∈hs.map (·.1))->(∀d H',aa H H'->H d=none->H' d\.dK (dU (hs.map (·.1)) λh=>.int (jC ss s h))->Q (.ref d) H')->NW K vs H Q E
theorem h7_(F:bo K "_law_loads" "_law_loads" Nq f fd)(B:Bi mg):!ao a_ 1 f fd ui (NW K):=by
 exists F.bU MM;let#[lh,lp,t,yh,yp,hs,ss,s,rfl,fZ,th,pR,h8,kq,pc,nd,p8,ht,ls,ij,k]:=h;let hu:=fG hr;let sz:=cq;let zw:=bH th;rw[aq] at zw;let DI:=bH pc;refine' #[_,au ?s1 (au ?s2 (aF ?s3)),?kk]
 case' s1=>refine' bu 3 MM.nd (iO (A_ U) (by rfl) B.dict uQ %[js BP 2 [] (dX (pv 0)) (λfp s H=>?g1) (λfp s H=>kE) (λfp s H=>?e1)|0])
 case g1=>exact E9 (n:=2) (dN (fW (i:=0) (show (BP:ag).Nodup by decide +kernel) U (Or.inl U)) (dN (fW (i:=1) (show (BP:ag).Nodup by decide +kernel) U (Or.inl U)) jh))
 case e1=>exact gh %[0,ay|0]
 case' s2=>refine' d0 dM U ?i2 ?g2 (aF ?b2)
 case i2=>exact uW (by rfl) B.range %[cy iq (by rfl) B.len gE %[1|0]|0]
 case g2=>exact cu 4 MM.nd
 case b2=>exact tT hu (pv 3) (bw cU (pv 2) (pv 4)) (bP gz (mI hu (pv 3) (bw cU (pv 2) (pv 4))) (bw cU (bw gd (pv 1) (pv 4)) ay)) U
 case s3=>exact bp (pv 3)
 apply#[_,U,lh,U,#[_,.of fZ],λD hD=>?_];apply kK (own:=2) (fv:=[]) (xs:=yh) U Ar (λi out H'=>aa H H'/\H' D\.lst out/\kz K H' out (dU ((hs.map (·.1)).take i) λ_=>.int 0)) #[aa.new hD,az,.nil] (λi out H' _ ⟨sm,_,_⟩=>.of (sm _ _ fZ)) (λout H5 ⟨sm,i7,pa⟩=>?_) (λi y out H' hy ⟨sm,dF,pa⟩=>?_);rotate_left 1
 ·let#[h,hh,p,rfl,hp]:=uY th hy;apply#[_,#[p,_,_,U,.of (sm _ _ (zN hp)),U],U,λNx hN=>fw ?_];apply#[_,U,zl,λz hz=>?_];let#[s3,e3]:=aD (o:=.tup [.str h.1,.int 0]) hz;generalize upd H' z (.tup [.str h.1,.int 0])=H3 at s3 e3 ⊢;have hi:i<hs.length:=(bW.mp hh).1;let lo:=bH pa;rw[oy,dJ,aq] at lo
  have tD:∀{c xs},H3 c\.tup xs->upd H3 D (.lst (out++[.ref z])) c\.tup xs:=λe=>by
   rw[aw (bS e (s3 _ _ dF) nofun)];exact e
  apply#[out,s3 _ _ dF,by omega,hN _ _ #[fL (sm.trans s3) hD,az,?_]];rw[uP (n:=h.1) (by rw[dC,hh];rfl)];show kz K _ _ (((hs.map (·.1)).take i++[h.1]).map _);rw[eg];exact iY (Paired.aX pa λy p ⟨c,e,hc⟩=>#[c,e,tD (s3 _ _ hc)]) (.cons #[z,U,tD e3] .nil)
 have lt:(hs.map (·.1)).take yh.length=hs.map (·.1):=uZ (by rw[aq];omega);rw[lt] at pa;apply#[D,out,_,U,i7,pa,by rw[oy,aq];omega,λd hd=>?_]
 have ki:((dU (hs.map (·.1)) λ_=>V.int 0).map (·.1)).Nodup:=by
  rw[B3,qk,uV];exact pR.imp λn e=>n (iJ e)
 rw[yc ki];let#[s6,e6]:=aD (o:=.dK (dU (hs.map (·.1)) λ_=>V.int 0)) hd;have dn:H d=none:=sm.free hd;let iA:=sm.trans s6;generalize upd H5 d (.dK (dU (hs.map (·.1)) λ_=>V.int 0))=H6 at s6 e6 iA ⊢;apply#[_,U,lp,_,U,.inl (.of (iA _ _ kq)),_,U,by show (-(2 ^ 62):Int)<=(yp.length:Int);omega,by show (yp.length:Int)<2 ^ 62;omega,?_]
 let Iv:bR:=λi σ H'=>∃(v4:aH),σ=[some (.ref lh),some (.ref lp),some (.ref t),some (.ref d),v4]/\aa H H'/\H' d\.dK (dU (hs.map (·.1)) λh=>.int (ld (fS ss s) ((ss.take i).map fe) h))
 apply wD (lo:=0) (n:=((yp.length:Nat):Int).toNat) Iv #[none,U,iA,e6] ?_ ?_
 ·rintro i σ H7 hi ⟨v4,rfl,s7,e7⟩;rw[Int.zero_add];have hi:i<ss.length:=by omega
  let#[u,v,eu,sO,_]:=d8 pc i Z2 hi;have GO:s[i]? = some (s[i]' Z2):=aY Z2;obtain⟨h,eh⟩:∃h,h=s[i]' Z2:=#[_,U];obtain⟨q,eq⟩:∃q,q=ss[i]:=#[_,U];have hq:ss[i]? = some q:=by rw[eq];exact aY hi
  rw[<- eh] at GO;rw[<- eq] at sO;have hm:h∈hs.map (·.1):=ij h (cZ GO);have EH:ip (sV s) (i:Int)\.str h:=L2.dR (by rw[dC,GO];rfl);let QN:=s7 _ _ ht;have ff:fS ss s q.1=h:=G_ nd (k:=i) (by rw[dC,hq];rfl) GO;apply#[_,U,_,U,_,U,t,_,i,_,U,U,.of QN,EH,d,.int (ld (fS ss s) ((ss.take i).map fe) h),U,?_,?_]
  ·have:=da.k (k:=.inr h) e7;rw[B0 (g:=λh=>V.int (ld (fS ss s) ((ss.take i).map fe) h)) hm] at this;exact this
  apply#[_,U,_,U,lp,_,i,.ref u,U,U,.of (s7 _ _ kq),L2.dR (by rw[aY Z2,eu]),u,_,1,_,U,U,.of (s7 _ _ sO),L2.dR (j:=1) U,_,_,U,U,?_];apply#[_,U,_,U,_,U,t,_,i,_,U,U,.of QN,EH,d,_,U,.k (k:=Sum.inr h) e7 (by rw[oy,aq];omega),?_];apply#[_,U,fL s7 dn,?_];rw[az,Se hm];apply ed (λz=>some (HO.dK z)) (IY λn _=>?_);rw[yi _ hq,RA];show (if n=h then _ else _)=V.int (if n=fS ss s q.1 then _ else _);rw[ff];by_cases c:n=h
  ·rw[aI c,aI c,c];rfl
  rw[aC c,aC c]
 rintro σ H7 ⟨v4,rfl,s7,e7⟩;have:ss.take ((yp.length:Nat):Int).toNat=ss:=uZ Z2;rw[this] at e7;exact#[_,U,k d H7 s7 dn e7]
end
structure eS (ts:Xb) (ss qs:aP):Prop where
 qs:qs=ss.map pL
 dr:∀p∈ss,j9 ts p
 nd:(ss.map (·.1)).Nodup
theorem eS.zu{ts:Xb}{ss qs:aP}(S:eS ts ss qs):qs.map (·.1)=ss.map (·.1):=by
 rw[S.qs,cz];rfl
theorem eS.ws{ts:Xb}{ss qs:aP}(S:eS ts ss qs):qs.map fe=ss.map fe:=by
 rw[S.qs,cz];rfl
theorem eS.wp{ts:Xb}{ss qs:aP}(S:eS ts ss qs):∀q∈qs,0<=q.2.1/\q.2.1<=1000000000:=λq hq=>by
 rw[S.qs] at hq;let#[p,hp,rfl]:=bG.mp hq;let g:=(S.dr p hp).g;let h1:=g.w1;let h2:=g.w2;exact#[by show 0<=p.2.1;omega,h2]
theorem eS.len{ts:Xb}{ss qs:aP}(S:eS ts ss qs):qs.length=ss.length:=by rw[S.qs,aq]
theorem L0{ts:Xb}{ss qs:aP}(S:eS ts ss qs)(s:ak)(h:Str):jC ss s h=ld (fS qs s) (qs.map fe) h:=by
 unfold jC fS;rw[S.zu,S.ws]
theorem SQ{hs:Xa}{ts:Xb}{ss qs:aP}(G:Good hs ts)(S:eS ts ss qs)(s:ak)(l:Int × Int):eW hs qs s l=true ↔ ∀a∈hs,∀b∈hs,¬(l.1 * a.2 * b.2<l.2 * (jC ss s a.1 * b.2 - jC ss s b.1 * a.2)):=by
 rw[RC];let mo:=BR G
 have one:∀a∈hs,∀b∈hs,(¬(l.1 * a.2 * b.2<l.2 * (jC ss s a.1 * b.2 - jC ss s b.1 * a.2)) ↔ l.2 * (fK hs qs (fS qs s) a.1 - fK hs qs (fS qs s) b.1)<=l.1 * f_ hs):=λa ha b hb=>by
  have am:a.1∈aS hs:=(gN hs).mem_iff.mpr (bG.mpr #[a,ha,U]);have bm:b.1∈aS hs:=(gN hs).mem_iff.mpr (bG.mpr #[b,hb,U]);have ea:strOf hs a.1=a.2:=Sf G.pR ha;have eb:strOf hs b.1=b.2:=Sf G.pR hb;let sa:=AK G am;let sb:=AK G bm;let ma:=mo.2.2 _ am;let mb:=mo.2.2 _ bm;rw[ea] at sa ma;rw[eb] at sb mb;let alg:=Xu (La:=ld (fS qs s) (qs.map fe) a.1) (Lb:=ld (fS qs s) (qs.map fe) b.1) ma mb
  have e1:fK hs qs (fS qs s) a.1=ld (fS qs s) (qs.map fe) a.1 * (f_ hs / a.2):=by
   unfold fK;rw[ea]
  have e2:fK hs qs (fS qs s) b.1=ld (fS qs s) (qs.map fe) b.1 * (f_ hs / b.2):=by
   unfold fK;rw[eb]
  rw[L0 S,L0 S,e1,e2,Int.not_lt];have Uz:0<a.2 * b.2:=Int.mul_pos Z2 Z2
  have k1:l.2 * (ld (fS qs s) (qs.map fe) a.1 * b.2 - ld (fS qs s) (qs.map fe) b.1 * a.2) * f_ hs=a.2 * b.2 * (l.2 * (ld (fS qs s) (qs.map fe) a.1 * (f_ hs / a.2) - ld (fS qs s) (qs.map fe) b.1 * (f_ hs / b.2))):=by
   rw[Int.mul_assoc,alg]
   grind
  have k2:l.1 * a.2 * b.2 * f_ hs=a.2 * b.2 * (l.1 * f_ hs):=by grind
  constructor
  ·intro h;have:=Int.mul_le_mul_of_nonneg_right h (iP mo.1);rw[k1,k2] at this;exact Int.le_of_mul_le_mul_left this Uz
  intro h;have:=Int.mul_le_mul_of_nonneg_left h (iP Uz);rw[<- k1,<- k2] at this;exact Int.le_of_mul_le_mul_right this mo.1
 constructor
 ·intro h a ha b hb;exact (one a ha b hb).mpr (h _ ((gN hs).mem_iff.mpr (bG.mpr #[a,ha,U])) _ ((gN hs).mem_iff.mpr (bG.mpr #[b,hb,U])))
 intro h x hx y hy;let#[a,ha,rfl]:=bG.mp ((gN hs).mem_iff.mp hx);let#[b,hb,rfl]:=bG.mp ((gN hs).mem_iff.mp hy);exact (one a ha b hb).mp (h a ha b hb)
section v
theorem A1:bJ [mF,o_,"_law_spot","_law_limit",wa,"_law_one","_law_strength","_law_other","_law_more","_law_over"] um (a9 lQ):=bV
inductive M3 (K:ai) (vs:af) (H:Hp) (Q:VK) (E:XK):Prop
 |mk:∀(lh lp t lt:Addr) (yh yp:af) (hs:Xa) (ts:Xb) (ss qs:aP) (s:ak) (l:Int × Int),vs=[.ref lh,.ref lp,.ref t,.ref lt]->H lh\.lst yh->bX K H yh (hs.map kH)->Good hs ts->H lp\.lst yp->kC K H yp ss->eS ts ss qs->ss.length<=8->H t\.tup (sV s)->Vs hs qs s->gP H lt l->tL l->(∀H',aa H H'->Q (.bl (eW hs qs s l)) H')->M3 K vs H Q E
theorem _b(F:bo K "_law_even" "_law_even" lQ f fd)(cL:!br 1 "_law_loads" ui (NW K)):!ao a_ 2 f fd um (M3 K):=by
 exists F.bU A1;let#[lh,lp,t,lt,yh,yp,hs,ts,ss,qs,s,l,rfl,fZ,th,G,kq,pc,S,s8,ht,v,hl,lo,k]:=h;let hu:=fG hr;let zw:=bH th;rw[aq] at zw;have ij:∀h∈s,h∈hs.map (·.1):=λh hh=>(gN hs).mem_iff.mp (v.ij h hh);refine' #[_,au ?s1 (au ?s2 (aF ?s3)),?kk]
 case s1=>exact bu 4 A1.nd (bc cL hr %[0,1,2|0])
 case' s2=>refine' d0 dM U (dX (pv 0)) ?g2 (aF ?b2)
 case g2=>exact mr U (dN (cu 5 A1.nd) (dN (cu 6 A1.nd) jh))
 case' b2=>refine' d0 dM U (dX (pv 0)) ?g3 (au ?c1 (aF ?c2))
 case g3=>exact mr U (dN (cu 7 A1.nd) (dN (cu 8 A1.nd) jh))
 case c1=>exact bu 9 A1.nd (bP AN (bP qb (mI hu (pv 4) (pv 5)) (pv 8)) (bP qb (mI hu (pv 4) (pv 7)) (pv 6)))
 case c2=>exact cg (eY BK (bP qb (bw cU (pv 3) ay) (pv 9)) (bP qb (bP qb (bw cU (pv 3) ay) (pv 6)) (pv 8))) (aF (bp il)) cj
 case s3=>exact bp il
 apply#[_,U,_,U,_,U,lh,lp,t,yh,yp,hs,ss,s,U,fZ,th,G.pR,G.h8,kq,pc,S.nd,s8,ht,by rw[v.len,S.len],ij,λd H1 s1 n1 e1=>?_];let Pe:=th.same s1
 have P5:∀n,0<=jC ss s n/\jC ss s n<=64000000000:=λn=>by
  rw[L0 S];exact GL S.wp (by rw[S.len];omega) _ _
 let X:(Str × Int)->(Str × Int)->Prop:=λa b=>l.1 * a.2 * b.2<l.2 * (jC ss s a.1 * b.2 - jC ss s b.1 * a.2)
 let Iv:bR:=λi σ H'=>∃(v5 v6 v7 v8 v9:aH),σ=[some (.ref lh),some (.ref lp),some (.ref t),some (.ref lt),some (.ref d),v5,v6,v7,v8,v9]/\H'=H1/\∀a∈hs.take i,∀b∈hs,¬X a b
 apply#[_,U,lh,U,#[_,.of (s1 _ _ fZ)],?_];apply ib (K:=K) (a:=lh) (xs:=yh) Iv ?_ ?_ ?_ ?_
 ·exact#[none,none,none,none,none,U,U,by simp]
 ·rintro i σ H' _ ⟨_,_,_,_,_,_,rfl,_⟩;exact .of (s1 _ _ fZ)
 ·rintro i y σ H2 hy ⟨v5,v6,v7,v8,v9,rfl,rfl,no⟩;let#[a,ha,p,rfl,hp]:=uY Pe hy;let am:=cZ ha;have an:a.1∈hs.map (·.1):=bG.mpr #[a,am,U];let ga:=G.aA a am;apply#[p,_,U,.of (zN hp),U,_,_,U,_,_,U,U,?_]
  let Iw:bR:=λj σ H'=>∃(v7 v8 v9:aH),σ=[some (.ref lh),some (.ref lp),some (.ref t),some (.ref lt),some (.ref d),some (.str a.1),some (.int a.2),v7,v8,v9]/\H'=H2/\∀b∈hs.take j,¬X a b
  apply#[_,U,lh,U,#[_,.of (s1 _ _ fZ)],?_];apply ib (K:=K) (a:=lh) (xs:=yh) Iw ?_ ?_ ?_ ?_
  ·exact#[_,_,_,U,U,by simp]
  ·rintro j σ H' _ ⟨_,_,_,_,rfl,_⟩;exact .of (s1 _ _ fZ)
  ·rintro j y σ H3 hy ⟨v7,v8,v9,rfl,rfl,Gr⟩;let#[b,hb,q,rfl,hq]:=uY Pe hy;let bm:=cZ hb;have bn:b.1∈hs.map (·.1):=bG.mpr #[b,bm,U];let gb:=G.aA b bm;let la:=P5 a.1;let lb:=P5 b.1;let ga1:=ga.2.1;let ga2:=ga.2.2;let gb1:=gb.2.1;let gb2:=gb.2.2
   have dg:∀{n},n∈hs.map (·.1)->da H3 d (.str n) (some (.int (jC ss s n))):=λ{n} hn=>by
    have:=da.k (k:=.inr n) e1;rw[B0 (g:=λh=>V.int (jC ss s h)) hn] at this;exact this
   apply#[q,_,U,.of (zN hq),U,_,_,U,_,_,U,U,?_];apply#[_,U,_,U,d,_,U,dg an,_,U,_,_,U,U,.inr #[by omega,by omega],_,U,_,U,d,_,U,dg bn,_,U,_,_,U,U,.inr #[by omega,by omega],_,_,U,U,?_];have m1:0<=jC ss s a.1 * b.2/\jC ss s a.1 * b.2<=64000000000 * 1000:=#[Int.mul_nonneg la.1 Z2,Int.mul_le_mul la.2 gb2 Z2 (by decide)];have m2:0<=jC ss s b.1 * a.2/\jC ss s b.1 * a.2<=64000000000 * 1000:=#[Int.mul_nonneg lb.1 Z2,Int.mul_le_mul lb.2 ga2 Z2 (by decide)];apply#[_,U,lt,_,1,_,U,U,.of (s1 _ _ hl),L2.dR (j:=1) U,_,U,_,_,U,U,.inr #[by omega,by omega],?_];apply#[_,U,lt,_,0,_,U,U,.of (s1 _ _ hl),L2.dR (j:=0) U,_,U,_,_,U,U,.inr #[by omega,by omega],_,U,_,_,U,U,.inr #[by omega,by omega],_,_,U,U,_,U,?_];apply bQ (λc=>?_) (λc=>?_)
   ·have hx:X a b:=tI c;let kk:=k H3 s1
    have:eW hs qs s l=false:=by
     rw[<- Bool.not_eq_true,SQ G S];exact λh=>h a am b bm hx
    rw[this] at kk;exact kk
   have hx:¬X a b:=λh=>absurd h (Int.not_lt.mpr ⇑c);apply#[_,_,_,U,U,λz hz=>?_];rw[mJ,hb] at hz;rcases dI.mp hz with hz|hz
   ·exact Gr z hz
   have:z=b:=⇑hz
   rw[this];exact hx
  rintro σ H3 ⟨v7,v8,v9,rfl,rfl,Gr⟩;rw[zw,eR] at Gr;apply#[_,_,_,_,_,U,U,λz hz=>?_];rw[mJ,ha] at hz;rcases dI.mp hz with hz|hz
  ·exact no z hz
  have:z=a:=⇑hz
  rw[this];exact Gr
 rintro σ H2 ⟨v5,v6,v7,v8,v9,rfl,rfl,no⟩;rw[zw,eR] at no;let kk:=k H2 s1;rw[(SQ G S s l).mpr no] at kk;exact kk
end
end Ev
namespace L2
open PySem PySem.Spec PyProof.Rows PySem.W yo fI
def J_(K:ai){D:Type}[DecidableEq D](R:Rp D)(neg:Bool):V->V->Hp->VK->Prop:=λx y H Q=>∃(d:D) (es:List D) (a:Addr) (ys:af),R H x d/\y=.ref a/\er K H a ys/\Paired (R H) ys es/\Q (.bl (if neg then !decide (d∈es) else decide (d∈es))) H
theorem Xw{X:Cx}{n:Nat}{D:Type}[DecidableEq D]{R:Rp D}(c:u5 X n R)(hu:X.A.units+n+1<cLine):d9 X (compareOp .In) (J_ X.K R false):=by
 intro pins s σ H x y v u Q I rx ry h;let#[d,es,a,ys,hx,rfl,t,q,hq]:=h;cases ry;let#[us,r,pl,_]:=I.tuple t;let#[f,h1,h2]:=Le c I (A:=X.A.in1) rx hx (by show X.A.units+1+n<cLine;omega) r q;apply SeqAt.in_tupleAt f (Oh pl) (λw hw=>h1 w ⇑hw) #[.bl _,H,I,U,?_];rw[show us.toArray.any f=us.any f by simp,h2];exact hq
end L2
namespace Ev
open PySem L2
def iU(t:Str × Str)(h:Str):Str:=if t.1=h then t.2 else t.1
theorem Np{ts:Xb}{a b:Str}:aK a b∈bT ts ↔ (a,b)∈ts∨(b,a)∈ts:=by
 rw[IF];constructor
 ·rintro⟨⟨x,y⟩,ht,e⟩;rcases Qm (a:=x) (b:=y) (c:=a) (d:=b) (by show kT (aK x y)=kT (aK a b);rw[<- e]) with⟨rfl,rfl⟩|⟨rfl,rfl⟩
  ·exact .inl ht
  exact .inr ht
 rintro (h|h)
 ·exact#[_,h,U]
 exact#[_,h,NV _ _]
def gH(ts:Xb)(p:Pc):Xb:=p.2.2.getD ts
variable{h h':Str}
theorem Yf{ws:Xb}(g:∀t∈ws,wk t):(∃t∈ws,(h=t.1∨h=t.2)/\h'=iU t h) ↔ (h,h')∈ws∨(h',h)∈ws:=by
 constructor
 ·rintro⟨⟨x,y⟩,ht,e,rfl⟩;let ne:=(g _ ht).2.2;rcases e with rfl|rfl
  ·left
   rw[show iU (h,y) h=y from aI U];exact ht
  right
  rw[show iU (x,h) h=x from aC ne];exact ht
 rintro (ht|ht)
 ·exact#[_,ht,.inl U,(aI U).symm]
 exact#[_,ht,.inr U,(aC (g _ ht).2.2).symm]
theorem Zd{hs:Xa}{ts:Xb}(G:Good hs ts){p:Pc}(d:j9 ts p)(hm:h∈aS hs):h'∈tF hs ts (pL p) h ↔ ∃t∈gH ts p,(h=t.1∨h=t.2)/\h'=iU t h:=by
 have gw:∀t∈gH ts p,t∈ts:=λt ht=>by
  unfold gH at ht;cases e:p.2.2 with
  |none=>
   rw[e] at ht;exact ht
  |some ws=>
   rw[e] at ht;exact d.sub ws e t ht
 rw[Yf λt ht=>G.tok t (gw t ht)]
 have jB:∀{o},o∈near (aS hs) (bT ts) h ↔ (h,o)∈ts∨(o,h)∈ts:=λ{o}=>by
  unfold near;rw[mK,decide_eq_true_iff,Np];apply#[λz=>z.2,λz=>#[?_,z]];rcases z with z|z
  ·exact (gN hs).mem_iff.mpr (G.vi _ z).2
  exact (gN hs).mem_iff.mpr (G.vi _ z).1
 unfold tF;rw[mK,jB];let l9:=(gN hs).mem_iff.mp hm;constructor
 ·rintro⟨h1,h2⟩;cases e:p.2.2 with
  |none=>
   unfold gH;rw[e];exact h1
  |some ws=>
   have e2:(pL p).2.2\bT ws:=by
    show p.2.2.map bT=_;rw[e];rfl
   rw[e2] at h2;let h3:=(Bool.and_eq_true_iff.mp h2).2;have h4:aK h h'∈bT ws:=tI h3;unfold gH;rw[e];exact Np.mp h4
 intro z;have zt:(h,h')∈ts∨(h',h)∈ts:=z.imp (gw _) (gw _);apply#[zt,?_]
 have Lo:h'∈hs.map (·.1):=by
  rcases zt with y|y
  ·exact (G.vi _ y).2
  exact (G.vi _ y).1
 have td:BN hs ts (some h) (some h')=true:=by
  show (decide _&&(decide _&&decide _))=true;rw[cw l9,cw Lo,cw (jB.mpr zt)];rfl
 unfold BG;rw[td,Bool.true_and];cases e:p.2.2 with
 |none=>
  have e2:(pL p).2.2=none:=by
   show p.2.2.map bT=_;rw[e];rfl
  rw[e2]
 |some ws=>
  have e2:(pL p).2.2\bT ws:=by
   show p.2.2.map bT=_;rw[e];rfl
  rw[e2];unfold gH at z;rw[e] at z;exact cw (Np.mpr z)
abbrev Me:=(Str × Str × Str) × ak
def AG(H:Hp):af->List Me->Prop:=Paired λy e=>∃t m u,y=.ref t/\H t\.tup [.ref m,.ref u]/\H m\.tup [.str e.1.1,.str e.1.2.1,.str e.1.2.2]/\H u\.tup (sV e.2)
variable{H':Hp}{ys:af}
theorem AG.keep{H:Hp}{L:List Me}(h:AG H ys L)(k:∀b xs,H b\.tup xs->H' b\.tup xs):AG H' ys L:=Paired.aX h λy e ⟨t,m,u,e1,e2,e3,e4⟩=>#[t,m,u,e1,k _ _ e2,k _ _ e3,k _ _ e4]
def OQ(hs:Xa)(ts:Xb)(qs:aP)(s:ak)(i:Nat)(e:Me):Prop:=∃(k:Nat) (q:Pc) (h h':Str),k<i/\qs[k]? = some q/\s[k]? = some h/\h'∈tF hs ts q h/\e=((q.1,h,h'),s.set k h')
theorem YK{hs:Xa}{ts:Xb}{qs:aP}{s:ak}{e:Me}:OQ hs ts qs s qs.length e ↔ Mv hs ts qs s e.2 e.1:=by
 constructor
 ·rintro⟨k,q,h,h',_,h1,h2,h3,rfl⟩;exact#[k,q,h,h',h1,h2,h3,U,U]
 rintro⟨k,q,h,h',h1,h2,h3,h4,h5⟩;exact#[k,q,h,h',(bW.mp h1).1,h1,h2,h3,Prod.ext h5 h4]
variable{f:Addr}{fd:Ae}
section v
theorem wo:bJ [o_,"_law_ties_here","_law_spot",wa,"_law_k","_law_name_here","_law_weight","_law_ways","_law_tie","_law_other","_law_later"] uh (a9 M7):=bV
inductive MS (K:ai) (vs:af) (H:Hp) (Q:VK) (E:XK):Prop
 |mk:∀(lp lt t:Addr) (yp zs:af) (hs:Xa) (ts:Xb) (ss qs:aP) (s:ak),vs=[.ref lp,.ref lt,.ref t]->H lp\.lst yp->kC K H yp ss->H lt\.lst zs->bX K H zs (ts.map kT)->Good hs ts->eS ts ss qs->ss.length<=8->H t\.tup (sV s)->Vs hs qs s->(∀l ys L H',aa H H'->H l=none->H' l\.lst ys->AG H' ys L->(∀e,e∈L ↔ Mv hs ts qs s e.2 e.1)->L.length<=512->Q (.ref l) H')->MS K vs H Q E
theorem gS_(F:bo K "_law_moves" "_law_moves" M7 f fd)(B:Bi mg):!ao a_ 1 f fd uh (MS K):=by
 exists F.bU wo;let#[lp,lt,t,yp,zs,hs,ts,ss,qs,s,rfl,kq,pc,dH,tu,G,S,s8,ht,v,k]:=h;let sz:=cq;let DI:=bH pc;let vl:=v.len;let sl:=S.len;let w4:=G.w4;let lz:=bH tu;rw[aq] at lz;refine' #[_,au ?s1 (au ?s2 (aF ?s3)),?kk]
 case s1=>exact bu 3 wo.nd (ft bK)
 case' s2=>refine' d0 dM U ?i2 ?g2 (au ?b1 (aF ?b2))
 case i2=>exact uW (by rfl) B.range %[cy iq (by rfl) B.len gE %[0|0]|0]
 case g2=>exact cu 4 wo.nd
 case b1=>exact HK (bw gd (pv 0) (pv 4)) (mr U (dN (cu 5 wo.nd) (dN (cu 6 wo.nd) (dN (cu 7 wo.nd) jh))))
 case' b2=>refine' d0 dM U (dX (bw gd (ft %[7,1|0]) (iO N_ (by rfl) B.int HN %[pE Lq (pv 7) tW|0]))) ?g3 (aF ?b3)
 case g3=>exact cu 8 wo.nd
 case' b3=>refine' cg (eY (Xw i_ (uM hr 0)) (bw cU (pv 2) (pv 4)) (pv 8) (by with_unfolding_all rfl)) (au ?c1 (au ?c2 (aF ?c3))) cj
 case c1=>exact bu 9 wo.nd (bw gd (ft %[bw cU (pv 8) ay,bw cU (pv 8) ay|0]) (iO N_ (by rfl) B.int HN %[pE BJ (bw cU (pv 8) ay) (bw cU (pv 2) (pv 4))|0]))
 case c2=>exact bu 10 wo.nd (bP HZ (bP HZ (AX HP (pv 2) A4 (A3 (pv 4))) (gh %[9|0])) (AX HP (pv 2) (A3 (bP gz (pv 4) ay)) A4))
 case c3=>exact kI (pe ou xY xZ wC (pv 3) %[gh %[gh %[5,bw cU (pv 2) (pv 4),9|0],10|0]|0])
 case s3=>exact bp (pv 3)
 apply#[zl,λl hl=>?_];let#[s1,e1]:=aD (o:=.lst []) hl;generalize upd H l (.lst [])=H1 at s1 e1 ⊢;apply#[_,U,lp,_,U,.inl (.of (s1 _ _ kq)),_,U,by show (-(2 ^ 62):Int)<=(yp.length:Int);omega,by show (yp.length:Int)<2 ^ 62;omega,?_]
 let Iv:bR:=λi σ H'=>∃(v4 v5 v6 v7 v8 v9 v10:aH) (ys:af) (L:List Me),σ=[some (.ref lp),some (.ref lt),some (.ref t),some (.ref l),v4,v5,v6,v7,v8,v9,v10]/\aa H H'/\H' l\.lst ys/\AG H' ys L/\(∀e,e∈L ↔ OQ hs ts qs s i e)/\L.length<=64 * i
 apply wD (lo:=0) (n:=((yp.length:Nat):Int).toNat) Iv ?_ ?_ ?_
 ·exact#[none,none,none,none,none,none,none,[],[],U,s1,e1,.nil,λe=>#[λz=>absurd z gf,λ⟨_,_,_,_,z,_⟩=>absurd z (Nat.not_lt_zero _)],gO _]
 ·rintro i σ H2 hi ⟨v4,v5,v6,v7,v8,v9,v10,ys,L,rfl,s2,e2,me,mem,len⟩;have hi:i<yp.length:=by omega
  let#[tp,wv,ep,hp,wy]:=d8 pc i hi Z2;have K3:ss[i]? = some (ss[i]' Z2):=aY Z2;obtain⟨p,epp⟩:∃p,p=ss[i]' Z2:=#[_,U];rw[<- epp] at hp wy K3;have hq:qs[i]? = some (pL p):=by rw[S.qs,dC,K3];rfl
  have QO:i<s.length:=by omega
  obtain⟨h,eh⟩:∃h,h=s[i]:=#[_,U];have hh:s[i]? = some h:=by rw[aY QO,eh]
  have hV:(sV s)[i]? = some (.str h):=by rw[dC,hh];rfl
  let hm:=v.ij h (cZ hh);let dp:=S.dr p (cZ K3);let ex:=λ{h'}=>Zd G dp (h':=h') hm;rw[show (0:Int)+(i:Nat)=(i:Int) by omega];apply#[_,U,_,U,lp,_,i,_,U,U,.of (s2 _ _ kq),L2.dR (by rw[aY hi,ep]),?_];apply#[tp,_,U,.of (s2 _ _ hp),U,_,_,U,_,_,U,_,_,U,U,?_]
  obtain⟨la,Cg,j,hj,gq,tl,GG⟩:∃(la:Addr) (Cg:af) (j:Nat),(if decide (wv=V.non)=true then (1:Int) else 0)=(j:Int)/\[wv,V.ref lt][j]? = some (.ref la)/\(H la\.lst Cg/\bX K H Cg ((gH ts p).map kT))/\(gH ts p).length<64:=by
   unfold gH;cases e:p.2.2 with
   |none=>
    rw[e] at wy;have wy:wv=.non:=wy;subst wy;exact#[lt,zs,1,U,U,#[dH,tu],w4]
   |some ws=>
    rw[e] at wy;let#[a,ys,rfl,ha,ta]:=wy;let wl:=(dp.g.ws ws e).len;exact#[a,ys,0,U,U,#[ha,ta],by show ws.length<64;omega]
  let#[Em,tl]:=tl;apply#[_,U,_,U,zl,λlx jG=>?_];let#[s3,e3]:=aD (o:=.lst [wv,.ref lt]) jG;let dZ:=s2.trans s3;let uI:=s3 _ _ e2;let P1:=me.keep λb xs e=>s3 _ _ e;generalize upd H2 lx (.lst [wv,.ref lt])=H3 at s3 e3 dZ uI P1 ⊢;apply#[_,U,U,.inr #[_,U,?_]];rw[hj];apply#[lx,_,j,_,U,U,.of e3,L2.dR gq,la,U,#[_,.of (dZ _ _ Em)],?_];let Gy:=bH tl;rw[aq] at Gy
  let Iw:bR:=λj σ H'=>∃(v8 v9 v10:aH) (ys:af) (L:List Me),σ=[some (.ref lp),some (.ref lt),some (.ref t),some (.ref l),some (.int i),some (.str p.1),some (.int p.2.1),some wv,v8,v9,v10]/\aa H H'/\H' l\.lst ys/\AG H' ys L/\(∀e,e∈L ↔ OQ hs ts qs s i e∨∃u∈(gH ts p).take j,(h=u.1∨h=u.2)/\e=((p.1,h,iU u h),s.set i (iU u h)))/\L.length<=64 * i+j
  apply ib (K:=K) (a:=la) (xs:=Cg) Iw ?_ ?_ ?_ ?_
  ·exact#[_,_,_,ys,L,U,dZ,uI,P1,λe=>(mem e).trans #[.inl,λz=>z.elim id λ⟨_,z,_⟩=>absurd z gf],by omega]
  ·rintro j σ H' _ ⟨_,_,_,_,_,_,sm,_⟩;exact .of (sm _ _ Em)
  ·rintro j y σ H4 hy ⟨v8,v9,v10,ys,L,rfl,s4,iW,Dx,fC,l6⟩;let#[u,hu,c,rfl,hc]:=uY tl hy;have G0:H4 c\.tup [.str u.1,.str u.2]:=s4 _ _ hc;let pP:=s4 _ _ ht;have Eu:j<Cg.length:=(bW.mp hy).1;let uD:=bH Dx
   have tk:∀z,z∈(gH ts p).take (j+1) ↔ z∈(gH ts p).take j∨z=u:=λz=>by
    rw[mJ,hu];simp
   apply#[_,U,_,U,t,_,i,_,U,U,.of pP,L2.dR hV,_,U,h,[u.1,u.2],c,_,U,U,.of G0,.cons U (.cons U .nil),_,U,?_];apply bQ (λcd=>?_) (λcd=>?_)
   ·have l9:h=u.1∨h=u.2:=⇑cd
    have ho:[V.str u.1,V.str u.2][(if u.1=h then 1 else 0:Nat)]? = some (.str (iU u h)):=by
     unfold iU;by_cases z:u.1=h
     ·rw[aI z,aI z];rfl
     rw[aC z,aC z];rfl
    have hz:(if decide (V.str u.1=V.str h)=true then (1:Int) else 0)=((if u.1=h then 1 else 0:Nat):Int):=by
     by_cases z:u.1=h
     ·rw[aI z,z];simp
     rw[aC z,aC (by intro y;exact z (V.str.inj (tI y)))];rfl
    apply#[_,U,c,_,0,_,U,U,.of G0,L2.dR (j:=0) U,_,U,c,_,1,_,U,U,.of G0,L2.dR (j:=1) U,zl,λlo QW=>?_];let#[sA,eA]:=aD (o:=.lst [.str u.1,.str u.2]) QW;generalize upd H4 lo (.lst [.str u.1,.str u.2])=HA at sA eA ⊢;apply#[_,U,c,_,0,_,U,U,.of (sA _ _ G0),L2.dR (j:=0) U,_,U,_,U,t,_,i,_,U,U,.of (sA _ _ pP),L2.dR hV,U,.inr #[_,U,?_]];rw[hz];apply#[lo,_,_,_,U,U,.of eA,L2.dR ho,?_];let QM:=sA _ _ pP;apply#[_,U,_,U,_,U,t,_,U,.of QM,?_,λp1 xA=>?_]
    ·rw[HT.eO,HT.dY,aq];omega
    rw[NY];let#[s5,e5]:=aD (o:=.tup ((sV s).take i)) xA;generalize upd HA p1 (.tup ((sV s).take i))=H5 at s5 e5 ⊢;apply#[_,U,zl,λp2 km=>?_];let#[s6,e6]:=aD (o:=.tup [.str (iU u h)]) km;generalize upd H5 p2 (.tup [.str (iU u h)])=H6 at s6 e6 ⊢;apply#[p1,p2,_,_,U,U,s6 _ _ e5,e6,by rw[dJ,aq,jU];omega,λp3 H7 s7 e7=>?_];let Pr:=(s5.trans s6).trans s7;apply#[_,U,_,U,_,_,U,U,_,U,t,_,U,.of (Pr _ _ QM),?_,λp4 Eb=>?_]
    ·rw[show ((i:Int)+1)=((i+1:Nat):Int) by omega,HT.dY,aq];omega
    rw[show ((i:Int)+1)=((i+1:Nat):Int) by omega,S3];let#[pJ,e8]:=aD (o:=.tup ((sV s).drop (i+1))) Eb;generalize upd H7 p4 (.tup ((sV s).drop (i+1)))=H8 at pJ e8 ⊢;apply#[p3,p4,_,_,U,U,pJ _ _ e7,e8,by rw[d4,dJ,aq,jU,yk,aq];omega,λp5 H9 s9 e9=>?_];rw[Tn QO] at e9;let zh:=sA.trans ((Pr.trans pJ).trans s9);let AA:=zh _ _ iW;apply#[_,U,.inl #[U,_,.of AA],_,U,_,U,_,U,t,_,i,_,U,U,.of (zh _ _ pP),L2.dR hV,_,U,zl,λm sQ=>?_];let#[sB,eB]:=aD (o:=.tup [.str p.1,.str h,.str (iU u h)]) sQ;generalize upd H9 m (.tup [.str p.1,.str h,.str (iU u h)])=HB at sB eB ⊢;apply#[_,U,zl,λx hx=>?_];let#[sC,eC]:=aD (o:=.tup [.ref m,.ref p5]) hx;generalize upd HB x (.tup [.ref m,.ref p5])=HC at sC eC ⊢;let Pu:=sB.trans sC;let J3:=zh.trans Pu;let Sq:=J3 _ _ iW;apply#[l,_,_,U,U,Sq,by omega,?_]
    have kt:∀b xs,HC b\.tup xs->upd HC l (.lst (ys++[.ref x])) b\.tup xs:=λb xs e=>by
     rw[aw (bS e Sq nofun)];exact e
    apply#[_,_,_,_,L++[((p.1,h,iU u h),s.set i (iU u h))],U,fL (s4.trans J3) hl,az,iY ((Dx.keep λb xs e=>J3 _ _ e).keep kt) (.cons #[x,m,p5,U,kt _ _ eC,kt _ _ (sC _ _ eB),kt _ _ (Pu _ _ e9)] .nil),λe=>?_,by rw[d4,jU];omega];rw[dI,fC,eJ];constructor
    ·rintro ((z|⟨z,DY,r⟩)|z)
     ·exact .inl z
     ·exact .inr #[z,(tk z).mpr (.inl DY),r]
     exact .inr #[u,(tk u).mpr (.inr U),l9,z]
    rintro (z|⟨z,DY,r⟩)
    ·exact .inl (.inl z)
    rcases (tk z).mp DY with DY|rfl
    ·exact .inl (.inr #[z,DY,r])
    exact .inr r.2
   have ko:¬(h=u.1∨h=u.2):=⇑cd
   apply#[_,_,_,ys,L,U,s4,iW,Dx,λe=>(fC e).trans #[λz=>z.imp id λ⟨x,hx,r⟩=>#[x,(tk x).mpr (.inl hx),r],λz=>z.imp id λ⟨x,hx,r⟩=>?_],by omega];rcases (tk x).mp hx with hx|rfl
   ·exact#[x,hx,r]
   exact absurd r.1 ko
  rintro σ H4 ⟨v8,v9,v10,ys,L,rfl,s4,iW,Dx,fC,l6⟩;apply#[_,_,_,_,_,_,_,ys,L,U,s4,iW,Dx,λe=>(fC e).trans ?_,by omega];rw[Gy,eR];constructor
  ·rintro (⟨k',q',h1,h2,z1,z2⟩|⟨x,hx,r,rfl⟩)
   ·exact#[k',q',h1,h2,by omega,z2]
   exact#[i,_,h,_,by omega,hq,hh,ex.mpr #[x,hx,r,U],U]
  rintro⟨k',q',h1,h2,z1,z2,z3,z4,z5⟩;by_cases ck:k'=i
  ·subst ck;rw[hq] at z2;cases cX z2;rw[hh] at z3;cases cX z3;let#[x,hx,r,rfl]:=ex.mp z4;exact .inr #[x,hx,r,z5]
  exact .inl #[k',q',h1,h2,by omega,z2,z3,z4,z5]
 rintro σ H2 ⟨v4,v5,v6,v7,v8,v9,v10,ys,L,rfl,s2,e2,me,mem,len⟩;have:((yp.length:Nat):Int).toNat=qs.length:=by omega
 rw[this] at mem len;exact#[_,U,k l ys L H2 s2 hl e2 me (λe=>(mem e).trans YK) Z2]
end
theorem Zh{α:Type}{xs:List α}(h:0<xs.length):ip xs (-1)=xs[xs.length - 1]?:=by
 unfold ip vN;rw[aC (by decide),aI Z2];show xs[((xs.length:Int) + -1).toNat]? = _;congr 1;omega
def kn(ks:List ak):List (ax × V):=ks.map λs=>(sK s,.bl true)
theorem Rm(ks:List ak):(kn ks).map (·.1)=ks.map sK:=by
 unfold kn;rw[cz];rfl
variable{ks:List ak}
theorem Rc{s:ak}(hs:s∉ks):aU (kn ks) (sK s)=none:=ua (by
 rw[Rm];intro hm;let#[x,hx,e]:=bG.mp hm;rw[<- BV e] at hs;exact hs hx)
theorem Rt(ks:List ak)(s:ak):(aU (kn ks) (sK s)).isSome=decide (s∈ks):=by
 by_cases c:s∈ks
 ·rw[cw c];exact IZ (by rw[Rm];exact bG.mpr #[s,c,U])
 rw[fq c,Rc c];rfl
theorem QC{s:ak}(hs:s∉ks):putK (kn ks) (sK s) (.bl true)=kn (ks++[s]):=by
 rw[wx (Rc hs)];unfold kn;rw[eg];rfl
theorem AQ{K:ai}{H:Hp}{ps:aP}(h:kC K H ys ps)(s:aa H H'):kC K H' ys ps:=Paired.aX h λy p ⟨t,v,e,ht,wy⟩=>#[t,v,e,s _ _ ht,wy.same s]
def gB(H:Hp):af->List (List ak)->Prop:=Paired λy L=>∃a zs,y=.ref a/\H a\.lst zs/\jf H zs L
theorem gB.keep{H H':Hp}:∀{ys:af} {LL:List (List ak)},gB H ys LL->(∀a,V.ref a∈ys->∀xs,H a\.lst xs->H' a\.lst xs)->(∀b xs,H b\.tup xs->H' b\.tup xs)->gB H' ys LL
 |_,_,.nil,_,_=>.nil
 |_,_,.cons ⟨a,zs,e,h1,h2⟩ t,kl,kt=>.cons #[a,zs,e,kl a (by rw[e];exact gF) _ h1,h2.keep kt] (gB.keep t (λa m=>kl a (fX _ m)) kt)
variable{LL:List (List ak)}
theorem gB.same{H:Hp}(h:gB H ys LL)(s:aa H H'):gB H' ys LL:=h.keep (λ_ _ _ e=>s _ _ e) λ_ _ e=>s _ _ e
structure gA (N:ak->ak->Prop) (s0:ak) (LL:List (List ak)):Prop where
 is:∀(j:Nat) L,LL[j]? = some L->L.Nodup/\∀s,s∈L ↔ Ds N s0 j s
 last:∃n,LL.length=n+1/\LL[n]? = some []
 ne:∀(j:Nat) L,j+1<LL.length->LL[j]? = some L->L≠[]
variable{N:ak->ak->Prop}{s0:ak}
theorem gA.mem(h:gA N s0 LL){j:Nat}{s:ak}(d:Ds N s0 j s):∃L,LL[j]? = some L/\s∈L:=by
 let#[n,hn,hl]:=h.last
 have hj:j<n:=by
  by_cases c:j<n
  ·exact c
  let#[t,ht]:=d.down n Z2;exact absurd (((h.is n _ hl).2 t).mpr ht) gf
 have hx:LL[j]? = some (LL[j]' Z2):=aY Z2;exact#[_,hx,((h.is j _ hx).2 s).mpr d]
theorem gA.flat(h:gA N s0 LL):LL.flatten.Nodup:=by
 rw[qk,List.pairwise_flatten];apply#[λL hL=>?_,?_]
 ·let#[j,hj,e]:=ia hL;exact qk.mp (h.is j L (by rw[aY hj,e])).1
 rw[List.pairwise_iff_getElem];intro i j hi hj lt;intro s h1 t h2 e;subst e;let d1:=((h.is i _ (aY hi)).2 s).mp h1;let d2:=((h.is j _ (aY hj)).2 s).mp h2;have:=d1.inj d2;omega
theorem gA.all(h:gA N s0 LL)(s:ak):s∈LL.flatten ↔ ∃j,Wk N s0 j s:=by
 rw[List.mem_flatten];constructor
 ·rintro⟨L,hL,hs⟩;let#[j,hj,e]:=ia hL;exact#[j,(((h.is j L (by rw[aY hj,e])).2 s).mp hs).1]
 rintro⟨j,w⟩;let#[i,_,d]:=w.ds;let#[L,hL,hs]:=h.mem d;exact#[L,cZ hL,hs]
theorem gA.vE(h:gA N s0 LL){m:Nat}(hm:LL.flatten.length<=m):¬More N s0 m:=λ⟨l,nd,al,lt⟩=>by
 have:=List.Nodup.length_le_of_subset nd λs hs=>(h.all s).mpr (al s hs);omega
section v
theorem A5:bJ [o_,"_law_ties_here","_law_spot","_law_most","_law_known","_law_layers_here","_law_layer","_law_one","_law_move","_law_later"] uk (a9 Nj):=bV
inductive MV (K:ai) (vs:af) (H:Hp) (Q:VK) (E:XK):Prop
 |mk:∀(lp lt t:Addr) (m:Nat) (yp zs:af) (hs:Xa) (ts:Xb) (ss qs:aP) (s:ak),vs=[.ref lp,.ref lt,.ref t,.int m]->H lp\.lst yp->kC K H yp ss->H lt\.lst zs->bX K H zs (ts.map kT)->Good hs ts->eS ts ss qs->ss.length<=8->H t\.tup (sV s)->Vs hs qs s->(aS hs).length ^ qs.length<=m->m<=1000000->(∀l ys LL H',aa H H'->H l=none->H' l\.lst ys->gB H' ys LL->(∀b,V.ref b∈ys->H b=none)->gA (Nx hs ts qs) s LL->LL.flatten.length<=m->Q (.ref l) H')->MV K vs H Q E
theorem gd_(F:bo K "_law_layers" "_law_layers" Nj f fd)(B:Bi mg)(cM:!br 1 "_law_moves" uh (MS K)):!ao a_ 2 f fd uk (MV K):=by
 exists F.bU A5;let#[lp,lt,t,m,yp,zs,hs,ts,ss,qs,s,rfl,kq,pc,dH,tu,G,S,s8,ht,v,bm,m6,k]:=h;let hu:=fG hr;let sz:=cq;refine' #[_,au ?s1 (au ?s2 (au ?s3 (aF ?s4))),?kk]
 case s1=>exact bu 4 A5.nd (SN hu (pv 2) il)
 case s2=>exact bu 5 A5.nd (ft %[ft %[2|0]|0])
 case' s3=>refine' Iy dM (PW.pt (L7 ?w1 (Mz ?w2))) (au ?b1 (au ?b2 (aF ?b3)))
 case w1=>exact eY (MK (uM hr 0)) (bw gd (pv 5) (GM He ay)) (ft bK)
 case w2=>exact eY xQ (cy Tp (by rfl) B.len gE %[4|0]) (pv 3)
 case b1=>exact bu 6 A5.nd (ft bK)
 case' b2=>refine' d0 dM U (dX (bw gd (pv 5) (GM He ay))) ?g2 (aF ?c1)
 case g2=>exact cu 7 A5.nd
 case' c1=>refine' d0 dM U (dX (bc cM hr %[0,1,7|0])) ?g3 (aF ?c2)
 case g3=>exact mr U (dN (cu 8 A5.nd) (dN (cu 9 A5.nd) jh))
 case' c2=>refine' cg (qa (IX hu (pv 9) (pv 4))) (au ?d1 (aF ?d2)) cj
 case d1=>exact tT hu (pv 4) (pv 9) il U
 case d2=>exact kI (pe ou xY xZ wC (pv 6) %[9|0])
 case b3=>exact kI (pe ou xY xZ wC (pv 5) %[6|0])
 case s4=>exact bp (pv 5)
 intro d hd;have hK:∀{H':Hp},H' t\.tup (sV s)->H' t\.tup ((sK s).map kV):=λe=>by rw[iz];exact e
 apply#[_,U,az,t,sK s,U,by rw[aw (bz ht hd)];exact hK ht,?_];have s1:aa H (upd (upd H d (.dT [])) d (.dT [(sK s,.bl true)])):=fL (aa.new hd) hd;have e1:upd (upd H d (.dT [])) d (.dT [(sK s,.bl true)]) d\.dT (kn [s]):=az;generalize upd (upd H d (.dT [])) d (.dT [(sK s,.bl true)])=H1 at s1 e1 ⊢;apply#[_,U,zl,λa0 oh=>?_];let#[s2,e2]:=aD (o:=.lst [.ref t]) oh;have a0n:H a0=none:=s1.free oh;let SC:=s2 _ _ e1;let jk:=s1.trans s2;generalize upd H1 a0 (.lst [.ref t])=H2 at s2 e2 SC jk ⊢;apply#[zl,λl hl=>?_];let#[s3,e3]:=aD (o:=.lst [.ref a0]) hl;have ln:H l=none:=jk.free hl;have a0l:a0≠l:=bz e2 hl;let uJ:=s3 _ _ SC;let SJ:=s3 _ _ e2;let dZ:=jk.trans s3;generalize upd H2 l (.lst [.ref a0])=H3 at s3 e3 uJ SJ dZ ⊢
 let N:ak->ak->Prop:=Nx hs ts qs
 let Wv:bR:=λn σ H'=>∃(v6 v7 v8 v9:aH) (k:Nat) (ys:af) (LL:List (List ak)) (ks nw:List ak),σ=[some (.ref lp),some (.ref lt),some (.ref t),some (.int m),some (.ref d),some (.ref l),v6,v7,v8,v9]/\aa H H'/\H' d\.dT (kn ks)/\H' l\.lst ys/\gB H' ys LL/\(∀b,V.ref b∈ys->H b=none/\b≠l)/\LL.length=k+1/\LL[k]? = some nw/\(∀(j:Nat) L,LL[j]? = some L->L.Nodup/\∀s',s'∈L ↔ Ds N s j s')/\Bf N s k ks nw/\(∀s'∈ks,Vs hs qs s')/\n=(aS hs).length ^ qs.length - ks.length+(if nw=[] then 0 else 1)/\k+(if nw=[] then 0 else 1)<=ks.length/\∀(j:Nat) L,j<k->LL[j]? = some L->L≠[]
 apply#[Wv,#[_,none,none,none,none,0,[.ref a0],[[s]],[s],[s],U,dZ,uJ,e3,.cons #[a0,_,U,SJ,.cons #[t,U,dZ _ _ ht] .nil] .nil,?_,U,U,?_,Bf.start,?_,U,?_,λj L z=>absurd z (Nat.not_lt_zero _)],?_]
 ·intro b hb;cases V.ref.inj (eJ.mp hb);exact#[a0n,a0l]
 ·intro j L hj;cases j with
  |zero=>
   cases cX hj;exact#[by simp,(Bf.start (N:=N) (s0:=s)).new]
  |succ j=>cases hj
 ·intro s' hs';rw[eJ.mp hs'];exact v
 ·simp
 rintro n σ H4 ⟨v6,v7,v8,v9,kk,ys,LL,ks,nw,rfl,s4,Hv,iW,Kw,pU,l6,vJ,Qk,FC,Jr,hn,kle,ne4⟩;let kB:=Ik (ns:=aS hs) (n:=qs.length) FC.nd λs' hs'=>#[(Jr s' hs').len,(Jr s' hs').ij];let GD:=bH Kw;have hk:kk<ys.length:=by omega
 let#[an,yn,SG,han,ie]:=d8 Kw kk hk Z2;rw[aY Z2] at vJ;rw[cX vJ] at ie
 have xE:ip ys (-1)\.ref an:=by
  rw[Zh Z2,show ys.length - 1=kk by omega,aY hk,SG]
 have anm:V.ref an∈ys:=by rw[<- SG];exact kJ hk
 let Gz:=bH ie;apply#[_,U,_,U,l,ys,_,_,U,U,.of iW,xE,zl,λle hle=>?_];let#[s5,e5]:=aD (o:=.lst []) hle;let jx:=s4.trans s5;let AC:=s5 _ _ Hv;let tG:=s5 _ _ iW;let GB:=Kw.same s5;let sZ:=s5 _ _ han;let Pn:=ie.keep λb xs e=>s5 _ _ e;generalize upd H4 le (.lst [])=H5 at s5 e5 jx AC tG GB sZ Pn ⊢;apply#[an,le,yn,U,U,.of sZ,.of e5,_,U,?_];by_cases cn:nw=[]
 ·have Jn:yn=[]:=by
   rw[cn] at Gz;exact List.length_eq_zero_iff.mp Gz
  rw[Jn];apply aM (aM #[_,U,?_]);rw[cn] at FC;have ok:gA (Nx hs ts qs) s LL:=#[Qk,#[kk,l6,by rw[aY Z2];exact vJ.trans (by rw[cn])],λj L z=>ne4 j L Z2];apply k l ys LL H5 jx ln tG GB (λb hb=>(pU b hb).1) ok (iQ (Ik ok.flat λs' hs'=>?_) bm);let#[j,wj]:=(ok.all s').mp hs';exact#[(wj.vs v).len,(wj.vs v).ij]
 have Jn:yn.isEmpty=false:=by
  cases yn with
  |nil=>exact absurd (List.length_eq_zero_iff.mp Gz.symm) cn
  |cons _ _=>rfl
 rw[Jn];apply c_ #[_,U,d,_,U,AC,_,U,_,_,U,U,_,U,?_];have lk:(kn ks).length=ks.length:=aq _;rw[aC cn] at hn kle;have ct:decide (((kn ks).length:Int)<=(m:Int))=true:=cw Z2;rw[ct];apply c_ #[λaZ H'=>∃m',m'<n/\Wv m' aZ H',λ_ _ h=>h,?_];apply#[zl,λla gq=>?_];let#[s6,e6]:=aD (o:=.lst []) gq;have P_:H la=none:=jx.free gq;have KI:la≠l:=(bz tG gq).symm;have ana:an≠la:=bz sZ gq;have OD:an≠l:=(pU an anm).2;have and_:an≠d:=bS sZ AC nofun
 have fra:∀b,V.ref b∈ys->b≠la:=λb hb=>by
  let#[i,hi,ei]:=ia hb;let#[a',zs',e',h',_]:=d8 GB i hi Z2;rw[ei] at e';cases e';exact bz h' gq
 let iA:=jx.trans s6;let SB:=s6 _ _ AC;let uH:=s6 _ _ tG;let P4:=GB.same s6;let Al:=s6 _ _ sZ;let Pm:=Pn.keep λb xs e=>s6 _ _ e;generalize upd H5 la (.lst [])=H6 at s6 e6 iA SB uH P4 Al Pm ⊢
 let J:List ak->Hp->Prop:=λseen H'=>∃(i6 fd:List ak) (fs:af),aa H H'/\H' d\.dT (kn i6)/\H' l\.lst ys/\gB H' ys LL/\H' an\.lst yn/\jf H' yn nw/\H' la\.lst fs/\jf H' fs fd/\Wd ks seen i6 fd/\(∀s'∈i6,Vs hs qs s')/\i6.length=ks.length+fd.length
 let Iv:bR:=λi σ H'=>∃(v7 v8 v9:aH) (seen:List ak),σ=[some (.ref lp),some (.ref lt),some (.ref t),some (.int m),some (.ref d),some (.ref l),some (.ref la),v7,v8,v9]/\J seen H'/\(∀b,b∈seen ↔ ∃h∈nw.take i,N h b)
 apply#[_,U,_,U,l,ys,_,_,U,U,.of uH,xE,an,U,#[_,.of Al],?_];apply ib (K:=K) (a:=an) (xs:=yn) Iv ?_ ?_ ?_ ?_
 ·exact#[_,_,_,[],U,#[ks,[],[],iA,SB,uH,P4,Al,Pm,e6,.nil,Wd.start FC.nd,Jr,U],λb=>#[λz=>absurd z gf,λ⟨_,z,_⟩=>absurd z gf]]
 ·rintro i σ H' _ ⟨_,_,_,_,_,⟨_,_,_,_,_,_,_,e,_⟩,_⟩;exact .of e
 ·rintro i y σ H7 hy ⟨Vd,Vc,Vb,seen,rfl,⟨GI,o9,RI,kg,E1,AB,Kv,EJ,JW,HI,yN,Ct,Cv,P7⟩,mem⟩;have hi:i<yn.length:=(bW.mp hy).1
  obtain⟨h,hh,u,rfl,_o⟩:∃h,nw[i]? = some h/\∃u,y=.ref u/\H7 u\.tup (sV h):=by
   have:=d8 JW i hi Z2;rw[aY hi] at hy;cases hy;exact#[nw[i]' Z2,aY Z2,this]
  let hm:=cZ hh;let sS:=(FC.new h).mp hm;have vh:Vs hs qs h:=sS.1.vs v;apply#[_,U,_,U,_,U,lp,lt,u,yp,zs,hs,ts,ss,qs,h,U,kg _ _ kq,AQ pc kg,kg _ _ dH,tu.same kg,G,S,s8,_o,vh,λl3 qq L H8 pJ pM e8 P0 lZ KF=>?_];have Qa:l3≠l:=λz=>by rw[z,AB] at pM;cases pM
  have GH:l3≠la:=λz=>by rw[z,HI] at pM;cases pM
  have l3d:l3≠d:=λz=>by rw[z,E1] at pM;cases pM
  let KA:=bH P0
  let Iw:bR:=λj σ H'=>∃(v8 v9:aH) (dB:List ak),σ=[some (.ref lp),some (.ref lt),some (.ref t),some (.int m),some (.ref d),some (.ref l),some (.ref la),some (.ref u),v8,v9]/\H' l3\.lst qq/\AG H' qq L/\J dB H'/\(∀b,b∈dB ↔ b∈seen∨∃e∈L.take j,b=e.2)
  apply#[l3,U,#[_,.of e8],?_];apply ib (K:=K) (a:=l3) (xs:=qq) Iw ?_ ?_ ?_ ?_
  ·exact#[_,_,seen,U,e8,P0,#[GI,o9,RI,kg.trans pJ,pJ _ _ E1,pJ _ _ AB,Kv.same pJ,pJ _ _ EJ,JW.keep λb xs e=>pJ _ _ e,pJ _ _ HI,yN.keep λb xs e=>pJ _ _ e,Ct,Cv,P7],λb=>#[.inl,λz=>z.elim id λ⟨_,w,_⟩=>absurd w (gf)]]
  ·rintro j σ H' _ ⟨_,_,_,_,e,_⟩;exact .of e
  ·rintro j y σ H9 hy ⟨Jt,Js,dB,rfl,e9,Gx,⟨pN,R4,L_,uA,EZ,AA,P3,EI,Pk,SI,yM,Jp,FW,P6⟩,vH⟩;have hj:j<qq.length:=(bW.mp hy).1
   obtain⟨e,he,tt,mm,uu,rfl,zJ,_,QJ⟩:∃e,L[j]? = some e/\∃t m u,y=.ref t/\H9 t\.tup [.ref m,.ref u]/\H9 m\.tup [.str e.1.1,.str e.1.2.1,.str e.1.2.2]/\H9 u\.tup (sV e.2):=by
    have:=d8 Gx j hj Z2;rw[aY hj] at hy;cases hy;exact#[L[j]' Z2,aY Z2,this]
   have bL:N h e.2:=#[e.1,(lZ e).mp (cZ he)]
   have tk:∀c,(∃e∈L.take (j+1),c=e.2) ↔ (∃e∈L.take j,c=e.2)∨c=e.2:=λc=>by
    rw[mJ,he];constructor
    ·rintro⟨x,hx,r⟩;rcases dI.mp hx with hx|hx
     ·exact .inl #[x,hx,r]
     have:x=e:=⇑hx
     rw[this] at r;exact .inr r
    rintro (⟨x,hx,r⟩|r)
    ·exact#[x,dI.mpr (.inl hx),r]
    exact#[e,by simp,r]
   have G5:H9 uu\.tup ((sK e.2).map kV):=by rw[iz];exact QJ
   apply#[tt,_,U,.of zJ,U,_,_,U,_,_,U,U,?_];apply#[_,U,_,U,d,_,U,.t EZ G5,_,U,?_];rw[Rt];by_cases c:e.2∈pN
   ·rw[cw c];apply aM ?_;apply#[_,_,dB++[e.2],U,e9,Gx,#[pN,R4,L_,uA,EZ,AA,P3,EI,Pk,SI,yM,Jp.skip c,FW,P6],λz=>?_];rw[dI,vH,tk,eJ,or_assoc]
   rw[fq c];apply c_ ?_;let kB9:=Ik (ns:=aS hs) (n:=qs.length) Jp.nd λs' hs'=>#[(FW s' hs').len,(FW s' hs').ij];let lf:=bH yM;have Xl:(kn pN).length=pN.length:=aq _;apply#[_,U,_,U,d,_,U,.t EZ G5 Z2,?_];rw[QC c];have kA:∀{c o},H9 c\o->c≠d->upd H9 d (.dT (kn (pN++[e.2]))) c\o:=λe ne=>by rw[aw ne];exact e
   have tA:∀c xs,H9 c\.tup xs->upd H9 d (.dT (kn (pN++[e.2]))) c\.tup xs:=λc xs e=>kA e (bS e EZ nofun);have lA:∀c xs,H9 c\.lst xs->upd H9 d (.dT (kn (pN++[e.2]))) c\.lst xs:=λc xs e=>kA e (bS e EZ nofun);have sA:aa H (upd H9 d (.dT (kn (pN++[e.2])))):=fL uA hd;have eA:upd H9 d (.dT (kn (pN++[e.2]))) d\.dT (kn (pN++[e.2])):=az;generalize upd H9 d (.dT (kn (pN++[e.2])))=HA at kA tA lA sA eA ⊢;let HG:=lA _ _ SI;apply#[_,U,.inl #[U,_,.of HG],_,U,la,_,_,U,U,HG,by omega,?_];have lB:∀c xs,c≠la->H9 c\.lst xs->upd HA la (.lst (L_++[.ref uu])) c\.lst xs:=λc xs ne e=>by rw[aw ne];exact lA _ _ e
   have tB:∀c xs,H9 c\.tup xs->upd HA la (.lst (L_++[.ref uu])) c\.tup xs:=λc xs e=>by
    rw[aw (bS (tA _ _ e) HG nofun)];exact tA _ _ e
   have Xp:d≠la:=bS eA HG nofun;apply#[_,_,dB++[e.2],U,lB _ _ GH e9,Gx.keep tB,#[pN++[e.2],R4++[e.2],_,fL sA P_,by rw[aw Xp];exact eA,lB _ _ KI.symm AA,P3.keep (λb hb xs e=>lB _ _ (fra b hb) e) tB,lB _ _ ana EI,Pk.keep tB,az,iY (yM.keep tB) (.cons #[uu,U,tB _ _ QJ] .nil),Jp.add c,λs' hs'=>?_,?_],λz=>?_]
   ·rcases dI.mp hs' with hs'|hs'
    ·exact FW s' hs'
    rw[eJ.mp hs'];exact bL.vs vh
   ·rw[d4,d4,P6];rfl
   rw[dI,vH,tk,eJ,or_assoc]
  rintro σ H9 ⟨Jt,Js,dB,rfl,e9,Gx,jj,vH⟩;apply#[_,_,_,dB,U,jj,λb=>?_];rw[vH,mem,show qq.length=L.length from KA,eR,mJ,hh];simp only[Option.toList_some,dI,eJ];constructor
  ·rintro (⟨h',sQ,nx⟩|⟨e,he,rfl⟩)
   ·exact#[h',.inl sQ,nx]
   exact#[h,.inr U,e.1,(lZ e).mp he]
  rintro⟨h',sQ|rfl,nx⟩
  ·exact .inl #[h',sQ,nx]
  let#[mm,nx]:=nx;exact .inr #[(mm,b),(lZ (mm,b)).mpr nx,U]
 rintro σ H7 ⟨Vd,Vc,Vb,seen,rfl,⟨GI,o9,RI,kg,E1,AB,Kv,EJ,JW,HI,yN,Ct,Cv,P7⟩,mem⟩;rw[Gz,eR] at mem;let Uk:=FC.next Ct mem;apply#[_,U,.inl #[U,_,.of AB],_,U,l,_,_,U,U,AB,by omega,?_];have lB:∀c xs,c≠l->H7 c\.lst xs->upd H7 l (.lst (ys++[.ref la])) c\.lst xs:=λc xs ne e=>by rw[aw ne];exact e
 have tB:∀c xs,H7 c\.tup xs->upd H7 l (.lst (ys++[.ref la])) c\.tup xs:=λc xs e=>by
  rw[aw (bS e AB nofun)];exact e
 let kB7:=Ik (ns:=aS hs) (n:=qs.length) Ct.nd λs' hs'=>#[(Cv s' hs').len,(Cv s' hs').ij];have dl:d≠l:=bS E1 AB nofun
 have gl:(LL++[o9])[kk+1]? = some o9:=by
  rw[Ba Z2,show kk+1 - LL.length=0 by omega];rfl
 have fl:o9=[]->o9.length=0:=λz=>by rw[z];rfl
 have G7:o9≠[]->0<o9.length:=λz=>List.length_pos_iff.mpr z;apply#[(aS hs).length ^ qs.length - GI.length+(if o9=[] then 0 else 1),?_,_,_,_,_,kk+1,_,LL++[o9],GI,o9,U,fL kg ln,by rw[aw dl];exact E1,az,iY (Kv.keep (λb hb xs e=>lB _ _ (pU b hb).2 e) tB) (.cons #[la,_,U,lB _ _ KI HI,yN.keep tB] .nil),?_,by rw[d4,l6];rfl,gl,?_,Uk,Cv,U,?_,?_]
 ·by_cases z:o9=[]
  ·rw[aI z];have:=fl z;omega
  rw[aC z];have:=G7 z;omega
 ·intro b hb;rcases dI.mp hb with hb|hb
  ·exact pU b hb
  cases V.ref.inj (eJ.mp hb);exact#[P_,KI]
 ·intro j L hL;by_cases c:j<LL.length
  ·rw[yg c] at hL;exact Qk j L hL
  let Eu:=(bW.mp hL).1;rw[d4,jU] at Eu;have:j=kk+1:=by omega
  subst this;rw[gl] at hL;cases cX hL;exact#[Ct.nf,Uk.new]
 ·by_cases z:o9=[]
  ·rw[aI z];omega
  rw[aC z];have:=G7 z;omega
 intro j L hj hL;rw[yg Z2] at hL;by_cases c:j<kk
 ·exact ne4 j L c hL
 have:j=kk:=by omega
 subst this;rw[aY Z2,cX vJ] at hL;rw[<- cX hL];exact cn
end
end Ev
namespace L2
open PySem PySem.Spec PyProof.Rows PySem.W yo fI
end L2
namespace Ev
open PySem L2
structure Jf (K:ai) (H:Hp) (lh lp lt ll:Addr) (hs:Xa) (ts:Xb) (ss qs:aP) (l:Int × Int):Prop where
 hh:∃yh,H lh\.lst yh/\bX K H yh (hs.map kH)
 hp:∃yp,H lp\.lst yp/\kC K H yp ss
 ht:∃zs,H lt\.lst zs/\bX K H zs (ts.map kT)
 hl:gP H ll l
 lo:tL l
 G:Good hs ts
 S:eS ts ss qs
 s8:ss.length<=8
variable{K:ai}{H H':Hp}{hs:Xa}{ts:Xb}{qs:aP}
theorem Jf.same{lh lp lt ll:Addr}{ss:aP}{l:Int × Int}(h:Jf K H lh lp lt ll hs ts ss qs l)(s:aa H H'):Jf K H' lh lp lt ll hs ts ss qs l:=by
 let#[#[yh,a1,a2],#[yp,b1,b2],#[zs,c1,c2],d,e,f,g,i]:=h;exact#[#[yh,s _ _ a1,a2.same s],#[yp,s _ _ b1,AQ b2 s],#[zs,s _ _ c1,c2.same s],s _ _ d,e,f,g,i]
def Tld(H:Hp)(t:Addr)(hs:Xa)(ts:Xb)(qs:aP)(s0:ak)(l:Int × Int):Prop:=
 (∃(x:Addr) (ys:af) (ms:List (Str × Str × Str)) (s:ak),H t\.tup [.str "moves",.ref x]/\H x\.lst ys/\oG H ys ms/\Bb hs ts qs s0 ms s/\Ds (Nx hs ts qs) s0 ms.length s/\eW hs qs s l=true/\∀j z,j<ms.length->Ds (Nx hs ts qs) s0 j z->eW hs qs z l=false)∨(H t\.tup [.str "none"]/\∀j z,Ds (Nx hs ts qs) s0 j z->eW hs qs z l=false)
variable{r:Int}
theorem Ex{α:Type}{p:α->Prop}{xs:List α}(h0:0<=r)(h1:r<xs.length)(all:∀x∈xs,p x):∃x,ip xs r\x/\p x:=by
 let#[j,rfl]:=yf h0;have hj:j<xs.length:=by omega
 exact#[xs[j],L2.dR (aY hj),all _ (kJ hj)]
variable{CG CW g p:Addr}{fp:av}
theorem gx.but{l:Addr}(G:gx K CG CW H g p hs ts qs fp)(b:aV l H H')(st:cK H l)(nl:l∉fp):gx K CG CW H' g p hs ts qs fp:=by
 let#[xs,e]:=st.some;exact G.keep (λc hc o ho=>b _ _ ho λz=>nl (by rw[<- z];exact hc)) (λc zs hz=>b _ _ hz (bS hz e nofun))
theorem gx.CV(G:gx K CG CW H g p hs ts qs fp):∃uG,gx K CG CW H g p hs ts qs uG/\(∀b∈uG,∃o,H b\o)/\∀c∈uG,c∈fp:=by
 let#[dx,dw,dy,vs,dk,h1,h2,h3,h4,h5,m1,m2,m3,m4,m5]:=G.ex;have ij:∀{b:Addr} {o:HO},b∈fp->H b\o->b∈fp.filter λb=>(H b).isSome:=λm e=>mK.mpr #[m,by rw[e];rfl];apply#[fp.filter λb=>(H b).isSome,#[dx,dw,dy,vs,dk,h1,h2,h3,h4,h5,ij m1 h1,ij m2 h3,ij m3 h4,λb hb=>?_,λv hv a z=>?_],λb hb=>?_,λb hb=>(mK.mp hb).1]
 ·let#[o,e]:=h2.has hb;exact ij (m4 b hb) e
 ·let#[i,hi,ev]:=ia hv;let le:=bH h5;let w:=d8 h5 i hi Z2;rw[ev,z] at w;cases o:(qs[i]' Z2).2.2 with
  |none=>
   rw[o] at w;cases (show V.ref a=.non from w)
  |some ws=>
   rw[o] at w;let#[a',ys,e,h,_]:=w;cases e;exact ij (m5 v hv a z) h
 exact Option.isSome_iff_exists.mp (mK.mp hb).2
theorem gg_{b:Int}(h0:0<=r)(h9:r<9)(hb:b=1∨b=2∨b=4∨b=8):tL (1+2 * r,b):=by
 have g:Int.gcd (1+2 * r) b=1:=by
  let#[j,rfl]:=yf h0;have hj:j<9:=by omega
  have key:∀j:Fin 9,Int.gcd (1+2 * ((j:Nat):Int)) 1=1/\Int.gcd (1+2 * ((j:Nat):Int)) 2=1/\Int.gcd (1+2 * ((j:Nat):Int)) 4=1/\Int.gcd (1+2 * ((j:Nat):Int)) 8=1:=by decide +kernel
  let#[k1,k2,k3,k4]:=key #[j,hj];rcases hb with rfl|rfl|rfl|rfl
  ·exact k1
  ·exact k2
  ·exact k3
  exact k4
 apply#[?_,?_,?_,?_,g]<;>dsimp only<;>omega
end Ev
namespace L2
open PySem PySem.Spec PyProof.Rows
section v
section
variable{N:ag}{qual:Str}{scope:Scope}{f:Addr}{cd:Aa}{A:Ag}{outer:List Env}{s:Ab}{H:Hp}{E:XK}
end
end
open PySem.Calls PySem.W
section
variable{M:Model}{A:Ag}{E:Aa->Ab->Prop}{s:Ab}{base:Heap}{env:Env}{outer:List Env}{L e:Addr}{cls a0:Aa}{Q:Unit->Ab->Prop}
end
section
variable{prog:Ad}{w:Af}{A:Ag}{E:Aa->Ab->Prop}{h:Heap}{g:Array GenState}{d:Drawn}{t:Nat}{os:OsState}{nm q:Str}{C N f:Addr}{bs bm Uj:aj}{hdct:Bool}{sn:ag}{sub:aj}{ab:Bool}{col:Option Bool}{dd:Option Addr}{k0 k1 k2 k3 k5:Option Aa}{B newId KM:String}{K:ai}{rest:aj}
end
open Builtin Builtin.ObjectAttr
def Ax(C CE:Addr):aj:=[.ref C,.ref CE,.type "ValueError",.type "Exception",.type "BaseException",.type "object"]
section
variable{prog:Ad}{w:Af}{A:Ag}{E:Aa->Ab->Prop}{s:Ab}{K:ai}{x C CE:Addr}{ox:Obj}{od:Option Obj}{name:Str}{tk:Tok}{v:Aa}{cd:ClassData}
end
def Ay(K:ai)(C:Addr)(Uj:aj)(newId:String):Bool:=
 match K.lookup C with
 |some ⟨.type "type",_,.cls cd,sl⟩=>
  match cd.mro,sl.toList with
  |.ref C'::bm,[_,_,_,_,some (.builtin n),_]=>C' == C&&n == newId&&!cd.hasDel&&tailIn K Uj bm&&nsOkIn K cd.ns
  |_,_=>false
 |_=>false
def NC(K:ai)(C CE:Addr):Bool:=
 match clsIn K C with
 |some cd=>cd.mro == Ax C CE&&cd.hasDict
 |none=>false
structure ExO (K:ai) (C CE:Addr):Prop where
 kx:OW K C
 ex:Ay K C bmV "ValueError.__new__"=true
 es:findIn K (.ref C) "__setattr__"\some (.builtin "object.__setattr__")
 cl:NC K C CE=true
structure ExF (K:ai) (C:Addr) (f:Str):Prop where
 tk:takerIn K C f\none
 fd:findIn K (.ref C) f\none
structure ExB (K:ai) (CE:Addr):Prop where
 sp:specialIn K (.ref CE) "__getattribute__"\some (.builtin "type.__getattribute__")
 rd:readsIn K CE (.type "type")=true
 fc:findCls K (.ref CE) (.type "type") "__init__"\.val (.builtin "ValueError.__init__")
section
variable{P:Ad}{w:Af}{H:Hp}{h:Heap}{e C a0 d:Addr}{dd:Option Addr}{fs:List (Str × V)}
end
section
variable{X:Cx}{C CE:Addr}{x f:Str}{p apos pos pos':Pos}{o e value:Expr}{es:List Expr}{ta tv:TE}{t:TA}
end
section
variable{X:Cx}{pins:List (Addr × Obj)}{σ:St}{H H':Hp}{s s1:Ab}{B h:Heap}{a:Addr}{cls a0:Aa}{dd:Option Addr}{E:XK}
end
section
variable{P:Ad}{w:Af}{K:ai}{mg:Str->Option Aa}{base:Heap}{N:ag}{qual:Str}{scope:Scope}{f:Addr}{cd:Aa}{A:Ag}{outer:List Env}{s:Ab}{H:Hp}{E:XK}
end
section
variable{X:Cx}{x:Str}{C f:Addr}{fd:Ae}{ps:ag}{sp:Sp}{k:Nat}{np b_ pos:Pos}{e:Expr}{es:List Expr}{t:TA}{E:XK}
end
section
variable{X:Cx}{i:Nat}{x n:Str}{D C:Addr}{np Ea pos:Pos}{Fy:Stmt}{w6 body:List Stmt}{tb:XK->TS}{ts:TS}{rest:List ExceptHandler}
end
section
variable{P:Ad}{w:Af}{K:ai}{mg:Str->Option Aa}{base:Heap}{N:ag}{qual:Str}{scope:Scope}{f:Addr}{cd:Aa}{A:Ag}{outer:List Env}{s:Ab}{H:Hp}{E:XK}
end
section
variable{X:Cx}{i:Nat}{x x2 n:Str}{D C D2 C2:Addr}{np Ea np2 QS pos:Pos}{Fy c₀:Stmt}{w6 JT body:List Stmt}{tb:XK->TS}{ts ts2:TS}
end
section
variable{X:Cx}{i:Nat}{x n:Str}{D:Addr}{ok:Addr->Prop}{np Ea pos:Pos}{Fy:Stmt}{w6 body:List Stmt}{tb:XK->TS}{ts:TS}
end
section
variable{X:Cx}{k:Nat}{ps:ag}{x:Str}{p pos:Pos}{e:Expr}{es:List Expr}{tn:TE}{t:TA}
end
structure Ij (ps dG:ag) (scope:Scope):Prop where
 nd:(ps++dG).Nodup
 kind:scope.kind=.function
 co:scope.isCoroutine=false
 gen:scope.isGenerator=false
 par:∀p∈ps,scope.names.lookup p\.local
 fv:∀x∈dG,scope.names.lookup x\.free
 all:∀x,scope.names.lookup x\.free->x∈dG
 se:∀x∈scope.names,x.2≠.cell
def BQ(CX:u6)(P:Ad)(w:Af)(K:ai)(mg:Str->Option Aa)(base:Heap)(N:ag)(qual:Str)(scope:Scope)(f:Addr)(cd:Aa)(cl:List (Str × Addr))(A:Ag)(outer:List Env)(s:Ab)(H:Hp)(E:XK):Cx where
 prog:=P
 w:=w
 K:=K
 mg:=mg
 base:=base
 A:=A.deeper (envX qual scope s.heap.objs.size f cd cl)
 N:=N
 df:=s
 j7:=H
 env:=envX qual scope s.heap.objs.size f cd cl
 outer:=outer
 stack:=envX qual scope s.heap.objs.size f cd cl::outer
 ex:=[]
 calm:=true
 fn:=λ_=>false
 pn:=[]
 xe:=λe s'=>wpAny (model P w) (A.deeper (envX qual scope s.heap.objs.size f cd cl)) (leaving (envX qual scope s.heap.objs.size f cd cl) e) (λ_ pK=>CX outer H s E e pK) (λe' pK=>CX outer H s E e' pK) s'
theorem Tx{x:Str}{u:Aa}:∀{l:List (Str × Aa)},(l.map (·.1)).Nodup->(x,u)∈l->l.lookup x\u
 |(y,v)::l,nd,h=>by
  let n:=iZ.mp nd;rcases bY.mp h with e|h
  ·cases e;simp[List.lookup]
  have ne:x≠y:=λz=>n.1 (by rw[<- z];exact bG.mpr #[_,h,U]);have:(x == y)=false:=⇑ne
  rw[qg,this];exact Tx n.2 h
theorem QH:∀(ps:ag) (us:aj),((ps.zip us).map (·.1)).Sublist ps
 |[],_=>by simp
 |_::_,[]=>by simp
 |p::ps,u::us=>by
  simp only[List.zip_cons_cons,eI];exact (QH ps us).cons₂ p
variable{ps:ag}{us:aj}{x:Str}
theorem d0_{i:Nat}{u:Aa}(nd:ps.Nodup)(h1:ps[i]? = some x)(h2:us[i]? = some u):(ps.zip us).reverse.lookup x\u:=by
 apply Tx ?_ (List.mem_reverse.mpr (cZ (i:=i) ?_))
 ·rw[List.map_reverse];apply (List.reverse_perm _).nodup_iff.mpr (nd.sublist ?_);exact QH ps us
 rw[List.getElem?_zip_eq_some];exact#[h1,h2]
structure ID (dG:ag) (cl:List (Str × Addr)) (gs:af) (h:Heap):Prop where
 inj:∀x y c,cl.lookup x\c->cl.lookup y\c->x=y
 has:∀x∈dG,∃c,cl.lookup x\c
 all:∀x c,cl.lookup x\c->∃v,h.IsCell c v
 is:∀(i:Nat) x v,dG[i]? = some x->gs[i]? = some v->∃c u,cl.lookup x\c/\RelV v u/\h.IsCell c (some u)
variable{h':Heap}{c:Addr}
theorem IsCell.keeps{h:Heap}{v:Option Aa}(x:h.IsCell c v)(k:∀o,h.get? c\o->h'.get? c\o):h'.IsCell c v:=let #[o,e,d]:=x;#[o,k o e,d]
variable{CX:u6}{w:Af}{mg:Str->Option Aa}{base:Heap}{dG:ag}{f:Addr}{cd:Aa}{A:Ag}{outer:List Env}{s:Ab}{E:XK}{gs:af}
theorem YA{P:Ad}{K:ai}{qual:Str}{scope:Scope}{cl:List (Str × Addr)}{H:Hp}{vs:af}{h1:Heap}{tk:Nat}(S:Ij ps dG scope)(hd:A.handled=none)(e0:iT P w K mg base A outer s H)(hl:vs.length=ps.length)(hg:gs.length=dG.length)(r:Vals vs us)(C:ID dG cl gs s.heap)(fc:∀x c,cl.lookup x\c->H c=none)(ns:h1.Ns s.heap.objs.size λx=>(ps.zip us).reverse.lookup x)(k:∀b o,s.heap.get? b\o->h1.get? b\o) :
  Inv (BQ CX P w K mg base (ps++dG) qual scope f cd cl A outer s H E) [] (vs.map some++gs.map some) H { s with heap:=h1,toks:=tk }:=by
 have vG:∀b:Addr,b∉(BQ CX P w K mg base (ps++dG) qual scope f cd cl A outer s H E).ex:=λb z=>absurd (show b∈([]:av) from z) Y0
 apply#[#[e0.mod,S.kind,U,U,bh _,C.inj,λy hy=>?_,λy c h=>(by cases h),λ_=>hd,Around.frames_deeper e0.frames,.inr #[U,U],λb z=>absurd z (vG b),e0.bs,e0.tS,λb _ _=>vG b,λb z=>absurd z (vG b),e0.fU,e0.vX],
  rfl,e0.bare,Un.kept k,#[_,ns,λi y v s_ h2 h3=>?_],λy c h=>?_,e0.aA.fresh (bh _),fc,λp hp=>absurd (show p∈([]:List (Addr × Obj)) from hp) Y0,e0.aA.kept k,?_]
 ·have hy:scope.names.lookup y\.cell∨scope.names.lookup y\.free:=hy;rcases hy with hy|hy
  ·exact absurd U (S.se _ (qd hy))
  exact C.has y (S.all y hy)
 ·have s_:(ps++dG)[i]? = some y:=s_;by_cases hi:i<ps.length
  ·rw[yg hi] at s_;rw[yg (by simpa [hl] using hi),dC] at h2;let#[v',hv,e]:=Ca.mp h2;cases e;let#[u,hu,rv]:=r.get hv;apply#[u,rv,.inl #[S.par y (cZ s_),?_]];have Gv:ps.Nodup:=(wG.mp S.nd).1;show (ps.zip us).reverse.lookup y\u;exact d0_ Gv s_ hu
  rw[Ba Z2] at s_;rw[Ba (by simp[hl];omega),dC,aq,hl] at h2;let#[v',hv,e]:=Ca.mp h2;cases e;let#[c,u,e1,rv,ce]:=C.is _ _ _ s_ hv;exact#[u,rv,.inr #[.inr (S.fv y (cZ s_)),c,e1,IsCell.keeps ce λo e=>k _ _ e]]
 ·let#[v,ce]:=C.all y c h;exact#[v,IsCell.keeps ce λo e=>k _ _ e]
 show _=(ps++dG).length;rw[d4,d4,aq,aq,hl,hg]
variable{k:Nat}{c':Addr}
theorem ZT{P:Ad}{K:ai}{qual:Str}{params:Arguments}{body:PySem.Expr}{scope:Scope}{pm ku:Aa}{cl:List (Str × Addr)}{H:Hp}{Q:VK}{vs:af}{t:TE}(S:Ij ps dG scope)(hr:aO (k+1) A)(e0:iT P w K mg base A outer s H)(hf:s.heap.get? f\kla_obj "<lambda>" qual params body scope cl pm c' ku)(iG:s.heap.CodeRec (.ref c') qual)(hb:bindArgs (kla_fn "<lambda>" qual params body scope cl pm (.ref c') ku) #[us,[]]=pure (ps.zip us))(hl:vs.length=ps.length)(hg:gs.length=dG.length)(r:Vals vs us)(C:ID dG cl gs s.heap)(fc:∀x c,cl.lookup x\c->H c=none)(ht:aO k (A.deeper (envX qual scope s.heap.objs.size f (.ref c') cl))->PE (BQ CX P w K mg base (ps++dG) qual scope f (.ref c') cl A outer s H E) body t)(hq:t (vs.map some++gs.map some) H Q) :
  codeAny (model P w) A (.call (.ref f) #[us,[]]) (CR CX outer P w H s Q E) s:=by
 have lim:s.heap.NoLimit:=e0.mod.nolimit.keeps λb o e=>(e0.bs b o e).1;apply kla_callFunE hr.depth hf U S.co S.gen U iG ?_;rw[hb];apply aE (wpAny_newFunctionEnv S.se (λx hx=>?_) (λh1 ns sb=>?_) S.kind)
 ·exact S.par x.1 (List.of_mem_zip hx).1
 have k1:∀b o,s.heap.get? b\o->h1.get? b\o:=λb o e=>sb.extBut b o (dD (bx e)) (aQ _ e);apply#[lim.keeps k1,?_];show codeAny _ _ (.expr body (envX qual scope s.heap.objs.size f (.ref c') cl)) _ _;let I:=YA (CX:=CX) (qual:=qual) (f:=f) (cd:=.ref c') (E:=E) (tk:=s.toks+(ps.zip us).length) S hr.hd e0 hl hg r C fc ns k1;apply kla_codeExpr (wpAny_mono (ht (hr.deeper _) [] _ _ H _ I hq) (λv s' hs=>?_) λe s' hs=>hs);let#[x,H',J,rv,q]:=hs;exact#[x,H',J.os,J.bare,J.base,J.aA,rv,q]
def jE(f:Addr)(qual:Str)(params:Arguments)(body:PySem.Expr)(scope:Scope)(cl:List (Str × Addr))(c':Addr):HO:=.ext λh=>∃pm ku,h.get? f\kla_obj "<lambda>" qual params body scope cl pm c' ku
def AH(c':Addr)(qual:Str):HO:=.ext λh=>∃o vs t,h.get? c'\o/\o.data=.fields vs/\vs[1]? = some (.str qual t)
inductive wV (P:Addr) (qual:Str) (params:Arguments) (body:PySem.Expr) (scope:Scope) (pos:Pos) (cl:List (Str × Addr)) (H:Hp) (Q:VK):Prop
 |mk:∀ps,H P\.tbl ps->TriplesOk ps.toList->((codeAmong pos ps.toList=none/\∀c' f,H c'=none->H f=none->c'≠f->Q (.ref f) (upd (upd (upd H P (.tbl (ps++(List.toArray [rawInt pos.line,rawInt pos.col,.ref c'])))) c' (AH c' qual)) f (jE f qual params body scope cl c')))∨∃c',codeAmong pos ps.toList\.ref c'/\∀f,H f=none->Q (.ref f) (upd H f (jE f qual params body scope cl c')))->wV P qual params body scope pos cl H Q
def CJ(P:Addr)(qual:Str)(params:Arguments)(body:PySem.Expr)(scope:Scope)(pos:Pos)(cl:List (Str × Addr)):TE:=λ_ H Q=>wV P qual params body scope pos cl H Q
variable{X:Cx}{pos:Pos}
theorem YF{params:Arguments}{body:PySem.Expr}{scope:Scope}{cl:List (Str × Addr)}{P:Addr}(LF:defaultsOf params X.env=([],[]))(vT:closureFor scope X.env=pure cl)(xG:X.env.code=.ref c)(C:CodeHd X.base c P)(xH:X.base.BuiltinsAt X.mg P) :
  PE X (.Lambda params body scope pos) (CJ P (X.env.qual++"<lambda>") params body scope pos cl):=by
 intro pins s σ H Q I h;let#[ps,hP,ht,h]:=h;have Rg:s.heap.get? P\tabObj ps:=I.aA P _ hP
 have Q3:H mainGlobals=none:=by
  let#[o,_,_,e,_]:=I.mod.glob;exact (I.bs _ _ e).2
 apply kla_eval LF ?_;rcases h with⟨hn,q⟩|⟨c',hf,q⟩
 ·apply kla_makeFunction vT I.ok.glob (I.mod.glob.keeps I.bk) xG (C.keeps I.bk) Rg ht hn (λz=>by rw[z,hP] at Q3;cases Q3) (xH.keeps I.bk) λc' ku h' tk hx Ls dH K2 QL=>?_;have fz:s.heap.objs.size<=h'.objs.size:=iQ Ls (Nat.le_of_lt dH);have nc:H c'=none:=I.aA.fresh Ls;have nf:H h'.objs.size=none:=I.aA.fresh fz;have cf:c'≠h'.objs.size:=dD dH;have Pc:P≠c':=bz hP nc;have Pf:P≠h'.objs.size:=bz hP nf
  have old:∀{b u},H b\u->b≠P->upd (upd (upd H P (.tbl (ps++(List.toArray [rawInt pos.line,rawInt pos.col,.ref c'])))) c' (AH c' (X.env.qual++"<lambda>"))) h'.objs.size (jE h'.objs.size (X.env.qual++"<lambda>") params body scope cl c') b\u:=λ{b u} e n=>by
   rw[aw (bz e nf),aw (bz e nc),aw n];exact e
  have rZ:∀{b u},H b\u->(∀ps,u≠.tbl ps)->b≠P:=λ{b u} e n z=>by
   rw[z,hP] at e;cases e;exact n _ U
  have kp:∀b o,b≠P->s.heap.get? b\o->(h'.push (kla_obj "<lambda>" (X.env.qual++"<lambda>") params body scope cl ((X.mg "__name__").getD .none) c' ku)).get? b\o:=λb o n e=>aQ _ (hx b o n e);apply#[.ref h'.objs.size,_,I.un (t':=tk) #[λb o e n _ _=>kp b o (λz=>by rw[z,hP] at n;cases n) e,λb o e n _ _=>#[o.slots,kp b o (λz=>by rw[z,hP] at n;cases n) e],λb o e n _=>?_,λb o e _=>?_,λb xs e=>old e (rZ e Y0),λb o u e=>old e (rZ e Y0),λb qs e=>?_] (λb u e=>?_),U,q c' h'.objs.size nc nf cf]
  ·let lt:=bx e;rw[aw (dD (jt lt fz)),aw (dD (jt lt Ls)),aw (λz=>by rw[z,hP] at n;cases n)];exact n
  ·by_cases z:b=P
   ·subst z;exact#[_,aQ _ QL]
   exact#[o,kp b o z e]
  ·by_cases z:b=P
   ·subst z;rw[hP] at e;cases e;exact#[_,by rw[aw Pf,aw Pc,az]]
   exact#[#[],by rw[Array.append_empty];exact old e z]
  by_cases z1:b=h'.objs.size
  ·subst z1;rw[az] at e;cases e;exact#[#[_,_,cJ _ U],#[_,cJ _ U],λh1 h2 ⟨pm,cv,e1⟩ k=>#[pm,cv,k _ e1]]
  rw[aw z1] at e;by_cases z2:b=c'
  ·subst z2;rw[az] at e;cases e;let#[c2,oc,vs,t,ec,Ef,hd,hv]:=K2;cases ec;exact#[#[oc,vs,t,aQ _ Ef,hd,hv],#[_,aQ _ Ef],λh1 h2 ⟨o,vs,t,e1,r⟩ k=>#[o,vs,t,k _ e1,r]]
  rw[aw z2] at e;by_cases z3:b=P
  ·subst z3;rw[az] at e;cases e;exact aQ _ QL
  rw[aw z3] at e;apply (I.aA b u e).eN (λd v hd e1=>kp d v ?_ e1) (λd e1=>old e1 (rZ e1 Y0)) λd xs e1=>old e1 (rZ e1 Y0);rcases hd with rfl|hd
  ·exact z3
  exact rZ hd Y0
 apply kla_makeFunctionHit vT I.ok.glob (I.mod.glob.keeps I.bk) xG (C.keeps I.bk) Rg ht hf (xH.keeps I.bk) λku h' tk hk hsz=>?_;have nf:H h'.objs.size=none:=I.aA.fresh hsz;apply#[.ref h'.objs.size,_,I.laid (t':=tk) (λb o e=>aQ _ (hk b o e)) hsz ?_,U,q _ nf];exact#[#[_,_,cJ _ U],#[_,cJ _ U],λh1 h2 ⟨pm,cv,e1⟩ k=>#[pm,cv,k _ e1]]
variable{P:Ad}{N:ag}
theorem vC{K:ai}{qual:Str}{scope:Scope}{cl:List (Str × Addr)}{H:Hp}:wB a_ (BQ a_ P w K mg base N qual scope f cd cl A outer s H E) E:=λ_ _ _ _ _ _ _ h=>h.elim
section
variable{cs:List (Addr × Obj)}{H H':Hp}{b:Addr}{o:Obj}{u:HO}
variable{P:Ad}{w:Af}{h:Heap}
end
section
variable{X:Cx}{pins:List (Addr × Obj)}{σ:St}{H:Hp}{s s':Ab}{cs:List (Addr × Obj)}
def j1(P:Ad)(w:Af)(K:ai)(mg:Str->Option Aa)(base:Heap)(k:Nat)(qual:Str)(params:Arguments)(body:PySem.Expr)(scope:Scope)(ps dG:ag)(sp:af->af->Hp->VK->XK->Prop):Prop:=
 ∀(A:Ag) (outer:List Env) (s:Ab) (H:Hp) (f c':Addr) (pm ku:Aa) (cl:List (Str × Addr)) (us:aj) (vs gs:af) (Q:VK) (E:XK),aO k A->iT P w K mg base A outer s H->s.heap.get? f\kla_obj "<lambda>" qual params body scope cl pm c' ku->s.heap.CodeRec (.ref c') qual->
  vs.length=ps.length->gs.length=dG.length->Vals vs us->ID dG cl gs s.heap->(∀x c,cl.lookup x\c->H c=none)->sp vs gs H Q E->codeAny (model P w) A (.call (.ref f) #[us,[]]) (CR a_ outer P w H s Q E) s
theorem DL{K:ai}{qual:Str}{params:Arguments}{body:PySem.Expr}{scope:Scope}{sp:af->af->Hp->VK->XK->Prop}(S:Ij ps dG scope)(hb:∀pm c' ku cl us,us.length=ps.length->bindArgs (kla_fn "<lambda>" qual params body scope cl pm (.ref c') ku) #[us,[]]=pure (ps.zip us))(fP:∀(A:Ag) (outer:List Env) (s:Ab) (H:Hp) (f:Addr) (cd:Aa) (cl:List (Str × Addr)) (vs gs:af) (Q:VK) (E:XK),aO k (A.deeper (envX qual scope s.heap.objs.size f cd cl))->sp vs gs H Q E->wB a_ (BQ a_ P w K mg base (ps++dG) qual scope f cd cl A outer s H E) E->
   ∃t,PE (BQ a_ P w K mg base (ps++dG) qual scope f cd cl A outer s H E) body t/\t (vs.map some++gs.map some) H Q):!j1 (k+1) qual params body scope ps dG sp:=by
 intro A outer s H f c' pm ku cl us vs gs Q E hr e0 hf iG hl hg r C fc kj;let#[t,ht,hq]:=fP A outer s H f (.ref c') cl vs gs Q E (hr.deeper _) kj vC;exact ZT S hr e0 hf iG (hb pm c' ku cl us (by rw[<- r.length];exact hl)) hl hg r C fc (λ_=>ht) hq
end
structure Jj (dG:ag) (cl:List (Str × Addr)) (cs:List (Addr × Obj)) (gs:af):Prop where
 len:gs.length=dG.length
 inj:∀x y c,cl.lookup x\c->cl.lookup y\c->x=y
 has:∀x∈dG,∃c,cl.lookup x\c
 all:∀x c,cl.lookup x\c->∃o v,cs.lookup c\o/\o.data=.cell v
 is:∀(i:Nat) x v,dG[i]? = some x->gs[i]? = some v->∃c o u,cl.lookup x\c/\cs.lookup c\o/\o.data=.cell (some u)/\RelV v u
section
variable{X:Cx}{k:Nat}{x:Str}{p pos:Pos}{tn:TE}{qual:Str}{params:Arguments}{body:PySem.Expr}{scope:Scope}{dG ps:ag}{Bp:af->af->Hp->VK->XK->Prop}{E:XK}
end
section
variable{X:Cx}{k:Nat}{x:Str}{p pos:Pos}{e:PySem.Expr}{es:List PySem.Expr}{ta:TA}{dG ps:ag}{sp:Sp}{f:Addr}{fd:Ae}{cl:List (Str × Addr)}{is:List Nat}
end
variable{a:Addr}{ts:av}{fd:Ae}
theorem gB_{K:ai}{mb:Str->Option Aa}{fa:Addr}{sp:Sp}{aJ:Ab}{vs:aj}{ns:List Int}(hT:∀T∈ts,K.lookup T=none)(eT:∀T∈ts,aJ.heap.get? T\tabObj #[])(Ai:∀T∈ts,isCodeTable aJ.heap T)(KX:K.In aJ.heap)(Ld:aJ.heap.Ns mainGlobals mg)(hb:aJ.heap.Ns builtinsNs mb)(hbb:∀x:Str,x≠"__name__"->mb x=bootBuiltins x)(Lj:aJ.heap.NoLimit)(hg:aJ.gens=#[])(ha:aJ.heap.get? a=some { cls:=.type "list",data:=.seq vs.toArray })(hi:IntsAre vs ns)(hl:ns.length<=sizeLine)(hr:aO k callerA)(xH:∃bm ob,mg "__builtins__"\.ref bm/\bm≠builtinsNs/\aJ.heap.get? bm\ob/\ob.cls=.type "module"/\ob.dict\builtinsNs/\ob.data=.plain)(F:∀base:Heap,K.In base->base.Ns mainGlobals mg->(∀T∈ts,base.BuiltinsAt mg T)->!ao CX k fa fd [x] sp)(EG:∀(s:Ab) (u:Aa),BindsTo s fd #[[u],[]] [(x,u)])(kj:∀H:Hp,(∀T∈ts,H T\.tbl #[])->dS K H a (ns.map V.int)->sp [.ref a] H (λv _=>v=.bl true) λ_ _ _=>False)(LS:∀H e s',CX [] H aJ (λ_ _ _=>False) e s'->False) :
  codeAny (model P w) callerA (.call (.ref fa) #[[.ref a],[]]) (λr s'=>r=.ok (.ret (.bool true))/\OldK aJ.heap s'.heap/\s'.os=aJ.os/\AllBare s'.gens) aJ:=by
 let rv:=SD hi;let KD:=hi.length
 have aT:∀{b},b∈ts->b≠a:=λ{b} hb z=>by
  have:=eT b hb;rw[z,ha] at this;cases this
 have core:∀H:Hp,(∀b,H b=none∨(b∈ts/\H b\.tbl #[])∨(b∉ts/\∃o xs,H b\.frz o (.lst xs)))->(∀T∈ts,H T\.tbl #[])->dS K H a (ns.map V.int)->fM P w H aJ.heap->(∀b,H b≠none->b=a∨b∈ts)->(H a≠none->K.lookup a=none)->
   codeAny (model P w) callerA (.call (.ref fa) #[[.ref a],[]]) (λr s'=>r=.ok (.ret (.bool true))/\OldK aJ.heap s'.heap/\s'.os=aJ.os/\AllBare s'.gens) aJ:=by
  intro H hO hHT hS aA hA hK;have jd:∀{b:Addr} {o:Obj},aJ.heap.get? b\o->H b=none->(iF aJ.heap H).get? b\o:=λe n=>ZE e n
  have vG:∀{b:Addr} {o:Obj} {es:Array DictEntry} {ep:Nat},aJ.heap.get? b\o->o.data=.dict es ep->H b=none:=λ{b o es ep} e d=>by
   cases q:H b with
   |none=>rfl
   |some u=>
    rcases hA b (by rw[q];simp) with e'|e'
    ·subst e';rw[ha] at e;cases e;have d':Data.seq vs.toArray _=Data.dict es ep:=d;cases d'
    rw[eT b e'] at e;cases e;cases d
  have Gq:∀{b:Addr} {m:Str->Option Aa},aJ.heap.Ns b m->(iF aJ.heap H).Ns b m:=λ{b m} ⟨o,es,ep,e,d,r⟩=>#[o,es,ep,jd e (vG e d),d,r]
  have Ri:K.In (iF aJ.heap H):=λb o e=>jd (KX b o e) (by
   cases q:H b with
   |none=>rfl
   |some u=>
    rcases hA b (by rw[q];simp) with e'|e'
    ·subst e';rw[hK (by rw[q];simp)] at e;cases e
    rw[hT b e'] at e;cases e)
  have hB:∀T∈ts,(iF aJ.heap H).BuiltinsAt mg T:=λT LO=>by
   let#[bm,ob,h1,h2,h3,h4,h5,h6]:=xH
   have n1:bm≠mainGlobals:=λz=>by
    let#[o,es,ep,e,d,_]:=Ld;rw[z,e] at h3;cases h3;rw[d] at h6;cases h6
   have n2:∀{b},b∈ts->bm≠b:=λ{b} hb z=>by
    rw[z,eT b hb] at h3;cases h3;cases h6
   apply#[bm,ob,h1,h2,n1,n2 LO,jd h3 ?_,h4,h5,h6];cases q:H bm with
   |none=>rfl
   |some u=>
    rcases hA bm (by rw[q];simp) with e'|e'
    ·subst e';rw[ha] at h3;cases h3;cases h6
    exact absurd U (n2 e')
  have hM:Mod K mg (iF aJ.heap H):=#[Ri,Gq Ld,#[mb,Gq hb,hbb],let #[mc,h1,h2]:=Lj;#[mc,Gq h1,h2]];have e0:iT P w K mg (iF aJ.heap H) callerA [] aJ H:=#[U,hM,λb o e=>YC e,Nat.le_of_eq (gr_ _ _),trivial,λb hb=>absurd (show b∈([]:av) from hb) Y0,aA,.of_eq hg];apply codeAny_mono ((F _ Ri (Gq Ld) hB).run callerA [] aJ H #[[.ref a],[]] [.ref a] [.ref a] _ _ hr e0 (EG aJ (.ref a)) (.cons U .nil) (kj H hHT hS)) λr s' h=>?_;cases r with
  |error e=>exact (LS H e s' h).elim
  |ok fl=>
   cases fl with
   |next=>exact False.elim h
   |brk=>exact False.elim h
   |cont=>exact False.elim h
   |ret u=>
    let#[v,H',os,bare,un,Ed,r',q]:=h;have q':v=.bl true:=q;subst q';obtain rfl:u=Value.bool true:=r'
    have main:∀b o,aJ.heap.get? b\o->s'.heap.get? b\o∨(b∈ts/\o=tabObj #[]/\∃more,s'.heap.get? b\tabObj (#[]++more)):=λb o e=>by
     cases q:H b with
     |none=>exact .inl (un.keep b o e q (by intro z;exact absurd (show b∈([]:av) from z) Y0) Y0)
     |some u=>
      rcases hO b with z|⟨zT,z⟩|⟨_,ob,xs,z⟩
      ·rw[q] at z;cases z
      ·rw[eT b zT] at e;cases e;let#[more,z]:=un.ix b _ z;exact .inr #[zT,U,more,Ed b _ z]
      let z2:=un.hY b ob _ z;let#[e1,_]:=aA b _ z;let#[e2,_]:=Ed b _ z2;rw[e] at e1;cases e1;exact .inl e2
    apply#[U,#[λb o e=>?_,λb o e=>?_],os,bare]
    ·rcases main b o e with z|⟨zT,rfl,more,z⟩
     ·exact .inl z
     exact .inr (.inl #[Ai b zT,U,_,_,U,z])
    rcases main b o e with z|⟨_,_,more,z⟩
    ·exact#[_,z]
    exact#[_,z]
 cases hk:K.lookup a with
 |some o=>
  let e:=KX a o hk;rw[ha] at e;cases e;apply core (λb=>if b∈ts then some (.tbl #[]) else none) (λb=>?_) (λT h=>aI h) (.inr #[_,vs.toArray,_,hk,U,U,U,by rw[dc,KD];exact hl,by simpa using rv]) (λb u z=>?_) (λb z=>?_) λz=>absurd (aC λq=>aT q U) z
  ·by_cases hb:b∈ts
   ·exact .inr (.inl #[hb,aI hb])
   exact .inl (aC hb)
  ·by_cases hb:b∈ts
   ·let z':=(aI hb).symm.trans z;cases z';exact eT b hb
   let z':=(aC hb).symm.trans z;cases z'
  ·by_cases hb:b∈ts
   ·exact .inr hb
   ·exact absurd (aC hb) z
 |none=>
  have T2:∀{b:Addr},b∈ts->(λb=>if b∈ts then some (.tbl #[]) else if b=a then some (HO.frz { cls:=.type "list",data:=.seq vs.toArray } (.lst (ns.map V.int))) else none) b\.tbl #[]:=λ{b} hb=>aI hb;apply core (λb=>if b∈ts then some (.tbl #[]) else if b=a then some (.frz { cls:=.type "list",data:=.seq vs.toArray } (.lst (ns.map V.int))) else none) (λb=>?_) (λT h=>aI h) (.inl (.inr #[{ cls:=.type "list",data:=.seq vs.toArray },(aC λq=>aT q U).trans (aI U)])) (λb u z=>?_) (λb z=>?_) λ_=>hk
  ·by_cases mh:b∈ts
   ·exact .inr (.inl #[mh,aI mh])
   by_cases hb:b=a
   ·exact .inr (.inr #[mh,_,_,(aC mh).trans (aI hb)])
   exact .inl ((aC mh).trans (aC hb))
  ·by_cases mh:b∈ts
   ·let z':=(aI mh).symm.trans z;cases z';exact eT b mh
   by_cases hb:b=a
   ·let z':=((aC mh).trans (aI hb)).symm.trans z;cases z';subst hb;exact#[ha,by rw[aq];exact hl,vs,_,rv,ha]
   let z':=((aC mh).trans (aC hb)).symm.trans z;cases z'
  by_cases mh:b∈ts
  ·exact .inr mh
  by_cases hb:b=a
  ·exact .inl hb
  exact absurd ((aC mh).trans (aC hb)) z
variable{T:Addr}
theorem fE_{K:ai}(h:T∉K.map (·.1)):K.lookup T=none:=by
 induction K with
 |nil=>rfl
 |cons p K ih=>
  let#[b,o]:=p;simp only[eI,bY,not_or] at h;rw[qg,show (T == b)=false by simpa using h.1];exact ih h.2
variable{n:Nat}
theorem qr{l:PySem.W.OpenLaw}{q:Ad}{loose:ag}{XP:(Str->Option Aa)->Heap->Prop}{d:DefRec}{K:Params->ai}{as:av}{Hy:∀P:Params,as=(K P).map (·.1)}{CX:Af->u6}{sp:Af->Sp}(hn:l.most\n)(xB:n<=sizeLine)(EE:d.params.defaults=[])(hr:aO k callerA)(KY:(ts.all λT=>!as.contains T)=true)(F:∀(w:Af) (mg:Str->Option Aa) (fa:Addr) (h:Heap),(K w.params).In h->h.Ns mainGlobals mg->mg d.name\.ref fa->
   ∃fd:Ae,(∀(s:Ab) (u:Aa),BindsTo s fd #[[u],[]] [(x,u)])/\(∀T∈ts,isCodeTable h T) /\
    ∀base:Heap,(K w.params).In base->base.Ns mainGlobals mg->(∀T∈ts,base.BuiltinsAt mg T)->ao l.prog w (K w.params) mg base (CX w) k fa fd [x] (sp w))(kj:∀(w:Af) (H:Hp) (a:Addr) (ns:List Int),ns.length<=n->(∀T∈ts,H T\.tbl #[])->dS (K w.params) H a (ns.map V.int)->sp w [.ref a] H (λv _=>v=.bl true) λ_ _ _=>False)(LS:∀(w:Af) (H:Hp) (s:Ab) (e:Aa) (s':Ab),CX w [] H s (λ_ _ _=>False) e s'->False) :
  PySem.W.WalkO q loose XP (kmHook K as Hy ts).says l.row.toRowW d [] (λf vs=>PySem.call f vs):=by
 apply UE.jR hn EE λw df aJ mg mb fa o pm cd doc a vs ns G Y ho hd iG hmg zQ hints hlen hg=>?_;have KX:(K w.params).In aJ.heap:=km_in_of Y;have eT:∀T∈ts,aJ.heap.get? T\tabObj #[]:=Y.2;let#[fd,hb,Ai,hF]:=F w mg fa _ KX G.T.g hmg;apply gB_ (λT h=>fE_ ?_) eT Ai KX G.T.g G.T.b G.T.builtins G.T.nolimit hg zQ hints (iQ hlen xB) hr G.T.bmain hF hb (λH hO hS=>kj w H a ns hlen hO hS) λH e s'=>LS w H aJ e s';have:=List.all_eq_true.mp KY T h;rw[<- Hy w.params];simpa using this
open PySem.W in
def mB:List (Pos × Addr)->aj
 |[]=>[]
 |(p,c)::es=>rawInt p.line::rawInt p.col::.ref c::mB es
def mE(H:Hp)(T:Addr)(qual:Str):Prop:=∃es:List (Pos × Addr),H T\.tbl (mB es).toArray/\∀e∈es,H e.2\AH e.2 qual
variable{H':Hp}
theorem mE.same{H:Hp}{qual:Str}(s:aa H H')(h:mE H T qual):mE H' T qual:=by
 let#[es,a,b]:=h;exact#[es,s _ _ a,λe he=>s _ _ (b e he)]
theorem Sh:∀es:List (Pos × Addr),TriplesOk (mB es)
 |[]=>trivial
 |(p,c)::es=>by
  have:=Sh es;simp[mB,TriplesOk,rawInt,this]
theorem S4:∀(es:List (Pos × Addr)) (p:Pos) (c:Addr),mB (es++[(p,c)])=mB es++[rawInt p.line,rawInt p.col,.ref c]
 |[],p,c=>rfl
 |(p',c')::es,p,c=>by
  show rawInt p'.line::rawInt p'.col::.ref c'::mB (es++[(p,c)])=_;rw[S4 es p c];rfl
theorem T6(pos:Pos):∀es:List (Pos × Addr),codeAmong pos (mB es)=none∨∃e∈es,codeAmong pos (mB es)\.ref e.2
 |[]=>.inl U
 |(p,c)::es=>by
  by_cases h:codeAmong pos (mB ((p,c)::es))\.ref c
  ·exact .inr #[(p,c),gF,h]
  have e:codeAmong pos (mB ((p,c)::es))=codeAmong pos (mB es):=by
   show codeAmong pos (rawInt p.line::rawInt p.col::.ref c::mB es)=_;have h:¬codeAmong pos (rawInt p.line::rawInt p.col::.ref c::mB es)=some (.ref c):=h;simp only[codeAmong,rawInt] at h ⊢;split at h
   ·exact absurd U h
   rename_i q
   rw[aC q]
  rcases T6 pos es with q|⟨x,hx,q⟩
  ·exact .inl (e.trans q)
  exact .inr #[x,fX _ hx,e.trans q]
open yo
section
variable{X:Cx}{pins:List (Addr × Obj)}{σ:St}{H:Hp}{s:Ab}
theorem Inv.yy{t':Nat}{fp:av}{ys:af}{its:aj}(I:Inv X pins σ H s)(k:∀b o,b∉fp->s.heap.get? b\o->h'.get? b\o)(hf:∀b∈fp,dh X pins H b)(hT:T∈fp)(hz:ys.length<=sizeLine)(r:Vals ys its)(ht:h'.get? T=some { cls:=.type "list",data:=.seq its.toArray n }):Inv X pins σ (upd H T (.lst ys)) { s with heap:=h',toks:=t' }:=by
 have fT:H T=none:=(hf T hT).1;have nf:∀b u,H b\u->b∉fp:=λb u e hb=>by rw[(hf b hb).1] at e;cases e
 have old:∀{b u},H b\u->upd H T (.lst ys) b\u:=λe=>by rw[aw (bz e fT)];exact e
 apply I.step (g':=s.gens) (d':=s.drawn) (ch:=fp) (λb hb=>?_) (λb o _ _ hc e _=>k b o hc e) (λb o _ _ hc e _=>#[o.slots,k b o hc e]) (λb o hc e n=>?_)
  (λb o hc e=>#[o,k b o hc e]) (λb ys e=>old e) (λb o u e=>old e) (λb ps e=>#[#[],by rw[Array.append_empty];exact old e]) (λm hm=>?_) (λb u e=>?_) I.bare
 ·let#[f0,f1,f2,f3,f4,f5]:=hf b hb;exact#[f3,f1,f4,f5]
 ·rw[aw (λz=>hc (by rw[z];exact hT))];exact n
 ·let#[o,es,ep,ho,r]:=hm;exact#[o,es,ep,k _ o (λhb=>(hf _ hb).2.1 U) ho,r]
 by_cases z:b=T
 ·subst z;rw[az] at e;cases e;exact#[hz,its,n,r,ht]
 rw[aw z] at e;apply (I.aA b u e).eN (λc v hc q=>k c v ?_ q) (λ_ q=>old q) λ_ _ q=>old q;rcases hc with z|z
 ·rw[z];exact nf b u e
 exact nf c _ z
theorem dh.at{b:Addr}(f:dh X pins H b)(n:H' b=none):dh X pins H' b:=#[n,f.2]
end
variable{xs zs:af}
section
variable{X:Cx}{pins:List (Addr × Obj)}{σ:St}{H:Hp}{s:Ab}{B:Ag}
theorem Yi{kf:V->ax}{p:Array Nat}(g:Good xs.length p)(up:Up (λi j=>bI ((xs.map kf).getD i []) ((xs.map kf).getD j [])) p xs.length)(ez:zs=p.toList.map λi=>xs.getD i .non):zs.Perm xs/\zs.map kf=bj (xs.map kf):=by
 have gk:Good (xs.map kf).length p:=by rw[aq];exact g
 let asc:=Mm (ks:=xs.map kf) (λi j _ _=>rfl) gk (by rw[aq];exact up)
 have perm:(p.toList.map λi=>(xs.map kf).getD i []).Perm (xs.map kf):=by
  have:=FF gk λi=>(xs.map kf).getD i [];rwa [FJ] at this
 let es:=N2 perm asc;apply#[?_,?_]
 ·have:=FF (n:=xs.length) g λi=>xs.getD i .non;rw[FJ] at this;rw[ez];exact this
 rw[<- es,ez,cz];apply uX λi hi=>?_;have m:i∈(List.range xs.length).toArray:=g.mem_iff.mp ⇑hi;have m:i<xs.length:=⇑m
 show kf (xs.getD i .non)=(xs.map kf).getD i [];simp[List.getD,m]
end
section
variable{X:Cx}{pins:List (Addr × Obj)}{σ:St}{H:Hp}{s:Ab}
theorem Inv.tM{cl:List (Str × Addr)}{is:List Nat}(I:Inv X pins σ H s)(l9:∀q∈cl,X.env.cells.lookup q.1\q.2)(vT:∀x∈dG,∃c,cl.lookup x\c)(Et:∀x∈dG,X.env.scope.names.lookup x\.cell)(hN:is.map (λi=>X.N[i]?)=dG.map some)(BB:is.map (λi=>σ[i]?)=gs.map (λv=>some (some v))):gs.length=dG.length/\ID dG cl gs s.heap/\∀x c,cl.lookup x\c->H c=none:=by
 have lk:∀{x c},cl.lookup x\c->(x,c)∈cl:=λe=>qd e;apply#[?_,#[λa b c h1 h2=>I.ok.inj a b c (l9 _ (lk h1)) (l9 _ (lk h2)),vT,λa c h1=>I.cell a c (l9 _ (lk h1)),λj a v h1 h2=>?_],λx c e=>I.d6 x c (l9 _ (lk e))]
 ·let a:=ed List.length BB;let b:=ed List.length hN;simp only[aq] at a b;omega
 let#[c,hc]:=vT a (cZ h1);have e1:(is.map λi=>X.N[i]?)[j]? = some (some a):=by rw[hN,dC,h1];rfl
 have e2:(is.map λi=>σ[i]?)[j]? = some (some (some v)):=by rw[BB,dC,h2];rfl
 rw[dC] at e1 e2;let#[i,hi,e1]:=Ca.mp e1;rw[hi] at e2;have e2:σ[i]? = some (some v):=cX e2;let#[m,_,hl]:=I.loc;let kd:=Et a (cZ h1);let#[u,ru,lo]:=hl i a v e1 e2 (.inr (.inl kd));rcases lo with⟨z,_⟩|⟨_,c2,e3,o,e4,e5⟩
 ·have z:X.env.scope.names.lookup a\.local:=z;rw[kd] at z;cases z
 rw[l9 _ (lk hc)] at e3;cases e3;exact#[c,u,hc,ru,o,e4,e5]
end
def ON(K:ai)(H:Hp)(x:V)(xs:af):Prop:=(∃l,x=.ref l/\dS K H l xs)∨∃d kvs,x=.ref d/\H d\.dK kvs/\xs=kvs.map λkv=>kV kv.1
variable{kf:V->Str}
theorem _X(h:(zs.map λx=>bO (kf x))=bj (xs.map λx=>bO (kf x))):zs.map kf=iN (xs.map kf):=by
 apply RV ?_;rw[NK,cz,cz];exact h
theorem fA_{prog:Ad}{vs:aj}(r:StrsAre vs (xs.map kf))(h2:2<=vs.length):uv prog w A (λi j=>bI ((xs.map λx=>bO (kf x)).getD i []) ((xs.map λx=>bO (kf x)).getD j [])) vs s:=by
 have:=Tu (prog:=prog) (w:=w) (A:=A) (s:=s) r h2;rw[cz] at this;exact this
variable{E:Aa->Ab->Prop}{B:Ag}{H0:Hp}
section
variable{X:Cx}{pins:List (Addr × Obj)}{σ:St}{H:Hp}{s:Ab}
def Hm(X:Cx)(σ:St)(B:Ag)(fv:Aa)(H0:Hp)(kf:V->Str)(xs:af):Prop:=
 ∀(pins:List (Addr × Obj)) (H:Hp) (s:Ab) (x:V) (u:Aa),Inv X pins σ H s->aa H0 H->x∈xs->RelV x u->
  wpAny (model X.prog X.w) B (call fv [u]) (EP X pins σ λv H'=>aa H H'/\v=.str (kf x)) (λ_ _=>False) s
theorem Zz{fv:Aa}{kS:Addr}{e1:Nat}{all:af}{Q:PUnit->Ab->Prop}{body:Aa->PUnit->Sem (ForInStep PUnit)}(l7:a≠kS)(jM:Hm X σ B fv H0 kf all)(hb:∀(u:Aa) (s:Ab) (Qb:ForInStep PUnit->Ab->Prop),wpAny (model X.prog X.w) B (call fv [u]) (λk s'=>wpAny (model X.prog X.w) B (Builtin.List.listUpdate (.ref kS) (·.push k)) (λ_ pK=>Qb (.yield ⟨⟩) pK) E s') (λ_ _=>False) s->wpAny (model X.prog X.w) B (body u ⟨⟩) Qb E s) :
  ∀(xs:af) (us:aj) (ks:af) (kvs:aj) (kk:ag) (H:Hp) (s:Ab) (c:Nat),Vals xs us->(∀x∈xs,x∈all)->Inv X pins σ H s->aa H0 H->dh X pins H a->dh X pins H kS->s.heap.get? a\seqObj "list" #[] e1->s.heap.get? kS\seqObj "list" kvs.toArray c->
   Vals ks kvs->ks=kk.map V.str->kvs.length+us.length<64->
   (∀H' s' fD c',Inv X pins σ H' s'->aa H0 H'->dh X pins H' a->dh X pins H' kS->s'.heap.get? a\seqObj "list" #[] e1->s'.heap.get? kS\seqObj "list" fD.toArray c'->fD.length=kvs.length+us.length->(∃i6,Vals i6 fD/\i6=(kk++xs.map kf).map V.str)->Q ⟨⟩ s')->
   wpAny (model X.prog X.w) B (forIn us PUnit.unit body) Q E s:=by
 intro xs
 induction xs with
 |nil=>
  intro us ks kvs kk H s c rv _ I sm fa fk ha hk r t _ q;cases rv;rw[u4];exact aE (q H s kvs c I sm fa fk ha hk Y0 #[ks,r,by simpa using t])
 |cons x xs ih=>
  intro us ks kvs kk H s c rv hx I sm fa fk ha hk r t hz q
  obtain⟨u,us,rfl,ru,rr⟩:∃u O8,us=u::O8/\RelV x u/\Vals xs O8:=by
   cases rv with
   |cons h t=>exact#[_,_,U,h,t]
  rw[wH];rw[iR] at hz;apply ae (hb u s _ ?_)
  have hf:∀b∈[a,kS],dh X pins H b:=λb hb=>by
   rcases bY.mp hb with rfl|hb
   ·exact fa
   obtain rfl:b=kS:=⇑hb
   exact fk
  let I1:=I.pinned (fp:=[a,kS]) hf (λb hb=>by
   rcases bY.mp hb with rfl|hb
   ·exact#[_,ha,λv z=>by cases z]
   obtain rfl:b=kS:=⇑hb
   exact#[_,hk,λv z=>by cases z])
  apply wpAny_mono (jM _ H s x u I1 sm (hx x gF) ru) (λk s1 ⟨v,H1,J,rv,VT,ev⟩=>?_) λ_ _ z=>z
  have pa:(a,seqObj "list" #[] e1)∈wF [a,kS] s.heap:=by
   unfold wF;exact yd.mpr #[a,by simp,by rw[ha];rfl]
  have pk:(kS,seqObj "list" kvs.toArray c)∈wF [a,kS] s.heap:=by
   unfold wF;exact yd.mpr #[kS,by simp,by rw[hk];rfl]
  let#[BF,WX,_]:=J.pin _ (kL _ (kL _ pa));let#[GY,WU,_]:=J.pin _ (kL _ (kL _ pk));have BF:s1.heap.get? a\seqObj "list" #[] e1:=BF;have GY:s1.heap.get? kS\seqObj "list" kvs.toArray c:=GY;let J0:=J.eM;let fa1:=fa.at (H':=H1) WX;let RU:=fk.at (H':=H1) WU;have GG:kvs.length<64:=by omega
  apply listUpdate_at GY U ?_ (by rw[dc,cq];omega) (iQ (Nat.le_of_eq (Array.size_push ..)) (by rw[dc,cq];omega));have iU:∀b o,b∉[kS]->s1.heap.get? b\o->(s1.heap.update kS (Obj.mapSeq (·.push k))).get? b\o:=λb o hb e=>(uL _ _ (λz=>hb (by simp[z]))).trans e;have ea:kvs.toArray.push k=(kvs++[k]).toArray:=by simp
  obtain⟨c2,jq⟩:∃c2,(s1.heap.update kS (Obj.mapSeq (·.push k))).get? kS\seqObj "list" (kvs++[k]).toArray c2:=#[_,by rw[<- ea];exact get?_update_seq GY (·.push k)]
  have I2:Inv X pins σ H1 { s1 with heap:=s1.heap.update kS (Obj.mapSeq (·.push k)) }:=J0.fN (t':=s1.toks) (fp:=[kS]) iU (λb hb=>by
   obtain rfl:b=kS:=⇑hb
   exact RU)
  subst ev;apply ih us (ks++[.str (kf x)]) (kvs++[k]) (kk++[kf x]) H1 _ c2 rr (λy hy=>hx y (fX _ hy)) I2 (sm.trans VT) fa1 RU ?_ jq (r.append (.cons rv .nil)) ?_ (by rw[d4,jU];omega) λH' s' fD c' a1 a2 a3 a4 a5 a6 a7 a8=>?_
  ·exact iU a _ ⇑l7 BF
  ·rw[eg,<- t];rfl
  apply q H' s' fD c' a1 a2 a3 a4 a5 a6 (by rw[a7,d4,jU,iR];omega) ?_;let#[i6,b1,b2]:=a8;exact#[i6,b1,by simpa using b2]
end
section
variable{X:Cx}{pins:List (Addr × Obj)}{σ:St}{H:Hp}{s:Ab}{B:Ag}
theorem fv_{P:PySem.Fin->Ab->Prop}(I:Inv X pins σ H s)(fa:dh X pins H a)(ho:s.heap.get? a\seqObj "list" us.toArray n)(r:Vals xs us)(cY:us.length<64)(jM:Hm X σ B (.ref f) H kf xs)(h:∀zs H' s',Inv X pins σ (upd H' a (.lst zs)) s'->aa H H'->H' a=none->zs.Perm xs->zs.map kf=iN (xs.map kf)->P (.done (.ret .none)) s'):wpAny (model X.prog X.w) B (ksk_tree a (.ref f) false) P E s:=by
 let lx:=r.length;obtain⟨e1,o5⟩:∃e1,(s.heap.update a (Obj.mapSeq λ_=>(#[]:Array Aa))).get? a\seqObj "list" #[] e1:=#[_,get?_update_seq ho λ_=>#[]];have iU:∀b o,b∉[a]->s.heap.get? b\o->(s.heap.update a (Obj.mapSeq λ_=>(#[]:Array Aa))).get? b\o:=λb o hb e=>(uL _ _ (λz=>hb (by simp[z]))).trans e
 have I1:Inv X pins σ H { s with heap:=s.heap.update a (Obj.mapSeq λ_=>(#[]:Array Aa)) }:=I.fN (t':=s.toks) (fp:=[a]) iU (λb hb=>by
  obtain rfl:b=a:=⇑hb
  exact fa)
 unfold ksk_tree;apply ae (listItems_at ho U ?_);apply ae (listUpdate_at ho U ?_ (by rw[dc,cq];omega) (gO _));apply ae (seqEpoch_at o5 U ?_);apply ae (wpAny_newTuple ?_ (by show us.length<=_;rw[cq];omega));apply ae (wpAny_newList ?_ (gO _));apply iK ?_;have I2:Inv X pins σ H { s with heap:=(s.heap.update a (Obj.mapSeq λ_=>(#[]:Array Aa))).push (seqObj "tuple" us.toArray 0) }:=I1.kept (t':=s.toks) λb u e=>aQ _ e;have I3:Inv X pins σ H { s with heap:=((s.heap.update a (Obj.mapSeq λ_=>(#[]:Array Aa))).push (seqObj "tuple" us.toArray 0)).push (seqObj "list" #[] 0) }:=I2.kept (t':=s.toks) λb u e=>aQ _ e;have fk:dh X pins H ((s.heap.update a (Obj.mapSeq λ_=>(#[]:Array Aa))).push (seqObj "tuple" us.toArray 0)).objs.size:=I2.iH (bh _) (I2.aA.fresh (bh _));have jJ:(((s.heap.update a (Obj.mapSeq λ_=>(#[]:Array Aa))).push (seqObj "tuple" us.toArray 0)).push (seqObj "list" #[] 0)).get? a\seqObj "list" #[] e1:=aQ _ (aQ _ o5);have Ll:(((s.heap.update a (Obj.mapSeq λ_=>(#[]:Array Aa))).push (seqObj "tuple" us.toArray 0)).push (seqObj "list" #[] 0)).get? ((s.heap.update a (Obj.mapSeq λ_=>(#[]:Array Aa))).push (seqObj "tuple" us.toArray 0)).objs.size\seqObj "list" #[] 0:=cJ _ U;have l7:a≠((s.heap.update a (Obj.mapSeq λ_=>(#[]:Array Aa))).push (seqObj "tuple" us.toArray 0)).objs.size:=dD (bx (aQ (seqObj "tuple" us.toArray 0) o5));show wpAny (model X.prog X.w) B (ksk_rest a (.ref f) false us.toArray e1 (.ref ((s.heap.update a (Obj.mapSeq λ_=>(#[]:Array Aa))).push (seqObj "tuple" us.toArray 0)).objs.size)) P E { s with heap:=((s.heap.update a (Obj.mapSeq λ_=>(#[]:Array Aa))).push (seqObj "tuple" us.toArray 0)).push (seqObj "list" #[] 0) };generalize ((s.heap.update a (Obj.mapSeq λ_=>(#[]:Array Aa))).push (seqObj "tuple" us.toArray 0)).objs.size=kS at fk Ll l7 ⊢;generalize ((s.heap.update a (Obj.mapSeq λ_=>(#[]:Array Aa))).push (seqObj "tuple" us.toArray 0)).push (seqObj "list" #[] 0)=h3 at I3 jJ Ll ⊢;clear I2 I1 iU;unfold ksk_rest;apply ae (wpAny_rule ?_);rw[List.forIn_toArray];apply ae (Zz (pins:=pins) (E:=E) (e1:=e1) l7 jM (λu s4 Qb hq=>?_) xs us [] [] [] H _ 0 r (λx hx=>hx) I3 (aa.refl H) fa fk jJ Ll .nil U ⇑cY λH5 s5 kvs c5 I5 VH R_ fk5 EL QY lk ⟨ks,rk,tk⟩=>?_)
 ·apply ae (wpAny_attempt (wpAny_mono hq (λk pK hk=>?_) λ_ _ hF=>hF.elim));exact ae (wpAny_mono hk (λ_ s6 h6=>aE h6) λ_ _ z=>z)
 rw[List.nil_append] at tk;rw[List.length_nil,Nat.zero_add] at lk;apply ae (listItems_at QY U ?_)
 have tail:∀(p:Array Nat) (st:SortSt),Good xs.length p->Up (λi j=>bI ((xs.map λx=>bO (kf x)).getD i []) ((xs.map λx=>bO (kf x)).getD j [])) p xs.length->(arrOf st).map (·.2)=(mz p us).toArray->failedOf st=none->wpAny (model X.prog X.w) B (ksk_tail a false e1 (.ref kS) st) P E s5:=λp st g up K8 Lx=>by
  have gu:Good us.length p:=by rw[<- lx];exact g
  have hz:(mz p us).length=us.length:=by
   unfold mz;rw[aq,t7];exact gu.size
  let s1:=Heap.SameBut.update s5.heap kS (Obj.mapSeq λ_=>(#[]:Array Aa));have vU:(s5.heap.update kS (Obj.mapSeq λ_=>(#[]:Array Aa))).get? a\seqObj "list" #[] e1:=(uL _ _ (bN l7)).trans EL;unfold ksk_tail;dsimp only;rw[K8];apply ae (listUpdate_at QY U ?_ (by rw[dc,cq];omega) (gO _));apply ae (wpAny_letGo ?_);apply ae (seqEpoch_at vU U ?_);simp only[qi,if_false];apply ae (listUpdate_at vU U ?_ (gO _) (by rw[dc,hz,cq];omega));rw[Lx];simp only[bne_self_eq_false,qi,if_false]
  have zl:(p.toList.map λi=>xs.getD i .non).length<=sizeLine:=by
   rw[aq,t7,g.size,cq];omega
  let#[pz,ek]:=Yi (kf:=λx=>bO (kf x)) (zs:=p.toList.map λi=>xs.getD i .non) g up U;let ek:=_X ek;apply aE (h _ H5 _ (I5.yy (t':=s5.toks) (fp:=[a,kS]) (T:=a) (λb o hb e=>?_) (λb hb=>?_) Y0 zl (MH r gu) (get?_update_seq vU _)) VH R_.1 pz ek)
  ·have n1:b≠a:=λz=>hb (by simp[z]);have n2:b≠kS:=λz=>hb (by simp[z]);exact (uL _ _ (bN n1)).trans ((uL _ _ (bN n2)).trans e)
  rcases bY.mp hb with rfl|hb
  ·exact R_
  obtain rfl:b=kS:=⇑hb
  exact fk5
 unfold ksk_end;dsimp only;simp only[qi,if_false];by_cases h2:us.toArray.size<2
 ·rw[aI h2,aI h2];apply ae (aE ?_);rw[StateT.run_pure];apply ae (aE (tail (List.range xs.length).toArray _ (Array.Perm.refl _) (λi j n5 hj=>?_) ?_ U))
  ·have e:i=j:=by
    simp only[dc] at h2;omega
   subst e;exact Ni _
  show ((kvs.toArray.zip us.toArray).map λx:Keyed=>x.2)=_;rw[show xs.length=us.length from lx,TM];apply Array.ext' ?_;simp[List.map_snd_zip,lk]
 rw[aC h2,aC h2]
 have gS:2<=us.length:=by
  simp only[dc] at h2;omega
 let#[κ,hk,hc]:=fA_ (prog:=X.prog) (w:=X.w) (A:=B) (s:=s5) (kf:=kf) (xs:=xs) (RX (tk▸rk)) Z2;apply ae (wpAny_mono (hk (λk s'=>k=κ/\s'=s5) #[U,U]) (λk s7 Er=>?_) λ_ _ x=>x.elim);let#[rfl,rfl]:=Er;have O:Ord (λi j=>bI ((xs.map λx=>bO (kf x)).getD i []) ((xs.map λx=>bO (kf x)).getD j [])):=MQ _
 apply ae (wpAny_mono (kat_run (ks:=kvs) (vs:=us) (G:=λp s'=>s'=s7/\Good us.length p/\Up (λi j=>bI ((xs.map λx=>bO (kf x)).getD i []) ((xs.map λx=>bO (kf x)).getD j [])) p us.length)
  (Q:=λd_ s'=>∃p:Array Nat,arrOf d_=p.map (kas_item (kvs.toArray.zip us.toArray))/\failedOf d_=none/\s'=s7/\Good us.length p/\Up (λi j=>bI ((xs.map λx=>bO (kf x)).getD i []) ((xs.map λx=>bO (kf x)).getD j [])) p us.length)
  lk gS cY (λp d_ s' _ q1 q2 q3=>#[p,q1,q2,q3]) (Ok.wp (n:=us.length) (λi j C hi hj=>hc i j C Z2 Z2) (λp q=>#[U,q]) (Rw O Z2))) ?_ λ_ _ x=>x)
 rintro⟨⟨⟩,d_⟩ s' ⟨p,LK,hf,hs',g,u⟩;subst hs';rw[<- lx] at g u;exact tail p d_ g u (kat_snds lk LK) hf
end
section
variable{X:Cx}{pins:List (Addr × Obj)}{σ:St}{H:Hp}{s:Ab}
theorem ZQ{qual:Str}{params:Arguments}{body:PySem.Expr}{scope:Scope}{p:Str}{sp:af->af->Hp->VK->XK->Prop}{cl:List (Str × Addr)}{is:List Nat}(F:j1 X.prog X.w X.K X.mg X.base k qual params body scope [p] dG sp)(hr:aO k B)(hB:B.frames=X.A.frames)(hf:H0 f\jE f qual params body scope cl c')(hc:H0 c'\AH c' qual)(l9:∀q∈cl,X.env.cells.lookup q.1\q.2)(vT:∀x∈dG,∃c,cl.lookup x\c)(Et:∀x∈dG,X.env.scope.names.lookup x\.cell)(hN:is.map (λi=>X.N[i]?)=dG.map some)(BB:is.map (λi=>σ[i]?)=gs.map (λv=>some (some v)))(kj:∀H x,aa H0 H->x∈xs->sp [x] gs H (λv H'=>aa H H'/\v=.str (kf x)) (λ_ _ _=>False)):Hm X σ B (.ref f) H0 kf xs:=by
 intro pins H s x u I sm hx ru;let#[#[pm,ku,ef],_]:=I.aA f _ (sm _ _ hf);let#[#[oc,FX,t,ec,d1,d2],_]:=I.aA c' _ (sm _ _ hc);let#[hg,C,fc]:=I.tM l9 vT Et hN BB;let e0:=I.Az;apply wpAny_call (codeAny_mono (F B X.stack s H f c' pm ku cl [u] [x] gs _ _ hr #[hB.trans e0.frames,e0.mod,e0.bs,e0.tS,e0.fU,e0.vX,e0.aA,e0.bare] ef #[c',oc,FX,t,U,ec,d1,d2] U hg (.cons ru .nil) C fc (kj H x sm hx)) λr s' hq=>?_);cases r with
 |error e=>
  let#[a,cls,H',B,a0,dd,rfl,os,bare,un,aA,fl,i,hE]:=hq
 |ok fl=>
  cases fl with
  |ret u=>exact I.after hq
  |next=>exact False.elim hq
  |brk=>exact False.elim hq
  |cont=>exact False.elim hq
theorem qO{x:Aa}{Q:VK}(I:Inv X pins σ H s)(cY:xs.length<64)(jM:Hm X σ X.A.in1.in1 (.ref f) H kf xs)(md:∀R:aj->Ab->Prop,(∀vs s1,Inv X pins σ H s1->Vals xs vs->R vs s1)->wpAny (model X.prog X.w) X.A.in1 (collect x) R E s)(q:∀l zs H',aa H H'->H' l=none->H l=none->zs.Perm xs->zs.map kf=iN (xs.map kf)->Q (.ref l) (upd H' l (.lst zs))):wpAny (model X.prog X.w) X.A (call (.builtin "sorted") [x] [(Str.ofString "key",.ref f)]) (EP X pins σ Q) E s:=by
 apply call_function_entry_kw kind_sorted plain_sorted entry_sorted (ksk_s1 _ _) ?_;unfold Builtin.«sorted»;apply ae (m:=checkCount "sorted" 1 1 _) (aE ?_);apply ae (md _ λvs s1 I1 r=>?_);let lv:=r.length;apply ae (wpAny_newList ?_ (by rw[cq];omega));have GS:(s1.heap.push (seqObj "list" vs.toArray 0)).get? s1.heap.objs.size\seqObj "list" vs.toArray 0:=cJ _ U;have I2:Inv X pins σ H { s1 with heap:=s1.heap.push (seqObj "list" vs.toArray 0) }:=I1.kept (t':=s1.toks) λb u e=>aQ _ e;have fa:dh X pins H s1.heap.objs.size:=I1.iH (bh _) (I1.aA.fresh (bh _));have nl:H s1.heap.objs.size=none:=I1.aA.fresh (bh _);apply ae (iK (wpAny_call_entry_kw slot_list_sort #[_,GS,U] entry_list_sort ?body (ksk_l1 _ _)))
 case body=>
  show wpAny (model X.prog X.w) X.A.in1.in1 (Builtin.«list.sort» #[[.ref s1.heap.objs.size],[(Str.ofString "key",.ref f)]]) _ _ _;rw[ksk_t1];apply fv_ (s:={ s1 with heap:=s1.heap.push (seqObj "list" vs.toArray 0) }) I2 fa GS r Z2 jM λzs H' s' I' sm na pz ek=>?_;exact#[_,U,aE #[_,U,.ref _,_,I',U,q _ zs H' sm na nl pz ek]]
end
inductive Sr (K:ai) (qual:Str) (params:Arguments) (body:PySem.Expr) (scope:Scope) (cl:List (Str × Addr)) (is:List Nat) (sp:af->af->Hp->VK->XK->Prop) (σ:St) (H:Hp) (Q:VK) (vs:af) (ws:af) (H2:Hp):Prop
 |mk:∀x f c' xs kf gs,vs=[x]->ws=[.ref f]->H2 f\jE f qual params body scope cl c'->H2 c'\AH c' qual->ON K H2 x xs->xs.length<64->is.map (λi=>σ[i]?)=gs.map (λv=>some (some v))->(∀H x,aa H2 H->x∈xs->sp [x] gs H (λv H'=>aa H H'/\v=.str (kf x)) (λ_ _ _=>False))->(∀l zs H',aa H2 H'->H' l=none->H2 l=none->zs.Perm xs->zs.map kf=iN (xs.map kf)->Q (.ref l) (upd H' l (.lst zs)))->Sr K qual params body scope cl is sp σ H Q vs ws H2
def vj(K:ai)(qual:Str)(params:Arguments)(body:PySem.Expr)(scope:Scope)(cl:List (Str × Addr))(is:List Nat)(sp:af->af->Hp->VK->XK->Prop)(t tk:TA):TE:=λσ H Q=>t σ H λvs H1=>tk σ H1 λws H2=>Sr K qual params body scope cl is sp σ H Q vs ws H2
variable{qual:Str}
theorem h1_{e:PySem.Expr}{t tk:TA}{p kp sG:Pos}{params:Arguments}{body:PySem.Expr}{scope:Scope}{px:Str}{sp:af->af->Hp->VK->XK->Prop}{cl:List (Str × Addr)}{is:List Nat}(hc:X.calm=true)(hg:Gl X "sorted")(hm:X.mg "sorted"=none)(ha:PA X [e] t)(_Q:PK X [#[some "key",.Lambda params body scope sG,kp]] tk)(F:j1 X.prog X.w X.K X.mg X.base k qual params body scope [px] dG sp)(hr:aO (k+2) X.A)(l9:∀q∈cl,X.env.cells.lookup q.1\q.2)(vT:∀x∈dG,∃c,cl.lookup x\c)(Et:∀x∈dG,X.env.scope.names.lookup x\.cell)(hN:is.map (λi=>X.N[i]?)=dG.map some)(he:starEach [e] X.env=[(false,eval e X.env)]:=by rfl)(Am:(backToKw pos (keywordEach [#[some "key",.Lambda params body scope sG,kp]] X.env)).all (·.1.isSome)=true:=by rfl)(Er:(backToKw pos (keywordEach [#[some "key",.Lambda params body scope sG,kp]] X.env)).filterMap (·.1)=[Str.ofString "key"]:=by rfl)(_R:(backToKw pos (keywordEach [#[some "key",.Lambda params body scope sG,kp]] X.env)).any (·.1.isNone)=false:=by rfl):PE X (.Call (.Name "sorted" p) [e] [#[some "key",.Lambda params body scope sG,kp]] pos) (vj X.K qual params body scope cl is sp t tk):=by
 intro pins s σ H Q I h;apply wpAny_Call_Name_kw (uT I hg hm IU ?_);let hA:=ha pos pins s σ H _ I h;rw[he] at hA ⊢;apply callWith_builtin_kwB (first:=[]) U _R (evalArgs_kwB Am (aN hA λus s1 ⟨vs,H1,I1,r1,q1⟩=>?_));apply aN (_Q pos pins s1 σ H1 _ I1 q1) λws s2 ⟨zs,H2,I2,rz,x,f,c',xs,kf,gs,ev,ez,hf,iG,src,cY,BB,kj,q⟩=>?_;subst ev ez;let#[u,rfl,ru]:=Vals.one r1;let#[fv,rfl,rf]:=Vals.one rz;cases rf;rw[Er];have hd:X.A.in1.handled=none:=I.ok.hd hc;apply qO I2 cY (ZQ F hr.in1.in1 U hf iG l9 vT Et hN BB kj) (λR hR=>?_) q;rcases src with⟨l,rfl,hl⟩|⟨d,kvs,rfl,hd2,rfl⟩
 ·cases ru;exact Zu I2 hl Z2 hR
 cases ru;exact QE hd I2 (.inl hd2) hR
structure wK (K:ai) (x qual:Str) (st:Stmt) (f c:Addr) (fd:Ae):Prop where
 ex:∃(oc:Aa) (od:Option Addr) (kV doc pm:Aa) (an:Option Addr) (ct:Aa) (kh:Array (Option Aa)),
  fd=PySem.W.fnOf x qual (gU st) (gc st) (a9 st) .none kV doc pm an (.ref c) ct/\K.lookup f=some #[oc,od,.func fd,kh]/\PySem.W.codeIn K (.ref c) qual=true
 kp:PySem.W.keepIn K (.ref f)=true
theorem wK.ok{K:ai}{st:Stmt}{sp:Sp}(F:wK K x qual st f c fd)(S:bJ N ps (a9 st))(len:∀vs H Q E,sp vs H Q E->vs.length=ps.length)(fP:∀(A:Ag) (outer:List Env) (s:Ab) (H:Hp) (vs:af) (Q:VK) (E:XK),aO k (A.deeper (envOfC qual (a9 st) s.heap.objs.size f (.ref c)))->sp vs H Q E->
   ∃t,jZ (i9 a_ P w K mg base N qual (a9 st) f (.ref c) A outer s H E).xn (gc st) t/\t { nx:=λ_ H'=>Q .non H',rt:=Q } (start N vs) H):!ao a_ (k+1) f fd ps sp:=by
 let#[oc,od,kV,doc,pm,an,ct,kh,rfl,lk,iG]:=F.ex;apply Qf lk iG S len λA outer s H vs Q E hr kj=>?_;let#[t,h,q]:=fP A outer s H vs Q E hr kj;exact#[t,h.xn,q]
end L2
namespace Ev
open PySem L2
def NT(H G:Hp):Prop:=∀b o,H b\o->(∀vs,o≠.tbl vs)->G b\o
variable{G:Hp}
theorem NT.of{H:Hp}(s:aa H G):NT H G:=λb o e _=>s b o e
theorem NT.refl(H:Hp):NT H H:=NT.of (aa.refl H)
theorem NT.trans{H J:Hp}(s:NT H G)(t:NT G J):NT H J:=λb o e n=>t b o (s b o e n) n
variable{T:Addr}
theorem aV.nt{H:Hp}{vs:Array Aa}(b:aV T H G)(hT:H T\.tbl vs):NT H G:=λc o e n=>b c o e (λz=>by
 rw[z,hT] at e;exact n _ (cX e).symm)
theorem NT.tup{H G:Hp}(s:NT H G){a:Addr}{xs:af}(h:H a\.tup xs):G a\.tup xs:=s _ _ h nofun
theorem NT.lst{H G:Hp}(s:NT H G){a:Addr}{xs:af}(h:H a\.lst xs):G a\.lst xs:=s _ _ h nofun
theorem NT.dK{H G:Hp}(s:NT H G){a:Addr}{xs:List (Key × V)}(h:H a\.dK xs):G a\.dK xs:=s _ _ h nofun
variable{qual:Str}
theorem Ye{H:Hp}{q':Str}{a a':Arguments}{b b':Expr}{sc F_:Scope}{ps:Pos}{cl:List (Str × Addr)}{σ:St}{Q:VK}(h:mE H T qual)(e1:q'=qual)(e2:a'=a)(e3:b'=b)(e4:F_=sc)(q:∀f c' H1,aV T H H1->mE H1 T qual->H1 f\jE f qual a b sc cl c'->H1 c'\AH c' qual->Q (.ref f) H1):CJ T q' a' b' F_ ps cl σ H Q:=by
 subst e1 e2 e3 e4;let#[es,h,vS]:=h;apply#[_,h,Sh es,?_];rcases T6 ps es with e|⟨e,he,q1⟩
 ·apply .inl #[e,λc' f n1 n2 n3=>?_];have WZ:T≠c':=bz h n1;have WY:T≠f:=bz h n2
  have B:aV T H (upd (upd (upd H T (.tbl ((mB es).toArray++(List.toArray [rawInt ps.line,rawInt ps.col,.ref c'])))) c' (AH c' q')) f (jE f q' a' b' F_ cl c')):=λb o e n=>by
   rw[aw (bz e n2),aw (bz e n1),aw n];exact e
  apply q f c' _ B #[es++[(ps,c')],?_,λx hx=>?_] az ?_
  ·rw[aw WY,aw WZ,az,S4];simp
  ·rcases dI.mp hx with hx|hx
   ·exact B _ _ (vS x hx) (λz=>by have:=vS x hx;rw[z,h] at this;cases this)
   rw[eJ.mp hx];show upd _ f _ c'=_;rw[aw n3,az]
  rw[aw n3,az]
 apply .inr #[e.2,q1,λf hf=>?_];let s:=aa.new (o:=jE f q' a' b' F_ cl e.2) hf;exact q f e.2 _ (aV.of s) #[es,s _ _ h,λx hx=>s _ _ (vS x hx)] az (s _ _ (vS e he))
theorem Ze{H:Hp}(h:mE H T qual):∃vs,H T\.tbl vs:=by
 let#[es,e,_]:=h;exact#[_,e]
def vM:Expr->Scope
 |.Lambda _ _ s _=>s
 |_=>a9 fg
def KG:Expr->Expr
 |.Lambda _ b _ _=>b
 |e=>e
def KH:Expr->Arguments
 |.Lambda a _ _ _=>a
 |_=>gU fg
def Xv:Expr->Expr
 |.Call _ _ (k::_) _=>k.value
 |e=>e
def zp(l:List Stmt)(i:Nat):Stmt:=l.getD i (.Pass #[0,0,0,0])
variable{ps:aP}
theorem XQ(nd:(ps.map (·.1)).Nodup){a b:Pc}(ha:a∈ps)(hb:b∈ps)(e:a.1=b.1):a=b:=by
 let#[i,hi,rfl]:=ia ha;let#[j,hj,rfl]:=ia hb;have:i=j:=(List.getElem?_inj (l:=ps.map (·.1)) (by rw[aq];exact hi) nd).mp (by rw[dC,dC,aY hi,aY hj,Option.map_some,Option.map_some,e]);subst this;rfl
theorem XY{ts:Xb}{ss qs:aP}(Q:Qs ps qs)(nd:(ps.map (·.1)).Nodup)(p:ss.Perm ps)(e:ss.map (·.1)=iN (ps.map (·.1)))(dr:∀q∈ps,j9 ts q):eS ts ss qs:=by
 have en:qs.map (·.1)=ss.map (·.1):=by rw[Q.zu,e]
 have le:qs.length=ss.length:=by rw[<- aq (as:=qs) (f:=λq:Pc=>q.1),en,aq]
 apply#[?_,λq hq=>dr q (p.mem_iff.mp hq),?_]
 ·apply List.ext_getElem (by rw[aq,le]) ?_;intro j h1 h2;rw[List.getElem_map];have hs:j<ss.length:=by omega
  let#[x,hx,ex]:=Q.mem qs[j] (kJ h1);have n1:(qs.map (·.1))[j]? = some qs[j].1:=by rw[dC,aY h1];rfl
  have n2:(ss.map (·.1))[j]? = some (ss[j]).1:=by rw[dC,aY hs];rfl
  rw[en,n2] at n1;have n3:(ss[j]).1=qs[j].1:=cX n1;have n4:qs[j].1=x.1:=by rw[ex];rfl
  rw[ex,XQ nd hx (p.mem_iff.mp (kJ hs)) (n4.symm.trans n3.symm)]
 exact (p.map (·.1)).nodup_iff.mpr nd
theorem eE_{α β:Type}{F:α->β->Prop}{zs ys:List α}(p:zs.Perm ys):∀{ps:List β},Paired F ys ps->∃ss,ss.Perm ps/\Paired F zs ss:=by
 induction p with
 |nil=>exact λ{ps} h=>#[ps,.refl _,h]
 |cons x _ ih=>
  intro ps h;cases h with
  |cons h t=>
   let#[ss,q,r]:=ih t;exact#[_,q.cons _,.cons h r]
 |swap x y l=>
  intro ps h;cases h with
  |cons h t=>
   cases t with
   |cons h2 t=>exact#[_,.swap _ _ _,.cons h2 (.cons h t)]
 |trans _ _ ZK ZJ=>
  intro ps h;let#[ss,q,r]:=ZJ h;let#[s2,q2,r2]:=ZK r;exact#[s2,q2.trans q,r2]
def Kl(H:Hp):V->Str
 |.ref t=>match H t with
  |some (.tup (.str n::_))=>n
  |_=>⟨#[]⟩
 |_=>⟨#[]⟩
theorem Mr{K:ai}{H:Hp}:∀{ys:af} {ps:aP},kC K H ys ps->ys.map (Kl H)=ps.map (·.1)
 |_,_,.nil=>rfl
 |_,_,.cons (b:=p) ⟨t,v,e,ht,_⟩ r=>by
  rw[eI,eI,Mr (K:=K) r,e]
  have:Kl H (.ref t)=p.1:=by
   show (match H t with|some (.tup (.str n::_))=>n|_=>(⟨#[]⟩:Str))=p.1;rw[ht]
  rw[this]
def EV:Stmt->List Stmt
 |.For _ _ b _ _=>b
 |_=>[]
def OC:Stmt->Expr
 |.Assign _ e _=>e
 |_=>.Constant .none 0 #[0,0,0,0]
def oY:Expr:=Xv (OC (zp (EV (zp (gc fg) 0)) 5))
abbrev qL:Str:="law.<locals>.<lambda>"
theorem EU:∀y∈(vM oY).names,y.2=.free->y.1∈([]:ag):=by decide +kernel
theorem yZ:Ij [wm] [] (vM oY):=#[by decide +kernel,U,U,U,by decide +kernel,by decide +kernel,λx h=>EU (x,.free) (qd h) U,by decide +kernel]
inductive nh (vs:af) (gs:af) (H:Hp) (Q:VK):Prop
 |mk:∀(t:Addr) (n:Str) (r:af),vs=[.ref t]->gs=[]->H t\.tup (.str n::r)->Q (.str n) H->nh vs gs H Q
def yP:af->af->Hp->VK->XK->Prop:=λvs gs H Q _=>nh vs gs H Q
theorem NF{L f:Addr}{cd:Aa}:closureFor (vM oY) (PyProof.Rows.envOfC "law" (a9 fg) L f cd)=pure []:=by rfl
variable{P:Ad}{w:Af}{K:ai}{mg:Str->Option Aa}{base:Heap}
theorem YZ:!j1 1 qL (KH oY) (KG oY) (vM oY) [wm] [] yP:=by
 apply DL yZ (λpm c' ku cl us hl=>?_) (λA outer s H f cd cl vs gs Q E hr h hp=>?_)
 ·match us,hl with
  |[_],_=>rfl
 let#[t,n,r,rfl,rfl,ht,k]:=h;apply#[_,bw cU (pv 0) ay,?_];exact#[_,U,t,_,0,_,U,U,.of ht,L2.dR (j:=0) U,k]
end Ev
namespace L2
open PySem PySem.Spec PyProof.Rows PySem.W yo fI Ev
end L2
namespace Ev
open PySem L2
variable{R:Addr->Hp->Prop}
variable{ps:aP}
section
variable{K:ai}{CG CW:Addr}
theorem XJ{H:Hp}{E:XK}{lh lt:Addr}{yh yt:af}{hs:Xa}{ts:Xb}(G:Good hs ts)(h1:H lh\.lst yh)(h2:bX K H yh (hs.map kH))(h3:H lt\.lst yt)(h4:bX K H yt (ts.map kT))(k:∀p fp H',aa H H'->h_ K CW H' p hs ts fp->(∀b∈fp,H b=none)->R p H'):∀x dx,H x=none->H dx=none->dx≠x->Hu K CW (.ref x::([.ref lh,.ref lt]++[])) (upd (upd H dx (.own x)) x (.ins CW dx [])) (λv H2=>v=.non/\R x H2) E:=by
 intro p dx hp Ac ne;have s4:aa H (upd (upd H dx (.own p)) p (.ins CW dx [])):=(aa.new Ac).trans (aa.new (by rw[aw ne.symm];exact hp));apply#[p,dx,lh,lt,yh,yt,hs,ts,U,az,s4 _ _ h1,h2.same s4,s4 _ _ h3,h4.same s4,G,λdk H5 kp W fr=>#[U,?_]];apply k p dk H5 (λb o e=>kp b o (s4 _ _ e) (bz e hp)) W λb hb=>?_;rcases fr b hb with rfl|z
 ·exact hp
 exact s4.free z
theorem Zv{H:Hp}{E:XK}{p lp:Addr}{yp:af}{hs:Xa}{ts:Xb}{dk:av}(W:h_ K CW H p hs ts dk)(G:Good hs ts)(h1:H lp\.lst yp)(h2:kC K H yp ps)(gp:∀q∈ps,j8 ts q)(nd:(ps.map (·.1)).Nodup)(len:ps.length<64)(k:∀g qs fp H',aa H H'->gx K CG CW H' g p hs ts qs fp->Qs ps qs->(∀b∈fp,b∈dk∨H b=none)->R g H'):∀x dx,H x=none->H dx=none->dx≠x->IP K CG CW (.ref x::([.ref p,.ref lp]++[])) (upd (upd H dx (.own x)) x (.ins CG dx [])) (λv H2=>v=.non/\R x H2) E:=by
 intro g dx hg Ac ne;have s4:aa H (upd (upd H dx (.own g)) g (.ins CG dx [])):=(aa.new Ac).trans (aa.new (by rw[aw ne.symm];exact hg))
 have gw:g∉dk:=λm=>by
  let#[o,e]:=W.has m;rw[hg] at e;cases e
 apply#[g,dx,p,lp,yp,ps,hs,ts,dk,U,az,W.same s4,gw,G,s4 _ _ h1,Paired.aX h2 λ_ _ q=>q.same s4,gp,nd,len,λqs fp H5 kp GA Qq fr=>#[U,?_]];apply k g qs fp H5 (λb o e=>kp b o (s4 _ _ e) (bz e hg)) GA Qq λb hb=>?_;rcases fr b hb with rfl|z|z
 ·exact .inr hg
 ·exact .inl z
 exact .inr (s4.free z)
end
variable{σ:St}{k:af->Hp->Prop}
theorem Ko{H:Hp}(h:k [] H):oJ σ H k:=h
theorem E_{te:TE}{t:TA}{H:Hp}(h:te σ H λx H1=>t σ H1 λxs H2=>k (x::xs) H2):ju te t σ H k:=h
theorem My:∀{LL:List (List ak)},(∀(j:Nat) L,j+1<LL.length->LL[j]? = some L->L≠[])->LL.length<=LL.flatten.length+1
 |[],_=>by simp
 |[L],_=>by simp
 |L::L2::r,h=>by
  let ih:=My (LL:=L2::r) λj M hj hM=>h (j+1) M ⇑hj ⇑hM;have h0:L≠[]:=h 0 L Y0 U;have:=List.length_pos_iff.mpr h0;rw[List.flatten_cons,d4];rw[iR (a:=L)];omega
variable{T:Addr}{xs:af}
theorem mE.Ot{H G:Hp}{l:Addr}{q:Str}(h:mE H T q)(b:aV l H G)(hl:H l\.lst xs):mE G T q:=by
 let#[es,e,c]:=h;exact#[es,b _ _ e (bS e hl nofun),λx hx=>b _ _ (c x hx) (bS (c x hx) hl nofun)]
structure Dr (K:ai) (H:Hp) (l lh lt lp d:Addr) (hs:Xa) (ts:Xb) (ps:aP) (f:bF):Prop where
 st:cK H l
 hh:∃yh,H lh\.lst yh/\bX K H yh (hs.map kH)
 ht:∃zs,H lt\.lst zs/\bX K H zs (ts.map kT)
 hp:∃yp,H lp\.lst yp/\kC K H yp ps
 hd:H d\.dK (gC (ps.map (·.1)) f)
 n1:lh≠l
 n2:lt≠l
 n3:lp≠l
variable{H':Hp}
theorem Dr.but{K:ai}{H:Hp}{l lh lt lp d:Addr}{hs:Xa}{ts:Xb}{f:bF}(h:Dr K H l lh lt lp d hs ts ps f)(b:aV l H H')(st:cK H' l):Dr K H' l lh lt lp d hs ts ps f:=by
 let#[a0,#[yh,a1,a2],#[zs,b1,b2],#[yp,c1,c2],d1,n1,n2,n3]:=h;let#[xs,e]:=a0.some;exact#[st,#[yh,b _ _ a1 n1,jg a2 b e],#[zs,b _ _ b1 n2,jg b2 b e],#[yp,b _ _ c1 n3,Paired.aX c2 λy p q=>q.but b a0],b _ _ d1 (bS d1 e nofun),n1,n2,n3]
theorem Dr.same{K:ai}{H:Hp}{l lh lt lp d:Addr}{hs:Xa}{ts:Xb}{f:bF}(h:Dr K H l lh lt lp d hs ts ps f)(s:aa H H'):Dr K H' l lh lt lp d hs ts ps f:=h.but (aV.of s) (h.st.same s)
theorem bX.nt{K:ai}{H G:Hp}{ys:af}{ks:List ax}(h:bX K H ys ks)(s:NT H G):bX K G ys ks:=Paired.aX h λy k ⟨a,z,q⟩=>#[a,z,s.tup q]
theorem cm.nt{K:ai}{H G:Hp}{v:V}{o:Option (Xb)}(h:cm K H v o)(s:NT H G):cm K G v o:=by
 cases o with
 |none=>exact h
 |some ws=>
  let#[a,ys,e,ha,t]:=h;exact#[a,ys,e,s.lst ha,bX.nt t s]
theorem Dr.nt{K:ai}{H:Hp}{l lh lt lp d:Addr}{hs:Xa}{ts:Xb}{f:bF}(h:Dr K H l lh lt lp d hs ts ps f)(s:NT H H'):Dr K H' l lh lt lp d hs ts ps f:=by
 let#[a0,#[yh,a1,a2],#[zs,b1,b2],#[yp,c1,c2],d1,n1,n2,n3]:=h;apply#[?_,#[yh,s.lst a1,bX.nt a2 s],#[zs,s.lst b1,bX.nt b2 s],#[yp,s.lst c1,Paired.aX c2 λy p ⟨t,v,e,ht,w⟩=>#[t,v,e,s.tup ht,w.nt s]],s.dK d1,n1,n2,n3];rcases a0 with⟨n,e⟩|⟨n,m,c,e⟩
 ·exact .inl #[n,s.lst e]
 exact .inr #[n,m,c,s.lst e]
theorem hV_{K:ai}{H:Hp}{a:Addr}(s:aa H H')(h:dS K H a xs):dS K H' a xs:=by
 rcases h with (h|⟨o,h⟩)|h
 ·exact .inl (.inl (s _ _ h))
 ·exact .inl (.inr #[o,s _ _ h])
 exact .inr h
theorem aV.same{l:Addr}{H H1 H2:Hp}(b:aV l H1 H2)(n:H l=none)(s:aa H H1):aa H H2:=λc o e=>b c o (s c o e) (bz e n)
variable{ps:ag}{k:Nat}{sp:Sp}
section v
theorem br.imp{x:Str}{Bp:Sp}(c:!br k x ps sp)(h:∀vs H Q E,Bp vs H Q E->sp vs H Q E):!br k x ps Bp:=by
 let#[f,fd,F,m]:=c.ex;exact#[f,fd,F.imp h,m]
end
def OM(H H':Hp)(t:Addr)(hs:Xa)(ts:Xb)(qs:aP)(s0:ak)(l:Int × Int):Prop:=Tld H' t hs ts qs s0 l/\((∃x ys,H x=none/\H' t\.tup [.str "moves",.ref x]/\H' x\.lst ys/\ys.length<=1000000)∨H' t\.tup [.str "none"])
inductive lu (K:ai) (CG CW:Addr) (vs:af) (H:Hp) (Q:VK) (E:XK):Prop
 |mk:∀(g p d lt:Addr) (hs:Xa) (ts:Xb) (qs:aP) (fp:av) (s0:ak) (ns:ag) (f:bF) (l:Int × Int) (m:Nat),vs=[.ref g,.ref d,.ref lt,.int m]->Gs K CG CW H g p hs ts qs fp->AI H d hs qs fp s0 ns f->gP H lt l->tL l->1<=m->m<1000000->(∀j z,Ds (Nx hs ts qs) s0 j z->j<1000000)->(∀t H',aa H H'->(OM H H' t hs ts qs s0 l∨(H' t\.tup [.str "more"]/\More (Nx hs ts qs) s0 m))->Q (.ref t) H')->lu K CG CW vs H Q E
theorem Mh{K:ai}{CG CW:Addr}(vs:af)(H:Hp)(Q:VK)(E:XK)(h:lu K CG CW vs H Q E):IG K CG CW vs H Q E:=by
 let#[g,p,d,lt,hs,ts,qs,fp,s0,ns,f,l,m,e,a,b,c,o,m1,m2,dl,k]:=h;exact⟨g,p,d,lt,hs,ts,qs,fp,s0,ns,f,l,m,e,a,b,c,o,m1,m2,λt x ys ms s H' sm nx h1 h2 h3 h4 h5 h6 h7=>k _ _ sm (.inl ⟨.inl ⟨x,ys,ms,s,h1,h2,h3,h4,h5,h6,h7⟩,.inl ⟨x,ys,nx,h1,h2,by have:=bH h3;have:=dl _ _ h5;omega⟩⟩),λt H' sm h1 h2=>k _ _ sm (.inl ⟨.inr ⟨h1,h2⟩,.inr h1⟩),λt H' sm h1 h2=>k _ _ sm (.inr ⟨h1,h2⟩)⟩
variable{i:Nat}
theorem Tw{α:Type}{ns:List α}(nd:ns.Nodup){n:α}(h:ns[i]? = some n):n∉ns.take i:=λhm=>by
 let#[j,hj,e]:=ia hm;rw[dJ] at hj;rw[List.getElem_take] at e;have:=(List.getElem?_inj Z2 nd).mp (show ns[j]? = ns[i]? by rw[h,aY Z2,e]);omega
def jA(l:List (ak × Nat)):List (ax × V):=l.map λe=>(sK e.1,.int (e.2:Nat))
theorem R8(l:List (ak × Nat)):(jA l).map (·.1)=(l.map (·.1)).map sK:=by
 unfold jA;rw[cz,cz];rfl
theorem RS{l:List (ak × Nat)}{z:ak}(h:z∉l.map (·.1)):aU (jA l) (sK z)=none:=ua (by
 rw[R8];intro hm;let#[x,hx,e]:=bG.mp hm;rw[<- BV e] at h;exact h hx)
theorem x_:∀{l:List (ak × Nat)} {z:ak} {n:Nat},(l.map (·.1)).Nodup->(z,n)∈l->aU (jA l) (sK z)\.int (n:Nat)
 |[],_,_,_,h=>by cases h
 |(y,m)::r,z,n,nd,h=>by
  rw[eI,iZ] at nd;rcases bY.mp h with e|h
  ·cases e;exact x6 U
  have ne:¬sK y=sK z:=λe=>by
   have:=BV e;subst this;exact nd.1 (bG.mpr #[(y,n),h,U])
  rw[show aU (jA ((y,m)::r)) (sK z)=aU (jA r) (sK z) from x8 ne];exact x_ nd.2 h
variable{fd:Ae}
section v
theorem nv:bJ ["goods","count","shut","known","k","thing"] ["goods","count","shut"] (a9 zc):=bV
inductive qH (K:ai) (CG CW:Addr) (vs:af) (H:Hp) (Q:VK) (E:XK):Prop
 |mk:∀(g p lS:Addr) (ys:af) (hs:Xa) (ts:Xb) (qs:aP) (fp:av) (l:List (ak × Nat)) (c:Nat),vs=[.ref g,.int c,.ref lS]->Gs K CG CW H g p hs ts qs fp->H lS\.lst ys->eD H ys l->Be hs qs c l->c<=100->(∀H',aa H H'->Q .non H')->qH K CG CW vs H Q E
theorem X4{f CG CW:Addr}(F:bo K "place_of_wrong_form" "place_of_wrong_form" zc f fd)(B:Bi mg)(cE:!br 3 "is_entry" oB (N1 K CG CW)):!ao a_ 4 f fd ["goods","count","shut"] (qH K CG CW):=by
 exists F.bU nv;let#[g,p,lS,ys,hs,ts,qs,fp,l,c,rfl,G,hl,sh,ok,c2,k]:=h;let hu:=fG hr;let sz:=cq;refine' #[_,au ?s1 (au ?s2 (au ?s3 (aF ?s4))),?kk]
 case s1=>exact cg (eZ (d7 (cy jT (by rfl) B.jn jr %[2,jS (v:=.ty "list") (by rfl) B.list ya U|0]))) (aF (bp (GM He ay))) cj
 case s2=>exact bu 3 nv.nd Sg
 case' s3=>refine' d0 dM U (Rl (by rfl) B.enum %[2|0]) ?g3 (au ?b1 (aF ?b2))
 case g3=>exact mr U (dN (cu 4 nv.nd) (dN (cu 5 nv.nd) jh))
 case b1=>exact cg (pf (eZ (d7 (bc cE hr %[0,1,5|0]))) (pA (qa (AS hu (bw cU (pv 5) ay) (pv 3))))).pt (aF (bp (pv 4))) cj
 case b2=>exact tT hu (pv 3) (bw cU (pv 5) ay) il U
 case s4=>exact bp tW
 let DH:=bH sh;let l3:=ok.len;apply#[_,U,_,_,_,_,U,.lst hl,U,_,U,aM ?_];intro d hd;let s1:=aa.new (o:=.dT []) hd;have e1:upd H d (.dT []) d\.dT (kn []):=az;generalize upd H d (.dT [])=H1 at s1 e1 ⊢
 let Iv:bR:=λi σ H'=>∃(v4 v5:aH),σ=[some (.ref g),some (.int c),some (.ref lS),some (.ref d),v4,v5]/\aa H H'/\H' d\.dT (kn ((l.take i).map (·.1)))
 apply#[_,U,lS,U,#[_,.of (s1 _ _ hl)],Sj (K:=K) (a:=lS) (xs:=ys) Iv #[none,none,U,s1,e1] (λi σ H' _ ⟨_,_,_,sm,_⟩=>.of (sm _ _ hl)) ?_ ?_]
 ·rintro i y σ H2 hy ⟨v4,v5,rfl,s2,e2⟩ tt zI;have hi:i<ys.length:=(bW.mp hy).1
  obtain⟨e,he,a,t,rfl,ha,ht⟩:∃e,l[i]? = some e/\∃a t,y=.ref a/\H a\.tup [.ref t,.int (e.2:Nat)]/\H t\.tup (sV e.1):=by
   have:=d8 sh i hi Z2;rw[aY hi] at hy;cases hy;exact#[l[i]' Z2,aY Z2,this]
  let em:=cZ he;let hv:=ok.v e em;let#[s3,e3]:=aD (o:=.tup [.int i,.ref a]) zI;let dZ:=s2.trans s3;let uJ:=s3 _ _ e2;show fR _ _ _ _ _ (upd H2 tt (.tup [.int i,.ref a])) _;generalize upd H2 tt (.tup [.int i,.ref a])=H3 at s3 e3 dZ uJ ⊢;apply#[tt,_,U,.of e3,U,_,_,U,_,_,U,U,?_];apply#[_,U,_,U,_,U,g,p,a,t,hs,ts,qs,fp,e.1,e.2,c,U,G.same dZ,dZ _ _ ha,dZ _ _ ht,hv.1,hv.2,c2,λH4 s4=>#[_,U,aM ?_]];let lX:=dZ.trans s4;let Hv:=s4 _ _ uJ
  have nm:e.1∉(l.take i).map (·.1):=by
   have:=Tw ok.nd (i:=i) (n:=e.1) (by rw[dC,he];rfl);rwa [<- List.map_take] at this
  have hK:H4 t\.tup ((sK e.1).map kV):=by rw[iz];exact lX _ _ ht
  apply#[_,U,a,_,0,_,U,U,.of (lX _ _ ha),L2.dR (j:=0) U,_,U,d,_,U,.t Hv hK,_,U,?_];rw[Rt,fq nm];apply aM ?_
  have lk:(kn ((l.take i).map (·.1))).length<sizeLine:=by
   unfold kn;rw[aq,aq,dJ];omega
  apply#[_,U,_,U,a,_,0,_,U,U,.of (lX _ _ ha),L2.dR (j:=0) U,d,_,U,.t Hv hK lk,?_];rw[QC nm];apply#[_,_,U,fL lX hd,?_];rw[az,mJ,he,eg];rfl
 rintro σ H2 ⟨v4,v5,rfl,s2,_⟩;exact k H2 s2
end
def Out(N:ak->ak->Prop)(l:List (ak × Nat))(z:ak)(m:Nat):Prop:=∃y,N z y/\∀k,(y,k)∈l->m+1<k
section v
theorem nB:bJ ["reach","hands","number_by_hands","most"] ud (a9 lM):=bV
inductive Nd (K:ai) (CR:Addr) (vs:af) (H:Hp) (Q:VK) (E:XK):Prop
 |mk:∀(r dx t x a n nd:Addr) (hs:Xa) (ts:Xb) (qs:aP) (l:List (ak × Nat)) (z:ak) (m:Nat),vs=[.ref r,.ref t,.ref nd]->H r\.ins CR dx (bZ x a n)->qo H x hs ts qs->H t\.tup (sV z)->Vs hs qs z->(aS hs).length<=8->qs.length<64->H nd\.dT (jA l)->(l.map (·.1)).Nodup->(z,m)∈l->(∀e∈l,e.2<=100)->(∀b H',aa H H'->(b=true ↔ Out (Nx hs ts qs) l z m)->Q (.bl b) H')->Nd K CR vs H Q E
theorem Zj{f CR:Addr}(F:bo K "leads_out" "leads_out" lM f fd)(T:jV K CR)(B:Bi mg)(cM:!bM CR 1 "one_move_on" AE (Ia CR)):!ao a_ 2 f fd ud (Nd K CR):=by
 exists F.bU nB;let#[r,dx,t,x,a,n,nd,hs,ts,qs,l,z,m,rfl,GP,ex,ht,v,n8,Ge,pR,GC,zm,Xq,k]:=h;let hu:=fG hr;let sz:=cq;refine' #[_,au ?s1 (aF ?s2),?kk]
 case s1=>exact bu 3 nB.nd (bP gz (mI hu (pv 2) (pv 1)) ay)
 case' s2=>refine' bp (cy (hM_ U) (by rfl) B.any PyProof.Rows.Boot.«any» %[js ["after","most","number_by_hands"] 1 [3,2] (dX (iX cM T.cl hr (pv 0) %[1|0])) (λfp s H=>?g2) (λfp s H=>kE) (λfp s H=>?e2)|0])
 case g2=>exact fW (i:=0) (show (["after","most","number_by_hands"]:ag).Nodup by decide +kernel) U (Or.inl U)
 case e2=>exact pE BK (hB_ hu (pv 2) (pv 0) (bP gz (pv 1) ay) #[U,U,U,U]) (pv 1)
 have hK:H t\.tup ((sK z).map kV):=by rw[iz];exact ht
 have g0:da H nd (.ref t) (some (.int (m:Nat))):=by
  have:=da.t pR hK;rw[x_ GC zm] at this;exact this
 apply#[_,U,_,U,nd,_,U,g0,_,_,U,U,?_];apply#[_,U,r,dx,_,U,GP,Ir _ _ _ Z0 Z0 Z0,_,U,r,dx,t,x,a,n,hs,ts,qs,z,U,GP,ex,ht,v,n8,Ge,λla ys L H1 s1 nla e1 sp mem lL=>?_];let DH:=bH sp;apply#[la,U,#[_,.of e1],λD hD=>?_]
 have num:∀y:ak,∃o:Option Nat,aU (jA l) (sK y)=o.map (λk=>V.int (k:Nat))/\∀k,(y,k)∈l ↔ o=some k:=λy=>by
  by_cases c:y∈l.map (·.1)
  ·let#[e,he,rfl]:=bG.mp c;apply#[some e.2,x_ GC he,λk=>#[λh=>?_,λh=>?_]]
   ·have:=(x_ GC h).symm.trans (x_ GC he);have:=V.int.inj (cX this);congr 1;omega
   cases h;exact he
  exact#[none,RS c,λk=>#[λh=>absurd (bG.mpr #[_,h,U]) c,λh=>by cases h]]
 apply kK (own:=1) (fv:=[some (.int ((m:Int)+1)),some (.ref nd)]) (xs:=ys) U fE (λj out H'=>aa H1 H'/\∃bs:List Bool,H' D\.lst (bs.map V.bl)/\out=bs.map V.bl/\bs.length=j/\(true∈bs ↔ ∃y∈L.take j,∀k,(y,k)∈l->m+1<k)) #[aa.new hD,[],az,U,U,by simp] (λj out H' _ ⟨sm,_⟩=>.of (sm _ _ e1)) (λout H5 ⟨s5,bs,i7,eo,_,all⟩=>?_) (λj y out H' hy ⟨sm,bs,dF,eo,lb,all⟩=>?_);rotate_left 1
 ·have hj:j<ys.length:=(bW.mp hy).1
  obtain⟨u,sO,tu,rfl,_r⟩:∃u,L[j]? = some u/\∃t,y=.ref t/\H1 t\.tup (sV u):=by
   have:=d8 sp j hj Z2;rw[aY hj] at hy;cases hy;exact#[L[j]' Z2,aY Z2,this]
  have G5:H' tu\.tup ((sK u).map kV):=by rw[iz];exact sm _ _ _r
  have Eh:H' nd\.dT (jA l):=sm _ _ (s1 _ _ pR);let#[o,eo',mo]:=num u
  have g1:da H' nd (.ref tu) (o.map λk=>V.int (k:Nat)):=by
   rw[<- eo'];exact da.t Eh G5
  have l1:out.length<sizeLine:=by rw[eo,aq];omega
  have tk:∀(Pp:ak->Prop),(∃y∈L.take (j+1),Pp y) ↔ (∃y∈L.take j,Pp y)∨Pp u:=λPp=>by
   rw[mJ,sO];constructor
   ·rintro⟨x,hx,r⟩;rcases dI.mp hx with hx|hx
    ·exact .inl #[x,hx,r]
    have:x=u:=⇑hx
    rw[this] at r;exact .inr r
   rintro (⟨x,hx,r⟩|r)
   ·exact#[x,dI.mpr (.inl hx),r]
   exact#[u,by simp,r]
  obtain⟨vn,Mo,GN⟩:∃vn:Int,(o.map λk=>V.int (k:Nat)).getD (.int ((m:Int)+1+1))=.int vn/\((m:Int)+1<vn ↔ ∀k,(u,k)∈l->m+1<k):=by
   cases o with
   |none=>exact#[_,U,#[λ_ k hk=>(by have:=(mo k).mp hk;cases this),λ_=>by omega]]
   |some q=>
    apply#[(q:Nat),U,#[λh k hk=>?_,λh=>?_]]
    ·have:=(mo k).mp hk;cases this;omega
    have:=h q ((mo q).mpr U);omega
  apply#[_,U,U,λNx hN=>fw ?_];apply#[_,U,nd,U,.inr #[_,.inl Eh],_,U,_,U,_,_,U,U,_,g1,?_];rw[Mo];apply#[_,U,_,_,U,U,out,by rw[eo];exact dF,l1,hN (out++[.bl (decide ((m:Int)+1<vn))]) _ #[fL sm hD,bs++[decide ((m:Int)+1<vn)],?_,?_,by rw[d4,lb];rfl,?_]]
  ·rw[az,eo,eg];rfl
  ·rw[eo,eg];rfl
  rw[tk,dI,all,eJ,eq_comm,decide_eq_true_eq,GN]
 rw[DH,eR] at all;apply#[D,bs,U,.of i7,?_];apply k _ H5 (s1.trans s5) ?_;rw[List.any_eq_true];constructor
 ·rintro⟨b,hb,e⟩;have e:b=true:=e;rw[e] at hb;let#[y,hy,h]:=all.mp hb;exact#[y,(mem y).mp hy,h]
 rintro⟨y,hy,h⟩;exact#[true,all.mpr #[y,(mem y).mpr hy,h],U]
end
structure xX (N:ak->ak->Prop) (s0:ak) (c:Nat) (ev:ak->Bool) (l:List (ak × Nat)):Prop where
 first:(s0,0)∈l
 no:∀e∈l,ev e.1=false
 cl:∀e∈l,e.2<c - 1->¬Out N l e.1 e.2
variable{N:ak->ak->Prop}{ev:ak->Bool}
theorem xX.sound{s0:ak}{c:Nat}{l:List (ak × Nat)}(h:xX N s0 c ev l):∀{j:Nat} {s:ak},Wk N s0 j s->j<c->∃k,k<=j/\(s,k)∈l:=λ{j s} w=>by
 induction w with
 |z=>exact λ_=>#[0,bh _,h.first]
 |@s j a b w ab ih=>
  intro hj;let#[k,hk,m]:=ih Z2;let no:=h.cl _ m (by show k<c - 1;omega);by_cases q:∃i,(b,i)∈l/\i<=k+1
  ·let#[i,hi,le]:=q;exact#[i,by omega,hi]
  exact absurd #[b,ab,λi hi=>by
   show k+1<i;by_cases z:k+1<i
   ·exact z
   exact absurd #[i,hi,by omega] q] no
theorem xX.exact{s0:ak}{c:Nat}{l:List (ak × Nat)}(c1:1<=c)(mem:∀s k,(s,k)∈l ↔ k<c/\Ds N s0 k s):xX N s0 c ev l ↔ ∀j z,j<c->Ds N s0 j z->ev z=false:=by
 constructor
 ·intro h j z hj dz;exact h.no (z,j) ((mem z j).mpr #[hj,dz])
 intro h;apply#[(mem _ _).mpr #[by omega,.z,λj hj=>absurd hj (Nat.not_lt_zero _)],λe he=>?_,λe he lt=>?_]
 ·let#[h1,h2]:=(mem e.1 e.2).mp he;exact h _ _ h1 h2
 rintro⟨y,ny,h2⟩;let#[h1,h3]:=(mem e.1 e.2).mp he;let#[j,hj,dj]:=(Wk.s h3.1 ny).ds;have:=h2 j ((mem y j).mpr #[by omega,dj]);omega
theorem SL{H:Hp}:∀{ys:af} {l:List (ak × Nat)},eD H ys l->mN H ys (jA l)
 |_,_,.nil=>.nil
 |_,_,.cons ⟨a,t,e,h1,h2⟩ r=>.cons #[a,t,e,h1,by rw[iz];exact h2] (SL r)
variable{CG CW:Addr}
section v
theorem A2:bJ ["goods","stand","limit","count","shut","placed","wrong","number_by_hands","reach","k","entry"] ue (a9 lH):=bV
inductive Nt (K:ai) (CG CW:Addr) (vs:af) (H:Hp) (Q:VK) (E:XK):Prop
 |mk:∀(g p d lt lS:Addr) (ys:af) (hs:Xa) (ts:Xb) (qs:aP) (fp:av) (s0:ak) (ns:ag) (f:bF) (lim:Int × Int) (c:Nat) (l:List (ak × Nat)),vs=[.ref g,.ref d,.ref lt,.int c,.ref lS]->Gs K CG CW H g p hs ts qs fp->AI H d hs qs fp s0 ns f->gP H lt lim->tL lim->1<=c->c<=100->H lS\.lst ys->eD H ys l->Be hs qs c l->(∀H',aa H H'->xX (Nx hs ts qs) s0 c (λz=>eW hs qs z lim) l->Q .non H')->(∀t H',aa H H'->¬xX (Nx hs ts qs) s0 c (λz=>eW hs qs z lim) l->Q (.ref t) H')->Nt K CG CW vs H Q E
theorem hQ_{f0 CR:Addr}(F:bo K "shut_fault" "shut_fault" lH f0 fd)(B:Bi mg)(T:jV K CR)(cC:!br 5 "checked_shut_start" uc (qM K CG CW))(cP:!br 4 "place_of_wrong_form" ["goods","count","shut"] (qH K CG CW))(cR:!j_ CR 5 "Reach" oC (Ib K CG CW CR))(cE:!br 7 "is_even" jX (IE K CG CW))(cL:!br 2 "leads_out" ud (Nd K CR)):!ao a_ 8 f0 fd ue (Nt K CG CW):=by
 exists F.bU A2;let#[g,p,d,lt,lS,ys,hs,ts,qs,fp,s0,ns,f,lim,c,l,rfl,G,S,dH,lo,c1,c2,hl,sh,ok,kG,kB]:=h;let hu:=fG hr;let sz:=cq;have n8:(aS hs).length<=8:=by rw[G.Gd.iB];exact G.Gd.h8
 refine' #[_,au ?s1 (au ?s2 (au ?s3 (au ?s4 (au ?s5 (au ?s6 (au ?s7 (aF ?s8))))))),?kk]
 case s1=>exact bu 5 A2.nd (bc cC hr %[0,1,2,3|0])
 case s2=>exact bu 6 A2.nd (bc cP hr %[0,3,4|0])
 case s3=>exact cg (eY Yu (pv 6) tW) gg cj
 case s4=>exact bu 7 A2.nd (iO (dK_ U (uM hr 1)) (by rfl) B.dict uQ %[4|0])
 case s5=>exact cg (eY pV (hZ_ hu (pv 7) (iO (Tq U) (by rfl) B.tuple qf %[IK (pv 5)|0]) #[U,U,U,U]) ay) (aF (bp (iO IT (by rfl) B.tuple qf %[ft %[tV|0]|0]))) cj
 case s6=>exact bu 8 A2.nd (GK cR hr %[0,5|0])
 case' s7=>refine' d0 dM U (Rl (by rfl) B.enum %[4|0]) ?g7 (au ?b1 (aF ?b2))
 case g7=>exact mr U (dN (cu 9 A2.nd) (dN (cu 10 A2.nd) jh))
 case b1=>exact cg (d7 (bc cE hr %[0,bw cU (pv 10) ay,2|0])) (aF (bp (gh %[tV,9|0]))) cj
 case b2=>exact cg (L7 (eY BH (bw cU (pv 10) ay) (bP AN (pv 3) ay)) (Mz (d7 (bc cL hr %[8,bw cU (pv 10) ay,7|0])))).pt (aF (bp (gh %[tV,9|0]))) cj
 case s8=>exact bp tW
 let Bl:=S.vs;let DH:=bH sh;let l3:=ok.len
 let ev:ak->Bool:=λz=>eW hs qs z lim
 apply#[_,U,_,U,_,U,_,U,g,p,d,lt,hs,ts,qs,fp,s0,ns,f,lim,c,U,G,S,dH,lo,c1,c2,λd1 H1 s1 n1 e1=>?_];apply#[_,U,_,U,_,U,g,p,lS,ys,hs,ts,qs,fp,l,c,U,G.same s1,s1 _ _ hl,sh.same s1,ok,c2,λH2 s2=>?_];let jk:=s1.trans s2;apply#[_,U,U,_,U,aM ?_];apply#[_,U,lS,ys,jA l,U,jk _ _ hl,SL (sh.same jk),by unfold jA;rw[aq];exact l3,λnd oW=>?_]
 have ki:((jA l).map (·.1)).Nodup:=by
  rw[R8,qk,uV];exact (qk.mp ok.nd).imp λn e=>n (BV e)
 rw[S2 (jA l) [] ⇑ki,List.nil_append];let#[s3,e3]:=aD (o:=.dT (jA l)) oW;let dZ:=jk.trans s3;let uJ:=(s2.trans s3) _ _ e1;generalize upd H2 nd (.dT (jA l))=H3 at s3 e3 dZ uJ ⊢;apply#[_,U,nd,U,.inr #[_,.inl e3],_,U,d1,_,U,uJ,λv hv=>?_];let#[s4,e4]:=aD (o:=qc v d1) hv;generalize upd H3 v (qc v d1)=H4 at s4 e4 ⊢;apply#[v,d1,_,U,e4,s4 _ _ uJ,λt ht=>?_]
 have evv:(gC (qs.map (·.1)) f).map (·.2)=sV s0:=by
  rw[S.s0];simp only[gC,dU,sV,cz];rfl
 rw[evv];let#[s5,e5]:=aD (o:=.tup (sV s0)) ht;let Ga:=s4.trans s5;let jx:=dZ.trans Ga;let AC:=Ga _ _ uJ;let Kq:=Ga _ _ e3;generalize upd H4 t (.tup (sV s0))=H5 at s5 e5 Ga jx AC Kq ⊢;have hK:H5 t\.tup ((sK s0).map kV):=by rw[iz];exact e5
 apply#[_,.t Kq hK,?_]
 obtain⟨vn,Mo,VM,GN⟩:∃vn:V,(aU (jA l) (sK s0)).getD .non=vn/\yR vn (.int 0)=true/\(vn=.int 0 ↔ (s0,0)∈l):=by
  by_cases q:s0∈l.map (·.1)
  ·let#[e,he,ee]:=bG.mp q;have EB:(s0,e.2)∈l:=by rw[<- ee];exact he
   apply#[.int (e.2:Nat),by rw[x_ ok.nd EB];rfl,U,#[λh=>?_,λh=>?_]]
   ·let h:=V.int.inj h;have:e.2=0:=by omega
    rw[<- this];exact EB
   have:=(x_ ok.nd h).symm.trans (x_ ok.nd EB);exact (cX this).symm
  exact#[.non,by rw[RS q];rfl,U,#[λh=>(by cases h),λh=>absurd (bG.mpr #[_,h,U]) q]]
 rw[Mo];apply#[VM,_,U,?_];apply bQ (λcc=>?_) (λcc=>?_)
 ·have nf:¬xX (Nx hs ts qs) s0 c ev l:=λh=>by
   have:=GN.mpr h.first;rw[this] at cc;simp at cc
  apply#[zl,λl1 fo=>?_];let#[s6,e6]:=aD (o:=.lst [.str "first"]) fo;generalize upd H5 l1 (.lst [.str "first"])=H6 at s6 e6 ⊢;apply#[l1,_,U,.inl #[.of e6,λt ht=>?_]];exact kB t _ ((jx.trans s6).trans (aa.new ht)) nf
 have first:(s0,0)∈l:=GN.mp ⇑cc;apply#[_,U,_,U,λr dx jF Ac ne=>?_];have s6:aa H5 (upd (upd H5 dx (.own r)) r (.ins CR dx [])):=(aa.new Ac).trans (aa.new (by rw[aw ne.symm];exact jF));have e6:upd (upd H5 dx (.own r)) r (.ins CR dx []) r\.ins CR dx []:=az;generalize upd (upd H5 dx (.own r)) r (.ins CR dx [])=H6 at s6 e6 ⊢;let iA:=jx.trans s6;apply#[r,dx,g,p,d1,hs,ts,qs,fp,f,U,e6,G.same iA,s6 _ _ AC,λa x n H7 k7 an R7=>#[U,?_]];have zg:aa H5 H7:=λb o e=>k7 b o (s6 _ _ e) (bz e jF);let kg:=jx.trans zg;let WW:=zg _ _ Kq;let#[#[dx7,h7r],ex7,_,_]:=R7
 let Iv:bR:=λi σ H'=>∃(v9 v10:aH),σ=[some (.ref g),some (.ref d),some (.ref lt),some (.int c),some (.ref lS),some (.ref d1),some .non,some (.ref nd),some (.ref r),v9,v10]/\aa H7 H'/\∀e∈l.take i,ev e.1=false/\(e.2<c - 1->¬Out (Nx hs ts qs) l e.1 e.2)
 apply#[_,U,lS,U,#[_,.of (kg _ _ hl)],Sj (K:=K) (a:=lS) (xs:=ys) Iv #[_,_,U,aa.refl _,by simp] (λi σ H' _ ⟨_,_,_,sm,_⟩=>.of (sm _ _ (kg _ _ hl))) ?_ ?_]
 ·rintro i y σ H8 hy ⟨v9,v10,rfl,s8,no⟩ tt zI;have hi:i<ys.length:=(bW.mp hy).1
  obtain⟨e,he,a',t',rfl,ha,xx⟩:∃e,l[i]? = some e/\∃a t,y=.ref a/\H a\.tup [.ref t,.int (e.2:Nat)]/\H t\.tup (sV e.1):=by
   have:=d8 sh i hi Z2;rw[aY hi] at hy;cases hy;exact#[l[i]' Z2,aY Z2,this]
  let em:=cZ he;let hv:=ok.v e em;let#[s9,e9]:=aD (o:=.tup [.int i,.ref a']) zI;let J2:=s8.trans s9;show fR _ _ _ _ _ (upd H8 tt (.tup [.int i,.ref a'])) _;generalize upd H8 tt (.tup [.int i,.ref a'])=H9 at s9 e9 J2 ⊢;let uA:=kg.trans J2;apply#[tt,_,U,.of e9,U,_,_,U,_,_,U,U,?_];apply#[_,U,_,U,a',_,0,_,U,U,.of (uA _ _ ha),L2.dR (j:=0) U,_,U,g,p,t',lt,hs,ts,qs,fp,e.1,lim,U,G.same uA,uA _ _ xx,hv.1,uA _ _ dH,lo,λHA sA=>#[_,U,?_]];let C9:=uA.trans sA;let C7:=J2.trans sA;apply bQ (λce=>?_) (λce=>?_)
  ·apply#[_,U,zl,λt9 zJ=>?_]
   exact kB t9 _ (C9.trans (aa.new zJ)) λh=>by
    have:=h.no e em;rw[show eW hs qs e.1 lim=true from ce] at this;cases this
  have ce:ev e.1=false:=⇑ce
  have tk:∀e'∈l.take (i+1),e'∈l.take i∨e'=e:=λe' h'=>by
   rw[mJ,he] at h';rcases dI.mp h' with h'|h'
   ·exact .inl h'
   exact .inr ⇑h'
  apply#[_,U,a',_,1,_,U,U,.of (C9 _ _ ha),L2.dR (j:=1) U,_,U,_,_,U,U,_,_,U,U,_,U,?_];apply bQ (λcl=>?_) (λcl=>?_)
  ·have cl:e.2<c - 1:=by
    have:=tI cl;omega
   apply#[_,U,_,U,a',_,0,_,U,U,.of (C9 _ _ ha),L2.dR (j:=0) U,_,U,r,dx7,t',x,a,n,nd,hs,ts,qs,l,e.1,e.2,U,C7 _ _ h7r,ex7.same C7,C9 _ _ xx,hv.1,n8,G.cY,C7 _ _ WW,ok.nd,em,λe' h'=>by have:=(ok.v e' h').2;omega,λb HB sB hb=>#[_,U,?_]];apply bQ (λco=>?_) (λco=>?_)
   ·apply#[_,U,zl,λt9 zJ=>?_];exact kB t9 _ ((C9.trans sB).trans (aa.new zJ)) λh=>h.cl e em cl (hb.mp co)
   apply#[_,_,U,C7.trans sB,λe' h'=>?_];rcases tk e' h' with h'|rfl
   ·exact no e' h'
   exact#[ce,λ_=>λh=>co (hb.mpr h)]
  apply#[_,_,U,C7,λe' h'=>?_];rcases tk e' h' with h'|rfl
  ·exact no e' h'
  apply#[ce,λh=>absurd (cw ?_) cl];omega
 rintro σ H8 ⟨v9,v10,rfl,s8,no⟩;rw[DH,eR] at no;exact kG H8 (kg.trans s8) #[first,λe he=>(no e he).1,λe he=>(no e he).2]
end
variable{f:Addr}
section v
theorem Hj:bJ ["_law_parts","_law_layers_here","_law_limit","_law_count",mF,o_,"_law_layer"] uj (a9 MZ):=bV
inductive lC (K:ai) (vs:af) (H:Hp) (Q:VK) (E:XK):Prop
 |mk:∀(lq lh lp lt lL ll:Addr) (ys:af) (LL:List (List ak)) (hs:Xa) (ts:Xb) (ss qs:aP) (l:Int × Int) (s0:ak) (c:Nat),vs=[.ref lq,.ref lL,.ref ll,.int c]->H lq\.tup [.ref lh,.ref lp]->Jf K H lh lp lt ll hs ts ss qs l->H lL\.lst ys->gB H ys LL->gA (Nx hs ts qs) s0 LL->Vs hs qs s0->(∀L∈LL,L.length<=1000000)->(∀b H',aa H H'->(b=true ↔ ∃j z,j<c/\Ds (Nx hs ts qs) s0 j z/\eW hs qs z l=true)->Q (.bl b) H')->lC K vs H Q E
theorem YI(F:bo K "_law_is_even_by" "_law_is_even_by" MZ f fd)(cE:!br 2 "_law_even" um (M3 K)):!ao a_ 3 f fd uj (lC K):=by
 exists F.bU Hj;let#[lq,lh,lp,lt,lL,ll,ys,LL,hs,ts,ss,qs,l,s0,c,rfl,hq,Pt,hL,ly,ok,v,L66,k]:=h;let sz:=cq;let GD:=bH ly;refine' #[_,au ?s0 (au ?s1 (aF ?s2)),?kk]
 case s0=>exact HK (pv 0) (mr U (dN (cu 4 Hj.nd) (dN (cu 5 Hj.nd) jh)))
 case' s1=>refine' d0 dM U (dX (AX Mn (pv 1) A4 (A3 (pv 3)))) ?g1 (aF ?b1)
 case g1=>exact cu 6 Hj.nd
 case' b1=>refine' cg (eY (MK (uM hr 0)) (js ["_law_spot",mF,"_law_limit",o_] 1 [4,2,5] (dX (pv 6)) (λfp s H=>?g2) (λfp s H=>?t2) (λfp s H=>?e2)) (ft bK)) (aF (bp il)) cj
 case g2=>exact fW (i:=0) (show (["_law_spot",mF,"_law_limit",o_]:ag).Nodup by decide +kernel) U (Or.inl U)
 case t2=>exact Ih (d7 (bc cE hr %[1,3,0,2|0]))
 case e2=>exact pv 0
 case s2=>exact bp il
 apply#[_,U,lq,_,U,.of hq,U,_,_,U,_,_,U,U,?_];apply#[_,U,_,U,_,U,lL,_,U,.of hL,λl2 WT=>?_];rw[NY];let#[s1,e1]:=aD (o:=.lst (ys.take c)) WT;generalize upd H l2 (.lst (ys.take c))=H1 at s1 e1 ⊢
 let Iv:bR:=λi σ H'=>∃(v6:aH),σ=[some (.ref lq),some (.ref lL),some (.ref ll),some (.int c),some (.ref lh),some (.ref lp),v6]/\aa H1 H'/\∀j z,j<i->Ds (Nx hs ts qs) s0 j z->eW hs qs z l=false
 apply#[l2,U,#[_,.of e1],?_];apply ib (K:=K) (a:=l2) (xs:=ys.take c) Iv ?_ ?_ ?_ ?_
 ·exact#[none,U,aa.refl _,λj z hj=>absurd hj (Nat.not_lt_zero _)]
 ·rintro i σ H' _ ⟨_,_,sm,_⟩;exact .of (sm _ _ e1)
 ·rintro i y σ H2 hy ⟨v6,rfl,Px,no⟩;let s2:=s1.trans Px;have _Y:i<(ys.take c).length:=(bW.mp hy).1;rw[dJ] at _Y;have hi:i<ys.length:=by omega
  have DZ:ys[i]? = some y:=by
   rw[List.getElem?_take] at hy;split at hy
   ·exact hy
   cases hy
  let#[a,zs,ea,ha,sp]:=d8 ly i hi Z2;have oi:LL[i]? = some (LL[i]' Z2):=aY Z2;obtain⟨Lr,eL⟩:∃L,L=LL[i]' Z2:=#[_,U];rw[<- eL] at oi sp;let is:=ok.is i Lr oi;let uD:=bH sp;let lL6:=L66 Lr (cZ oi)
  have ey:y=.ref a:=by
   rw[aY hi,ea] at DZ;exact (cX DZ).symm
  subst ey;apply#[_,U,a,U,#[_,.of (s2 _ _ ha)],λD hD=>?_];apply kK (own:=1) (fv:=[some (.ref lh),some (.ref ll),some (.ref lp)]) (xs:=zs) U fE (λj out H'=>aa H2 H'/\H' D\.lst out/\jf H' out ((Lr.take j).filter λz=>eW hs qs z l)) #[aa.new hD,az,.nil] (λj out H' _ ⟨sm,_,_⟩=>.of (sm _ _ (s2 _ _ ha))) (λout H4 ⟨s4,o6,ie⟩=>?_) (λj y out H' hy ⟨sm,dF,JV⟩=>?_);rotate_left 1
  ·have hj:j<zs.length:=(bW.mp hy).1
   obtain⟨z,hz,u,rfl,hu⟩:∃z,Lr[j]? = some z/\∃t,y=V.ref t/\H t\.tup (sV z):=by
    have:=d8 sp j hj Z2;rw[aY hj] at hy;cases hy;exact#[Lr[j]' Z2,aY Z2,this]
   have zv:Vs hs qs z:=(((is.2 z).mp (cZ hz)).1).vs v;let J6:=s2.trans sm;let OP:=Pt.same J6;let#[#[yh,a1,a2],#[yp,b1,b2]]:=And.intro OP.hh OP.hp;apply#[_,U,U,λNx hN=>?_];apply#[_,U,_,U,_,U,_,U,lh,lp,u,ll,yh,yp,hs,ts,ss,qs,z,l,U,a1,a2,Pt.G,b1,b2,Pt.S,Pt.s8,J6 _ _ hu,zv,OP.hl,Pt.lo,λH3 s3=>#[_,U,?_]]
   have tk:((Lr.take (j+1)).filter λz=>eW hs qs z l)=((Lr.take j).filter λz=>eW hs qs z l)++if eW hs qs z l=true then [z] else []:=by
    rw[mJ,hz,List.filter_append];by_cases c:eW hs qs z l=true
    ·simp[c]
    simp[c]
   apply bQ (λc=>?_) (λc=>?_)
   ·let lo:=bH JV;let lf:=B9 (λz=>eW hs qs z l) (Lr.take j);rw[dJ] at lf;let xM:=s3 _ _ dF;apply#[_,U,out,xM,by omega,hN _ _ #[fL (sm.trans s3) hD,az,?_]]
    have kt:∀b xs,H' b\.tup xs->upd H3 D (.lst (out++[.ref u])) b\.tup xs:=λb xs e=>by
     rw[aw (bS (s3 _ _ e) xM nofun)];exact s3 _ _ e
    rw[tk,aI c];exact iY (JV.keep kt) (.cons #[u,U,kt _ _ (J6 _ _ hu)] .nil)
   apply hN out _ #[sm.trans s3,s3 _ _ dF,?_];rw[tk,aC c,wI];exact JV.keep λb xs e=>s3 _ _ e
  rw[uD,eR] at ie;let lX:=s2.trans s4;apply#[zl,λle hle=>?_];let#[s5,e5]:=aD (o:=.lst []) hle;let jx:=lX.trans s5;let Py:=Px.trans (s4.trans s5);let i7:=s5 _ _ o6;generalize upd H4 le (.lst [])=H5 at s5 e5 jx Py i7 ⊢;apply#[D,le,_,U,U,.of i7,.of e5,_,U,?_];cases ef:Lr.filter λz=>eW hs qs z l with
  |nil=>
   rw[ef] at ie;cases ie;apply aM ?_;apply#[_,U,Py,λj z hj dz=>?_];by_cases c:j=i
   ·subst c;let zm:=(is.2 z).mpr dz;rw[<- Bool.not_eq_true];intro c;have:z∈Lr.filter λz=>eW hs qs z l:=mK.mpr #[zm,c];rw[ef] at this;cases this
   ·exact no j z Z2 dz
  |cons z zr=>
   rw[ef] at ie;cases ie;apply c_ ?_;have zm:z∈Lr.filter λz=>eW hs qs z l:=by rw[ef];exact gF
   let#[z1,z2]:=mK.mp zm;exact k true _ jx #[λ_=>#[i,z,by omega,(is.2 z).mp z1,z2],λ_=>rfl]
 rintro σ H2 ⟨v6,rfl,s2,no⟩;apply k false _ (s1.trans s2) #[λh=>(by cases h),λ⟨j,z,hj,dz,e⟩=>?_];let#[L,hL',_]:=ok.mem dz;have:=(bW.mp hL').1;rw[no j z (by rw[dJ];omega) dz] at e;cases e
end
structure ql (c:Nat) (seen:List ak) (l:List (ak × Nat)):Prop where
 nd:(l.map (·.1)).Nodup
 lt:∀e∈l,e.2<c/\e.1∈seen
 len:l.length<=seen.length
variable{seen:List ak}
theorem ql.skip{c:Nat}{l:List (ak × Nat)}(h:ql c seen l)(z:ak):ql c (seen++[z]) l:=#[h.nd,λe he=>#[(h.lt e he).1,List.mem_append_left _ (h.lt e he).2],by rw[d4];exact Nat.le_add_right_of_le h.len]
variable{z:ak}
theorem ql.add{c:Nat}{l:List (ak × Nat)}(h:ql c seen l){n:Nat}(nz:z∉seen)(hn:n<c)(k:Nat):ql c (seen++[z]) (iM l k (z,n)):=by
 let p:=A8 l k (z,n);apply#[?_,λe he=>?_,?_]
 ·rw[(p.map (·.1)).nodup_iff,eI,iZ];apply#[λhm=>?_,h.nd];let#[e,he,ee]:=bG.mp hm;have:=(h.lt e he).2;rw[ee] at this;exact nz this
 ·rcases bY.mp (p.mem_iff.mp he) with rfl|he
  ·exact#[hn,kL _ Y0]
  exact#[(h.lt e he).1,List.mem_append_left _ (h.lt e he).2]
 rw[p.length_eq,d4,iR];have:=h.len;simp;omega
variable{L:List ak}
theorem RF{LL:List (List ak)}(nd:LL.flatten.Nodup)(hL:LL[i]? = some L){j:Nat}(hz:L[j]? = some z):z∉(LL.take i).flatten++L.take j:=by
 have e1:LL.flatten=((LL.take i).flatten++L)++(LL.drop (i+1)).flatten:=by
  let hi:=(bW.mp hL).1;let e:=List.take_append_drop i LL;rw[List.drop_eq_getElem_cons hi] at e;let eL:=(bW.mp hL).2;rw[eL] at e
  conv=>lhs;rw[<- e]
  rw[List.flatten_append,List.flatten_cons,List.append_assoc]
 rw[e1] at nd;let n2:=(wG.mp nd).1;let#[_,n3,dj]:=wG.mp n2;intro hm;rcases dI.mp hm with hm|hm
 ·exact dj z hm z (cZ hz) U
 exact Tw n3 hz hm
theorem Ro{LL:List (List ak)}(hL:LL[i]? = some L)(j:Nat):((LL.take i).flatten++L.take j).length<=LL.flatten.length:=by
 let hi:=(bW.mp hL).1;let e:=List.take_append_drop i LL;rw[List.drop_eq_getElem_cons hi,(bW.mp hL).2] at e
 have:LL.flatten.length=(LL.take i).flatten.length+(L.length+(LL.drop (i+1)).flatten.length):=by
  conv=>lhs;rw[<- e]
  rw[List.flatten_append,List.flatten_cons,d4,d4]
 rw[d4,dJ];omega
theorem Ti{LL:List (List ak)}(hL:LL[i]? = some L):(LL.take (i+1)).flatten=(LL.take i).flatten++L:=by
 rw[mJ,hL,List.flatten_append];simp
theorem eD.ins{H:Hp}{ys:af}{l:List (ak × Nat)}(h:eD H ys l)(k:Nat){a t:Addr}{z:ak}{n:Nat}(h1:H a\.tup [.ref t,.int n])(h2:H t\.tup (sV z)):eD H (iM ys k (.ref a)) (iM l k (z,n)):=I_ k h #[a,t,U,h1,h2]
theorem yw{R M:Hp->Prop}{A:Prop}(f:(∀G,R G->M G)->A)(h:∀G,R G->M G):A:=f h
theorem B5:bJ [gL,"_law_layers_here","_law_count",wa,"_law_way","_law_k","_law_spot","_law_number"] ug (a9 Oi):=bV
inductive Ny (vs:af) (H:Hp) (Q:VK) (E:XK):Prop
 |mk:∀(l lL:Addr) (c:Nat) (ys:af) (LL:List (List ak)),vs=[.ref l,.ref lL,.int c]->cK H l->H lL\.lst ys->lL≠l->gB H ys LL->(∀b,V.ref b∈ys->b≠l)->LL.flatten.Nodup->LL.flatten.length<=300->LL.length<=1000->1<=c->c<=100->(∀lf zs sh H',aV l H H'->cK H' l->H lf=none->lf≠l->H' lf\.lst zs->eD H' zs sh->ql c LL.flatten sh->Q (.ref lf) H')->Ny vs H Q E
variable{K:ai}{P:Ad}{w:Af}{mg:Str->Option Aa}{base:Heap}
theorem fU_(F:bo K "_law_written" "_law_written" Oi f fd)(B:Bi mg)(l0:mg "min"=none)(cD:!br 1 tQ uO wA):!ao a_ 2 f fd ug Ny:=by
 exists F.bU B5;let#[l,lL,c,ys,LL,rfl,st,hL,GF,ly,fr,nd,f3,L3,c1,c2,k]:=h;let sz:=cq;let GD:=bH ly;let#[Jo,kr]:=st.some;refine' #[_,au ?s1 (au ?s2 (au ?s3 (aF ?s4))),?kk]
 case s1=>exact bu 3 B5.nd (ft bK)
 case s2=>exact bu 4 B5.nd (bc cD hr %[0,ay|0])
 case' s3=>refine' d0 dM U (uW (by rfl) B.range %[cy iq (by rfl) B.len gE %[1|0]|0]) ?g3 (aF ?b3)
 case g3=>exact cu 5 B5.nd
 case' b3=>refine' d0 dM U (dX (bw gd (pv 1) (pv 5))) ?g4 (au ?b4 (aF ?b5))
 case g4=>exact cu 6 B5.nd
 case b4=>exact bu 7 B5.nd (bw gd (ft %[5,cy (hg_ U) (by rfl) B.max PyProof.Rows.Boot.«max» %[ay,bP AN (pv 5) ay|0],bc cD hr %[0,2|0],5|0]) (bc cD hr %[0,bw gd (ft %[ay,ay|0]) (iO N_ (by rfl) B.int HN %[pE BJ (pv 4) ay|0])|0]))
 case' b5=>refine' cg (pf (eY BK (pv 4) ay) (pA (eY BH (pv 5) (pv 2)))).pt (aF (cg (pf (eY BH (pv 4) ay) (pA (eY BK (bc cD hr %[0,ay|0]) ay))).pt (aF ?b6) cj)) cj
 case b6=>exact kI (pe ou PySem.F.slot_list_insert PySem.F.type_list_insert IM (pv 3) %[bc cD hr %[0,bP gz (cy iq (by rfl) B.len gE %[3|0]) ay|0],gh %[6,cy (SZ U) (by rfl) l0 L9 %[7,bP AN (pv 2) ay|0]|0]|0])
 case s4=>exact bp (pv 3)
 apply#[zl,λlf GW=>?_];let#[s1,e1]:=aD (o:=.lst []) GW;have DK:lf≠l:=(bz kr GW).symm;let pI:=st.same s1;generalize upd H lf (.lst [])=H1 at s1 e1 pI ⊢;apply#[_,U,l,4,U,by decide,by decide,pI,λway H2 w0 w1 b2 eU=>?_]
 let J:List ak->Hp->Prop:=λseen H'=>∃(zs:af) (sh:List (ak × Nat)),aV l H H'/\cK H' l/\H' lf\.lst zs/\eD H' zs sh/\ql c seen sh
 let Iv:bR:=λi σ H'=>∃(v5 v6 v7:aH),σ=[some (.ref l),some (.ref lL),some (.int c),some (.ref lf),some (.int way),v5,v6,v7]/\J (LL.take i).flatten H'
 have Ux:aV l H H2:=(aV.of s1).trans b2;let hL2:=Ux _ _ hL GF;apply#[_,U,lL,_,U,.inl (.of hL2),_,U,by show (-(2 ^ 62):Int)<=(ys.length:Int);omega,by show (ys.length:Int)<2 ^ 62;omega,?_];apply wD (lo:=0) (n:=((ys.length:Nat):Int).toNat) Iv ?_ ?_ ?_
 ·exact#[_,_,_,U,[],[],Ux,eU,b2 _ _ e1 DK,.nil,.nil,by simp,by simp]
 ·rintro i σ H3 hi ⟨v5,v6,v7,rfl,jj⟩;have hi:i<ys.length:=by omega
  let#[a,ws,ea,ha,sp]:=d8 ly i hi Z2;have oi:LL[i]? = some (LL[i]' Z2):=aY Z2;obtain⟨Lr,eL⟩:∃L,L=LL[i]' Z2:=#[_,U];rw[<- eL] at oi sp;let uD:=bH sp;have al:a≠l:=fr a (by rw[<- ea];exact kJ hi);rw[show (0:Int)+(i:Nat)=(i:Int) by omega];let#[UI,VL,b3,_]:=id jj;apply#[_,U,_,U,lL,_,i,_,U,U,.of (b3 _ _ hL GF),L2.dR (by rw[aY hi,ea]),a,U,#[_,.of (b3 _ _ ha al)],?_]
  let Iw:bR:=λj σ H'=>∃(v6 v7:aH),σ=[some (.ref l),some (.ref lL),some (.int c),some (.ref lf),some (.int way),some (.int i),v6,v7]/\J ((LL.take i).flatten++Lr.take j) H'
  apply ib (K:=K) (a:=a) (xs:=ws) Iw ?_ ?_ ?_ ?_
  ·exact#[_,_,U,by rw[List.take_zero,wI];exact jj]
  ·rintro j σ H' _ ⟨_,_,_,_,_,b,_⟩;exact .of (b _ _ ha al)
  ·rintro j y σ H4 hy ⟨v6,v7,rfl,zs,sh,b4,gR,hf4,Pq,JS⟩;have hj:j<ws.length:=(bW.mp hy).1
   obtain⟨z,hz,t,rfl,ht⟩:∃z,Lr[j]? = some z/\∃t,y=V.ref t/\H t\.tup (sV z):=by
    have:=d8 sp j hj Z2;rw[aY hj] at hy;cases hy;exact#[Lr[j]' Z2,aY Z2,this]
   let nz:=RF nd oi hz;let fle:=Ro oi j;let Ku:=bH Pq;let Xc:=JS.len;have tl:t≠l:=bS ht kr nofun;have tk:Lr.take (j+1)=Lr.take j++[z]:=by rw[mJ,hz];rfl
   apply#[_,U,_,U,_,_,U,U,0,(i:Int) - 1,U,?_];apply#[_,U,_,U,l,c,U,by omega,by omega,gR,λr5 H5 p0 p1 b5 gi=>?_];apply#[_,U,zl,λln Km=>?_];let#[s6,e6]:=aD (o:=.lst [.int i,.int (if (i:Int) - 1 > 0 then (i:Int) - 1 else 0),.int r5,.int i]) Km;generalize upd H5 ln (.lst [.int i,.int (if (i:Int) - 1 > 0 then (i:Int) - 1 else 0),.int r5,.int i])=H6 at s6 e6 ⊢;let iy:=gi.same s6;apply#[_,U,zl,λlm WO=>?_];let#[s7,e7]:=aD (o:=.lst [.int 1,.int 4]) WO;generalize upd H6 lm (.lst [.int 1,.int 4])=H7 at s7 e7 ⊢;let i0:=iy.same s7
   obtain⟨bs,ebs,hb0,LJ⟩:∃m:Int,ip [V.int 1,V.int 4] (if decide (V.int way=V.int 3)=true then 1 else 0)\.int m/\0<m/\m<=4:=by
    split
    ·exact#[4,U,by decide,by decide]
    exact#[1,U,by decide,by decide]
   apply#[_,U,U,.inr #[_,U,?_]];apply#[lm,_,_,_,U,U,.of e7,ebs,l,bs,U,hb0,by omega,i0,λr8 H8 t0 t1 b8 yK=>?_]
   let#[y,DZ,q,rfl,q0]:=Ex (p:=λy:V=>∃q:Int,y=.int q/\0<=q) (xs:=[V.int i,.int (if (i:Int) - 1 > 0 then (i:Int) - 1 else 0),.int r5,.int i]) t0 (by show r8<4;omega) (λx hx=>by
    simp only[bY,gf,or_false] at hx;rcases hx with rfl|rfl|rfl|rfl
    ·exact#[_,U,by omega]
    ·apply#[_,U,?_];split<;>omega
    ·exact#[_,U,p0]
    exact#[_,U,by omega])
   have Us:aV l H6 H8:=(aV.of s7).trans b8
   have Bv:ln≠l:=by
    let#[xs,e]:=gi.some;exact (bz e Km).symm
   have FH:aV l H4 H8:=(b5.trans (aV.of s6)).trans Us;apply#[ln,_,_,_,U,U,.of (Us _ _ e6 Bv),DZ,?_]
   let R:Hp->Prop:=λH'=>aV l H H'/\cK H' l/\H' lf\.lst zs/\eD H' zs sh
   have Dw:∀{G G':Hp},R G->aV l G G'->cK G' l->R G':=λ{G G'} ⟨r1,r2,r3,r4⟩ bg sg=>#[r1.trans bg,sg,bg _ _ r3 DK,r4.keep λb xs e=>by
    let#[O6,e2]:=r2.some;exact bg _ _ e (bS e e2 nofun)]
   have Kb:R H8:=Dw (G:=H4) #[b4,gR,hf4,Pq] FH yK;have skip:∀G,R G->Iw (j+1) [some (.ref l),some (.ref lL),some (.int c),some (.ref lf),some (.int way),some (.int i),some (.ref t),some (.int q)] G:=λG ⟨r1,r2,r3,r4⟩=>#[_,_,U,zs,sh,r1,r2,r3,r4,by rw[tk,<- List.append_assoc];exact JS.skip z];apply#[_,U,_,_,U,U,_,U,?_];apply yw (R:=R) (λh=>bQ (λ_=>h H8 Kb) (λ_=>#[_,U,_,U,_,_,U,U,_,U,bQ (λ_=>h H8 Kb) (λ_=>skip H8 Kb)])) ?_;intro G rG;apply#[_,U,_,_,U,U,_,U,?_];apply yw (R:=R) (λh=>bQ (λ_=>h G rG) (λ_=>#[_,U,l,8,U,by decide,by decide,rG.2.1,λr9 H9 _ _ b9 vp=>#[_,_,U,U,_,U,bQ (λ_=>h H9 (Dw rG b9 vp)) (λ_=>skip H9 (Dw rG b9 vp))]])) ?_;intro G2 PB;let rr:=PB;let#[r1,r2,r3,r4]:=rr;apply#[_,U,.inl #[U,_,.of r3],_,U,_,U,lf,_,U,.inl (.of r3),_,_,U,U,l,_,U,by show (0:Int)<(zs.length:Int)+1;omega,by show (zs.length:Int)+1<1073741824;omega,r2,λra HA a0 a1 bA Bo=>?_];have a1:ra<(zs.length:Int)+1:=a1;let rA:=Dw PB bA Bo;let#[q1,q2,q3,q4]:=id rA
   obtain⟨nn,en,_H⟩:∃nn:Nat,(if (c:Int) - 1<q then (c:Int) - 1 else q)=(nn:Int)/\nn<c:=by
    split
    ·exact#[c - 1,by omega,by omega]
    exact#[q.toNat,by omega,by omega]
   apply#[_,U,_,U,_,U,_,_,U,U,_,_,U,zl,λte KZ=>?_];rw[en];let#[sB,eB]:=aD (o:=.tup [.ref t,.int nn]) KZ;let rB:=Dw rA (aV.of sB) (Bo.same sB);generalize upd HA te (.tup [.ref t,.int nn])=HB at sB eB rB ⊢;let#[g1,g2,g3,g4]:=id rB;have _v:HB t\.tup (sV z):=g1 _ _ ht tl;apply#[lf,ra.toNat,zs,.ref te,U,by rw[Int.toNat_of_nonneg a0],g3,by omega,by omega,?_]
   have kt:∀b xs,HB b\.tup xs->upd HB lf (.lst (iM zs ra.toNat (.ref te))) b\.tup xs:=λb xs e=>by
    rw[aw (bS e g3 nofun)];exact e
   apply#[_,_,U,iM zs ra.toNat (.ref te),iM sh ra.toNat (z,nn),λb o e ne=>?_,?_,az,?_,?_]
   ·rw[aw (bz e GW)];exact g1 b o e ne
   ·unfold cK;rw[aw DK.symm];exact g2
   ·exact (eD.ins g4 ra.toNat eB _v).keep kt
   rw[tk,<- List.append_assoc];exact JS.add nz _H _
  rintro σ H4 ⟨v6,v7,rfl,jj⟩;rw[uD,eR,<- Ti oi] at jj;exact#[_,_,_,U,jj]
 rintro σ H3 ⟨v5,v6,v7,rfl,zs,sh,b3,ic,hf3,VP,Pj⟩;rw[show ((ys.length:Nat):Int).toNat=LL.length by omega,eR] at Pj;exact#[_,U,k lf zs sh H3 b3 ic GW DK hf3 VP Pj]
abbrev lN:ag:=[xS,"_law_cell",gL,mF,"_law_ties_here","_law_drawn","_law_stand_here",o_,"_law_goods","_law_layers_here","_law_limit","_law_count","_law_even_here","_law_told","_law_k","_law_shut","_law_exact","_law_spot"]
theorem je:bJ lN [xS] (a9 fg):=bV
structure Dm (K:ai) (CG CW:Addr) (H:Hp) (l lh lt lz d g0 pw lL:Addr) (hs:Xa) (ts:Xb) (ss qs:aP) (fp:av) (ns:ag) (f:bF) (s0:ak) (yL:af) (LL:List (List ak)):Prop where
 st:cK H l
 hh:∃yh,H lh\.lst yh/\bX K H yh (hs.map kH)
 ht:∃zs,H lt\.lst zs/\bX K H zs (ts.map kT)
 hp:∃yp,H lz\.lst yp/\kC K H yp ss
 n1:lh≠l
 n2:lt≠l
 n3:lz≠l
 n4:lL≠l
 fr:∀b,V.ref b∈yL->b≠l
 G:Good hs ts
 S:eS ts ss qs
 s8:ss.length<=8
 Gg:Gs K CG CW H g0 pw hs ts qs fp
 lfp:l∉fp
 Sd:AI H d hs qs fp s0 ns f
 hL:H lL\.lst yL
 ly:gB H yL LL
 ok:gA (Nx hs ts qs) s0 LL
 fl:LL.flatten.length<=300
variable{H:Hp}{d g0 l lL lh lt lz pw:Addr}{hs:Xa}{ts:Xb}{s0:ak}{LL:List (List ak)}{qs ss:aP}{fp:av}{ns:ag}{yL:af}
theorem Dm.but{f:bF}(h:Dm K CG CW H l lh lt lz d g0 pw lL hs ts ss qs fp ns f s0 yL LL)(b:aV l H H')(st:cK H' l):Dm K CG CW H' l lh lt lz d g0 pw lL hs ts ss qs fp ns f s0 yL LL:=by
 let#[a0,#[yh,a1,a2],#[zs,c1,c2],#[yp,b1,b2],n1,n2,n3,n4,fr,G,S,s8,Gg,lfp,Sd,hL,ly,ok,fl]:=h;let#[xs,e]:=a0.some;exact#[st,#[yh,b _ _ a1 n1,jg a2 b e],#[zs,b _ _ c1 n2,jg c2 b e],#[yp,b _ _ b1 n3,Paired.aX b2 λy p q=>q.but b a0],n1,n2,n3,n4,fr,G,S,s8,#[Gg.G.but b a0 lfp,Gg.Gd,Gg.nd,Gg.cY,Gg.wp],lfp,#[b _ _ Sd.hd (bS Sd.hd e nofun),Sd.tH,Sd.ok,Sd.s0],b _ _ hL n4,ly.keep (λa m xs q=>b _ _ q (fr a m)) (λc xs q=>b _ _ q (bS q e nofun)),ok,fl]
theorem Dm.same{f:bF}(h:Dm K CG CW H l lh lt lz d g0 pw lL hs ts ss qs fp ns f s0 yL LL)(s:aa H H'):Dm K CG CW H' l lh lt lz d g0 pw lL hs ts ss qs fp ns f s0 yL LL:=h.but (aV.of s) (h.st.same s)
structure FU (P:Ad) (w:Af) (K:ai) (mg:Str->Option Aa) (base:Heap) (CG CW:Addr):Prop where
 cD:!br 1 tQ uO wA
 cF:!br 8 "fewest_moves" oE (IG K CG CW)
 cS:!br 8 "shut_fault" ue (Nt K CG CW)
 cW:!br 2 "_law_written" ug Ny
 cB:!br 3 "_law_is_even_by" uj (lC K)
theorem ql.ok{c:Nat}{l:List (ak × Nat)}(h:ql c LL.flatten l)(ok:gA (Nx hs ts qs) s0 LL)(v:Vs hs qs s0)(fl:LL.flatten.length<=300):Be hs qs c l:=#[h.nd,λe he=>by
 let#[h1,h2]:=h.lt e he;let#[j,w]:=(ok.all e.1).mp h2;exact#[w.vs v,h1],by have:=h.len;omega]
theorem Dq{D:Ends}(h:D.nx σ H):wR D σ H:=h
def yz(LL:List (List ak)):Nat->List (ak × Nat)
 |0=>[]
 |i+1=>yz LL i++(LL.getD i []).map λz=>(z,i)
theorem Ry{LL:List (List ak)}{z:ak}{k:Nat}:∀{i:Nat},(z,k)∈yz LL i ↔ k<i/\z∈LL.getD k []
 |0=>#[λh=>(by cases h),λh=>absurd h.1 (Nat.not_lt_zero _)]
 |i+1=>by
  show (z,k)∈yz LL i++_ ↔ _;rw[dI,Ry,bG];constructor
  ·rintro (⟨h1,h2⟩|⟨x,hx,e⟩)
   ·exact#[by omega,h2]
   cases e;exact#[by omega,hx]
  rintro⟨h1,h2⟩;by_cases c:k=i
  ·subst c;exact .inr #[z,h2,U]
  exact .inl #[by omega,h2]
abbrev fB:List Stmt:=EV (zp (gc fg) 0)
variable{fl:Addr}
theorem HV{cd:Aa}{A:Ag}{outer:List Env}{s:Ab}{Hi:Hp}{E:XK}(hr:aO 9 (A.deeper (PyProof.Rows.envOfC "law" (a9 fg) s.heap.objs.size fl cd)))(B:Bi mg)(l0:mg "min"=none)(C:FU P w K mg base CG CW):∃t,jZ (i9 a_ P w K mg base lN "law" (a9 fg) fl cd A outer s Hi E).xn (fB.drop 8) t /\
  ∀(D:Ends) (H:Hp) (w1 w2 w5:V) (va vb vc vd ve vf vg vh:aH) (l lh lt lz d g0 pw lL:Addr) (hs:Xa) (ts:Xb) (ss qs:aP) (fp:av) (ns:ag) (f:bF) (s0:ak) (yL:af) (LL:List (List ak)),Dm K CG CW H l lh lt lz d g0 pw lL hs ts ss qs fp ns f s0 yL LL->
   (∀va vb vc vd ve vf vg vh H',aV l H H'->D.nx [some w1,some w2,some (.ref l),some (.ref lh),some (.ref lt),some w5,some (.ref d),some (.ref lz),some (.ref g0),some (.ref lL),va,vb,vc,vd,ve,vf,vg,vh] H')->
   t D [some w1,some w2,some (.ref l),some (.ref lh),some (.ref lt),some w5,some (.ref d),some (.ref lz),some (.ref g0),some (.ref lL),va,vb,vc,vd,ve,vf,vg,vh] H:=by
 let hu:=fG hr;let sz:=cq;have cF2:!br 8 "fewest_moves" oE (lu K CG CW):=C.cF.imp Mh;refine' #[_,?c8,?kk]
 case' c8=>refine' au ?q8 ?c9
 case' c9=>refine' au ?q9 ?c10
 case' c10=>refine' au ?Kd ?c11
 case' c11=>refine' au ?Kc ?c12
 case' c12=>refine' au ?Wn ?c13
 case' c13=>refine' au ?Wm ?c14
 case' c14=>refine' au ?Wl ?c15
 case' c15=>refine' au ?Wj ?c16
 case' c16=>refine' aF ?Wi
 case' q8=>refine' Qv (i:=10) ?y1 ?y2 ?y3 ?y4
 case y1=>exact je.nd
 case y2=>exact U
 case y3=>exact Or.inl U
 case' y4=>refine' bw ?z1 ?z2 ?t4 ?z3
 case z1=>exact gd
 case z3=>exact λ_ _=>rfl
 case' z2=>refine' ft ?z4
 case' z4=>refine' eV ?t1 ?z5
 case' z5=>refine' eV ?t2 ?z6
 case' z6=>refine' eV ?t3 ?z7
 case z7=>exact bK
 case t1=>exact gh %[ay,ay|0]
 case' t2=>refine' gh %[?t5,ay|0]
 case t5=>exact bP gz ay (bP qb ay (bc C.cD hr %[2,ay|0]))
 case t3=>exact gh %[GM He ay,ay|0]
 case t4=>exact bc C.cD hr %[2,ay|0]
 case q9=>exact bu 11 je.nd (bP gz ay (bc C.cD hr %[2,ay|0]))
 case Kd=>exact bu 12 je.nd (bc C.cB hr %[gh %[3,7|0],9,10,11|0])
 case Kc=>exact bu 13 je.nd (bc cF2 hr %[8,6,10,ay|0])
 case Wn=>exact cg (eY pV (pv 12) (ph (pE BJ (bw cU (pv 13) ay) tV) (qe (pE BH (cy iq (by rfl) B.len gE %[bw cU (pv 13) ay|0]) (pv 11))))) (aF (bp il)) cj
 case' Wm=>refine' d0 dM U (uW (by rfl) B.range %[ay|0]) (cu 14 je.nd) (au ?d1 (aF ?d2))
 case d1=>exact bu 15 je.nd (bc C.cW hr %[2,9,11|0])
 case d2=>exact cg (L7 (eY Lq (bc C.cS hr %[8,6,10,11,15|0]) tW) (Mz (d7 (pv 12)))).pt (aF (bp il)) cj
 case Wl=>exact bu 16 je.nd (ft bK)
 case' Wj=>refine' d0 dM U (uW (by rfl) B.range %[cy (SZ U) (by rfl) l0 L9 %[11,cy iq (by rfl) B.len gE %[9|0]|0]|0]) (cu 14 je.nd) (aF ?e1)
 case' e1=>refine' d0 dM U (dX (bw gd (pv 9) (pv 14))) (cu 17 je.nd) (aF ?e2)
 case e2=>exact kI (pe ou PySem.F.slot_list_insert PySem.F.type_list_insert IM (pv 16) %[bc C.cD hr %[2,bP gz (cy iq (by rfl) B.len gE %[16|0]) ay|0],gh %[17,14|0]|0])
 case Wi=>exact cg (eY BJ (pE Lq (bc C.cS hr %[8,6,10,11,16|0]) tW) (pv 12)) (aF (bp il)) cj
 intro D H w1 w2 w5 va vb vc vd ve vf vg vh l lh lt lz d g0 pw lL hs ts ss qs fp ns f s0 yL LL Z k;have Bl:Vs hs qs s0:=Z.Sd.vs;let ok:=Z.ok;let Mg:=Z.fl;let Xk:=My ok.ne;let GD:=bH Z.ly;let nd:=ok.flat
 have tup:∀{Ha Hb:Hp},cK Ha l->aV l Ha Hb->∀{c xs},Ha c\.tup xs->Hb c\.tup xs:=λ{Ha Hb} sa b {c xs} e=>by
  let#[xs,e2]:=sa.some;exact b _ _ e (bS e e2 nofun)
 apply#[zl,λt1 o4=>?_];let#[s1,e1]:=aD (o:=.tup [.int 0,.int 1]) o4;let Z1:=Z.same s1;generalize upd H t1 (.tup [.int 0,.int 1])=H1 at s1 e1 Z1 ⊢;apply#[_,U,l,9,U,by decide,by decide,Z1.st,λr3 H2 q0 q1 b2 eU=>#[_,_,U,U,.inr #[by omega,by omega],_,_,U,U,zl,λt2 xw=>?_]];let#[s3,e3]:=aD (o:=.tup [.int (1+2 * r3),.int 4]) xw;generalize upd H2 t2 (.tup [.int (1+2 * r3),.int 4])=H3 at s3 e3 ⊢;apply#[_,U,zl,λt3 _w=>?_];let#[s4,e4]:=aD (o:=.tup [.int (-1),.int 3]) _w;generalize upd H3 t3 (.tup [.int (-1),.int 3])=H4 at s4 e4 ⊢;apply#[zl,λlc xD=>?_];let#[s5,e5]:=aD (o:=.lst [.ref t1,.ref t2,.ref t3]) xD;let gR:=(eU.same s3).same s4
 have Xo:lc≠l:=by
  let#[xs,e]:=gR.some;exact (bz e xD).symm
 let J4:=s3.trans (s4.trans s5);generalize upd H4 lc (.lst [.ref t1,.ref t2,.ref t3])=H5 at s5 e5 J4 ⊢;let gi:=eU.same J4;have Uw:aV l H1 H5:=b2.trans (aV.of J4);apply#[_,U,l,3,U,by decide,by decide,gi,λr5 H6 p0 p1 b6 iy=>?_]
 let#[y,hy,tl,lim,ey,BI,lo]:=Ex (p:=λy:V=>∃(t:Addr) (lim:Int × Int),y=.ref t/\gP H6 t lim/\tL lim) (xs:=[V.ref t1,.ref t2,.ref t3]) p0 p1 (λx hx=>by
  simp only[bY,gf,or_false] at hx;rcases hx with rfl|rfl|rfl
  ·exact#[t1,(0,1),U,tup gi b6 (tup Z1.st Uw e1),by constructor<;>decide]
  ·exact#[t2,(1+2 * r3,4),U,tup gi b6 ((s4.trans s5) _ _ e3),gg_ q0 q1 (.inr (.inr (.inl U)))]
  exact#[t3,(-1,3),U,tup gi b6 (s5 _ _ e4),by constructor<;>decide])
 subst ey;apply#[lc,_,_,_,U,U,.of (b6 _ _ e5 Xo),hy,?_];apply#[_,U,l,5,U,by decide,by decide,iy,λr7 H7 u0 u1 b7 i0=>#[_,_,U,U,?_]];obtain⟨c,ec,c1,c5⟩:∃c:Nat,(1+r7:Int)=(c:Int)/\1<=c/\c<=5:=#[(1+r7).toNat,by omega,by omega,by omega];rw[ec];have Uv:aV l H H7:=(aV.of s1).trans (Uw.trans (b6.trans b7));let Z7:=Z.but Uv i0;let xO:=tup iy b7 BI;apply#[_,U,_,U,zl,λlq _K=>?_];let#[s8,e8]:=aD (o:=.tup [.ref lh,.ref lz]) _K;generalize upd H7 lq (.tup [.ref lh,.ref lz])=H8 at s8 e8 ⊢;let Z8:=Z7.same s8
 have Xj:∀L∈LL,L.length<=1000000:=λL hL=>by
  have:=(List.sublist_flatten_of_mem hL).length_le;omega
 apply#[_,U,_,U,_,U,lq,lh,lz,lt,lL,tl,yL,LL,hs,ts,ss,qs,lim,s0,c,U,e8,#[Z8.hh,Z8.hp,Z8.ht,s8 _ _ xO,lo,Z.G,Z.S,Z.s8],Z8.hL,Z8.ly,ok,Bl,Xj,λb H9 s9 hb=>?_];let Z9:=Z8.same s9;let RO:=s9 _ _ (s8 _ _ xO)
 have dsl:∀j z,Ds (Nx hs ts qs) s0 j z->j<1000:=λj z dz=>by
  let#[L,hL,_]:=ok.mem dz;have:=(bW.mp hL).1;omega
 apply#[_,U,_,U,_,U,g0,pw,d,tl,hs,ts,qs,fp,s0,ns,f,lim,3000,U,Z9.Gg,Z9.Sd,RO,lo,by decide,by decide,λj z dz=>by have:=dsl j z dz;omega,λt HA sA td=>?_];rcases td with⟨td,_⟩|⟨_,W0⟩;rotate_left 1
 ·exact absurd W0 (ok.vE Z2)
 let ZA:=Z9.same sA;let RN:=sA _ _ RO;have b0A:aV l H HA:=Uv.trans (aV.of ((s8.trans s9).trans sA));refine' yw (R:=λG=>G=HA) ?ca ?cb
 case ca=>
  intro hq;rcases td with⟨x,ys,ms,sE,h1,h2,h3,h4,h5,h6,h7⟩|⟨h1,h2⟩
  ·let lym:=bH h3
   have eb:b=decide ((ys.length:Int)<(c:Int)):=by
    rw[Bool.eq_iff_iff,hb,decide_eq_true_eq];constructor
    ·rintro⟨j,z,hj,dz,ez⟩;by_cases q:ms.length<=j
     ·omega
     rw[h7 j z Z2 dz] at ez;cases ez
    intro h;exact#[ms.length,sE,by omega,h5,h6]
   apply#[_,U,_,U,t,_,0,_,U,U,.of h1,L2.dR (j:=0) U,U,_,U,c_ ?_];apply#[_,U,t,_,1,_,U,U,.of h1,L2.dR (j:=1) U,x,_,U,.inl (.of h2),_,U,_,_,U,U,U,_,U,?_];apply xR (by rw[eb]) ?_;exact hq HA U
  have eb:b=false:=by
   rw[<- Bool.not_eq_true,hb];rintro⟨j,z,hj,dz,ez⟩;rw[h2 j z dz] at ez;cases ez
  apply#[_,U,_,U,t,_,0,_,U,U,.of h1,L2.dR (j:=0) U,U,_,U,aM ?_];apply#[U,_,U,?_];apply xR (by rw[eb]) ?_;exact hq HA U
 case cb=>
  intro G hG;let hG':=hG.symm;subst hG';apply Dq ?_;dsimp only
  let Rr:iS:=λσ H'=>∃(ve vf vg vh:aH),σ=[some w1,some w2,some (.ref l),some (.ref lh),some (.ref lt),some w5,some (.ref d),some (.ref lz),some (.ref g0),some (.ref lL),some (.ref tl),some (.int c),some (.bl b),some (.ref t),ve,vf,vg,vh]/\aV l HA H'/\cK H' l
  apply CZ (R:=Rr) ?_ (λN hN=>?_);rotate_left 1
  ·apply#[_,U,by decide,by decide,?_];apply wD (lo:=0) (n:=(3:Int).toNat) (λi σ H'=>Rr σ H') ?_ ?_ ?_
   ·exact#[_,_,_,_,U,λb o e _=>e,ZA.st]
   ·rintro i σ HB hi ⟨ve,vf,vg,vh,rfl,bB,oK⟩;let ZB:=ZA.but bB oK;let Mb:=tup ZA.st bB RN;apply#[_,U,_,U,_,U,l,lL,c,yL,LL,U,oK,ZB.hL,ZB.n4,ZB.ly,ZB.fr,nd,Mg,by omega,c1,by omega,λlf zs sh HC bC stC nlf DK hf sa sw=>?_];let ZC:=ZB.but bC stC;let Ma:=tup oK bC Mb;apply#[_,U,_,U,_,U,_,U,_,U,g0,pw,d,tl,lf,zs,hs,ts,qs,fp,s0,ns,f,lim,c,sh,U,ZC.Gg,ZC.Sd,Ma,lo,c1,by omega,hf,sa,sw.ok ok Bl Mg,λHD sD good=>?_,λtt HD sD _=>?_]
    ·have eb:b=false:=by
      rw[<- Bool.not_eq_true,hb];rintro⟨j,z,hj,dz,ez⟩;let#[k',_,hm]:=good.sound dz.1 hj;have:=good.no _ hm;rw[show eW hs qs z lim=true from ez] at this;cases this
     apply#[U,_,U,c_ #[_,U,_,U,?_]];rw[eb];apply aM ?_;exact#[_,_,_,_,by rw[eb];rfl,bB.trans (bC.trans (aV.of sD)),stC.same sD]
    apply#[U,_,U,aM ?_];exact#[_,_,_,_,U,bB.trans (bC.trans (aV.of sD)),stC.same sD]
   intro σ HB h;exact hN _ _ h
  rintro σ HB ⟨ve,vf,vg,vh,rfl,bB,oK⟩;let ZB:=ZA.but bB oK;let Mb:=tup ZA.st bB RN;apply#[zl,λlx jG=>?_];let#[sX,eX]:=aD (o:=.lst []) jG;let ZX:=ZB.same sX
  have Bu:lx≠l:=by
   let#[xs,e]:=oK.some;exact (bz e jG).symm
  generalize upd HB lx (.lst [])=HX at sX eX ZX ⊢
  obtain⟨m,em,mm⟩:∃m:Nat,(if (yL.length:Int)<(c:Int) then (yL.length:Int) else (c:Int))=(m:Int)/\m=min c LL.length:=by
   split
   ·exact#[yL.length,U,by omega]
   exact#[c,U,by omega]
  have DH:yL.length<=1000:=by omega
  let J:List ak->List (ak × Nat)->Hp->Prop:=λseen done H'=>∃(zs:af) (sh:List (ak × Nat)),aV l HB H'/\cK H' l/\H' lx\.lst zs/\eD H' zs sh/\ql c seen sh/\sh.Perm done
  let Rx:iS:=λσ H'=>∃(ve vf vh:aH),σ=[some w1,some w2,some (.ref l),some (.ref lh),some (.ref lt),some w5,some (.ref d),some (.ref lz),some (.ref g0),some (.ref lL),some (.ref tl),some (.int c),some (.bl b),some (.ref t),ve,vf,some (.ref lx),vh]/\J (LL.take m).flatten (yz LL m) H'
  apply setG (i:=16) (v:=.ref lx) ?_;dsimp only;apply CZ (R:=Rx) ?_ (λN hN=>?_);rotate_left 1
  ·apply#[_,U,_,U,lL,_,U,.inl (.of ZX.hL),_,_,U,?_];rw[em];apply#[_,U,by omega,by omega,?_]
   let Iv:bR:=λi σ H'=>∃(ve vf vh:aH),σ=[some w1,some w2,some (.ref l),some (.ref lh),some (.ref lt),some w5,some (.ref d),some (.ref lz),some (.ref g0),some (.ref lL),some (.ref tl),some (.int c),some (.bl b),some (.ref t),ve,vf,some (.ref lx),vh]/\J (LL.take i).flatten (yz LL i) H'
   apply wD (lo:=0) (n:=(m:Int).toNat) Iv ?_ ?_ ?_
   ·exact#[_,_,_,U,[],[],aV.of sX,ZX.st,eX,.nil,#[.nil,by simp,by simp],List.Perm.refl _]
   ·rintro i σ HC hi ⟨ve,vf,vh,rfl,jj⟩;have hi:i<yL.length:=by omega
    have _W:i<c:=by omega
    let#[a,ws,ea,ha,sp]:=d8 ZB.ly i hi Z2;have oi:LL[i]? = some (LL[i]' Z2):=aY Z2;obtain⟨Lr,eL⟩:∃L,L=LL[i]' Z2:=#[_,U];rw[<- eL] at oi sp;let uD:=bH sp;have al:a≠l:=ZB.fr a (by rw[<- ea];exact kJ hi);have gD:LL.getD i []=Lr:=by rw[List.getD_eq_getElem?_getD,oi];rfl
    rw[show (0:Int)+(i:Nat)=(i:Int) by omega];let#[UI,VL,b3,_]:=id jj;apply#[_,U,_,U,lL,_,i,_,U,U,.of (b3 _ _ ZB.hL ZB.n4),L2.dR (by rw[aY hi,ea]),a,U,#[_,.of (b3 _ _ ha al)],?_]
    let Iw:bR:=λj σ H'=>∃(vf vh:aH),σ=[some w1,some w2,some (.ref l),some (.ref lh),some (.ref lt),some w5,some (.ref d),some (.ref lz),some (.ref g0),some (.ref lL),some (.ref tl),some (.int c),some (.bl b),some (.ref t),some (.int i),vf,some (.ref lx),vh]/\J ((LL.take i).flatten++Lr.take j) (yz LL i++(Lr.take j).map λz=>(z,i)) H'
    apply ib (K:=K) (a:=a) (xs:=ws) Iw ?_ ?_ ?_ ?_
    ·exact#[_,_,U,by rw[List.take_zero,wI,List.map_nil,wI];exact jj]
    ·rintro j σ H' _ ⟨_,_,_,_,_,bq,_⟩;exact .of (bq _ _ ha al)
    ·rintro j y σ HD hy ⟨vf,vh,rfl,zs,sh,bD,F8,Lz,Po,Pi,Wt⟩;have hj:j<ws.length:=(bW.mp hy).1
     obtain⟨z,hz,tz,rfl,_q⟩:∃z,Lr[j]? = some z/\∃t,y=V.ref t/\HB t\.tup (sV z):=by
      have:=d8 sp j hj Z2;rw[aY hj] at hy;cases hy;exact#[Lr[j]' Z2,aY Z2,this]
     let nz:=RF nd oi hz;let fle:=Ro oi j;let Ku:=bH Po;let Xc:=Pi.len;have tk:Lr.take (j+1)=Lr.take j++[z]:=by rw[mJ,hz];rfl
     apply#[_,U,.inl #[U,_,.of Lz],_,U,_,U,lx,_,U,.inl (.of Lz),_,_,U,U,l,_,U,by show (0:Int)<(zs.length:Int)+1;omega,by show (zs.length:Int)+1<1073741824;omega,F8,λra HE a0 a1 bE F7=>?_];have a1:ra<(zs.length:Int)+1:=a1;let Uq:=bD.trans bE;have K0:HE tz\.tup (sV z):=tup oK Uq _q;let hfE:=bE _ _ Lz Bu;let VN:=Po.keep λ_ _ e=>tup F8 bE e;apply#[_,U,_,U,zl,λte KZ=>?_];let#[sF,eF]:=aD (o:=.tup [.ref tz,.int i]) KZ;generalize upd HE te (.tup [.ref tz,.int i])=HF at sF eF ⊢;let Q7:=sF _ _ hfE;apply#[lx,ra.toNat,zs,.ref te,U,by rw[Int.toNat_of_nonneg a0],Q7,by omega,by omega,?_]
     have kt:∀b xs,HF b\.tup xs->upd HF lx (.lst (iM zs ra.toNat (.ref te))) b\.tup xs:=λb xs e=>by
      rw[aw (bS e Q7 nofun)];exact e
     apply#[_,_,U,iM zs ra.toNat (.ref te),iM sh ra.toNat (z,i),λb o e ne=>?_,?_,az,?_,?_,?_]
     ·rw[aw (bz e jG)];exact sF _ _ (Uq b o e ne)
     ·unfold cK;rw[aw Bu.symm];exact F7.same sF
     ·exact (eD.ins (VN.same sF) ra.toNat eF (sF _ _ K0)).keep kt
     ·rw[tk,<- List.append_assoc];exact Pi.add nz _W _
     rw[tk,eg,<- List.append_assoc];apply (A8 sh ra.toNat (z,i)).trans ?_;exact (List.perm_append_singleton (z,i) sh).symm.trans (Wt.append_right [(z,i)])
    rintro σ HD ⟨vf,vh,rfl,jj⟩;rw[uD,eR,<- Ti oi] at jj;apply#[_,_,_,U,?_];show J _ (yz LL i++(LL.getD i []).map λz=>(z,i)) HD;rw[gD];exact jj
   rintro σ HC h;rw[show (m:Int).toNat=m by omega] at h;exact hN _ _ h
  rintro σ HC ⟨ve,vf,vh,rfl,zs,sh,bC,stC,hfC,VO,F5,Wu⟩;let ZC:=ZB.but bC stC;let Ma:=tup oK bC Mb
  have VC:ql c LL.flatten sh:=#[F5.nd,λe he=>#[(F5.lt e he).1,by
   have:=(F5.lt e he).2;let e2:=List.take_append_drop m LL;rw[<- e2,List.flatten_append]
   exact List.mem_append_left _ this],iQ F5.len (by
    have:=List.sublist_append_left (LL.take m).flatten (LL.drop m).flatten;rw[<- List.flatten_append,List.take_append_drop] at this;exact this.length_le)]
  have mem:∀s k,(s,k)∈sh ↔ k<c/\Ds (Nx hs ts qs) s0 k s:=λs k=>by
   rw[Wu.mem_iff,Ry];constructor
   ·rintro⟨h1,h2⟩;have hk:LL[k]? = some (LL[k]' Z2):=aY Z2;rw[List.getD_eq_getElem?_getD,hk] at h2;exact#[by omega,((ok.is k _ hk).2 s).mp h2]
   rintro⟨h1,h2⟩;let#[L,hL,hm]:=ok.mem h2;have:=(bW.mp hL).1;apply#[by omega,?_];rw[List.getD_eq_getElem?_getD,hL];exact hm
  let tE:=xX.exact (ev:=λz=>eW hs qs z lim) c1 mem
  have eb:b=false ↔ ∀j z,j<c->Ds (Nx hs ts qs) s0 j z->eW hs qs z lim=false:=by
   rw[<- Bool.not_eq_true,hb];constructor
   ·intro h j z hj dz;rw[<- Bool.not_eq_true];exact λe=>h #[j,z,hj,dz,e]
   rintro h ⟨j,z,hj,dz,e⟩;rw[h j z hj dz] at e;cases e
  have fin:∀HD,aa HC HD->aV l H HD:=λHD sD=>b0A.trans (bB.trans (bC.trans (aV.of sD)));apply#[_,U,_,U,_,U,_,U,_,U,g0,pw,d,tl,lx,zs,hs,ts,qs,fp,s0,ns,f,lim,c,sh,U,ZC.Gg,ZC.Sd,Ma,lo,c1,by omega,hfC,VO,VC.ok ok Bl Mg,λHD sD good=>?_,λtt HD sD bad=>?_]
  ·have b0:b=false:=eb.mpr (tE.mp good);apply#[U,_,U,U,_,U,?_];rw[b0];apply bQ (λh=>?_) (λ_=>?_)
   ·simp at h
   exact k _ _ _ _ _ _ _ _ _ (fin HD sD)
  have b1:b=true:=by
   rw[<- Bool.not_eq_false];exact λh=>bad (tE.mpr (eb.mp h))
  apply#[U,_,U,U,_,U,?_];rw[b1];apply bQ (λh=>?_) (λ_=>?_)
  ·simp at h
  exact k _ _ _ _ _ _ _ _ _ (fin HD sD)
structure OY (P:Ad) (w:Af) (K:ai) (mg:Str->Option Aa) (base:Heap) (CG CW:Addr):Prop where
 cD:!br 1 tQ uO wA
 cH:!br 3 "_law_hands" [gL,"_law_most"] (So K)
 cT:!br 2 "_law_ties" [gL,mF] (M_ K)
 cP:!br 3 "_law_pieces" uf (Oa K)
 cS:!br 2 "_law_stand" oF (Oj K)
 cW:!j_ CW 5 "Web" ["self","hands","ties"] (Hu K CW)
 cG:!j_ CG 7 "Goods" ["self","web","pieces"] (IP K CG CW)
 cL:!br 2 "_law_layers" uk (MV K)
def ng(K:ai)(T:Addr):Sp:=λvs H Q _=>∃(a:Addr) (ns:List Int),vs=[.ref a]/\H T\.tbl #[]/\dS K H a (ns.map V.int)/\ns.length<=63/\∀H',Q (.bl true) H'
theorem X3{c0:Addr}(F:wK K "law" "law" fg fl c0 fd)(B:Bi mg)(l0:mg "min"=none)(hC:PySem.W.CodeHd base c0 T)(xH:base.BuiltinsAt mg T)(C:OY P w K mg base CG CW)(C2:FU P w K mg base CG CW):!ao a_ 10 fl fd [xS] (ng K T):=by
 apply F.ok je (λvs H Q E h=>?_) (λA outer s H vs Q E hr h=>?_)
 ·let#[a,ns,rfl,_]:=h;rfl
 let#[ls,ns,rfl,hT,Lh,h63,k]:=h;let sz:=cq;let hu:=fG hr;have By:aO 3 _:=hr.mono (by decide);let#[tl,_s,later]:=HV (Hi:=H) (E:=E) (outer:=outer) hr B l0 C2;refine' #[_,au ?s1 (aF (bp il)),?kk]
 case' s1=>refine' d0 dM U (dX (bP Yd (ft %[ay|0]) (AX Mn (pv 0) A4 (A3 ay)))) (cu 1 je.nd) ?b0
 case' b0=>refine' au ?q0 ?c1
 case' c1=>refine' au ?q1 ?c2
 case' c2=>refine' au ?q2 ?c3
 case' c3=>refine' au ?q3 ?c4
 case' c4=>refine' au ?q4 ?c5
 case' c5=>refine' au ?q5 ?c6
 case' c6=>refine' au ?q6 ?c7
 case' c7=>refine' au ?q7 ?c8
 case c8=>exact _s
 case q0=>exact bu 2 je.nd (ft %[1|0])
 case q1=>exact bu 3 je.nd (bc C.cH hr %[2,ay|0])
 case q2=>exact bu 4 je.nd (bc C.cT hr %[2,3|0])
 case q3=>exact bu 5 je.nd (bc C.cP hr %[2,4,ay|0])
 case q4=>exact bu 6 je.nd (bc C.cS hr %[2,3,5|0])
 case q5=>exact bu 7 je.nd (h1_ (px:=wm) (dG:=[]) (cl:=[]) (is:=[]) (k:=1) U (by rfl) B.sorted %[5|0] (YL (YF (P:=T) (c:=c0) U NF U hC xH) Yc) YZ By (λ_ h=>by cases h) (λ_ h=>by cases h) (λ_ h=>by cases h) U)
 case q6=>exact bu 8 je.nd (GK C.cG hr %[GK C.cW hr %[3,4|0],5|0])
 case' q7=>refine' bu 9 je.nd (bc C.cL hr %[7,4,iO IT (by rfl) B.tuple qf %[js [wm,"_law_stand_here"] 1 [6] (dX (pv 7)) (λfp s H=>?g6) (λfp s H=>kE) (λfp s H=>?e6)|0],ay|0])
 case g6=>exact fW (i:=0) (show ([wm,"_law_stand_here"]:ag).Nodup by decide +kernel) U (Or.inl U)
 case e6=>exact mI hu (pv 1) (bw (zD (K:=K) oQ cU) (pv 0) ay)
 have vY:mE H T qL:=#[[],hT,λe he=>by cases he];apply#[zl,λa1 n1=>?_];let#[s1,k1]:=aD (o:=.lst [.int 0]) n1;generalize upd H a1 (.lst [.int 0])=H1 at s1 k1 ⊢;apply#[_,U,_,U,ls,_,U,hV_ s1 Lh,λa2 n2=>?_];let#[s2,k2]:=aD (o:=.lst (dP (ns.map V.int) none (some 4))) n2;generalize upd H1 a2 (.lst (dP (ns.map V.int) none (some 4)))=H2 at s2 k2 ⊢;let lc:=Ox (ns.map V.int) none (some 4);rw[aq] at lc;apply#[a1,a2,_,_,U,U,s2 _ _ k1,k2,by show 1+(dP (ns.map V.int) none (some 4)).length<=sizeLine;omega,λa3 n3=>?_];let#[s3,k3]:=aD (o:=.lst ([.int 0]++dP (ns.map V.int) none (some 4))) n3;generalize upd H2 a3 (.lst ([.int 0]++dP (ns.map V.int) none (some 4)))=H0 at s3 k3 ⊢;have CC:mE H0 T qL:=vY.same ((s1.trans s2).trans s3)
 have allI:∀y∈[V.int 0]++dP (ns.map V.int) none (some 4),∃n,y=.int n:=λy hy=>by
  rcases dI.mp hy with hy|hy
  ·exact#[0,eJ.mp hy]
  have hy:y∈ns.map V.int:=by
   unfold dP at hy;exact List.mem_of_mem_drop (List.mem_of_mem_take hy)
  let#[n,_,rfl]:=bG.mp hy;exact#[n,U]
 let Iv:bR:=λi σ H2=>∃(v1 v2 v3 v4 v5 v6 v7 v8 v9 va vb vc vd ve vf vg vh:aH),σ=[some (.ref ls),v1,v2,v3,v4,v5,v6,v7,v8,v9,va,vb,vc,vd,ve,vf,vg,vh]/\NT H0 H2/\mE H2 T qL
 apply#[a3,U,#[_,.of k3],?_];apply ib (K:=K) (a:=a3) (xs:=[.int 0]++dP (ns.map V.int) none (some 4)) Iv ?_ ?_ ?_ ?_
 ·exact#[none,none,none,none,none,none,none,none,none,none,none,none,none,none,none,none,none,U,NT.refl H0,CC]
 ·rintro i σ H' _ ⟨_,_,_,_,_,_,_,_,_,_,_,_,_,_,_,_,_,_,nt,_⟩;exact .of (nt.lst k3)
 rotate_left 1
 ·rintro σ H' ⟨_,_,_,_,_,_,_,_,_,_,_,_,_,_,_,_,_,rfl,_,_⟩;exact k H'
 rintro i y σ H2 hy ⟨v1,v2,v3,v4,v5,v6,v7,v8,v9,va,vb,vc,vd,ve,vf,vg,vh,rfl,WL,JH⟩;let#[n,rfl]:=allI y (cZ hy);clear hy s1 k1 s2 k2 n1 n2 n3 s3 vY CC k;apply#[_,U,zl,λl nl=>?_];let s3:=aa.new (o:=.lst [.int n]) nl;have ic:cK (upd H2 l (.lst [.int n])) l:=.inl #[n,az];generalize upd H2 l (.lst [.int n])=H3 at s3 ic ⊢;apply#[_,U,l,3,U,by decide,by decide,ic,λlh yh hs H4 b4 gR pU fZ tu g nd h1 h8=>?_];let#[UU,zW]:=ic.some;have uE:lh≠l:=(bz zW pU).symm;apply#[_,U,_,U,l,lh,yh,hs,U,gR,fZ,tu,λx hx=>?_,nd,by omega,uE,λlt yt ts H5 b5 gi o8 dH tt tok F2 w4=>?_]
 ·let#[h,hh,rfl]:=bG.mp hx;exact (g h hh).1
 let#[UT,En]:=gR.some;have xq:lt≠l:=(bz En o8).symm;have W:Good hs ts:=#[g,nd,h1,by omega,λt ht=>(tok t ht).1,F2,w4,λt ht=>(tok t ht).2];apply#[_,U,_,U,l,lt,3,yt,ts,U,by decide,gi,dH,tt,xq,w4,W.tok,F2,λlp yp ps H6 b6 iy BI kq pc dp vB p3=>?_];let#[xs5,GX]:=gi.some;have DJ:lp≠l:=(bz GX BI).symm;let uy:=jg (jg tu b5 En) b6 GX;let zU:=b6 _ _ (b5 _ _ fZ uE) uE;apply#[_,U,_,U,_,U,l,lh,lp,yh,yp,hs,ps,U,iy,zU,uy,uE,h1,by omega,kq,pc,DJ,vB,by omega,λd f H7 b7 i0 xO hd fm=>?_];let#[O5,zV]:=iy.some;have D7:Dr K H7 l lh lt lp d hs ts ps f:=#[i0,#[yh,b7 _ _ zU uE,jg uy b7 zV],#[yt,b7 _ _ (b6 _ _ dH xq) xq,jg (jg tt b6 GX) b7 zV],#[yp,b7 _ _ kq DJ,Paired.aX pc λy p q=>q.but b7 iy],hd,uE,xq,DJ];have Pw:aa H2 H7:=(((b4.trans b5).trans b6).trans b7).same nl s3;have CB:mE H7 T qL:=JH.same Pw;clear b4 b5 b6 b7 ic gR gi iy i0 pU o8 BI xO zW En GX zV tu uy fZ zU dH tt kq pc hd s3;apply#[_,U,Ko (E_ ?_)];apply Ye CB U U U U λG7 c' H8 b8 JG Lx G4=>?_;let#[tv,hT7]:=Ze CB;have Dk:NT H7 H8:=b8.nt hT7;let D8:=D7.nt Dk;let#[UQ,Li,Gn]:=D8.hp;let DI:=bH Gn;apply#[.ref lp,G7,c',UQ,Kl H8,[],U,U,Lx,G4,.inl #[lp,U,.of Li],by omega,U,λH' x sm hx=>?_,λlz zs H9 s9 WI WJ pz ek=>?_]
 ·let#[j,hj,rfl]:=ia hx;let#[t,v,e,ht,_]:=d8 Gn j hj Z2;rw[e];apply#[t,_,_,U,U,sm _ _ ht,aa.refl _,?_];show V.str _=V.str (match H8 t with|some (.tup (.str n::_))=>n|_=>(⟨#[]⟩:Str));rw[ht]
 let#[ss,sp,PM]:=eE_ pz Gn
 have esn:ss.map (·.1)=iN (ps.map (·.1)):=by
  rw[<- Mr PM,<- Mr Gn];exact ek
 have sA:aa H8 (upd H9 lz (.lst zs)):=s9.trans (aa.new WI);have eA:upd H9 lz (.lst zs) lz\.lst zs:=az;generalize upd H9 lz (.lst zs)=HA at sA eA ⊢;have PP:kC K HA zs ss:=AQ PM sA;let DA:=D8.same sA;let JF:=JG.same sA;have WK:NT H2 HA:=((NT.of Pw).trans Dk).trans (NT.of sA)
 have Gy:lz≠l:=by
  let#[xs,e]:=D8.st.some;exact (bz e WJ).symm
 have ki:(ss.map (·.1)).Nodup:=(sp.map (·.1)).nodup_iff.mpr vB;have W_:ss.length=ps.length:=sp.length_eq;let Ku:=bH PP;let#[#[yhC,hhC,Vj],#[ztC,_u,Vp],#[ypC,_D,Ww]]:=And.intro DA.hh (And.intro DA.ht DA.hp);apply#[_,U,_,U,?_];apply XJ W hhC Vj _u Vp (λpw dk HD sD Wb RL=>?_);apply#[_,U,?_];apply Zv Wb W (sD _ _ _D) (AQ Ww sD) (λq hq=>(dp q hq).g) vB Z2 (λg0 qs RQ HE sE GA Qq RM=>?_);let#[fp,GA,has,sub]:=GA.CV;have S:eS ts ss qs:=XY Qq vB sp esn dp;let Xd:=S.len
 have lfp:l∉fp:=λm=>by
  let#[xs,e]:=DA.st.some;rcases RM l (sub l m) with z|z
  ·have:=RL l z;rw[e] at this;cases this
  rw[sD _ _ e] at z;cases z
 let C6:=sD.trans sE;let DE:=DA.same C6;have JE:mE HE T qL:=JF.same C6;let HQ:=C6 _ _ eA;let Br:=AQ PP C6;have PV:qs.map (·.1)=ss.map (·.1):=S.zu;apply#[_,U,_,U,_,U,lz,U,#[_,.of HQ],λD hD=>?_];apply kK (own:=1) (fv:=[some (.ref d)]) (xs:=zs) U fE (λi out H'=>aa HE H'/\H' D\.lst out/\out=((ss.take i).map λp=>f p.1).map V.str) #[aa.new hD,az,U] (λi out H' _ ⟨sm,_,_⟩=>.of (sm _ _ HQ)) (λout HB ⟨sB,G6,eo⟩=>?_) (λj y out H' hy ⟨sm,dF,eo⟩=>?_);rotate_left 1
 ·have hj:j<zs.length:=(bW.mp hy).1
  obtain⟨q,hq,t,v,rfl,ht,_⟩:∃q,ss[j]? = some q/\ji K HE y q:=by
   have:=d8 Br j hj Z2;rw[aY hj] at hy;cases hy;exact#[ss[j]' Z2,aY Z2,this]
  have qm:q.1∈ps.map (·.1):=bG.mpr #[q,sp.mem_iff.mp (cZ hq),U]
  have dg:da H' d (.str q.1) (some (.str (f q.1))):=by
   have:=da.k (k:=.inr q.1) (sm _ _ DE.hd);rw[B0 (g:=λn=>V.str (f n)) qm] at this;exact this
  apply#[_,U,U,λNx hN=>fw ?_];apply#[_,U,_,U,t,_,0,_,U,U,.of (sm _ _ ht),L2.dR (j:=0) U,d,_,U,dg,out,dF,?_,hN _ _ #[fL sm hD,az,?_]]
  ·rw[eo,aq,aq,dJ];omega
  rw[yi _ hq,eg,eo];rfl
 rw[Ku,eR] at eo;subst eo;obtain⟨s0,vY⟩:∃s0:ak,s0=ss.map λp=>f p.1:=#[_,U];rw[<- vY] at G6;apply#[D,_,U,.inl #[.of G6,λt0 WM=>?_]];let#[sC,eC]:=aD (o:=.tup (sV s0)) WM;let C3:=sB.trans sC;generalize upd HB t0 (.tup (sV s0))=HC at sC eC C3 ⊢;let DC:=DE.same C3
 have Bl:Vs hs qs s0:=by
  apply#[by rw[vY,aq,Xd],λh hh=>?_];rw[vY] at hh;let#[q,hq,rfl]:=bG.mp hh;exact (gN hs).mem_iff.mpr (fm _ (bG.mpr #[q,sp.mem_iff.mp hq,U]))
 have WS:(aS hs).length<=3:=by rw[W.iB];omega
 have WA:(aS hs).length ^ qs.length<=300:=by
  have a1:(aS hs).length ^ qs.length<=3 ^ qs.length:=Nat.pow_le_pow_left WS _;have a2:(3:Nat) ^ qs.length<=3 ^ 3:=Nat.pow_le_pow_right (by decide) Z2;omega
 let#[#[UG,K0,Vo],_]:=And.intro DC.ht DC.hp;let eAC:=C3 _ _ HQ;apply#[lz,lt,t0,300,zs,UG,hs,ts,ss,qs,s0,U,eAC,AQ Br C3,K0,Vo,W,S,by omega,eC,Bl,WA,by decide,λlL yL LL HF sF WR eL P2 frL ok EW=>?_];let DF:=DC.same sF
 have GF:lL≠l:=by
  let#[xs,e]:=DC.st.some;exact (bz e WR).symm
 have frl:∀b,V.ref b∈yL->b≠l:=λb hb=>by
  let#[xs,e]:=DC.st.some;exact (bz e (frL b hb)).symm
 let Xk:=My ok.ne;let GD:=bH P2;have Ws:(ps.map (·.1)).Perm (qs.map (·.1)):=by rw[PV];exact (sp.map (·.1)).symm
 have Mt:s0=(qs.map (·.1)).map f:=by rw[vY,PV,cz];rfl
 let C1:=C3.trans sF
 have tH:d∉fp:=λm=>by
  rcases RM d (sub d m) with z|z
  ·have:=RL d z;rw[DA.hd] at this;cases this
  rw[sD _ _ DA.hd] at z;cases z
 have GgF:Gs K CG CW HF g0 pw hs ts qs fp:=#[GA.same C1,W,by rw[S.zu];exact ki,by omega,S.wp];have Zn:Dm K CG CW HF l lh lt lz d g0 pw lL hs ts ss qs fp (ps.map (·.1)) f s0 yL LL:=#[DF.st,DF.hh,DF.ht,#[zs,C1 _ _ HQ,AQ Br C1],uE,xq,Gy,GF,frl,W,S,by omega,GgF,lfp,#[DF.hd,tH,#[Ws,fm],Mt],eL,P2,ok,EW];apply later _ HF (.ref ls) (.int n) (.ref lp) _ _ _ _ _ _ _ _ l lh lt lz d g0 pw lL hs ts ss qs fp (ps.map (·.1)) f s0 yL LL Zn (λva vb vc vd ve vf vg vh HL bL=>?_);have nt:NT H2 HL:=λb o e no=>bL _ _ (C1 _ _ (C6 _ _ (WK _ _ e no))) (bz e nl);let#[xsF,_N]:=DF.st.some;exact#[_,_,_,_,_,_,_,_,_,_,_,_,_,_,_,_,_,U,WL.trans nt,mE.Ot (JE.same C1) bL _N]
structure Fd (K:ai) (mg:Str->Option Aa) (x:Str) (st:Stmt):Prop where
 ex:∃f fd,bo K x x st f fd/\mg x\.ref f/\PySem.W.keepIn K (.ref f)=true
variable{x:Str}{h:Heap}{st:Stmt}{aL ct doc oc pm:Aa}{an od:Option Addr}{kh:Array (Option Aa)}
theorem EX(X:K.In h)(G:h.Ns mainGlobals mg){kV:Aa}(a:PySem.W.nsIn K mainGlobals x\some (.ref f))(l:K.lookup f=some #[oc,od,.func (PySem.W.fnOf x x (gU st) (gc st) (a9 st) .none kV doc pm an aL ct),kh])(c:PySem.W.codeIn K aL x=true)(k:PySem.W.keepIn K (.ref f)=true):Fd K mg x st:=#[_,_,Qw l c k,PySem.W.mg_of X G a,k]
structure Md (K:ai) (C:Addr) (m qual:Str) (st:Stmt):Prop where
 ex:∃f fd,bo K m qual st f fd/\Meth K C m f
variable{C:Addr}{m qual:Str}
theorem Dy{kV:Aa}(a:PySem.W.findIn K (.ref C) m\some (.ref f))(i:PySem.W.isFn K (.ref f)=true)(l:K.lookup f=some #[oc,od,.func (PySem.W.fnOf m qual (gU st) (gc st) (a9 st) .none kV doc pm an aL ct),kh])(c:PySem.W.codeIn K aL qual=true)(k:PySem.W.keepIn K (.ref f)=true):Md K C m qual st:=#[_,_,Qw l c k,a,i,k]
theorem Ff(d:Fd K mg x st)(ok:∀f fd,bo K x x st f fd->!ao a_ k f fd ps sp)(h:∀(kV doc pm:Aa) (an:Option Addr) (aL ct:Aa) (us:aj),us.length=ps.length->bindArgs (PySem.W.fnOf x x (gU st) (gc st) (a9 st) .none kV doc pm an aL ct) #[us,[]]=pure (ps.zip us)):!br k x ps sp:=by
 let#[f,fd,F,m,kp]:=d.ex;exact#[f,fd,ok f fd F,m,kp,F.binds h]
theorem wd(d:Md K C m qual st)(ok:∀f fd,bo K m qual st f fd->!ao a_ k f fd ps sp)(h:∀(kV doc pm:Aa) (an:Option Addr) (aL ct:Aa) (us:aj),us.length=ps.length->bindArgs (PySem.W.fnOf m qual (gU st) (gc st) (a9 st) .none kV doc pm an aL ct) #[us,[]]=pure (ps.zip us)):!bM C k m ps sp:=by
 let#[f,fd,F,m]:=d.ex;exact#[f,fd,ok f fd F,m,F.binds h]
theorem NM(d:Md K C "__init__" qual st)(hx:mg x\.ref C)(mk:PySem.W.makesIn K C=true)(kc:PySem.W.keepIn K (.ref C)=true)(ok:∀f fd,bo K "__init__" qual st f fd->!ao a_ k f fd ps sp)(h:∀(kV doc pm:Aa) (an:Option Addr) (aL ct:Aa) (us:aj),us.length=ps.length->bindArgs (PySem.W.fnOf "__init__" qual (gU st) (gc st) (a9 st) .none kV doc pm an aL ct) #[us,[]]=pure (ps.zip us)):!j_ C k x ps sp:=by
 let#[f,fd,F,m]:=d.ex;exact#[f,fd,ok f fd F,#[mk,m.1,m.2,kc],hx,F.binds h]
structure Tg (P:Ad) (w:Af) (b:Heap):Prop where
theorem gK(q:Tg P w base)(d:Fd K mg x st)(ok:∀f fd,bo K x x st f fd->!ao a_ k f fd ps sp)(h:∀(kV doc pm:Aa) (an:Option Addr) (aL ct:Aa) (us:aj),us.length=ps.length->bindArgs (PySem.W.fnOf x x (gU st) (gc st) (a9 st) .none kV doc pm an aL ct) #[us,[]]=pure (ps.zip us):=by exact λ_ _ _ _ _ _ us (hl:us.length=1)=>match us,hl with | [_],_=>rfl):!br k x ps sp:=Ff d ok h
theorem dQ(q:Tg P w base)(d:Fd K mg x st)(ok:∀f fd,bo K x x st f fd->!ao a_ k f fd ps sp)(h:∀(kV doc pm:Aa) (an:Option Addr) (aL ct:Aa) (us:aj),us.length=ps.length->bindArgs (PySem.W.fnOf x x (gU st) (gc st) (a9 st) .none kV doc pm an aL ct) #[us,[]]=pure (ps.zip us):=by exact λ_ _ _ _ _ _ us (hl:us.length=2)=>match us,hl with | [_,_],_=>rfl):!br k x ps sp:=Ff d ok h
theorem hZ(q:Tg P w base)(d:Fd K mg x st)(ok:∀f fd,bo K x x st f fd->!ao a_ k f fd ps sp)(h:∀(kV doc pm:Aa) (an:Option Addr) (aL ct:Aa) (us:aj),us.length=ps.length->bindArgs (PySem.W.fnOf x x (gU st) (gc st) (a9 st) .none kV doc pm an aL ct) #[us,[]]=pure (ps.zip us):=by exact λ_ _ _ _ _ _ us (hl:us.length=3)=>match us,hl with | [_,_,_],_=>rfl):!br k x ps sp:=Ff d ok h
theorem tN(q:Tg P w base)(d:Fd K mg x st)(ok:∀f fd,bo K x x st f fd->!ao a_ k f fd ps sp)(h:∀(kV doc pm:Aa) (an:Option Addr) (aL ct:Aa) (us:aj),us.length=ps.length->bindArgs (PySem.W.fnOf x x (gU st) (gc st) (a9 st) .none kV doc pm an aL ct) #[us,[]]=pure (ps.zip us):=by exact λ_ _ _ _ _ _ us (hl:us.length=4)=>match us,hl with | [_,_,_,_],_=>rfl):!br k x ps sp:=Ff d ok h
theorem NN(q:Tg P w base)(d:Fd K mg x st)(ok:∀f fd,bo K x x st f fd->!ao a_ k f fd ps sp)(h:∀(kV doc pm:Aa) (an:Option Addr) (aL ct:Aa) (us:aj),us.length=ps.length->bindArgs (PySem.W.fnOf x x (gU st) (gc st) (a9 st) .none kV doc pm an aL ct) #[us,[]]=pure (ps.zip us):=by exact λ_ _ _ _ _ _ us (hl:us.length=5)=>match us,hl with | [_,_,_,_,_],_=>rfl):!br k x ps sp:=Ff d ok h
theorem Fg(q:Tg P w base)(d:Md K C m qual st)(ok:∀f fd,bo K m qual st f fd->!ao a_ k f fd ps sp)(h:∀(kV doc pm:Aa) (an:Option Addr) (aL ct:Aa) (us:aj),us.length=ps.length->bindArgs (PySem.W.fnOf m qual (gU st) (gc st) (a9 st) .none kV doc pm an aL ct) #[us,[]]=pure (ps.zip us):=by exact λ_ _ _ _ _ _ us (hl:us.length=1)=>match us,hl with | [_],_=>rfl):!bM C k m ps sp:=wd d ok h
theorem ja(q:Tg P w base)(d:Md K C m qual st)(ok:∀f fd,bo K m qual st f fd->!ao a_ k f fd ps sp)(h:∀(kV doc pm:Aa) (an:Option Addr) (aL ct:Aa) (us:aj),us.length=ps.length->bindArgs (PySem.W.fnOf m qual (gU st) (gc st) (a9 st) .none kV doc pm an aL ct) #[us,[]]=pure (ps.zip us):=by exact λ_ _ _ _ _ _ us (hl:us.length=2)=>match us,hl with | [_,_],_=>rfl):!bM C k m ps sp:=wd d ok h
theorem NP(q:Tg P w base)(d:Md K C m qual st)(ok:∀f fd,bo K m qual st f fd->!ao a_ k f fd ps sp)(h:∀(kV doc pm:Aa) (an:Option Addr) (aL ct:Aa) (us:aj),us.length=ps.length->bindArgs (PySem.W.fnOf m qual (gU st) (gc st) (a9 st) .none kV doc pm an aL ct) #[us,[]]=pure (ps.zip us):=by exact λ_ _ _ _ _ _ us (hl:us.length=3)=>match us,hl with | [_,_,_],_=>rfl):!bM C k m ps sp:=wd d ok h
theorem NO(q:Tg P w base)(d:Md K C m qual st)(ok:∀f fd,bo K m qual st f fd->!ao a_ k f fd ps sp)(h:∀(kV doc pm:Aa) (an:Option Addr) (aL ct:Aa) (us:aj),us.length=ps.length->bindArgs (PySem.W.fnOf m qual (gU st) (gc st) (a9 st) .none kV doc pm an aL ct) #[us,[]]=pure (ps.zip us):=by exact λ_ _ _ _ _ _ us (hl:us.length=4)=>match us,hl with | [_,_,_,_],_=>rfl):!bM C k m ps sp:=wd d ok h
theorem NQ(q:Tg P w base)(d:Md K C "__init__" qual st)(hx:mg x\.ref C)(mk:PySem.W.makesIn K C=true)(kc:PySem.W.keepIn K (.ref C)=true)(ok:∀f fd,bo K "__init__" qual st f fd->!ao a_ k f fd ps sp)(h:∀(kV doc pm:Aa) (an:Option Addr) (aL ct:Aa) (us:aj),us.length=ps.length->bindArgs (PySem.W.fnOf "__init__" qual (gU st) (gc st) (a9 st) .none kV doc pm an aL ct) #[us,[]]=pure (ps.zip us):=by exact λ_ _ _ _ _ _ us (hl:us.length=3)=>match us,hl with | [_,_,_],_=>rfl):!j_ C k x ps sp:=NM d hx mk kc ok h
variable{l:PySem.W.OpenLaw}
theorem all_mk{fa CR c:Addr}(X:K.In h)(G:h.Ns mainGlobals mg)(hfa:mg "law"\.ref fa)(f0:Fd K mg "is_whole" ze)(f1:Fd K mg "is_whole_from" MX)(f2:Fd K mg "is_whole_within" lG)(f3:Fd K mg "is_name" rD)(f4:Fd K mg "lesser_first" MD)(f5:Fd K mg "is_pair_of_names" rq)(f6:Fd K mg "sorted_ties" M8)(f7:Fd K mg BL JZ)(f8:Fd K mg "least_multiple" JY)(f9:Fd K mg "fraction_of" rQ)(f10:Fd K mg "is_fraction" rK)(f11:Fd K mg "is_less" rJ)(f12:Fd K mg "is_hand_with_strength" rN)(f13:Fd K mg "checked_strengths" y_)(f14:Fd K mg "checked_ties" qZ)(f15:Fd K mg "neighbours_of_all" rC)(f16:Fd K mg "checked_ways" lW)(f17:Fd K mg "checked_piece" Nu)(f18:Fd K mg "checked_pieces" NS)(f19:Fd K mg "checked_stand" M5)(f20:Fd K mg "loads_at" Oo)(f21:Fd K mg j0 rH)(f22:Fd K mg "levels_at" Nf)(f23:Fd K mg "rise_at" rg)(f24:Fd K mg "spread_at" Nz)(f25:Fd K mg "check_limit" rT)(f26:Fd K mg "exits_of" lU)(f27:Fd K mg "placed_by" rp)(f28:Fd K mg "is_even" Nb)(f29:Fd K mg "move_between" rE)(f30:Fd K mg "moves_along" rF)(f31:Fd K mg "fewest_moves" M9)(f32:Fd K mg "checked_shut_start" zf)(f33:Fd K mg "is_entry" NR)(f34:Fd K mg "place_of_wrong_form" zc)(f35:Fd K mg "leads_out" lM)(f36:Fd K mg "shut_fault" lH)(f37:Fd K mg tQ lV)(f38:Fd K mg "_law_name" lP)(f39:Fd K mg "_law_hands" Ng)(f40:Fd K mg "_law_ties" lO)(f41:Fd K mg "_law_pieces" MU)(f42:Fd K mg "_law_stand" Nl)(f43:Fd K mg "_law_loads" Nq)(f44:Fd K mg "_law_even" lQ)(f45:Fd K mg "_law_moves" M7)(f46:Fd K mg "_law_layers" Nj)(f47:Fd K mg "_law_written" Oi)(f48:Fd K mg "_law_is_even_by" MZ)(m0:Md K CW "__init__" "Web.__init__" rM)(m1:Md K CW "has_hand" "Web.has_hand" vz)(m2:Md K CW "hands" "Web.hands" lR)(m3:Md K CW "strength" "Web.strength" Oe)(m4:Md K CW "neighbours" "Web.neighbours" lK)(m5:Md K CW "are_tied" "Web.are_tied" q_)(m6:Md K CG "__init__" "Goods.__init__" lT)(m7:Md K CG "has_piece" "Goods.has_piece" rP)(m8:Md K CG "names" "Goods.names" Nk)(m9:Md K CG "weight" "Goods.weight" Og)(W8:Md K CG "may_go" "Goods.may_go" rO)(W7:Md K CR "__init__" "Reach.__init__" lJ)(W5:Md K CR "one_move_on" "Reach.one_move_on" lI)(W3:Md K CR "widen" "Reach.widen" M6)(W2:Md K CR "row_to" "Reach.row_to" rh){WH Qh Td PF TN:Aa}{WG OD:Option Addr}{VI:Array (Option Aa)}{t8 t9 VA Vz Vy:Tok}(al:W.nsIn K mainGlobals "law"\some (.ref fl))(ll:K.lookup fl=some #[WH,WG,.func (W.fnOf "law" "law" (gU fg) (gc fg) (a9 fg) .none Qh Td PF OD (.ref c) TN),VI])(cl:W.codeIn K (.ref c) "law"=true)(kl:W.keepIn K (.ref fl)=true)(ch:W.codeHdIn K c T=true)(aW:W.nsIn K mainGlobals "Web"\some (.ref CW))(aG:W.nsIn K mainGlobals "Goods"\some (.ref CG))(aR:W.nsIn K mainGlobals "Reach"\some (.ref CR))(c8_:W.nsIn K mainGlobals "MOST_LETTERS"\some (.int 8 t8))(c9_:W.nsIn K mainGlobals "MOST_HANDS"\some (.int 8 t9))(On:W.nsIn K mainGlobals "MOST_STRENGTH"\some (.int 1000 VA))(Om:W.nsIn K mainGlobals "MOST_WEIGHT"\some (.int 1000000000 Vz))(Ol:W.nsIn K mainGlobals "MOST_COUNT"\some (.int 100 Vy))(U2:W.plainGet K CW Str.empty=true)(U_:W.hasDictIn K CW=true)(U1:W.plainOver K CW=true)(U0:W.findIn K (.ref CW) "__setattr__"\some (.builtin "object.__setattr__"))(U8:W.makesIn K CW=true)(U9:W.keepIn K (.ref CW)=true)(U7:W.findIn K (.ref CW) uN\none)(U6:W.findIn K (.ref CW) "sorted_pairs"\none)(U5:W.findIn K (.ref CW) BM\none)(gpg:W.plainGet K CG Str.empty=true)(ghd:W.hasDictIn K CG=true)(gpo:W.plainOver K CG=true)(gsa:W.findIn K (.ref CG) "__setattr__"\some (.builtin "object.__setattr__"))(gmk:W.makesIn K CG=true)(gkc:W.keepIn K (.ref CG)=true)(gn0:W.findIn K (.ref CG) "web"\none)(gn1:W.findIn K (.ref CG) pZ\none)(gn2:W.findIn K (.ref CG) AF\none)(VZ:W.plainGet K CR Str.empty=true)(V5:W.hasDictIn K CR=true)(VY:W.plainOver K CR=true)(VX:W.findIn K (.ref CR) "__setattr__"\some (.builtin "object.__setattr__"))(V3:W.makesIn K CR=true)(V4:W.keepIn K (.ref CR)=true)(V2:W.findIn K (.ref CR) jQ\none)(V1:W.findIn K (.ref CR) pX\none)(V0:W.findIn K (.ref CR) "newest"\none)(ZH:W.findIn K (.ref CW) "__class__"\some (.builtin "object.__class__"))(ZG:W.specialIn K (.builtin "object.__class__") "__get__"\some (.builtin "getset_descriptor.__get__"))(Zo:W.takesIn K (.builtin "object.__class__")\true)(Zy:W.mroIn K CW (.type "object")\true)(Cs:W.nsIn K mainGlobals "abs"\none)(Cr:W.nsIn K mainGlobals "min"\none)(Cq:W.nsIn K mainGlobals "zip"\none)(z0:W.nsIn K mainGlobals "isinstance"\none)(z1:W.nsIn K mainGlobals "int"\none)(z2:W.nsIn K mainGlobals "bool"\none)(z3:W.nsIn K mainGlobals "str"\none)(z4:W.nsIn K mainGlobals "tuple"\none)(z5:W.nsIn K mainGlobals "list"\none)(z6:W.nsIn K mainGlobals "dict"\none)(z7:W.nsIn K mainGlobals "len"\none)(z8:W.nsIn K mainGlobals "all"\none)(z9:W.nsIn K mainGlobals "sorted"\none)(UN:W.nsIn K mainGlobals "max"\none)(UM:W.nsIn K mainGlobals "range"\none)(UL:W.nsIn K mainGlobals "any"\none)(UK:W.nsIn K mainGlobals "enumerate"\none) :
  ∃fd:Ae,(∀(s:Ab) (v:Aa),BindsTo s fd #[[v],[]] [(xS,v)])/\(∀T'∈[T],isCodeTable h T')/\∀base:Heap,K.In base->base.Ns mainGlobals mg->(∀T'∈[T],base.BuiltinsAt mg T')->ao l.prog w K mg base a_ 10 fa fd [xS] (ng K T):=by
 let e:=hfa.symm.trans (W.mg_of X G al);cases e;have B:Bi mg:=#[jO X G z0,jO X G z1,jO X G z2,jO X G z3,jO X G z4,jO X G z5,jO X G z6,jO X G z7,jO X G z8,jO X G z9,jO X G UN,jO X G UM,jO X G UL,jO X G UK];have TW:Txt K mg CW:=#[#[U2,U_,U1,U0],U7,U6,U5];have TG:fY K CG:=#[#[gpg,ghd,gpo,gsa],gn0,gn1,gn2];have TR:jV K CR:=#[#[VZ,V5,VY,VX],V2,V1,V0];have IW:FS K CW:=#[ZH,ZG,Zo,Zy];let Du:=jO X G Cs;let sk:=jO X G Cr;let xo:=jO X G Cq;have FL:wK K "law" "law" fg _ c _:=#[#[_,_,_,_,_,_,_,_,U,ll,cl],kl];apply#[W.fnOf "law" "law" (gU fg) (gc fg) (a9 fg) .none Qh Td PF OD (.ref c) TN,λs v=>.of_eq U,λT' Ao=>?_,λbase KB _ xH=>?_]
 ·obtain rfl:T'=T:=⇑Ao
  let#[o,FX,file,tf,flags,tg,inF,text,tt,h1,h2,h3,h4,_]:=W.codeHd_of_K X ch;exact#[c,o,FX,h1,h2,h3,h4]
 have q:Tg l.prog w base:=⟨⟩;let AR:=gK q f0 λ_ _ F=>XF F B;let jb:=hZ q f2 λ_ _ F=>hK_ F AR;let Fi:=dQ q f1 λ_ _ F=>_n F AR;let tP:=gK q f3 λ_ _ F=>Yq F B (W.mg_of X G c8_);let AO:=dQ q f4 λ_ _ F=>_M F;let Fm:=gK q f5 λ_ _ F=>YX F B tP;let x5:=gK q f6 λ_ _ F=>g8_ F B Fm AO;let Fs:=gK q f12 λ_ _ F=>Yw F B tP jb (W.mg_of X G On);let cStr:=gK q f13 λ_ _ F=>Xx F B Fs (W.mg_of X G c9_);let Fk:=dQ q f14 λ_ _ F=>YY F B x5;let Fo:=dQ q f15 λ_ _ F=>Y1 F AO;let NU:=NQ q m0 (W.mg_of X G aW) U8 U9 λ_ _ F=>YG F TW B cStr Fk Fo;let vI:=ja (mg:=mg) q m1 λ_ _ F=>X6 F TW B;let DB:=ja (mg:=mg) q m1 λ_ _ F=>Yp F TW B;let l5:=Fg (mg:=mg) q m2 λ_ _ F=>hS_ F TW B;let Dz:=ja (mg:=mg) q m3 λ_ _ F=>eB_ F TW vI;let Ks:=ja (mg:=mg) q m4 λ_ _ F=>hN_ F TW B vI;let xp:=NP (mg:=mg) q m5 λ_ _ F=>hC_ F TW DB;let Oc:=dQ q f16 λ_ _ F=>Z_ F TW x5 xp;let cCP:=dQ q f17 λ_ _ F=>_t F B tP jb Oc (W.mg_of X G Om);let Od:=dQ q f18 λ_ _ F=>fO_ F B cCP;let AU:=NQ q m6 (W.mg_of X G aG) gmk gkc λ_ _ F=>ZY F TG TW IW B (W.mg_of X G aW) Od;let As:=ja (mg:=mg) q m7 λ_ _ F=>YB (CW:=CW) F TG B;let hX:=Fg (mg:=mg) q m8 λ_ _ F=>gC_ (CW:=CW) F TG B;let vW:=ja (mg:=mg) q m9 λ_ _ F=>fV_ (CP:=CW) F TG As;let L6:=NO (mg:=mg) q W8 λ_ _ F=>Yj (CP:=CW) F TG TW As xp AO;let N5:=dQ q f7 λ_ _ F=>XR F;let cLM:=gK q f8 λ_ _ F=>X1 F N5;let cFr:=dQ q f9 λ_ _ F=>Zb F N5;let cIF:=gK q f10 λ_ _ F=>Y6 F B Du AR Fi N5;let Fp:=dQ q f11 λ_ _ F=>ZV F;let Ug:=dQ q f19 λ_ _ F=>gm_ F B TG TW As vI hX;let cLA:=dQ q f20 λ_ _ F=>fw_ F B TG TW l5 vW;let Ua:=gK q f21 λ_ _ F=>Yg F TW cLM l5 Dz;let cLv:=dQ q f22 λ_ _ F=>h4_ F TG TW cLA Ua Dz;let Fl:=dQ q f23 λ_ _ F=>YV F B sk cLv;let NX:=dQ q f24 λ_ _ F=>eF_ F TG Fl Ua cFr;let Uh:=gK q f25 λ_ _ F=>Yt F cIF;let cEx:=gK q f26 λ_ _ F=>hU_ F TG TW hX l5 Ks L6;let cPB:=dQ q f27 λ_ _ F=>Yn F B xo TG hX;let Ud:=hZ q f28 λ_ _ F=>g9_ F Fp NX cPB;let T5:=NQ q W7 (W.mg_of X G aR) V3 V4 λ_ _ F=>ZL F TR B cEx;let Pz:=ja (mg:=mg) q W5 λ_ _ F=>Z3 F TR B;let V6:=ja (mg:=mg) q W3 λ_ _ F=>_A F TR B Pz;let J9:=ja (mg:=mg) q W2 λ_ _ F=>YR F TR;let cMB:=hZ q f29 λ_ _ F=>Ym F xo TG hX;let cMA:=dQ q f30 λ_ _ F=>YD F B cMB;let N7:=tN q f31 λ_ _ F=>_C F B TR Uh Ug Fi T5 Ud cMA J9 V6;let jN:=dQ q f37 λ_ _ F=>hD_ F B;let Ub:=gK q f38 λ_ _ F=>Zw F B jN;let cLH:=dQ q f39 λ_ _ F=>gc_ F B jN Ub;let cLT:=dQ q f40 λ_ _ F=>hY_ F B jN;let cLP:=hZ q f41 λ_ _ F=>fC_ F B jN Ub;let cLS:=hZ q f42 λ_ _ F=>g4_ F B jN;let cLL:=hZ q f43 λ_ _ F=>h7_ F B;let cLE:=tN q f44 λ_ _ F=>_b F cLL;let N0:=hZ q f45 λ_ _ F=>gS_ F B;let NZ:=tN q f46 λ_ _ F=>gd_ F B N0;let cCC:=tN q f32 λ_ _ F=>X8 F (W.mg_of X G Ol) Uh Ug jb;let cEn:=hZ q f33 λ_ _ F=>fM_ F B TG TW hX vI jb;let cPW:=hZ q f34 λ_ _ F=>X4 F B cEn;let cLO:=hZ q f35 λ_ _ F=>Zj F TR B Pz;let cSF:=NN q f36 λ_ _ F=>hQ_ F B TR cCC cPW T5 Ud cLO;let cWr:=hZ q f47 λ_ _ F=>fU_ F B sk jN;let cEB:=tN q f48 λ_ _ F=>YI F cLE;exact X3 FL B sk (W.codeHd_of_K KB ch) (xH T Y0) #[jN,cLH,cLT,cLP,cLS,NU,AU,NZ] #[jN,N7,cSF,cWr,cEB]
theorem walk{q:Ad}{loose:ag}{XP:(Str->Option Aa)->Heap->Prop}{d:DefRec}{K:Params->ai}{as:av}{Hy:∀P:Params,as=(K P).map (·.1)}(hn:l.most\63)(EE:d.params.defaults=[])(KY:([T].all λT=>!as.contains T)=true)(F:∀(w:Af) (mg:Str->Option Aa) (fa:Addr) (h:Heap),(K w.params).In h->h.Ns mainGlobals mg->mg d.name\.ref fa->
   ∃fd:Ae,(∀(s:Ab) (u:Aa),BindsTo s fd #[[u],[]] [(xS,u)])/\(∀T'∈[T],isCodeTable h T')/\∀base:Heap,(K w.params).In base->base.Ns mainGlobals mg->(∀T'∈[T],base.BuiltinsAt mg T')->ao l.prog w (K w.params) mg base a_ 10 fa fd [xS] (ng (K w.params) T)) :
  PySem.W.WalkO q loose XP (PySem.W.kmHook K as Hy [T]).says l.row.toRowW d [] (λf vs=>PySem.call f vs):=
 L2.qr (n:=63) (k:=10) (x:=xS) (CX:=λ_=>a_) (sp:=λw=>ng (K w.params) T) hn (by decide) EE #[U,by decide,by decide] KY F (λ_ _ a ns hl hT hS=>#[a,ns,U,hT T Y0,hS,hl,λ_=>rfl]) λ_ _ _ _ _ z=>z
end Ev
namespace PySem.W.Fast
universe tw12874830467607904259 tw3345247294013139075 tw13702571113933095907 tw10800368855291119908 tw7563294481415220676 tw8396413743524757413 tw14871916377596306886 tw17805571758809383846 tw704905982033994823 tw15183036087558016903 tw5171393079591607848 tw5376521284828994344 tw9387909268429296554 tw15946130137779903661 tw10307569216060779950 tw9678796259896703950 tw885864191961452719 tw8953123299895390191 tw9966494362001765359 tw1422542198987809426 tw18211985429471002290 tw1448837547164620883 tw9131759072008578452 tw10374824791754365332 tw11785813413885918708 tw6767675377844583284 tw11146172951909319030 tw15867365385821042968 tw6529808775345769658 tw13644056023045702586 tw432849092872287995 tw14538314765855649980 tw16664447857316925821 tw18440650157657034782 tw11993059602693059646 tw1009119007527803230 tw6513953073015541342 tw8051288990975341343 tw6527056702908997535 tw6621618341874091480 tw9375602050082458945 tw3887965566805091284 tw6804353879613462644 tw7917807868963944808 tw16730087476141293589 tw6137283560514141253 tw9372823816626686524 tw8975283438364790427 tw7265101925263293011 tw13294791388608954088 tw18222438679633862556 tw384369642800250306 tw15475539325523238899 tw8820055102124083581 tw4058112443177548387 tw18121439451229142929 tw8967636126792845900 tw9485216956133889771 tw6166031738348629286 tw17288102729316922608 tw17611263287992333628 tw18150799512236214563 tw3576565071329196337 tw4080103861085421962 tw1022083645593396270 tw15496661381381641470 tw14814146256215369093 tw15173318617178357091 tw1811773887903653938 tw15010602742420912237 tw722092043629838060 tw4314298751010541643 tw8929827736127022696 tw17775521495511548751 tw15590427963082581600 tw6531803463026549507 tw6230747519773729854 tw3340798394241610012 tw4206703265273790454 tw3179312744355292922 tw758362249623608017 tw3714993298759037589 tw2736183843561196379 tw18122854191930320451 tw3058599603857661815 tw9870632616727673160 tw10525968165688675166 tw13990825903031678922 tw1102506610947219217 tw13885848096220630860 tw5695863869733019608 tw8352839854959465344 tw7727642235412679598 tw14946108281424955595 tw9732618049693850418 tw15521452821544309392 tw14001322255692599121 tw11813491460187940150 tw13113805011519482942 tw9054890453505579459 tw18365876322893733528 tw13666953786538807989 tw2700201261389066286 tw10467241593603421914 tw7900300302605122390 tw9339010891187256710 tw7729811256204849415 tw12250242669639181595 tw17565277962576170840 tw3574061732025312000 tw8913334257252084127 tw2729564607032214582 tw10521805523271800687 tw6703218456065929584 tw14702699726502000053 tw13052173888358417951 tw12209789321921068938 tw14845334247903653937 tw11046454765458135461 tw11908570586723050210 tw558084310034358708 tw14319716444664842143 tw11542953482102621540 tw3328844802020595350 tw16976917229156790142 tw5329609518872578946 tw8727910204244770432 tw15064675204158911724 tw718814950219466206 tw17190195573536870171 tw12313689343396076240 tw11469011871920819977 tw4042155537623993769 tw6500375342802392950 tw11128603323468650534 tw5688099695348484280 tw5363421187483879931 tw5869599180355058477 tw4791519488323482524 tw17395515738326398156 tw15737928840004409614 tw18282837405522847892 tw10897099684847193710 tw14537097984167941813 tw4026830725403763900 tw125434881940671413 tw6978735076136813813 tw9922738292548182293 tw16144508508929334704 tw8524445296957424449 tw14419036222305712545 tw1057664670657300483 tw12374372422556222786 tw15924265120387823647 tw5820017001385183687 tw10491386430777163252 tw9759934505673763171 tw12693861826507748080 tw15941649349787477999 tw16249122231888441929 tw5643113486775576537 tw10943369841688052806 tw10662811832423655642 tw860780399012427171 tw9164295443923427760 tw14086364259168323886 tw14902785321368963173 tw1662594984448424349 tw13135725041282384443 tw5166515165964254047 tw2123261207405937433 tw7269333836715891011 tw14869603934787880311 tw17307179200649025709 tw5730717881026138011 tw8160238399894952678 tw18270459800527990069 tw14792365253563064315 tw3768769683812204435 tw17425229549593699198 tw2950353093452194824 tw11459016515080304907 tw6210077464210485185 tw17652947358655678427 tw2406118347389379381 tw15445665927651634820 tw14429272355669982086 tw8495422623477889602 tw7491404681918634027 tw13687788308215759079 tw1278961248964358982 tw18163077658066818292 tw1926920631745684107 tw13622987673025639259 tw13852794284709525566 tw9988477444503725745 tw14589803281590368519 tw15935984249576214351 tw15123815844145282073 tw9875827858108259575 tw2350235696284386355 tw15940573900631139387 tw18210846330204857957 tw11905522179132819220 tw2991597258095533870 tw12266961511502045682 tw12048076256745366502 tw12565381815420736878 tw7089970054481922070 tw15089747607869635607 tw4374359513725988317 tw15724250784472527424 tw4700070128794256351 tw17201668595594661882 tw17639618922216956893 tw992859561078039392 tw11565522305366081951 tw10073111754533298224 tw5638151858658159590 tw7640630154297334701 tw11731688934158679109 tw14025805038375306895 tw15275914688108151132 tw18113609946366660276 tw14290847759672122558 tw6800815667264140851 tw14243409347370416005 tw3902960070011212438 tw16015528276395358708 tw5655530600389710615 tw13836440964089973095 tw11008287510334359273 tw7599188022781307332 tw1647134321368392212 tw1829387274874574670 tw4762261725136468643 tw1073248157281034572 tw14729625905476631365 tw6502234018606270564 tw5924953757353020741 tw15323459735272116274 tw6889084170589349616 tw3917560916505092897 tw12660681003286978061 tw13230584320449499491 tw10882796519461228339 tw5146036374950060982 tw4956761542230308626 tw3534598439699342779 tw14048264160956607987 tw14551546991603452619 tw2896809928786646494 tw11198760281568962182 tw2911396529577246863 tw15405462980248079787 tw6734466314303425595 tw16064088367753257790 tw5653010393560038714 tw1986726286408653661 tw15626430484596486832 tw14128622551395110010 tw9984511663221070160 tw14434459926722058995 tw11076747142773950409 tw17638996012928468580 tw2366316727129204199 tw15526910287579077114 tw5059002525672058219 tw15084341363321399153 tw12224061019739119274 tw17514658028614149384 tw2859851202779290951 tw5951968385304432035 tw16624482695493362729 tw7409745152512966786 tw6494563026375839790 tw9472482201030931466 tw14116358416549678590 tw14895045503961529961 tw7247486981108851613 tw10327516974247608968 tw15976723547257406922 tw4593339248366842696 tw6369018861810101090 tw6148021365270181195 tw2024017775992371118 tw6060347270757381394 tw13672513913260445110 tw18397504711745854880 tw5096879728259244178 tw13633043920084646174 tw18170760354896838409 tw17232363441162951120 tw4579240055054525127 tw4291285892114640087 tw12388442330837473230 tw131690013209852655 tw18067405060812777619 tw6125742711237106339 tw1334449378601533447 tw5180369443853617164 tw6600218352938981158 tw9429647975778937137 tw17668424272802990922 tw3091106134688857738 tw4859831298706625789 tw8820942146098682199 tw6077828185247864978 tw15467053719858597159 tw18377831102984612765 tw407694136285289555 tw12927213505722694634 tw4495908181708673744 tw1994407033378614453 tw9793588588492068008 tw4129714563135498568 tw14228805767871352949 tw5126919375099889614 tw7533238201245413853 tw12422165449176413530 tw13722686543846202766 tw12080427509023755976 tw15933617791499105136 tw15811138862483232839 tw478977903591681848 tw4661065659144086542 tw16510792323048126917 tw356444077170062077 tw13094474270439081647 tw2814634734388164387 tw1410998938248241478 tw9010032988845216304 tw10346584798617805208 tw13855794935728225279 tw63152584907584509 tw7325967372977987661 tw5325461299836950698 tw4799613316798649750 tw4378240917013287057 tw3617376104314271659 tw9174606620794440301 tw9887111233541453433 tw12133963446954690358 tw15042718646150009632 tw12968264738406266481 tw18175707029792314164 tw4363432264201852686 tw11629262789752661679 tw9498668674628411198 tw11592231472651908213 tw16635911301219489130 tw13285947345576162808 tw3965361801100213509 tw11711859520283649837 tw11321583761236350223 tw9192718968330395585 tw7901243995522554011 tw13963174475095162396 tw13284182744919724342 tw11800308250853617038 tw2740174350585615165 tw7457002303462651116 tw10050981244483134714 tw10365019028040035907 tw15187768150495097658 tw9185733491420417454 tw16337833960097142029 tw14819395747426761882 tw10497558053292051791 tw16250518513924703764 tw4881843282859191741 tw6616708277995971945 tw10949436589857815478 tw1769623180565042973 tw1598096762652849327 tw13030888880581003972 tw7172243096174126303 tw8169877278215994726 tw10075286167128738711 tw3942445054853306181 tw9444853257553606629 tw17800103317358077946 tw5661845025150007106 tw2225339832373638402 tw5518509456952902037 tw11758554401192663139 tw709816698716140883 tw13363294356804825880 tw16501795185051571189 tw10550178548918238525 tw14050521045095244655 tw17012806729373749601 tw363648732358658433 tw7367447368591818574 tw12251979989348213797 tw9557295150563874950 tw14582843339024900177 tw10994596126554896144 tw2748613435232565726 tw11807951246902335868 tw1223193558517664468 tw10441785855891820448 tw18357559118207999548 tw14992710695363930819 tw13050144051399957813 tw73504886408948380 tw6701016752135333394 tw4764999621067132867 tw2156469110793693246 tw18211982395516643130 tw8892951215825213672 tw4083313519184730178 tw12742178680165221504 tw4196579145315797771 tw5046788097755256452 tw17701331081267380820 tw460871762895697 tw8450625964090187358 tw13208283730395318465 tw6150513601011886554 tw8391622869453686568 tw9161199324697957699 tw8808405996310915281 tw1027750136457496453 tw1234177765720096206 tw13659247495548610715 tw14451003558473665813 tw16746360668800001009 tw15925021494739931385 tw7483279995359158595 tw9098222718608300596 tw12685049858220871210 tw14316213224025446365 tw8251416035312543013 tw11694620577804199477 tw12649963128349796034 tw17884225841725287862 tw15191123886216439458 tw5275855642421606275 tw18272928890521691527 tw12628020638041503383 tw7724692374175111662 tw10555512281081230154 tw8436061175162561980 tw15998903133223676661 tw10826982891637872951 tw9520293611407172893 tw17564998699314920551 tw15324950228325459944 tw14033191163313985170 tw11023521132862975249 tw1319606439035351649 tw8124003513319601570 tw6548426015921754906 tw3141164345123776800 tw17618397977197721443 tw10728781952632199696 tw131088376602439492 tw12397048361872855864 tw11500039468222135629 tw11442027705183508370 tw10815364985695647545 tw1731395243138122161 tw12829990069625567738 tw1539408966563250834 tw17067399298084700908 tw366024314967282568 tw15750235864344695859 tw235896109330062419 tw13995530869796495112 tw15400112410794748719 tw14658325097476826428 tw13292348266297804329 tw11389844726109265715 tw11626545560065776252 tw7341409002875451911 tw13251636591195509624 tw14820990047723123772 tw3779596248698957567 tw12281591470668510607 tw7239850115298940996 tw16872739468301763045 tw2564196868768012149 tw9608027556947236506 tw9993858671708120142 tw14039495876401964992 tw17417009108350226366 tw17927861836649430828 tw11926425981175957068 tw523052709316977846 tw3964572349261346993 tw6636911702713714748 tw9939980253366998389 tw5269415974435320154 tw4659472767795450468 tw7551000779050096226 tw12141219460261315065 tw15652148648595700218 tw14831319252341359924 tw8344127699197901092 tw5752591256753982843 tw15584735322706894871 tw7705742791283657458 tw8724280842722102673 tw12351932954531406552 tw540027552859817051 tw3467201925647050262 tw4262185604818556436 tw7982139590843137579 tw14785809427046491419 tw14371059135530102962 tw7814218519188461443 tw12996141181789335422 tw13028526854775796294 tw7684120054737971595 tw11127069439922219951 tw6422215209600883369 tw13299085154070027936 tw14283254095623494290 tw13220300730719169401 tw15156142222111991378 tw7188146579596634528 tw11106926332200065834 tw18000198152501528370 tw5803370121649914748 tw543303200295136713 tw1331675638108988291 tw3264127181620225831 tw7065860921017540805 tw5876868495974633229 tw15414782870089342466 tw1420083730387958132 tw5877744819386161681 tw7729773155313682592 tw13016275661084077152 tw1754995491738954608 tw3664546060204156864 tw18170823925382943119 tw12962222657336966627 tw12752092658985600067 tw7081130542473324335 tw7374441101333286279 tw17900343251098750624 tw8998796388983915633 tw5031799503596480843 tw10275079957478028538 tw685474975998104396 tw7141392797144785376 tw12867752729259199085 tw1431750552936421034 tw12306778742988097899 tw2992324083189668288 tw17000772413021360973 tw18115914670190540567 tw9896285565065274305 tw4217797527928499739 tw1193604882664318529 tw18082186177644658018 tw14417471739786889866 tw9906169308214478390 tw17533336130667811999 tw9204594933703073054 tw8670769329414892644 tw8656549705408799605 tw2243142778384336429 tw7563316367636088147 tw17930784745251836369 tw2724224168295149934 tw16730085848631324837 tw15948521832860420048 tw16419009270594791599 tw18254536389662528238 tw7550043630737894734 tw3584662896586174945 tw7726833403975490228 tw8782687821549326691 tw8209736823079721084 tw7498020062648576716 tw17361951369412104818 tw5451319229681397376 tw8607959933581143895 tw18202728850707622970 tw9357299836202431704 tw16327039652023900043 tw7482568632437631778 tw9510254518658764250 tw12626863944491938008 tw18021962815234430091 tw1495786249244737687 tw7204777646971619593 tw14716457548754909992 tw5029705473059923181 tw5357987024442844284 tw16019448347722455491 tw6977575085896961083 tw15471486444348280012 tw5918503673538230252
end PySem.W.Fast
open PySem PySem.W PyProof.Rows
set_option maxRecDepth 100000 in
local macro_rules|`(%[|$k:num])=>let i:=Lean.mkIdent;if k.getNat==1 then`(Ev.EX $(i `KX) $(i `G) ?_ ?_ ?_ ?_)else`(Ev.Dy ?_ ?_ ?_ ?_ ?_)
theorem PySem.Challenge.cw_evenpieces_k84_whole_shut_out_by_whoever_holds : PySem.Challenge.rw_evenpieces_k84_whole_shut_out_by_whoever.Holds := by
 w_on;o_law;k_head;(case hw=>w_witness2)
 k_fill
 apply Ev.walk (l:=PySem.Challenge.rw_evenpieces_k84_whole_shut_out_by_whoever) rfl rfl (by rfl) ?F
 case F=>
  intro w mg fa h KX G hmg;refine' Ev.all_mk KX G hmg %[|1] %[|1] %[|1] %[|1] %[|1] %[|1] %[|1] %[|1] %[|1] %[|1] %[|1] %[|1] %[|1] %[|1] %[|1] %[|1] %[|1] %[|1] %[|1] %[|1] %[|1] %[|1] %[|1] %[|1] %[|1] %[|1] %[|1] %[|1] %[|1] %[|1] %[|1] %[|1] %[|1] %[|1] %[|1] %[|1] %[|1] %[|1] %[|1] %[|1] %[|1] %[|1] %[|1] %[|1] %[|1] %[|1] %[|1] %[|1] %[|1] %[|2] %[|2] %[|2] %[|2] %[|2] %[|2] %[|2] %[|2] %[|2] %[|2] %[|2] %[|2] %[|2] %[|2] %[|2] ?_ ?_ ?_ ?_ ?ch ?aW ?aG ?aR ?_ ?_ ?_ ?_ ?_ ?_ ?_ ?_ ?_ ?_ ?_ ?_ ?_ ?_ ?_ ?_ ?_ ?_ ?_ ?_ ?_ ?_ ?_ ?_ ?_ ?_ ?_ ?_ ?_ ?_ ?_ ?_ ?_ ?_ ?_ ?_ ?_ ?_ ?_ ?_ ?_ ?_ ?_ ?_ ?_ ?_ ?_ ?_ ?_ ?_ ?_ ?_ ?_
  (case aW=>k_is);(case aG=>k_is);(case aR=>k_is)
  any_goals k_is
  (case ch=>kernel_rfl)

import PyProof.Rows.All
import Wide.All
import OpenK.AllK
import Wide.FinOn
import Lean
import PyProof.EqAt
import PyProof.EqKinds
import PyProof.TupleCall
import PyProof.TupleOfSeq
import PyProof.NeKinds
import KE.KLam
import KE.KSortTup
import KE.KEqDict
import PySem.Challenge.RW_evenpieces_k83_shuts_spoilt
set_option maxHeartbeats 0
set_option Elab.async false
set_option linter.all false
noncomputable section
local macro_rules|`(def $x:declId $s:optDeclSig $v:declVal)=>`(noncomputable def $x:declId $s:optDeclSig $v:declVal)
local macro_rules|`(abbrev $x:declId $s:optDeclSig $v:declVal)=>`(noncomputable abbrev $x:declId $s:optDeclSig $v:declVal)
local macro_rules|`(universe $x*)=>return Lean.mkNullNode (←x.mapM λa=>do return(←`(theorem $a:ident:True:=⟨⟩)).raw)
abbrev Xa:=List (PySem.Str × Int)
abbrev Xb:=List (PySem.Str × PySem.Str)
set_option compiler.extract_closed false
set_option maxRecDepth 100000
theorem ae:type_of% @PySem.wpAny_bind:=@PySem.wpAny_bind
theorem bo:type_of% @PySem.Heap.get?_push_of_some:=@PySem.Heap.get?_push_of_some
abbrev Aa:=PySem.Value
abbrev Ab:=PySem.Shared
theorem aH:type_of% @PySem.wpAny_pure:=@PySem.wpAny_pure
theorem dj:type_of% @PySem.Heap.get?_push_size:=@PySem.Heap.get?_push_size
theorem bI:type_of% @PySem.Paired.length:=@PySem.Paired.length
theorem bK:type_of% @PySem.Heap.lt_size:=@PySem.Heap.lt_size
abbrev Ad:=PySem.Program
theorem c_:type_of% @decide_eq_true:=@decide_eq_true
theorem dN:type_of% @Option.some.inj:=@Option.some.inj
theorem dS:type_of% @PySem.PassesOwn.never:=@PySem.PassesOwn.never
theorem cJ:type_of% @PySem.sizeLine_eq:=@PySem.sizeLine_eq
theorem aC:type_of% @if_neg:=@if_neg
abbrev Ae:=PySem.FuncData
theorem aK:type_of% @if_pos:=@if_pos
theorem fO:type_of% @decide_eq_false:=@decide_eq_false
theorem fN:type_of% @PySem.boot_len:=@PySem.boot_len
abbrev Af:=PySem.World
theorem kM:type_of% @PySem.F.plainAttrs_list:=@PySem.F.plainAttrs_list
abbrev Ag:=PySem.Around
theorem jZ:type_of% @PySem.W.mg_none_of:=@PySem.W.mg_none_of
theorem qh:type_of% @PySem.F.type_list_append:=@PySem.F.type_list_append
theorem qg:type_of% @PySem.F.slot_list_append:=@PySem.F.slot_list_append
theorem gR:type_of% @PySem.wpAny_holding:=@PySem.wpAny_holding
theorem pC:type_of% @PySem.wpAny_loadPart':=@PySem.wpAny_loadPart'
theorem qf:type_of% @PySem.mem_of_lookup:=@PySem.mem_of_lookup
theorem u5:type_of% @PySem.Heap.get?_update_other:=@PySem.Heap.get?_update_other
theorem hJ:type_of% @PySem.wpAny_field:=@PySem.wpAny_field
theorem wG:type_of% @PySem.wpAny_callSpecial?_slot:=@PySem.wpAny_callSpecial?_slot
theorem eW:type_of% @congrArg:=@congrArg
theorem dI:type_of% @Ne.symm:=@Ne.symm
theorem qb:type_of% @PySem.wpAny_newObj_type:=@PySem.wpAny_newObj_type
theorem iB:type_of% @Sum.inr.inj:=@Sum.inr.inj
theorem tR:type_of% @PySem.wpAny_truthy_bool:=@PySem.wpAny_truthy_bool
theorem CF:type_of% @PyProof.Rows.callWith_type1:=@PyProof.Rows.callWith_type1
theorem tQ:type_of% @PySem.wpAny_call_entry:=@PySem.wpAny_call_entry
theorem tP:type_of% @of_decide_eq_true:=@of_decide_eq_true
theorem uT:type_of% @decide_eq_true_eq:=@decide_eq_true_eq
theorem yw:type_of% @PySem.Around.under_plainId:=@PySem.Around.under_plainId
theorem tK:type_of% @PySem.W.kia_one:=@PySem.W.kia_one
theorem Z0{p:Prop}[Decidable p](h:decide p=true:=by decide +kernel):p:=of_decide_eq_true h
theorem Y0{p:Prop}(h:p:=by omega):p:=h
theorem Y1{p:Prop}(h:p:=by simp):p:=h
local macro_rules|`(tactic|let $x:ident:=$e)=>`(tactic|have $x:ident:=$e)
local macro_rules|`($a\$b)=>`($a=some $b)
local macro_rules|`(⇑$h)=>`(by simpa using $h)
local macro_rules|`(tactic|exists $e)=>let i:=Lean.mkIdent;`(tactic|refine $e λ$(i `aO) $(i `A) $(i `outer) $(i `s) $(i `H) $(i `vs) $(i `Q) $(i `E) $(i `hr) $(i `h)=>?_)
local macro_rules|`(section v)=>let i:=Lean.mkIdent;return Lean.mkNullNode #[←`(section),←`(variable{$(i `P):ident:$(i `Ad)}{$(i `w):ident:$(i `Af)}{$(i `K):ident:$(i `ai)}{$(i `mg):ident:$(i `Str)->$(i `Option) $(i `Aa)}{$(i `base):ident:$(i `Heap)})]
local macro_rules|`(tactic|apply $e)=>`(tactic|refine $e)
local macro_rules|`(#[$x,$xs,*])=>`(⟨$x,$xs,*⟩)
local macro_rules|`(tactic|let $p:term:=$e)=>let g:=λ(x:Lean.Syntax)=>(if x.isIdent then`(rcasesPat|$(⟨x⟩):ident) else if x.isOfKind ``Lean.Parser.Term.hole then`(rcasesPat|_) else pure ⟨x⟩:Lean.MacroM (Lean.TSyntax `rcasesPat));p.raw.rewriteBottomUpM (λn=>if n.isOfKind `«term#[_,]» then n[1].getSepArgs.mapM (λx=>g x>>=λy=>`(Lean.Parser.Tactic.rcasesPatLo|$y:rcasesPat))>>=λs=>`(rcasesPat|⟨$s,*⟩)>>=λt=>pure t.raw else pure n)>>=λq=>`(tactic|obtain $(⟨q⟩):rcasesPat:=$e)
theorem U{α:Sort _}{a:α}:a=a:=rfl
abbrev ai:=PySem.W.Frag
theorem aq:type_of% @List.length_map:=@List.length_map
theorem aX:type_of% @List.getElem?_eq_getElem:=@List.getElem?_eq_getElem
theorem cu:type_of% @List.getElem?_eq_some_iff:=@List.getElem?_eq_some_iff
theorem cB:type_of% @List.mem_of_getElem?:=@List.mem_of_getElem?
theorem cY:type_of% @List.size_toArray:=@List.size_toArray
theorem a9:type_of% @Nat.le_refl:=@Nat.le_refl
theorem bx:type_of% @List.mem_map:=@List.mem_map
theorem de:type_of% @List.getElem?_map:=@List.getElem?_map
theorem dM:type_of% @List.length_append:=@List.length_append
theorem cg:type_of% @List.mem_cons:=@List.mem_cons
theorem dB:type_of% @List.mem_append:=@List.mem_append
theorem fo:type_of% @List.mem_cons_of_mem:=@List.mem_cons_of_mem
theorem dJ:type_of% @List.length_take:=@List.length_take
theorem cy:type_of% @List.map_map:=@List.map_map
theorem d9:type_of% @List.take_length:=@List.take_length
theorem fw:type_of% @List.mem_singleton:=@List.mem_singleton
theorem eJ:type_of% @List.map_append:=@List.map_append
theorem fY:type_of% @List.mem_cons_self:=@List.mem_cons_self
theorem gB:type_of% @List.getElem_of_mem:=@List.getElem_of_mem
theorem dE:type_of% @Nat.ne_of_lt:=@Nat.ne_of_lt
theorem gr:type_of% @Bool.false_ne_true:=@Bool.false_ne_true
theorem mC:type_of% @List.nodup_iff_pairwise_ne:=@List.nodup_iff_pairwise_ne
theorem fE:type_of% @List.map_cons:=@List.map_cons
theorem kb:type_of% @List.mem_append_right:=@List.mem_append_right
theorem ig:type_of% @List.not_mem_nil:=@List.not_mem_nil
theorem jz:type_of% @Nat.lt_of_lt_of_le:=@Nat.lt_of_lt_of_le
theorem oC:type_of% @List.length_singleton:=@List.length_singleton
theorem jy:type_of% @List.length_cons:=@List.length_cons
theorem j_:type_of% @List.getElem_mem:=@List.getElem_mem
theorem gN:type_of% @Nat.zero_le:=@Nat.zero_le
theorem ic:type_of% @Nat.le_trans:=@Nat.le_trans
theorem w4:type_of% @List.getElem?_append_left:=@List.getElem?_append_left
theorem pH:type_of% @Bool.false_eq_true:=@Bool.false_eq_true
theorem kU:type_of% @List.nodup_cons:=@List.nodup_cons
theorem u9:type_of% @List.take_of_length_le:=@List.take_of_length_le
theorem iF:type_of% @Int.le_of_lt:=@Int.le_of_lt
theorem yP:type_of% @List.getElem?_append_right:=@List.getElem?_append_right
theorem wZ:type_of% @Int.eq_ofNat_of_zero_le:=@Int.eq_ofNat_of_zero_le
theorem ud:type_of% @Array.length_toList:=@Array.length_toList
theorem je:type_of% @Nat.ne_of_gt:=@Nat.ne_of_gt
theorem wY:type_of% @Option.map_eq_some_iff:=@Option.map_eq_some_iff
theorem u6:type_of% @List.map_congr_left:=@List.map_congr_left
theorem qp:type_of% @List.lookup_cons:=@List.lookup_cons
theorem ub:type_of% @List.pairwise_map:=@List.pairwise_map
theorem ua:type_of% @List.take_add_one:=@List.take_add_one
theorem oB:type_of% @List.take_succ:=@List.take_succ
theorem t_:type_of% @List.mem_filter:=@List.mem_filter
theorem yO:type_of% @List.mem_filterMap:=@List.mem_filterMap
theorem wX:type_of% @List.length_drop:=@List.length_drop
theorem w6:type_of% @List.getElem_map:=@List.getElem_map
theorem yR:type_of% @Int.toNat_natCast:=@Int.toNat_natCast
theorem uf:type_of% @Nat.lt_irrefl:=@Nat.lt_irrefl
theorem CQ:type_of% @List.length_replicate:=@List.length_replicate
theorem yQ:type_of% @Bool.and_eq_true:=@Bool.and_eq_true
abbrev aj:=List PySem.Value
abbrev bF:=PySem.Str->PySem.Str
abbrev aw:=List PySem.Addr
abbrev ag:=List PySem.Str
namespace L2
open PySem PySem.Spec PyProof.Rows
abbrev Key:=Sum Int Str
def wJ:Key->Aa->Bool
 |.inl k,v=>Value.isInt k v
 |.inr x,v=>Value.isStrOf x v
def Li(w:Af):Key->Int
 |.inl k=>hashInt k
 |.inr x=>hashStr w x
theorem qr:∀{k:Key} {v:Aa},wJ k v=true->(∃i t,k=Sum.inl i/\v=Value.int i t)∨(∃x t,k=Sum.inr x/\v=Value.str x t)
 |.inl i,v,h=>by
  let#[t,e]:=Value.isInt_shape (k:=i) (v:=v) h;exact .inl #[i,t,U,e]
 |.inr x,v,h=>by
  let#[t,e]:=Value.isStrOf_shape (x:=x) (v:=v) h;exact .inr #[x,t,U,e]
theorem hL_(i:Int)(t:Tok):wJ (.inl i) (.int i t)=true:=by simp[wJ,Value.isInt]
theorem gH_(x:Str)(t:Tok):wJ (.inr x) (.str x t)=true:=by simp[wJ,Value.isStrOf]
theorem X5(a b:Int):decide ((Sum.inl a:Key)=Sum.inl b)=(a == b):=by
 by_cases e:a=b
 ·subst e;simp
 have h:¬(Sum.inl a:Key)=Sum.inl b:=λq=>e (Sum.inl.inj q);rw[fO h];exact (beq_eq_false_iff_ne.mpr e).symm
theorem Yh(a b:Str):decide ((Sum.inr a:Key)=Sum.inr b)=decide (a=b):=by
 by_cases e:a=b
 ·subst e;simp
 have h:¬(Sum.inr a:Key)=Sum.inr b:=λq=>e (iB q);rw[fO h,fO e]
theorem YG(a:Int)(b:Str):decide ((Sum.inl a:Key)=Sum.inr b)=false:=fO (λq=>nomatch q)
theorem X8(a:Str)(b:Int):decide ((Sum.inr a:Key)=Sum.inl b)=false:=fO (λq=>nomatch q)
def dZ(prog:Ad)(w:Af):PySem.KeyKind prog w Key where
 is:=wJ
 hash:=Li w
 inj:=λv a b ha hb=>by
  rcases qr ha with⟨i,t,rfl,rfl⟩|⟨x,t,rfl,rfl⟩
  ·rcases qr hb with⟨j,u,rfl,e⟩|⟨y,u,rfl,e⟩
   ·injection e with e1 _;rw[e1]
   exact nomatch e
  rcases qr hb with⟨j,u,rfl,e⟩|⟨y,u,rfl,e⟩
  ·exact nomatch e
  injection e with e1 _;rw[e1]
 byValue:=λk v h=>by
  rcases qr h with⟨i,t,rfl,rfl⟩|⟨x,t,rfl,rfl⟩<;>rfl
 pyHash:=λhv h=>by
  rcases qr hv with⟨i,t,rfl,rfl⟩|⟨x,t,rfl,rfl⟩
  ·exact wpAny_pyHash_int h
  exact wpAny_pyHash_str h
 eqBool:=λhu hv h=>by
  rcases qr hu with⟨i,t,rfl,rfl⟩|⟨x,t,rfl,rfl⟩
  ·rcases qr hv with⟨j,u,rfl,rfl⟩|⟨y,u,rfl,rfl⟩
   ·rw[X5] at h;exact wpAny_eqBool_int h
   rw[YG] at h;exact SeqAt.EqAt.int_str i t y u _ _ _ _ h
  rcases qr hv with⟨j,u,rfl,rfl⟩|⟨y,u,rfl,rfl⟩
  ·rw[X8] at h;exact SeqAt.EqAt.str_int x t j u _ _ _ _ h
  rw[Yh] at h;exact wpAny_eqBool_str h
 «strs»:=λk x t v h=>by
  rcases qr h with⟨i,u,rfl,e⟩|⟨y,u,rfl,e⟩
  ·exact nomatch e
  injection e with e1 _
  subst e1;cases v<;>rfl
theorem eQ_(prog:Ad)(w:Af)(i:Int)(t:Tok):(dZ prog w).is (.inl i) (.int i t)=true:=hL_ i t
theorem eJ_(prog:Ad)(w:Af)(x:Str)(t:Tok):(dZ prog w).is (.inr x) (.str x t)=true:=gH_ x t
end L2
abbrev aD:=List L2.Key
namespace L2
open PySem PySem.Spec PyProof.Rows
inductive V where
 |non|bl (b:Bool)|int (i:Int)|str (x:Str)|byt (b:Array UInt8)|flt (b:UInt64)|ref (a:Addr)|ty (n:String)
 deriving DecidableEq
def RelV:V->Aa->Prop
 |.non,u=>u=Value.none
 |.bl b,u=>u=Value.bool b
 |.int i,u=>∃t,u=Value.int i t
 |.str x,u=>∃t,u=Value.str x t
 |.byt b,u=>∃t,u=Value.bytes b t
 |.flt b,u=>∃t,u=Value.float b t
 |.ref a,u=>u=Value.ref a
 |.ty n,u=>u=Value.type n
abbrev Vals:List V->aj->Prop:=Paired RelV
theorem Vals.length{xs:List V}{us:aj}(r:Vals xs us):xs.length=us.length:=bI r
theorem Vals.get:∀{xs:List V} {us:aj} {i:Nat} {x:V},Vals xs us->xs[i]? = some x->∃u,us[i]? = some u/\RelV x u
 |_,_,_,_,.nil,e=>by simp at e
 |_,_,0,_,.cons r _,e=>by simp at e;subst e;exact#[_,U,r]
 |_,_,i+1,x,.cons _ t,e=>by
  let#[u,h1,h2]:=Vals.get (i:=i) (x:=x) t ⇑e;exact#[u,by simpa using h1,h2]
theorem Vals.set{x:V}{u:Aa}(r:RelV x u):∀{xs:List V} {us:aj} (i:Nat),Vals xs us->Vals (xs.set i x) (us.set i u)
 |_,_,_,.nil=>.nil
 |_,_,0,.cons _ t=>.cons r t
 |_,_,i+1,.cons q t=>.cons q (Vals.set r i t)
theorem Vals.append:∀{xs ys:List V} {us ws:aj},Vals xs us->Vals ys ws->Vals (xs++ys) (us++ws)
 |_,_,_,_,.nil,s=>s
 |_,_,_,_,.cons r t,s=>.cons r (Vals.append t s)
theorem Vals.take:∀{xs:List V} {us:aj} (n:Nat),Vals xs us->Vals (xs.take n) (us.take n)
 |_,_,0,_=>.nil
 |_,_,_+1,.nil=>.nil
 |_,_,n+1,.cons r t=>.cons r (Vals.take n t)
theorem Vals.drop:∀{xs:List V} {us:aj} (n:Nat),Vals xs us->Vals (xs.drop n) (us.drop n)
 |_,_,0,r=>r
 |_,_,_+1,.nil=>.nil
 |_,_,n+1,.cons _ t=>Vals.drop n t
def eN:Option V->Option Aa->Prop
 |some v,some u=>RelV v u
 |none,none=>True
 |_,_=>False
def KV{κ:Type}:List (κ × V)->List (κ × Aa)->Prop:=Paired λ(p:κ × V) (q:κ × Aa)=>p.1=q.1/\RelV p.2 q.2
def kV:Key->V
 |.inl i=>.int i
 |.inr x=>.str x
inductive HO where
  |lst (xs:List V)
  |tup (xs:List V)
  |dK (kvs:List (Key × V))|dT (kvs:List (aD × V))
  |set (S:Int->Bool) (n:Nat)
  |ins (C dx:Addr) (fs:List (Str × V))
  |own (x:Addr)
  |xd (fs:List (Str × V))
  |met (f x:Addr)
  |rng (lo hi:Int)
  |frz (o:Obj) (u:HO)
  |tbl (ps:Array Aa)
  |ext (φ:Heap->Prop)
abbrev Hp:=Addr->Option HO
def upd(H:Hp)(a:Addr)(o:HO):Hp:=λb=>if b=a then some o else H b
variable{H:Hp}{a:Addr}
theorem ay{o:HO}:upd H a o a\o:=by unfold upd;rw[aK U]
variable{b:Addr}
theorem aA{o:HO}(h:b≠a):upd H a o b=H b:=by unfold upd;rw[aC h]
variable{u:HO}
theorem Y5{o:HO}:upd (upd H a o) a u=upd H a u:=by
 funext b;unfold upd;split<;>rfl
theorem bO{o:HO}(h:H a\o)(h':H b\u)(d:o≠u):a≠b:=by
 intro e;subst e;rw[h] at h';exact d (dN h')
theorem bG{o:HO}(h:H a\o)(h':H b=none):a≠b:=by
 intro e;subst e;rw[h] at h';cases h'
section
variable(P:Ad)(w:Af)
def fj(H:Hp)(h:Heap)(a:Addr):HO->Prop
 |.lst xs=>xs.length<=sizeLine/\∃(its:aj) (n:Nat),Vals xs its/\h.get? a=some { cls:=.type "list",data:=.seq its.toArray n }
 |.tup xs=>xs.length<=sizeLine/\∃its:aj,Vals xs its/\IsTup h a its.toArray/\∃o,h.get? a\o/\o.dict=none
 |.dK kvs=>kvs.length<=sizeLine/\(a == sysModules)=false/\∃vs,KV kvs vs/\h.DictOf (dZ P w) a vs
 |.dT kvs=>kvs.length<=sizeLine/\(a == sysModules)=false/\∃xs:List (aD × Addr × Aa),
   Paired (λ(p:aD × V) (q:aD × Addr × Aa)=>p.1=q.1/\H q.2.1\.tup (p.1.map kV)/\RelV p.2 q.2.2) kvs xs /\
   ∃o es ep,h.get? a\o/\o.ExactDict/\o.data=.dict es ep/\es.toList=xs.map (entryOfKey (tupleKind (dZ P w)))/\(xs.map (·.1)).Nodup
 |.set S n=>h.SetOf (intKind P w) a S n
 |.ins C dx fs=>H dx\.own a/\fs.length<=1000/\dx≠a/\h.get? a\PySem.W.instObj C dx /\
   ∃mA,h.Ns1 dx mA/\(∀f,eN (fs.lookup f) (mA f))/\PySem.Within mA (fs.map (·.1))
 |.own _=>∃o,h.get? a\o
 |.xd fs=>∃mA,h.Ns1 a mA/\∀f,eN (fs.lookup f) (mA f)
 |.rng lo hi=>∃t u v,h.get? a=some { cls:=.type "range",data:=.fields (List.toArray [.int lo t,.int hi u,.int 1 v]) }
 |.frz o u=>h.get? a\o/\fj H h a u
 |.tbl ps=>h.get? a=some { cls:=.none,data:=.fields ps }
 |.met f x=>h.get? a\PySem.W.methodObj (.ref f) (.ref x)
 |.ext φ=>φ h/\(∃o,h.get? a\o)/\∀h1 h2:Heap,φ h1->(∀o,h1.get? a\o->h2.get? a\o)->φ h2
def fQ(H:Hp)(h:Heap):Prop:=∀a o,H a\o->fj P w H h a o
end
section
variable{P:Ad}{w:Af}{H H':Hp}{h h':Heap}{a:Addr}{o:HO}
theorem fj.lt(x:fj P w H h a o):a<h.objs.size:=by
 cases o with
 |lst xs=>let#[_,_,_,_,e]:=x;exact bK e
 |tup xs=>let#[_,_,_,p,_]:=x;exact p.lt
 |dK kvs=>let#[_,_,_,_,o,_,_,e,_]:=x;exact bK e
 |dT kvs=>let#[_,_,_,_,o,_,_,e,_]:=x;exact bK e
 |set S n=>let#[o,_,_,_,e,_]:=x;exact bK e
 |ins C dx fs=>let#[_,_,_,e,_]:=x;exact bK e
 |own y=>let#[_,e]:=x;exact bK e
 |xd fs=>let#[_,#[_,_,_,e,_],_]:=x;exact bK e
 |rng lo hi=>let#[_,_,_,e]:=x;exact bK e
 |frz ob u=>let#[e,_]:=x;exact bK e
 |tbl ps=>exact bK (show h.get? a\_ from x)
 |met f y=>exact bK (show h.get? a\_ from x)
 |ext φ=>let#[_,#[_,e],_]:=x;exact bK e
theorem Paired.aQ{α β:Type}{F G:α->β->Prop}:∀{D_:List α} {D9:List β},Paired F D_ D9->(∀a b,F a b->G a b)->Paired G D_ D9
 |_,_,.nil,_=>.nil
 |_,_,.cons r t,f=>.cons (f _ _ r) (Paired.aQ t f)
theorem fj.cA(x:fj P w H h a o)(k:∀b u,(b=a∨H b\.own a)->h.get? b\u->h'.get? b\u)
  (ho:∀b,H b\.own a->H' b\.own a) (ht:∀b xs,H b\.tup xs->H' b\.tup xs):fj P w H' h' a o:=by
 induction o with
 |lst xs=>let#[z,its,n,r,e]:=x;exact#[z,its,n,r,k _ _ (.inl U) e]
 |tup xs=>let#[z,its,r,#[ob,e,c],o2,e2,c2]:=x;exact#[z,its,r,#[ob,k _ _ (.inl U) e,c],o2,k _ _ (.inl U) e2,c2]
 |dK kvs=>let#[z,y,vs,r,ob,es,ep,e,c]:=x;exact#[z,y,vs,r,ob,es,ep,k _ _ (.inl U) e,c]
 |dT kvs=>
  let#[z,y,xs,r,ob,es,ep,e,c]:=x;exact#[z,y,xs,Paired.aQ r λp q z=>#[z.1,ht _ _ z.2.1,z.2.2],ob,es,ep,k _ _ (.inl U) e,c]
 |set S n=>let#[ob,es,ep,t,e,c]:=x;exact#[ob,es,ep,t,k _ _ (.inl U) e,c]
 |ins C dx fs=>
  let#[d,z,ne,e,mA,#[od,es,ep,e2,c],r]:=x;exact#[ho _ d,z,ne,k _ _ (.inl U) e,mA,#[od,es,ep,k _ _ (.inr d) e2,c],r]
 |own y=>let#[ob,e]:=x;exact#[ob,k _ _ (.inl U) e]
 |xd fs=>let#[mA,#[od,es,ep,e,c],r]:=x;exact#[mA,#[od,es,ep,k _ _ (.inl U) e,c],r]
 |rng lo hi=>let#[t,u,v,e]:=x;exact#[t,u,v,k _ _ (.inl U) e]
 |frz ob u ih=>let#[e,q]:=x;exact#[k _ _ (.inl U) e,ih q]
 |tbl ps=>
  have e:h.get? a=some { cls:=.none,data:=.fields ps }:=x;show h'.get? a=some { cls:=.none,data:=.fields ps };exact k a _ (.inl U) e
 |met f y=>
  have e:h.get? a\PySem.W.methodObj (.ref f) (.ref y):=x;show h'.get? a\PySem.W.methodObj (.ref f) (.ref y);exact k a _ (.inl U) e
 |ext φ=>let#[p,#[o,e],st]:=x;exact#[st _ _ p λo q=>k _ _ (.inl U) q,#[o,k _ _ (.inl U) e],st]
theorem fQ.lt(x:fQ P w H h)(e:H a\o):a<h.objs.size:=(x a o e).lt
theorem fQ.fresh(x:fQ P w H h)(e:h.objs.size<=a):H a=none:=by
 cases q:H a with
 |none=>rfl
 |some u=>exact absurd (jz (x.lt q) e) (uf _)
theorem fQ.kept(x:fQ P w H h)(k:∀b u,h.get? b\u->h'.get? b\u):fQ P w H h':=λa o e=>
 (x a o e).cA (λb u _ q=>k b u q) (λ_ q=>q) λ_ _ q=>q
theorem fQ.laid(x:fQ P w H h)(k:∀b u,h.get? b\u->h'.get? b\u)(hp:h.objs.size<=a)(new:fj P w (upd H a o) h' a o):fQ P w (upd H a o) h':=λb u e=>by
 let hn:=x.fresh hp;by_cases hb:b=a
 ·subst hb;rw[ay] at e;cases e;exact new
 rw[aA hb] at e;exact (x b u e).cA (λc v _ q=>k c v q) (λc q=>by rw[aA (bG q hn)];exact q) λc xs q=>by rw[aA (bG q hn)];exact q
end
def Rd(H:Hp)(a:Addr)(u:HO):Prop:=H a=some u∨∃o,H a\.frz o u
theorem Rd.of(h:H a\u):Rd H a u:=.inl h
variable{P:Ad}{w:Af}{h:Heap}
theorem Rd.ok(r:Rd H a u)(x:fQ P w H h):fj P w H h a u:=by
 rcases r with r|⟨o,r⟩
 ·exact x a u r
 let#[_,q]:=x a _ r;exact q
def GO:Option HO->Prop
 |some (.lst _)=>True
 |some (.dK _)=>True
 |some (.dT _)=>True
 |some (.set _ _)=>True
 |some (.ins _ _ _)=>True
 |some (.ext _)=>True
 |_=>False
variable{h':Heap}{e x:Addr}{o':HO}
theorem fQ.write(ok:fQ P w H h)(mu:GO (H x))(he:e=x∨H e\.own x)(k:∀b u,b≠e->h.get? b\u->h'.get? b\u)(Cf:∃u,h'.get? e\u)
  (new:fj P w (upd H x o') h' x o'):fQ P w (upd H x o') h':=λb u q=>by
 have DX:∀c y,H c\.own y->c≠x:=λc y r z=>by subst z;rw[r] at mu;exact mu
 have KO:∀c xs,H c\.tup xs->c≠x:=λc xs r z=>by subst z;rw[r] at mu;exact mu
 by_cases hb:b=x
 ·subst hb;rw[ay] at q;cases q;exact new
 rw[aA hb] at q;by_cases AR:b=e
 ·have q':H b\.own x:=by
   rcases he with z|z
   ·exact absurd (AR.trans z) hb
   rw[AR];exact z
  rw[q] at q';cases q';let#[v,hv]:=Cf;exact#[v,by rw[AR];exact hv]
 apply (ok b u q).cA (λc v hc r=>k c v ?_ r) (λc r=>by rw[aA (DX c b r)];exact r) λc xs r=>by rw[aA (KO c xs r)];exact r
 rcases hc with rfl|hc
 ·exact AR
 rintro rfl;rcases he with z|z
 ·exact DX c b hc z
 rw[hc] at z;cases z;exact hb U
structure Un (fs ex:aw) (H H':Hp) (h h':Heap):Prop where
 keep:∀b o,h.get? b\o->H b=none->b∉fs->b∉ex->h'.get? b\o
 slot:∀b o,h.get? b\o->H b=none->b∈fs->b∉ex->∃sl,h'.get? b=some { o with slots:=sl }
 free:∀b o,h.get? b\o->H b=none->b∉ex->H' b=none
 there:∀b o,h.get? b\o->b∉ex->∃o',h'.get? b\o'
 iM:∀b xs,H b\.tup xs->H' b\.tup xs
 hG:∀b o u,H b\.frz o u->H' b\.frz o u
 ik:∀b ps,H b\.tbl ps->∃more,H' b\.tbl (ps++more)
variable{ex fs:aw}{H1:Hp}{h1:Heap}
theorem Un.any(u:Un fs ex H H1 h h1){ob:Obj}(q:h.get? b\ob)(n:H b=none)(hx:b∉ex):∃sl,h1.get? b=some { ob with slots:=sl }:=by
 by_cases hb:b∈fs
 ·exact u.slot b ob q n hb hx
 exact#[ob.slots,u.keep b ob q n hb hx]
theorem Un.kept(k:∀b u,h.get? b\u->h'.get? b\u):Un fs ex H H h h':=
 #[λb ob q _ _ _=>k b ob q,λb ob q _ _ _=>#[ob.slots,k b ob q],λ_ _ _ n _=>n,λb ob q _=>#[ob,k b ob q],λ_ _ q=>q,λ_ _ _ q=>q,λ_ ps q=>#[#[],by rw[q];simp]]
theorem Un.refl:Un fs ex H H h h:=Un.kept λ_ _ q=>q
variable{o:HO}
theorem Un.laid(k:∀b u,h.get? b\u->h'.get? b\u)(hp:h.objs.size<=a)(hn:H a=none):Un fs ex H (upd H a o) h h' where
 keep:=λb u q _ _ _=>k b u q
 slot:=λb u q _ _ _=>#[u.slots,k b u q]
 free:=λb u q n _=>by rw[aA (dE (jz (bK q) hp))];exact n
 there:=λb u q _=>#[u,k b u q]
 iM:=λb xs q=>by rw[aA (bG q hn)];exact q
 hG:=λb u xs q=>by rw[aA (bG q hn)];exact q
 ik:=λb ps q=>#[#[],by rw[aA (bG q hn),q];simp]
theorem Un.write(mu:GO (H x))(he:e=x∨H e\.own x)(k:∀b u,b≠e->h.get? b\u->h'.get? b\u)(Cf:∃u,h'.get? e\u):Un fs ex H (upd H x o) h h':=by
 have hx:∀b,H b=none->b≠x:=λb n z=>by subst z;rw[n] at mu;exact mu
 have hb:∀b,H b=none->b≠e:=λb n z=>by
  subst z;rcases he with r|r
  ·exact hx b n r
  rw[n] at r;cases r
 have hm:∀b u,H b\u->¬GO (some u)->b≠x:=λb u q nm z=>by subst z;rw[q] at mu;exact nm mu
 apply#[λb u q n _ _=>k b u (hb b n) q,λb u q n _ _=>#[u.slots,k b u (hb b n) q],λb u q n _=>by rw[aA (hx b n)];exact n,λb u q _=>?_,
  λb xs q=>by rw[aA (hm b _ q λz=>z)];exact q,λb u xs q=>by rw[aA (hm b _ q λz=>z)];exact q,λb ps q=>#[#[],by rw[aA (hm b _ q λz=>z),q];simp]]
 by_cases AR:b=e
 ·subst AR;exact Cf
 exact#[u,k b u AR q]
def GY(h:Heap)(H:Hp):aw:=(List.range h.objs.size).filter λa=>(H a).isSome
def ix(h:Heap)(H:Hp):Heap:=PySem.W.hideAll h (GY h H)
theorem gA_(h:Heap)(H:Hp):(ix h H).objs.size=h.objs.size:=PySem.W.hideAll_size _ _
variable{o:Obj}
theorem ZR(e:h.get? b\o)(n:H b=none):(ix h H).get? b\o:=
 PySem.W.hideAll_get _ e λhm=>by
  have q:(H b).isSome=true:=(t_.mp hm).2;rw[n] at q;simp at q
theorem YT(e:(ix h H).get? b\o):h.get? b\o/\H b=none:=by
 have e':h.get? b\o:=PySem.W.of_hideAll (GY h H) e;apply#[e',?_];cases q:H b with
 |none=>rfl
 |some x=>
  have hm:b∈GY h H:=t_.mpr #[List.mem_range.mpr (bK e'),by simp[q]];have z:(ix h H).get? b=none:=PySem.W.hideAll_none (GY h H) hm;rw[z] at e;cases e
end L2
abbrev af:=List L2.V
abbrev aI:=Option L2.V
namespace L2
open PySem PySem.Spec PyProof.Rows
structure Mod (K:ai) (mg:Str->Option Aa) (base:Heap):Prop where
 En:K.In base
 glob:base.Ns mainGlobals mg
 blt:∃mb,base.Ns builtinsNs mb/\∀x:Str,x≠"__name__"->mb x=bootBuiltins x
 nolimit:base.NoLimit
structure Cx where
 prog:Ad
 w:Af
 K:ai
 mg:Str->Option Aa
 base:Heap
 A:Ag
 N:ag
 di:Ab
 kq:Hp
 env:Env
 outer:List Env
 stack:List Env
 ex:aw
 fn:Str->Bool
 calm:Bool
 pn:List (Addr × Obj)
 xe:Aa->Ab->Prop
def o9(l:List Env):aw:=l.filterMap (·.frame)
abbrev Cx.fs(X:Cx):aw:=o9 X.outer
def Pw(sc:Scope)(x:Str):Prop:=sc.names.lookup x=some .local∨sc.names.lookup x\.cell∨sc.names.lookup x\.free
def Loc(sc:Scope)(x:Str):Prop:=sc.names.lookup x=some .local∨sc.names.lookup x\.cell
def Look(env:Env)(h:Heap)(m:Str->Option Aa)(x:Str)(u:Aa):Prop:=
 (env.kindOf x\.local/\m x\u)∨((env.kindOf x\.cell∨env.kindOf x\.free)/\∃c,env.cells.lookup x\c/\h.IsCell c (some u))
structure Cx.Ok (X:Cx):Prop where
 mod:Mod X.K X.mg X.base
 kind:X.env.scope.kind=.function
 glob:X.env.globals=mainGlobals
 blt:X.env.builtins=builtinsNs
 above:X.di.heap.objs.size<=X.env.locals
 inj:∀x y c,X.env.cells.lookup x\c->X.env.cells.lookup y\c->x=y
 has:∀x,(X.env.kindOf x\.cell∨X.env.kindOf x\.free)->∃c,X.env.cells.lookup x\c
 CD:∀x c,X.fn x=true->X.env.cells.lookup x\c->X.di.heap.objs.size<=c
 hd:X.calm=true->X.A.handled=none
 frames:X.A.frames\X.stack
 G4:X.stack=X.outer∨(X.stack=X.env::X.outer/\X.env.frame\X.env.locals)
 ID:∀b∈X.ex,b≠X.env.locals/\∀x c,X.env.cells.lookup x\c->c≠b
 bs:∀b o,X.base.get? b\o->X.di.heap.get? b\o/\X.kq b=none
 tU:X.base.objs.size<=X.di.heap.objs.size
 sJ:∀b o,X.base.get? b\o->b∉X.ex
 tJ:∀b∈X.ex,b∉X.fs
 fW:X.di.heap.FunFrames X.base X.outer
 wg:∀b∈X.fs,X.kq b=none
structure Inv (X:Cx) (pins:List (Addr × Obj)) (σ:List aI) (H:Hp) (s:Ab):Prop where
 ok:X.Ok
 os:s.os=X.di.os
 bare:AllBare s.gens
 base:Un X.fs X.ex X.kq H X.di.heap s.heap
 loc:∃m,s.heap.Ns X.env.locals m/\∀(i:Nat) (x:Str) (v:V),X.N[i]? = some x->σ[i]? = some (some v)->Pw X.env.scope x->∃u,RelV v u/\Look X.env s.heap m x u
 cell:∀x c,X.env.cells.lookup x\c->∃v,s.heap.IsCell c v
 free:H X.env.locals=none
 eG:∀x c,X.env.cells.lookup x\c->H c=none
 pin:∀p∈X.pn++pins,s.heap.get? p.1\p.2/\H p.1=none/\p.1≠X.env.locals/\p.1∉X.fs/\∀v,p.2.data≠.cell v
 aE:fQ X.prog X.w H s.heap
 len:σ.length=X.N.length
variable{X:Cx}
theorem Cx.Ok.KR(ok:X.Ok){b:Addr}{o:Obj}(e:X.base.get? b\o):b∉X.fs:=λhb=>by
 have:=(ok.fW.mem hb).1;rw[e] at this;cases this
variable{pins:List (Addr × Obj)}{σ:List aI}{H:Hp}{s:Ab}
theorem Inv.bs(I:Inv X pins σ H s):∀b o,X.base.get? b\o->s.heap.get? b\o/\H b=none:=λb o e=>
 #[I.base.keep b o (I.ok.bs b o e).1 (I.ok.bs b o e).2 (I.ok.KR e) (I.ok.sJ b o e),I.base.free b o (I.ok.bs b o e).1 (I.ok.bs b o e).2 (I.ok.sJ b o e)]
theorem Inv.bk(I:Inv X pins σ H s):∀b o,X.base.get? b\o->s.heap.get? b\o:=λb o e=>(I.bs b o e).1
theorem Inv.mod(I:Inv X pins σ H s):Mod X.K X.mg X.base:=I.ok.mod
theorem Inv.gI(I:Inv X pins σ H s):X.K.In s.heap:=I.ok.mod.En.keeps I.bk
theorem Inv.lt(I:Inv X pins σ H s):X.env.locals<s.heap.objs.size:=let #[_,hn,_]:=I.loc;hn.lt
theorem Inv.sz(I:Inv X pins σ H s):X.di.heap.objs.size<=s.heap.objs.size:=ic I.ok.above (Nat.le_of_lt I.lt)
variable{a:Addr}
theorem Inv.KQ(I:Inv X pins σ H s)(h:s.heap.objs.size<=a):a∉X.fs:=λhb=>by
 let#[_,o,ho,_]:=I.ok.fW.mem hb;exact absurd (jz (bK ho) (ic I.sz h)) (uf _)
theorem Inv.uS(I:Inv X pins σ H s):∀x c,X.env.cells.lookup x\c->c≠X.env.locals:=λx c e z=>by
 let#[v,o,ho,hd]:=I.cell x c e;let#[m,#[o',es,ep,n5,g9,_],_]:=I.loc;rw[z,n5] at ho;cases ho;rw[g9] at hd;cases hd
theorem Inv.fW(I:Inv X pins σ H s):s.heap.FunFrames X.base X.outer:=by
 have all:∀(l:List Env),(∀b∈o9 l,b∈X.fs)->X.di.heap.FunFrames X.base l->s.heap.FunFrames X.base l:=by
  intro l
  induction l with
  |nil=>intro _ _;trivial
  |cons env r ih=>
   intro hs hl;let#[hk,#[L,o,hf,hn,ho,hd],hr]:=hl;have hL:L∈X.fs:=hs L (by unfold o9;rw[List.filterMap_cons,hf];exact fY);let#[sl,e]:=I.base.slot L o ho (I.ok.wg L hL) hL λz=>I.ok.tJ L z hL;exact#[hk,#[L,_,hf,hn,e,hd],ih (λb hb=>hs b (by unfold o9;rw[List.filterMap_cons,hf];exact fo _ hb)) hr]
 exact all X.outer (λ_ hb=>hb) I.ok.fW
theorem Inv.stack(I:Inv X pins σ H s):s.heap.FunFrames X.base X.stack:=by
 rcases I.ok.G4 with e|⟨e,hf⟩
 ·rw[e];exact I.fW
 rw[e];let#[m,hn,_]:=I.loc;apply .cons (by rw[I.ok.kind];decide) hf hn ?_ I.fW;exact Heap.get?_none_of_le (ic I.ok.tU I.ok.above)
theorem Inv.kZ(I:Inv X pins σ H s):∀b∈o9 X.stack,b∈X.env.locals::X.fs:=λb hb=>by
 rcases I.ok.G4 with e|⟨e,hf⟩
 ·rw[e] at hb;exact fo _ hb
 rw[e] at hb;unfold o9 at hb;rw[List.filterMap_cons,hf] at hb;exact hb
theorem Inv.mY(I:Inv X pins σ H s):∀b∈o9 X.stack,H b=none:=λb hb=>by
 rcases cg.mp (I.kZ b hb) with e|hb
 ·rw[e];exact I.free
 let#[_,o,ho,_]:=I.ok.fW.mem hb;exact I.base.free b o ho (I.ok.wg b hb) λz=>I.ok.tJ b z hb
variable{g':Array GenState}{t':Nat}{d':Drawn}{ch:aw}{H':Hp}{h':Heap}
theorem Inv.step(I:Inv X pins σ H s)(uK:∀b∈ch,(b∈X.ex∨X.di.heap.objs.size<=b)/\b≠X.env.locals/\(∀x c,X.env.cells.lookup x\c->c≠b)/\∀p∈X.pn++pins,p.1≠b)(keep:∀b o,b≠X.env.locals->b∉X.fs->b∉ch->s.heap.get? b\o->H b=none->h'.get? b\o)(slot:∀b o,b≠X.env.locals->b∈X.fs->b∉ch->s.heap.get? b\o->H b=none->∃sl,h'.get? b=some { o with slots:=sl })(free:∀b o,b∉ch->s.heap.get? b\o->H b=none->H' b=none)(there:∀b o,b∉ch->s.heap.get? b\o->∃o',h'.get? b\o')(iM:∀b xs,H b\.tup xs->H' b\.tup xs)(hG:∀b o u,H b\.frz o u->H' b\.frz o u)(ik:∀b ps,H b\.tbl ps->∃more,H' b\.tbl (ps++more))(ns:∀m,s.heap.Ns X.env.locals m->h'.Ns X.env.locals m)(aE:fQ X.prog X.w H' h')(hg:AllBare g') :
  Inv X pins σ H' { s with heap:=h',gens:=g',drawn:=d',toks:=t' }:=by
 have QB:∀b o,X.di.heap.get? b\o->b≠X.env.locals:=λb o e=>dE (jz (bK e) I.ok.above)
 have Hn:∀b o,X.di.heap.get? b\o->b∉X.ex->b∉ch:=λb o e hx hb=>by
  rcases (uK b hb).1 with z|z
  ·exact hx z
  exact absurd (jz (bK e) z) (uf _)
 have cellK:∀x c,X.env.cells.lookup x\c->∀v,s.heap.IsCell c v->h'.IsCell c v:=λx c e v ⟨o,ho,hd⟩=>by
  have DZ:c∉ch:=λz=>(uK c z).2.2.1 x c e U;by_cases hc:c∈X.fs
  ·let#[sl,q]:=slot c o (I.uS x c e) hc DZ ho (I.eG x c e);exact#[_,q,hd]
  exact#[o,keep c o (I.uS x c e) hc DZ ho (I.eG x c e),hd]
 apply#[I.ok,I.os,hg,#[λb o e n hb hx=>?_,λb o e n hb hx=>?_,λb o e n hx=>?_,λb o e hx=>?_,λb xs e=>iM b xs (I.base.iM b xs e),λb o xs e=>hG b o xs (I.base.hG b o xs e),λb ps e=>?_],?_,λx c e=>?_,?_,λx c e=>?_,λp hp=>?_,aE,I.len]
 ·exact keep b o (QB b o e) hb (Hn b o e hx) (I.base.keep b o e n hb hx) (I.base.free b o e n hx)
 ·let#[sl,e1]:=I.base.slot b o e n hb hx;let#[We,e2]:=slot b _ (QB b o e) hb (Hn b o e hx) e1 (I.base.free b o e n hx);exact#[We,e2]
 ·let#[o',e1]:=I.base.there b o e hx;exact free b o' (Hn b o e hx) e1 (I.base.free b o e n hx)
 ·let#[o',e1]:=I.base.there b o e hx;exact there b o' (Hn b o e hx) e1
 ·let#[m1,e1]:=I.base.ik b ps e;let#[m2,e2]:=ik b _ e1;exact#[m1++m2,by rw[e2,Array.append_assoc]]
 ·let#[m,hn,hl]:=I.loc;apply#[m,ns m hn,λi x v e1 e2 e3=>?_];let#[u,r,l]:=hl i x v e1 e2 e3;apply#[u,r,?_];rcases l with l|⟨k,c,e,z⟩
  ·exact .inl l
  exact .inr #[k,c,e,cellK x c e _ z]
 ·let#[v,z]:=I.cell x c e;exact#[v,cellK x c e v z]
 ·let#[m,#[o,_,_,ho,_],_]:=I.loc;exact free _ o (λz=>(uK _ z).2.1 U) ho I.free
 ·let#[v,o,ho,hd]:=I.cell x c e;exact free c o (λz=>(uK c z).2.2.1 x c e U) ho (I.eG x c e)
 let#[e,n,ne,nf,d]:=I.pin p hp;have DZ:p.1∉ch:=λz=>(uK p.1 z).2.2.2 p hp U;exact#[keep p.1 p.2 ne nf DZ e n,free p.1 p.2 DZ e n,ne,nf,d]
theorem Inv.un(I:Inv X pins σ H s)(u:Un X.fs [] H H' s.heap h')(aE:fQ X.prog X.w H' h'):Inv X pins σ H' { s with heap:=h',toks:=t' }:=by
 let#[m,#[o,es,ep,ho,r],_]:=id I.loc;let#[sl,hL]:=u.any ho I.free Y1
 exact I.step (g':=s.gens) (d':=s.drawn) (ch:=[]) (λ_ z=>nomatch z) (λb o _ hb _ e n=>u.keep b o e n hb Y1) (λb o _ hb _ e n=>u.slot b o e n hb Y1) (λb o _ e n=>u.free b o e n Y1) (λb o _ e=>u.there b o e Y1) u.iM u.hG u.ik (λm' hm=>by
  let#[o',Cr,IH,n5,r']:=hm;rw[ho] at n5;cases n5;exact#[_,Cr,IH,hL,r']) aE I.bare
theorem Inv.call(I:Inv X pins σ H s)(u:Un (o9 X.stack) ch H H' s.heap h')(aE:fQ X.prog X.w H' h')(hg:AllBare g')(uK:∀b∈ch,(b∈X.ex∨X.di.heap.objs.size<=b)/\b≠X.env.locals/\(∀x c,X.env.cells.lookup x\c->c≠b)/\∀p∈X.pn++pins,p.1≠b) :
  Inv X pins σ H' { s with heap:=h',gens:=g',drawn:=d',toks:=t' }:=by
 let#[m,#[o,es,ep,ho,r],_]:=id I.loc;let#[sl,hL]:=u.any ho I.free λz=>(uK _ z).2.1 U
 exact I.step (ch:=ch) uK (λb o hL hb hc e n=>u.keep b o e n (λz=>(cg.mp (I.kZ b z)).elim hL hb) hc) (λb o _ _ hc e n=>u.any e n hc) (λb o hc e n=>u.free b o e n hc) (λb o hc e=>u.there b o e hc) u.iM u.hG u.ik (λm' hm=>by
  let#[o',Cr,IH,n5,r']:=hm;rw[ho] at n5;cases n5;exact#[_,Cr,IH,hL,r']) aE hg
theorem Inv.turned{it:Addr}(I:Inv X pins σ H s)(k:∀b o,b≠it->s.heap.get? b\o->h'.get? b\o)(hn:H it=none)(hL:it≠X.env.locals)(h1:it∈X.ex∨X.di.heap.objs.size<=it)(h2:∀x c,X.env.cells.lookup x\c->c≠it)(h3:∀p∈X.pn++pins,p.1≠it):Inv X pins σ H { s with heap:=h',toks:=t' }:=by
 have Qz:∀b u,H b\u->b≠it:=λb u e z=>by rw[z,hn] at e;cases e
 apply I.step (g':=s.gens) (d':=s.drawn) (ch:=[it]) (λb hb=>?_) (λb o _ _ hc e _=>k b o (λz=>hc (by simp[z])) e) (λb o _ _ hc e _=>#[o.slots,k b o (λz=>hc (by simp[z])) e]) (λ_ _ _ _ n=>n)
  (λb o hc e=>#[o,k b o (λz=>hc (by simp[z])) e]) (λ_ _ e=>e) (λ_ _ _ e=>e) (λb ps e=>#[#[],by rw[e];simp]) (λm hm=>?_) (λb u e=>?_) I.bare
 ·have e:b=it:=⇑hb
  subst e;exact#[h1,hL,h2,h3]
 ·let#[o,es,ep,ho,r]:=hm;exact#[o,es,ep,k _ o (dI hL) ho,r]
 apply (I.aE b u e).cA (λc v hc q=>k c v ?_ q) (λ_ q=>q) λ_ _ q=>q;rcases hc with z|z
 ·rw[z];exact Qz b u e
 exact Qz c _ z
theorem Inv.tok(I:Inv X pins σ H s)(t:Nat):Inv X pins σ H { s with toks:=t }:=I.un (h':=s.heap) (t':=t) Un.refl I.aE
theorem Inv.kept(I:Inv X pins σ H s)(k:∀b u,s.heap.get? b\u->h'.get? b\u):Inv X pins σ H { s with heap:=h',toks:=t' }:=I.un (Un.kept k) (I.aE.kept k)
variable{o:HO}
theorem Inv.laid(I:Inv X pins σ H s)(k:∀b u,s.heap.get? b\u->h'.get? b\u)(hp:s.heap.objs.size<=a)(new:fj X.prog X.w (upd H a o) h' a o) :
  Inv X pins σ (upd H a o) { s with heap:=h',toks:=t' }:=I.un (Un.laid k hp (I.aE.fresh hp)) (I.aE.laid k hp new)
theorem Inv.write{x e:Addr}(I:Inv X pins σ H s)(mu:GO (H x))(he:e=x∨H e\.own x)(k:∀b u,b≠e->s.heap.get? b\u->h'.get? b\u)(Cf:∃u,h'.get? e\u)(new:fj X.prog X.w (upd H x o) h' x o):Inv X pins σ (upd H x o) { s with heap:=h',toks:=t' }:=I.un (Un.write mu he k Cf) (I.aE.write mu he k Cf new)
theorem Inv.nM{xM:List (Addr × Obj)}(I:Inv X pins σ H s)(h:∀p∈xM,s.heap.get? p.1\p.2/\H p.1=none/\p.1≠X.env.locals/\p.1∉X.fs/\∀v,p.2.data≠.cell v):Inv X xM σ H s:=
 #[I.ok,I.os,I.bare,I.base,I.loc,I.cell,I.free,I.eG,λp hp=>(dB.mp hp).elim (λz=>I.pin p (List.mem_append_left _ z)) (h p),I.aE,I.len]
variable{x:Str}{i:Nat}
theorem S1{N:ag}(hN:N.Nodup){j:Nat}(a:N[i]? = some x)(b:N[j]? = some x):i=j:=by
 let#[h1,e1]:=cu.mp a;let#[h2,e2]:=cu.mp b;exact (List.getElem_inj hN).mp (e1.trans e2.symm)
variable{M:Model}{A:Ag}{E:Aa->Ab->Prop}{v:V}{u:Aa}{Q:Unit->Ab->Prop}
theorem Ud(I:Inv X pins σ H s)(hN:X.N.Nodup)(hi:X.N[i]? = some x)(hx:Loc X.env.scope x)(r:RelV v u)(h:∀s',Inv X pins (σ.set i (some v)) H s'->(∃a,Heap.SameBut a s.heap s'.heap/\(a=X.env.locals∨X.env.cells.lookup x\a))->Q () s')(hf:X.fn x=true∨X.env.scope.names.lookup x\.local:=by first|exact .inl U|exact .inr U|assumption):wpAny M A (storeName X.env x u) Q E s:=by
 let#[m,hn,hl]:=id I.loc;have Mi:(X.env.scope.kind == .class || (X.env.scope.kind == .module&&X.env.locals != X.env.globals))=false:=by rw[I.ok.kind];rfl
 have E4:i<σ.length:=by rw[I.len];exact (cu.mp hi).1
 let uS:=I.uS
 have tracked:∀{a:Addr} {h':Heap},(∃o,s.heap.get? a\o/\H a=none)->Heap.SameBut a s.heap h'->fQ X.prog X.w H h':=λ{a h'} ha hs b ob e=>by
  let#[_,_,x_]:=ha;apply (I.aE b ob e).cA (λc w' hc q=>(hs.2 c ?_).trans q) (λ_ q=>q) λ_ _ q=>q;rintro rfl;rcases hc with rfl|hc
  ·rw[x_] at e;cases e
  rw[x_] at hc;cases hc
 rcases hx with hk|hk
 ·apply wpAny_storeName_local hk hn (λh' EO hs=>?_) Mi;let#[oL,_,_,HW,_]:=id hn;apply h _ #[I.ok,I.os,I.bare,#[λb o e n hb hx=>?_,λb o e n hb hx=>?_,I.base.free,λb o e hx=>?_,I.base.iM,I.base.hG,I.base.ik],#[_,EO,λj y v' e1 e2 e3=>?_],λy c e=>?_,I.free,I.eG,λp hp=>?_,tracked #[oL,HW,I.free] hs,by simpa using I.len] #[_,hs,.inl U]
  ·exact (hs.2 b (dE (jz (bK e) I.ok.above))).trans (I.base.keep b o e n hb hx)
  ·let#[sl,e1]:=I.base.slot b o e n hb hx;exact#[sl,(hs.2 b (dE (jz (bK e) I.ok.above))).trans e1]
  ·let#[o',e1]:=I.base.there b o e hx;exact#[o',(hs.2 b (dE (jz (bK e) I.ok.above))).trans e1]
  ·by_cases hj:j=i
   ·subst hj;rw[hi] at e1;cases e1;rw[List.getElem?_set_self E4] at e2;cases e2;exact#[u,r,.inl #[hk,by simp]]
   rw[List.getElem?_set_ne (dI hj)] at e2;let#[u',r',q]:=hl j y v' e1 e2 e3;apply#[u',r',?_];rcases q with⟨k,e⟩|⟨k,c,e,z⟩
   ·apply .inl #[k,?_];have:y≠x:=λe=>hj (S1 hN e1 (e▸hi));simp[this,e]
   exact .inr #[k,c,e,z.sameBut hs (uS y c e)]
  ·let#[w',z]:=I.cell y c e;exact#[w',z.sameBut hs (uS y c e)]
  let#[e,n,ne,nf,d]:=I.pin p hp;exact#[(hs.2 p.1 ne).trans e,n,ne,nf,d]
 have L7:X.fn x=true:=by
  rcases hf with z|z
  ·exact z
  rw[z] at hk;cases hk
 let#[c,hc]:=I.ok.has x (.inl hk);let#[w',z]:=I.cell x c hc;apply wpAny_storeName_cell I.ok.kind hk hc z (λh' Ih hs=>?_);let#[oc,EL,LK]:=id z;apply h { s with heap:=h' } #[I.ok,I.os,I.bare,#[λb o e n hb hx=>?_,λb o e n hb hx=>?_,I.base.free,λb o e hx=>?_,I.base.iM,I.base.hG,I.base.ik],#[m,hn.sameBut hs (dI (uS x c hc)),λj y v' e1 e2 e3=>?_],λy c' e=>?_,I.free,I.eG,λp hp=>?_,tracked #[oc,EL,I.eG x c hc] hs,by simpa using I.len] #[c,hs,.inr hc]
 ·exact (hs.2 b (dE (jz (bK e) (I.ok.CD x c L7 hc)))).trans (I.base.keep b o e n hb hx)
 ·let#[sl,e1]:=I.base.slot b o e n hb hx;exact#[sl,(hs.2 b (dE (jz (bK e) (I.ok.CD x c L7 hc)))).trans e1]
 ·let#[o',e1]:=I.base.there b o e hx;exact#[o',(hs.2 b (dE (jz (bK e) (I.ok.CD x c L7 hc)))).trans e1]
 ·by_cases hj:j=i
  ·subst hj;rw[hi] at e1;cases e1;rw[List.getElem?_set_self E4] at e2;cases e2;exact#[u,r,.inr #[.inl hk,c,hc,Ih]]
  rw[List.getElem?_set_ne (dI hj)] at e2;let#[u',r',q]:=hl j y v' e1 e2 e3;apply#[u',r',?_];rcases q with q|⟨k,c',e,z'⟩
  ·exact .inl q
  apply .inr #[k,c',e,z'.sameBut hs ?_];rintro rfl;exact hj (S1 hN e1 (I.ok.inj _ _ _ e hc▸hi))
 ·by_cases R4:c'=c
  ·subst R4;exact#[_,Ih]
  let#[w2,z2]:=I.cell y c' e;exact#[w2,z2.sameBut hs R4]
 let#[e,n,ne,nf,d]:=I.pin p hp;apply#[(hs.2 p.1 ?_).trans e,n,ne,nf,d];intro q;rw[q,EL] at e;have q':oc=p.2:=dN e;exact d w' (by rw[<- q'];exact LK)
theorem Ti(I:Inv X pins σ H s)(hN:X.N.Nodup)(hi:X.N[i]? = some x)(hx:Loc X.env.scope x)(r:RelV v u)(h:∀s',Inv X pins (σ.set i (some v)) H s'->Q () s')(hf:X.fn x=true∨X.env.scope.names.lookup x\.local:=by first|exact .inl U|exact .inr U|assumption):wpAny M A (storeName X.env x u) Q E s:=
 Ud I hN hi hx r (λs' I' _=>h s' I') hf
theorem Inv.FZ{s':Ab}(I:Inv X pins σ H s)(ho:s'.os=s.os)(u:Un (o9 X.stack) ch H H' s.heap s'.heap)(aE:fQ X.prog X.w H' s'.heap)(hg:AllBare s'.gens)(uK:∀b∈ch,(b∈X.ex∨X.di.heap.objs.size<=b)/\b≠X.env.locals/\(∀x c,X.env.cells.lookup x\c->c≠b)/\∀p∈X.pn++pins,p.1≠b):Inv X pins σ H' s':=by
 let#[h',g',d',t',o']:=s';have e:o'=s.os:=ho;subst e;exact I.call (g':=g') (t':=t') (d':=d') u aE hg uK
abbrev XK:=Aa->Option Addr->Hp->Prop
abbrev St:=List aI
abbrev VK:=V->Hp->Prop
abbrev TE:=St->Hp->VK->Prop
abbrev TT:=St->Hp->(Bool->Hp->Prop)->Prop
abbrev TA:=St->Hp->(af->Hp->Prop)->Prop
structure Ends where
 nx:St->Hp->Prop
 rt:VK
 bk:St->Hp->Prop:=λ_ _=>False
 ct:St->Hp->Prop:=λ_ _=>False
abbrev TS:=Ends->St->Hp->Prop
def EP(X:Cx)(pins:List (Addr × Obj))(σ:St)(Q:VK)(u:Aa)(s':Ab):Prop:=∃v H',Inv X pins σ H' s'/\RelV v u/\Q v H'
def TP(X:Cx)(pins:List (Addr × Obj))(σ:St)(Q:Bool->Hp->Prop)(b:Bool)(s':Ab):Prop:=∃H',Inv X pins σ H' s'/\Q b H'
def AP(X:Cx)(pins:List (Addr × Obj))(σ:St)(Q:af->Hp->Prop)(us:aj)(s':Ab):Prop:=∃vs H',Inv X pins σ H' s'/\Vals vs us/\Q vs H'
def SP(X:Cx)(pins:List (Addr × Obj))(D:Ends)(f:Flow)(s':Ab):Prop:=
 match f with
 |.next=>∃bf H',Inv X pins bf H' s'/\D.nx bf H'
 |.brk=>∃bf H',Inv X pins bf H' s'/\D.bk bf H'
 |.cont=>∃bf H',Inv X pins bf H' s'/\D.ct bf H'
 |.ret u=>∃v bf H',Inv X pins bf H' s'/\RelV v u/\D.rt v H'
def PE(X:Cx)(e:Expr)(t:TE):Prop:=
 ∀(pins:List (Addr × Obj)) (s:Ab) (σ:St) (H:Hp) (Q:VK),Inv X pins σ H s->t σ H Q->wpAny (model X.prog X.w) X.A (eval e X.env) (EP X pins σ Q) X.xe s
def PT(X:Cx)(e:Expr)(t:TT):Prop:=
 ∀(pins:List (Addr × Obj)) (s:Ab) (σ:St) (H:Hp) (Q:Bool->Hp->Prop),Inv X pins σ H s->t σ H Q->wpAny (model X.prog X.w) X.A (isTrue e X.env (eval e X.env)) (TP X pins σ Q) X.xe s
def PW(X:Cx)(e:Expr)(t:TT):Prop:=
 ∀(whole:Sem Aa) (pins:List (Addr × Obj)) (s:Ab) (σ:St) (H:Hp) (Q:Bool->Hp->Prop),Inv X pins σ H s->t σ H Q->wpAny (model X.prog X.w) X.A (isTrue e X.env whole) (TP X pins σ Q) X.xe s
theorem PW.pt{e:Expr}{t:TT}(h:PW X e t):PT X e t:=h _
def PA(X:Cx)(es:List Expr)(t:TA):Prop:=
 ∀(pos:Pos) (pins:List (Addr × Obj)) (s:Ab) (σ:St) (H:Hp) (Q:af->Hp->Prop),Inv X pins σ H s->t σ H Q->wpAny (model X.prog X.w) X.A (spliced (backTo pos (starEach es X.env))) (AP X pins σ Q) X.xe s
def PS(X:Cx)(st:Stmt)(t:TS):Prop:=
 ∀(pins:List (Addr × Obj)) (s:Ab) (σ:St) (H:Hp) (D:Ends),Inv X pins σ H s->t D σ H->wpAny (model X.prog X.w) X.A (exec st X.env) (SP X pins D) X.xe s
def ki(X:Cx)(st:List Stmt)(t:TS):Prop:=
 ∀(pins:List (Addr × Obj)) (s:Ab) (σ:St) (H:Hp) (D:Ends),Inv X pins σ H s->t D σ H->wpAny (model X.prog X.w) X.A (execs st X.env) (SP X pins D) X.xe s
theorem aS{α:Type}{t:Sem α}{Q Q':α->Ab->Prop}(h:wpAny M A t Q E s)(hQ:∀a s,Q a s->Q' a s):wpAny M A t Q' E s:=wpAny_mono h hQ λ_ _ x=>x
end L2
abbrev km:=L2.St->L2.Hp->Prop
abbrev dD:=Nat->L2.St->L2.Hp->Prop
namespace L2
open PySem PySem.Spec PyProof.Rows
variable{pos:Pos}
variable{σ:St}
variable{op:CmpOp}
variable{c:Expr}
section
variable{X:Cx}
inductive dh (i:Nat) (σ:St) (H:Hp) (Q:VK):Prop
 |mk:∀v,σ[i]? = some (some v)->Q v H->dh i σ H Q
def tC(v:V):TE:=λ_ H Q=>Q v H
theorem YE{i:Nat}{x:Str}(hN:X.N[i]? = some x)(hv:Pw X.env.scope x)(hd:(x == ("__debug__":Str))=false:=by decide)(iy:(x == ("__classdict__":Str))=false:=by decide):PE X (.Name x pos) (dh i):=by
 intro pins s σ H Q I h;let#[v,e,h]:=h;let#[m,hn,hl]:=I.loc;let#[u,r,l]:=hl i x v hN e hv;have fin:EP X pins σ Q u s:=#[v,H,I,r,h];rcases l with⟨hk,hm⟩|⟨hk,c,hc,n9⟩
 ·exact wpAny_Name (wpAny_loadName_local I.ok.kind hk hn hm fin) hd
 rcases hk with hk|hk
 ·exact wpAny_Name (wpAny_loadName_cell I.ok.kind hk hc n9 fin) hd
 exact wpAny_Name (wpAny_loadName_free I.ok.kind hk hc n9 fin iy) hd
theorem av{i j pos}:PE X (.Constant (.int i) j pos) (tC (.int i)):=λ_ _ _ H _ I h=>wpAny_Constant_int #[.int i,H,I.tok _,#[_,U],h]
theorem jv{b j pos}:PE X (.Constant (.bool b) j pos) (tC (.bl b)):=λ_ _ _ H _ I h=>Constant_bool #[.bl b,H,I,U,h]
theorem ou{j pos}:PE X (.Constant .none j pos) (tC .non):=λ_ _ _ H _ I h=>Constant_none #[.non,H,I,U,h]
theorem jX{x j pos}:PE X (.Constant (.str x) j pos) (tC (.str x)):=λ_ _ _ H _ I h=>Calls.Constant_str #[.str x,H,I.tok _,#[_,U],h]
def Gl(X:Cx)(x:Str):Prop:=X.env.kindOf x=some .globalImplicit
theorem ML{E:Aa->Ab->Prop}{pins:List (Addr × Obj)}{s:Ab}{H:Hp}{x:Str}{u:Aa}{Q:Aa->Ab->Prop}(I:Inv X pins σ H s)(hg:Gl X x)(hm:X.mg x\u)(h:Q u s)(hd:(x == ("__debug__":Str))=false:=by decide):wpAny (model X.prog X.w) X.A (eval (.Name x pos) X.env) Q E s:=
 Calls.Name_function_global I.ok.kind hg (Calls.loadGlobal_global (by rw[I.ok.glob];exact I.mod.glob.keeps I.bk) hm h) hd
theorem wA{E:Aa->Ab->Prop}{pins:List (Addr × Obj)}{s:Ab}{H:Hp}{x:Str}{u:Aa}{Q:Aa->Ab->Prop}(I:Inv X pins σ H s)(hg:Gl X x)(hm:X.mg x=none)(hv:bootBuiltins x\u)(h:Q u s)(hn:x≠"__name__":=by decide)(hd:(x == ("__debug__":Str))=false:=by decide):wpAny (model X.prog X.w) X.A (eval (.Name x pos) X.env) Q E s:=by
 let#[mb,h1,h2]:=I.mod.blt;exact Calls.Name_function_global I.ok.kind hg (Calls.loadGlobal_builtin (by rw[I.ok.glob];exact I.mod.glob.keeps I.bk) hm (by rw[I.ok.blt];exact h1.keeps I.bk) ((h2 x hn).trans hv) h) hd
theorem CB{x:Str}{v:V}{u:Aa}(hg:Gl X x)(hm:X.mg x\u)(r:RelV v u)(hd:(x == ("__debug__":Str))=false:=by decide):PE X (.Name x pos) (tC v):=
 λ_ _ _ H _ I h=>ML I hg hm #[v,H,I,r,h] hd
theorem gM{x:Str}{v:V}{u:Aa}(hg:Gl X x)(hm:X.mg x=none)(hv:bootBuiltins x\u)(r:RelV v u)(hn:x≠"__name__":=by decide)(hd:(x == ("__debug__":Str))=false:=by decide):PE X (.Name x pos) (tC v):=
 λ_ _ _ H _ I h=>wA I hg hm hv #[v,H,I,r,h] hn hd
variable{a b:Expr}{ta tb:TE}{pos:Pos}
def PC(X:Cx)(op:CmpOp)(a b:Expr)(t:TE):Prop:=
 ∀(pins:List (Addr × Obj)) (s:Ab) (σ:St) (H:Hp) (Q:VK),Inv X pins σ H s->t σ H Q->
  wpAny (model X.prog X.w) X.A (eval a X.env) (λv aL=>wpAny (model X.prog X.w) X.A (eval b X.env) (λu jA=>wpAny (model X.prog X.w) X.A (compareOp op v u) (EP X pins σ Q) X.xe jA) X.xe aL) X.xe s
theorem jF(b:Expr)(h:op≠.In)(h2:op≠.NotIn):behindInMarks op b=false:=by
 have e1:(op == CmpOp.In)=false:=by cases op<;>first|rfl|exact absurd U h
 have e2:(op == CmpOp.NotIn)=false:=by cases op<;>first|rfl|exact absurd U h2
 cases b<;>simp[behindInMarks,e1,e2]
def Km(ta:TE):TE:=λσ H Q=>ta σ H λx H1=>Q (.bl (decide (x=.non))) H1
theorem RelV.sH{x:V}{v:Aa}(r:RelV x v):(v == Value.none)=decide (x=.non):=by
 cases x with
 |non=>cases r;rfl
 |bl _=>cases r;rfl
 |int _=>let#[t,rfl]:=r;rfl
 |str _=>let#[t,rfl]:=r;rfl
 |byt _=>let#[t,rfl]:=r;rfl
 |flt _=>let#[t,rfl]:=r;rfl
 |ref _=>cases r;rfl
 |ty _=>cases r;rfl
theorem Iz{j pos'}(ha:PE X a ta):PC X .Is a (.Constant .none j pos') (Km ta):=by
 intro pins s σ H Q I h;apply aS (ha pins s σ H _ I h) λv s1 ⟨x,H1,I1,r1,q1⟩=>?_;exact Constant_none (is_none_gen #[.bl _,H1,I1,by rw[r1.sH];rfl,q1])
inductive Qc (Q:Bool->Hp->Prop) (x:V) (H1:Hp):Prop
 |mk:∀c,x=.bl c->Q c H1->Qc Q x H1
def tB(t:TE):TT:=λσ H Q=>t σ H λx H1=>Qc Q x H1
theorem Ir{t:TE}(h:PC X op a b t)(h1:behindInMarks op b=false:=by first|exact jF _ (by decide) (by decide)|rfl):PE X (.Compare a [op] [b] pos) t:=λpins s σ H Q I hw=>wpAny_Compare1 (h pins s σ H Q I hw) h1
theorem qj{t:TE}(h:PC X op a b t)(h1:behindInMarks op b=false:=by first|exact jF _ (by decide) (by decide)|rfl):PT X (.Compare a [op] [b] pos) (tB t):=by
 intro pins s σ H Q I hw;apply wpAny_isTrue_Compare1 (aS (h pins s σ H _ I hw) λv s1 h1=>aS h1 λu s2 h2=>aS h2 λc s3 ⟨x,H1,I1,r1,q1⟩=>?_) h1;let#[d,rfl,q]:=q1;cases r1;exact tR #[H1,I1,q]
theorem d0{e:Expr}{t:TE}(h:PE X e t)(he:∀whole,isTrue e X.env whole=(do let v <- whole;standAt e.pos;holding [v] (truthy v)):=by intro _;rfl):PT X e (tB t):=by
 intro pins s σ H Q I hw;apply isTrue_plain (aS (h pins s σ H _ I hw) λv s1 ⟨x,H1,I1,r1,q1⟩=>?_) (he _);let#[d,rfl,q]:=q1;cases r1;exact tR #[H1,I1,q]
variable{tA G2:TT}{rest:List Expr}
def Kr(t u:TT):TT:=λσ H Q=>t σ H λc H1=>if c=true then u σ H1 Q else Q false H1
def V3(t u:TT):TT:=λσ H Q=>t σ H λc H1=>if c=true then Q true H1 else u σ H1 Q
def Kl(t:TT):TT:=λσ H Q=>t σ H λc H1=>Q (!c) H1
theorem Sl(ha:PT X a tA):PW X (.BoolOp .And [a] pos) tA:=by
 intro wh pins s σ H Q I h;apply isTrue_and (aS (ha pins s σ H Q I h) λc s1 e=>?_);cases c with
 |true=>exact isTrue_and_nil e
 |false=>exact e
theorem jY(ha:PT X a tA):PW X (.BoolOp .Or [a] pos) tA:=by
 intro wh pins s σ H Q I h;apply isTrue_or (aS (ha pins s σ H Q I h) λc s1 e=>?_);cases c with
 |false=>exact isTrue_or_nil e
 |true=>exact e
theorem Rk(ha:PT X a tA)(hb:PW X (.BoolOp .And (b::rest) pos) G2):PW X (.BoolOp .And (a::b::rest) pos) (Kr tA G2):=by
 intro wh pins s σ H Q I h;apply isTrue_and (aS (ha pins s σ H _ I h) λc s1 ⟨H1,I1,q1⟩=>?_);cases c with
 |true=>exact hb wh pins s1 σ H1 Q I1 q1
 |false=>exact#[H1,I1,q1]
theorem iK(ha:PT X a tA)(hb:PW X (.BoolOp .Or (b::rest) pos) G2):PW X (.BoolOp .Or (a::b::rest) pos) (V3 tA G2):=by
 intro wh pins s σ H Q I h;apply isTrue_or (aS (ha pins s σ H _ I h) λc s1 ⟨H1,I1,q1⟩=>?_);cases c with
 |true=>exact#[H1,I1,q1]
 |false=>exact hb wh pins s1 σ H1 Q I1 q1
theorem eK(ha:PT X a tA):PT X (.UnaryOp .Not a pos) (Kl tA):=by
 intro pins s σ H Q I h;exact isTrue_not (ha pins s σ H (λc H1=>Q (!c) H1) I h)
inductive qK (tb:TE) (σ:St) (Q:VK) (x:V) (H1:Hp):Prop
 |mk:∀c,x=.bl c->(if c=true then tb σ H1 Q else Q (.bl false) H1)->qK tb σ Q x H1
def Dt(ta tb:TE):TE:=λσ H Q=>ta σ H λx H1=>qK tb σ Q x H1
inductive xk (tb:TE) (σ:St) (Q:VK) (x:V) (H1:Hp):Prop
 |mk:∀c,x=.bl c->(if c=true then Q (.bl true) H1 else tb σ H1 Q)->xk tb σ Q x H1
def Kk(ta tb:TE):TE:=λσ H Q=>ta σ H λx H1=>xk tb σ Q x H1
inductive qF (Q:VK) (x:V) (H1:Hp):Prop
 |mk:∀c,x=.bl c->Q (.bl (!c)) H1->qF Q x H1
def Di(ta:TE):TE:=λσ H Q=>ta σ H λx H1=>qF Q x H1
theorem ph{op}{t:TE}(h:PE X a t):PE X (.BoolOp op [a] pos) t:=λpins s σ H Q I hw=>BoolOp_one (h pins s σ H Q I hw)
theorem oq(ha:PE X a ta)(hb:PE X (.BoolOp .And (b::rest) pos) tb):PE X (.BoolOp .And (a::b::rest) pos) (Dt ta tb):=by
 intro pins s σ H Q I h;apply BoolOp_and (aS (ha pins s σ H _ I h) λv s1 ⟨x,H1,I1,r1,q1⟩=>?_);let#[c,rfl,q1]:=q1;cases r1;apply tR ?_;cases c with
 |true=>exact hb pins s1 σ H1 Q I1 q1
 |false=>exact#[.bl false,H1,I1,U,q1]
theorem XU(ha:PE X a ta)(hb:PE X (.BoolOp .Or (b::rest) pos) tb):PE X (.BoolOp .Or (a::b::rest) pos) (Kk ta tb):=by
 intro pins s σ H Q I h;apply BoolOp_or (aS (ha pins s σ H _ I h) λv s1 ⟨x,H1,I1,r1,q1⟩=>?_);let#[c,rfl,q1]:=q1;cases r1;apply tR ?_;cases c with
 |false=>exact hb pins s1 σ H1 Q I1 q1
 |true=>exact#[.bl true,H1,I1,U,q1]
theorem Mw(ha:PE X a ta):PE X (.UnaryOp .Not a pos) (Di ta):=by
 intro pins s σ H Q I h;apply UnaryOp_ (aS (ha pins s σ H _ I h) λv s1 ⟨x,H1,I1,r1,q1⟩=>?_);let#[c,rfl,q1]:=q1;cases r1;exact not_of (tR #[.bl (!c),H1,I1,U,q1])
def V4(t:TT)(ta tb:TE):TE:=λσ H Q=>t σ H λc H1=>if c=true then ta σ H1 Q else tb σ H1 Q
theorem hO_(hc:PT X c tA)(ha:PE X a ta)(hb:PE X b tb):PE X (.IfExp c a b pos) (V4 tA ta tb):=by
 intro pins s σ H Q I h;apply wpAny_IfExp (aS (hc pins s σ H _ I h) λd s1 ⟨H1,I1,q1⟩=>?_);cases d with
 |true=>exact ha pins s1 σ H1 Q I1 q1
 |false=>exact hb pins s1 σ H1 Q I1 q1
end
def d5(K:ai)(H:Hp)(a:Addr)(xs:af):Prop:=
 Rd H a (.lst xs) ∨
  ∃(o:Obj) (its:Array Aa) (n:Nat),K.lookup a\o/\o.cls=.type "list"/\o.dict=none/\o.data=.seq its n/\its.size<=sizeLine/\Vals xs its.toList
def fH(K:ai)(H:Hp)(a:Addr)(xs:af):Prop:=
 Rd H a (.tup xs) ∨
  ∃(o:Obj) (its:Array Aa) (n:Nat),K.lookup a\o/\o.cls=.type "tuple"/\o.data=.seq its n/\its.size<=sizeLine/\Vals xs its.toList
def Pu:Aa->aI
 |.none=>some .non
 |.bool b=>some (.bl b)
 |.int i _=>some (.int i)
 |.str x _=>some (.str x)
 |.bytes b _=>some (.byt b)
 |.float b _=>some (.flt b)
 |.ref a=>some (.ref a)
 |.type n=>some (.ty n)
 |_=>none
theorem RelV.abs{x:V}{u:Aa}(r:RelV x u):Pu u\x:=by
 cases x with
 |non=>cases r;rfl
 |bl _=>cases r;rfl
 |int _=>let#[t,rfl]:=r;rfl
 |str _=>let#[t,rfl]:=r;rfl
 |byt _=>let#[t,rfl]:=r;rfl
 |flt _=>let#[t,rfl]:=r;rfl
 |ref _=>cases r;rfl
 |ty _=>cases r;rfl
theorem RelV.inj{x y:V}{u:Aa}(r:RelV x u)(q:RelV y u):x=y:=dN (r.abs.symm.trans q.abs)
theorem Vals.inj:∀{xs ys:af} {us:aj},Vals xs us->Vals ys us->xs=ys
 |_,_,_,.nil,.nil=>rfl
 |_,_,_,.cons r t,.cons r' t'=>by rw[r.inj r',Vals.inj t t']
section
variable{X:Cx}{pins:List (Addr × Obj)}{σ:St}{H:Hp}{s:Ab}{a:Addr}{xs ys:af}
theorem d5.of{K:ai}(h:H a\.lst xs):d5 K H a xs:=.inl (.inl h)
theorem fH.of{K:ai}(h:H a\.tup xs):fH K H a xs:=.inl (.inl h)
theorem Inv.list(I:Inv X pins σ H s)(h:d5 X.K H a xs):∃its:aj,Vals xs its/\PlainL s.heap a its.toArray/\xs.length<=sizeLine:=by
 rcases h with h|⟨o,its,n,hk,hc,hd,hs,hz,r⟩
 ·let#[z,its,n,r,e]:=h.ok I.aE;exact#[its,r,#[_,n,e,U,U,U],z]
 apply#[its.toList,r,#[o,n,I.gI a o hk,hc,hd,by simpa using hs],?_];let e:=r.length;simp only[ud] at e;omega
theorem Inv.tuple(I:Inv X pins σ H s)(h:fH X.K H a xs):∃its:aj,Vals xs its/\IsTup s.heap a its.toArray/\xs.length<=sizeLine:=by
 rcases h with h|⟨o,its,n,hk,hc,hs,hz,r⟩
 ·let#[z,its,r,p,_]:=h.ok I.aE;exact#[its,r,p,z]
 apply#[its.toList,r,#[o,I.gI a o hk,hc,n,by simpa using hs],?_];let e:=r.length;simp only[ud] at e;omega
theorem Inv.jI(I:Inv X pins σ H s)(h:d5 X.K H a xs)(h':d5 X.K H a ys):xs=ys:=by
 let#[its,r,#[o,n,e,_,_,d],_]:=I.list h;let#[its',r',#[o',n',e',_,_,d'],_]:=I.list h';rw[e] at e';cases e';rw[d] at d'
 injection d' with d1 _
 have:its=its':=⇑(eW Array.toList d1)
 subst this;exact r.inj r'
theorem Inv.dm(I:Inv X pins σ H s)(h:fH X.K H a xs)(h':fH X.K H a ys):xs=ys:=by
 let#[its,r,#[o,e,_,n,d],_]:=I.tuple h;let#[its',r',#[o',e',_,n',d'],_]:=I.tuple h';rw[e] at e';cases e';rw[d] at d'
 injection d' with d1 _
 have:its=its':=⇑(eW Array.toList d1)
 subst this;exact r.inj r'
end
abbrev Cx.ij(X:Cx)(E:Aa->Ab->Prop):Cx:={ X with xe:=E }
abbrev Cx.xO(X:Cx):Cx:=X.ij λ_ _=>False
theorem Cx.Ok.ij{X:Cx}(ok:X.Ok)(E:Aa->Ab->Prop):(X.ij E).Ok:=
 #[ok.mod,ok.kind,ok.glob,ok.blt,ok.above,ok.inj,ok.has,ok.CD,ok.hd,ok.frames,ok.G4,ok.ID,ok.bs,ok.tU,ok.sJ,ok.tJ,ok.fW,ok.wg]
theorem Cx.Ok.eQ{X:Cx}{E:Aa->Ab->Prop}(ok:(X.ij E).Ok):X.Ok:=
 #[ok.mod,ok.kind,ok.glob,ok.blt,ok.above,ok.inj,ok.has,ok.CD,ok.hd,ok.frames,ok.G4,ok.ID,ok.bs,ok.tU,ok.sJ,ok.tJ,ok.fW,ok.wg]
section
variable{X:Cx}{pins:List (Addr × Obj)}{σ:St}{H:Hp}{s:Ab}{E:Aa->Ab->Prop}
theorem Inv.ij(I:Inv X pins σ H s)(E:Aa->Ab->Prop):Inv (X.ij E) pins σ H s:=#[I.ok.ij E,I.os,I.bare,I.base,I.loc,I.cell,I.free,I.eG,I.pin,I.aE,I.len]
theorem Inv.eQ(I:Inv (X.ij E) pins σ H s):Inv X pins σ H s:=#[I.ok.eQ,I.os,I.bare,I.base,I.loc,I.cell,I.free,I.eG,I.pin,I.aE,I.len]
theorem SP.eQ{D:Ends}{f:Flow}{s':Ab}(h:SP (X.ij E) pins D f s'):SP X pins D f s':=by
 cases f with
 |next=>let#[bf,H',I,q]:=h;exact#[bf,H',I.eQ,q]
 |brk=>let#[bf,H',I,q]:=h;exact#[bf,H',I.eQ,q]
 |cont=>let#[bf,H',I,q]:=h;exact#[bf,H',I.eQ,q]
 |ret u=>let#[v,bf,H',I,r,q]:=h;exact#[v,bf,H',I.eQ,r,q]
theorem ki.xO{st:List Stmt}{t:TS}(h:ki X.xO st t):ki X st t:=λpins s σ H D I hw=>
 wpAny_mono (h pins s σ H D (I.ij _) hw) (λ_ _ q=>q.eQ) λ_ _ z=>False.elim z
end
section
variable{X:Cx}{st:Stmt}{rest:List Stmt}{t u:TS}{e:Expr}{te:TE}{pos:Pos}
def Dj:TS:=λD σ H=>D.nx σ H
def qD(t u:TS):TS:=λD σ H=>t { D with nx:=u D } σ H
theorem cm:ki X [] Dj:=λ_ _ σ H _ I h=>wpAny_execs_nil #[σ,H,I,h]
theorem au(h1:PS X st t)(h2:ki X rest u):ki X (st::rest) (qD t u):=by
 intro pins s σ H D I h;apply wpAny_execs_cons (aS (h1 pins s σ H { D with nx:=u D } I h) λf s1 q=>?_);cases f with
 |next=>
  let#[bf,H',I',q]:=q;exact h2 pins s1 bf H' D I' q
 |ret v=>exact q
 |brk=>exact q
 |cont=>exact q
theorem aJ(h1:PS X st t):ki X [st] t:=by
 intro pins s σ H D I h;apply wpAny_execs_cons (aS (h1 pins s σ H D I h) λf s1 q=>?_);cases f with
 |next=>exact wpAny_execs_nil q
 |ret v=>exact q
 |brk=>exact q
 |cont=>exact q
theorem Inv.quiet{pins:List (Addr × Obj)}{H:Hp}{s:Ab}(I:Inv X pins σ H s):interactive X.env=false:=by simp[interactive,I.ok.kind]
def xp(te:TE):TS:=λD σ H=>te σ H λ_ H1=>D.nx σ H1
theorem j8(he:PE X e te)(hs:swapsWith e none pos.line X.env=pure false:=by rfl):PS X (.Expr e pos) (xp te):=by
 intro pins s σ H D I h;exact wpAny_Expr_any (aS (he pins s σ H _ I h) λv s1 ⟨x,H1,I1,r1,q1⟩=>#[σ,H1,I1,q1]) I.quiet hs
def Kj(te:TE):TS:=λD σ H=>te σ H D.rt
theorem bp(he:PE X e te):PS X (.Return (some e) pos) (Kj te):=by
 intro pins s σ H D I h;exact wpAny_Return_some (aS (he pins s σ H _ I h) λv s1 ⟨x,H1,I1,r1,q1⟩=>#[x,σ,H1,I1,r1,q1])
def Kn(c:TT)(t u:TS):TS:=λD σ H=>c σ H λb H1=>if b=true then t D σ H1 else u D σ H1
theorem b_{a b:List Stmt}{tc:TT}(hc:PT X c tc)(ha:ki X a t)(hb:ki X b u):PS X (.If c a b pos) (Kn tc t u):=by
 intro pins s σ H D I h;apply wpAny_If (aS (hc pins s σ H _ I h) λd s1 ⟨H1,I1,q1⟩=>?_);cases d with
 |true=>exact ha pins s1 σ H1 D I1 q1
 |false=>exact hb pins s1 σ H1 D I1 q1
def y6:TS:=λ_ _ _=>False
theorem gC{V9:List Stmt}:ki X V9 y6:=λ_ _ _ _ _ _ h=>h.elim
end
abbrev TG:=V->St->Hp->(St->Hp->Prop)->Prop
abbrev BH:=af->St->Hp->(St->Hp->Prop)->Prop
def PG(X:Cx)(target:Expr)(t:TG):Prop:=
 ∀(pins:List (Addr × Obj)) (s:Ab) (σ:St) (H:Hp) (v:V) (u:Aa) (Q:km),Inv X pins σ H s->RelV v u->t v σ H Q->
  wpAny (model X.prog X.w) X.A (assign target X.env u) (λ_ s'=>∃bf H',Inv X pins bf H' s'/\Q bf H') X.xe s
def GM(X:Cx)(ts:List Expr)(t:BH):Prop:=
 ∀(pins:List (Addr × Obj)) (s:Ab) (σ:St) (H:Hp) (vs:af) (us:aj) (Q:km),Inv X pins σ H s->Vals vs us->t vs σ H Q->
  wpAny (model X.prog X.w) X.A (assignInOrder ((assignEach ts X.env).map (·.2)) us) (λ_ s'=>∃bf H',Inv X pins bf H' s'/\Q bf H') X.xe s
abbrev BG:=V->V->V->Hp->(Hp->Prop)->Prop
def GL(X:Cx)(t:BG):Prop:=
 ∀(pins:List (Addr × Obj)) (s:Ab) (σ:St) (H:Hp) (o i v:V) (ov iv u:Aa) (Q:Hp->Prop),Inv X pins σ H s->RelV o ov->RelV i iv->RelV v u->t o i v H Q->
  wpAny (model X.prog X.w) X.A (setItem ov iv u) (λ_ s'=>∃H',Inv X pins σ H' s'/\Q H') X.xe s
variable{es:List Expr}
variable{k n:Nat}
variable{tg:Expr}{te:TE}
variable{pos':Pos}
section
variable{X:Cx}{pos:Pos}
def jw(i:Nat):TG:=λv σ H Q=>Q (σ.set i (some v)) H
theorem fu{i:Nat}{x:Str}(hN:X.N.Nodup)(hi:X.N[i]? = some x)(hx:Loc X.env.scope x)(hf:X.fn x=true∨X.env.scope.names.lookup x\.local:=by first|exact .inl U|exact .inr U|assumption):PG X (.Name x pos) (jw i):=by
 intro pins s σ H v u Q I r h;exact wpAny_assign_Name (Ti I hN hi hx r (λs' I'=>#[_,H,I',h]) hf)
theorem gE:type_of% PyProof.Rows.Boot.«isinstance»:=PyProof.Rows.Boot.«isinstance»
theorem FK:type_of% PyProof.Rows.Boot.«int»:=PyProof.Rows.Boot.«int»
theorem M7:type_of% PyProof.Rows.Boot.«bool»:=PyProof.Rows.Boot.«bool»
theorem Im:type_of% PyProof.Rows.Boot.«str»:=PyProof.Rows.Boot.«str»
theorem oA:type_of% PyProof.Rows.Boot.«tuple»:=PyProof.Rows.Boot.«tuple»
theorem qe:type_of% PyProof.Rows.Boot.«list»:=PyProof.Rows.Boot.«list»
theorem Jz:type_of% PyProof.Rows.Boot.«sorted»:=PyProof.Rows.Boot.«sorted»
theorem qd:type_of% PyProof.Rows.Boot.«dict»:=PyProof.Rows.Boot.«dict»
theorem Qm(i:Nat){x:Str}(hN:X.N.Nodup:=by first|(show ([_]:List Str).Nodup;decide +kernel)|(show ([_,_]:List Str).Nodup;decide +kernel)|(show ([_,_,_]:List Str).Nodup;decide +kernel)|(show ([_,_,_,_]:List Str).Nodup;decide +kernel))(hi:X.N[i]? = some x:=by rfl)(hx:Loc X.env.scope x:=by first|exact Or.inl U|exact Or.inr U)(hf:X.fn x=true∨X.env.scope.names.lookup x\.local:=by first|exact .inl U|exact .inr U|assumption):PG X (.Name x pos) (jw i):=fu hN hi hx hf
theorem bX(i:Nat){x:Str}(hN:X.N.Nodup)(hi:X.N[i]? = some x:=by rfl)(hx:Loc X.env.scope x:=by first|exact Or.inl U|exact Or.inr U)(hf:X.fn x=true∨X.env.scope.names.lookup x\.local:=by first|exact .inl U|exact .inr U|assumption):PG X (.Name x pos) (jw i):=fu hN hi hx hf
def tH:BH:=λvs σ H Q=>vs=[]/\Q σ H
inductive pZ (t:TG) (u:BH) (vs:af) (σ:St) (H:Hp) (Q:km):Prop
 |mk:∀v r,vs=v::r->(t v σ H λbf H'=>u r bf H' Q)->pZ t u vs σ H Q
theorem hW:GM X [] tH:=by
 intro pins s σ H vs us Q I r h;let#[e,h]:=h;subst e;cases r;exact assignInOrder_nil ⟨σ,H,I,h⟩
theorem df{e:Expr}{t:TG}{u:BH}(h1:PG X e t)(h2:GM X es u)(hs:(assignEach (e::es) X.env).map (·.2)=assign e X.env::(assignEach es X.env).map (·.2):=by rfl):GM X (e::es) (pZ t u):=by
 intro pins s σ H vs us Q I r h;let#[v,vr,e1,h]:=h;subst e1;cases r with
 |cons r rr=>
  rw[hs];apply assignInOrder_cons (aS (h1 pins s σ H _ _ _ I r h) λ_ s1 ⟨mR,H1,I1,q1⟩=>?_);exact h2 pins s1 mR H1 _ _ Q I1 rr q1
inductive gi (K:ai) (n:Nat) (t:BH) (v:V) (σ:St) (H:Hp) (Q:km):Prop
 |mk:∀a xs,v=.ref a->fH K H a xs->xs.length=n->t xs σ H Q->gi K n t v σ H Q
theorem ju{t:BH}(hc:X.calm=true)(h:GM X es t)(hn:(assignEach es X.env).length=n:=by rfl)(Ay:(assignEach es X.env).findIdx? (·.1)=none:=by rfl):PG X (.Tuple es k pos) (gi X.K n t):=by
 intro pins s σ H v u Q I r hw;let#[a,xs,e1,hq,hl,hw]:=hw;subst e1;cases r;let#[its,rv,ht,hz]:=I.tuple hq;apply assign_Tuple_tuple (I.ok.hd hc) ht (by simp[hn,<- hl,rv.length]) Ay λh' hx=>?_;have I1:Inv X pins σ H { s with heap:=h' }:=I.kept (t':=s.toks) λb o e=>hx b o (dE (bK e)) e;exact h pins _ σ H xs _ Q I1 ⇑rv hw
def Mz(to ti:TE)(t:BG):TG:=λv σ H Q=>to σ H λo H1=>ti σ H1 λi H2=>t o i v H2 λH3=>Q σ H3
theorem Ri{o i:Expr}{to ti:TE}{t:BG}(ho:PE X o to)(hi:PE X i ti)(hs:GL X t)
  (ha:∀v,assign (.Subscript o i pos) X.env v=(do
   let ov <- holding [v] (eval o X.env)
   let iv <- holding [v,ov] (eval i X.env)
   standAt pos
   holding [v,ov,iv] (setItem ov iv v)
   release [v,ov,iv] []):=by intro _;rfl):PG X (.Subscript o i pos) (Mz to ti t):=by
 intro pins s σ H v u Q I r h;rw[ha];apply ae (gR (aS (ho pins s σ H _ I h) λov s1 ⟨x,H1,I1,r1,q1⟩=>?_));apply ae (gR (aS (hi pins s1 σ H1 _ I1 q1) λiv s2 ⟨y,H2,I2,r2,q2⟩=>?_));apply ae (wpAny_standAt (ae (gR (aS (hs pins s2 σ H2 x y v ov iv u _ I2 r1 r2 r q2) λ_ s3 ⟨H3,I3,q3⟩=>?_))));exact wpAny_release #[σ,H3,I3,q3]
def vy(te:TE)(g:TG):TS:=λD σ H=>te σ H λx H1=>g x σ H1 D.nx
theorem Br{e:Expr}{g:TG}(he:PE X e te)(hg:PG X tg g)(hs:swapsWithSole [tg] e pos.line X.env=pure false:=by rfl)(hw:swappedStores [tg] e X.env=pure none:=by rfl)(h1:(assignEach [tg] X.env).map (·.2)=[assign tg X.env]:=by rfl):PS X (.Assign [tg] e pos) (vy te g):=by
 intro pins s σ H D I h;apply wpAny_Assign_stores (aS (he pins s σ H _ I h) λv s1 ⟨x,H1,I1,r1,q1⟩=>?_) hs hw;rw[h1];exact aS (hg pins s1 σ H1 x v _ I1 r1 q1) λ_ s2 q=>q
theorem Q9{i:Nat}{x:Str}{e:Expr}(hN:X.N.Nodup)(hi:X.N[i]? = some x)(hx:Loc X.env.scope x)(he:PE X e te)(hs:swapsWith e (some (.Name x pos')) pos.line X.env=pure false:=by rfl)(hf:X.fn x=true∨X.env.scope.names.lookup x\.local:=by first|exact .inl U|exact .inr U|assumption) :
  PS X (.Assign [.Name x pos'] e pos) (vy te (jw i)):=by
 intro pins s σ H D I h;apply wpAny_Assign_Name (aS (he pins s σ H _ I h) λv s1 ⟨y,H1,I1,r1,q1⟩=>?_) hs;exact Ti I1 hN hi hx r1 (λs2 I2=>#[_,H1,I2,q1]) hf
theorem bw(i:Nat){x:Str}{e:Expr}(hN:X.N.Nodup)(he:PE X e te)(hi:X.N[i]? = some x:=by rfl)(hx:Loc X.env.scope x:=by first|exact Or.inl U|exact Or.inr U)(hs:swapsWith e (some (.Name x pos')) pos.line X.env=pure false:=by rfl)(hf:X.fn x=true∨X.env.scope.names.lookup x\.local:=by first|exact .inl U|exact .inr U|assumption):PS X (.Assign [.Name x pos'] e pos) (vy te (jw i)):=Q9 hN hi hx he hs hf
end
variable{body:List Stmt}{tb:TS}
section
variable{X:Cx}{pos:Pos}
def qy(c:TT)(tb:TS):TS:=λD σ H=>∃W:Nat->St->Hp->Prop,(∃m,W m σ H)/\∀m σ H,W m σ H->
 c σ H λb H1=>if b=true then ∃N:St->Hp->Prop,(∀bf H',N bf H'->∃m',m'<m/\W m' bf H')/\tb { D with nx:=N,ct:=N,bk:=D.nx } σ H1 else D.nx σ H1
theorem SL{tc:TT}(hp:PassesOwn (model X.prog X.w) X.A X.env X.xe)(hc:PT X c tc)(hb:ki X body tb):PS X (.While c body [] pos) (qy tc tb):=by
 intro pins s σ H D I h;let#[W,#[m0,w0],turn]:=h;apply wpAny_While (codeAny_whileLoop (λn s'=>∃bf H',Inv X pins bf H' s'/\W n bf H') ?_ m0 #[σ,H,I,w0]);rintro n s1 ⟨mR,H1,I1,w1⟩;apply wpAny_passesOwn hp (aS (hc pins s1 mR H1 _ I1 (turn n mR H1 w1)) λb s2 ⟨H2,I2,q2⟩=>?_);cases b with
 |true=>
  let#[N,hN,q2]:=q2;rw[aK U];apply wpAny_passesOwn hp (aS (hb pins s2 mR H2 _ I2 q2) λf s3 q3=>?_);cases f with
  |next=>
   let#[kD,H3,I3,n3]:=q3;let#[m',hm,w3]:=hN kD H3 n3;exact#[m',hm,kD,H3,I3,w3]
  |cont=>
   let#[kD,H3,I3,n3]:=q3;let#[m',hm,w3]:=hN kD H3 n3;exact#[m',hm,kD,H3,I3,w3]
  |brk=>exact q3
  |ret v=>exact q3
 |false=>
  rw[aC gr];exact wpAny_execs_nil #[mR,H2,I2,q2]
end
structure It where
 go:Nat->Hp->Prop
 vo:Nat->Hp->V->Hp->Prop
 stop:Nat->Hp->Prop
def dk(X:Cx)(pins:List (Addr × Obj))(H:Hp)(b:Addr):Prop:=
 H b=none/\b≠X.env.locals/\b∉X.fs/\(b∈X.ex∨X.di.heap.objs.size<=b)/\(∀x c,X.env.cells.lookup x\c->c≠b)/\∀p∈X.pn++pins,p.1≠b
variable{b:Addr}
theorem Inv.i0{X:Cx}{pins:List (Addr × Obj)}{H H':Hp}{s:Ab}(I:Inv X pins σ H s)(hb:s.heap.objs.size<=b)(hn:H' b=none):dk X pins H' b:=by
 apply#[hn,je (jz I.lt hb),I.KQ hb,.inr (ic I.sz hb),λx c e z=>?_,λp hp z=>?_]
 ·let#[v,q]:=I.cell x c e;exact absurd (jz q.lt (by rw[z];exact hb)) (uf _)
 exact absurd (jz (bK (I.pin p hp).1) (by rw[z];exact hb)) (uf _)
structure Turn (P:Ad) (w:Af) (K:ai) (tg:Expr) (J:It) (fp:aw) (it:Addr) (tn:Nat->Heap->Prop):Prop where
 mem:it∈fp
 obj:∀i h,tn i h->∀b∈fp,∃o,h.get? b\o/\∀v,o.data≠.cell v
 keep:∀i h h',tn i h->(∀b∈fp,∀o,h.get? b\o->h'.get? b\o)->tn i h'
 item:∀(X:Cx),X.prog=P->X.w=w->X.K=K->X.calm=true->∀(i:Nat) (pins:List (Addr × Obj)) (s:Ab) (σ:St) (H:Hp) (E:Aa->Ab->Prop),Inv X pins σ H s->(∀b∈fp,dk X pins H b)->tn i s.heap->J.go i H->
  wpAny (model P w) X.A (pyNext (.ref it)) (λr s1=>∃u,r\u /\
   wpAny (model P w) X.A (letOwnedTupleGo tg (.ref it) u) (λ_ s2=>∃x H',Inv X pins σ H' s2/\RelV x u/\J.vo i H x H'/\tn (i+1) s2.heap/\∀b∈fp,H' b=none) E s1) E s
 done:∀(X:Cx),X.prog=P->X.w=w->X.K=K->X.calm=true->∀(i:Nat) (pins:List (Addr × Obj)) (s:Ab) (σ:St) (H:Hp) (E:Aa->Ab->Prop),Inv X pins σ H s->(∀b∈fp,dk X pins H b)->tn i s.heap->J.stop i H->
  wpAny (model P w) X.A (pyNext (.ref it)) (λr s1=>r=none/\Inv X pins σ H s1) E s
 self:∀(A:Ag) (i:Nat) (s:Ab) (Q:Aa->Ab->Prop) (E:Aa->Ab->Prop),tn i s.heap->Q (.ref it) s->wpAny (model P w) A (pyIter (.ref it)) Q E s
abbrev TI:=St->Hp->(It->Hp->Prop)->Prop
def Vd(X:Cx)(pins:List (Addr × Obj))(σ:St)(tg:Expr)(R:It->Hp->Prop)(HK:Aa)(s2:Ab):Prop:=
 ∃(it:Addr) (fp:aw) (tn:Nat->Heap->Prop) (J:It) (H':Hp),HK=.ref it/\Inv X pins σ H' s2/\Turn X.prog X.w X.K tg J fp it tn/\tn 0 s2.heap/\(∀b∈fp,dk X pins H' b)/\R J H'
def PI(X:Cx)(tg iter:Expr)(wi:TI):Prop:=
 ∀(pins:List (Addr × Obj)) (s:Ab) (σ:St) (H:Hp) (R:It->Hp->Prop),Inv X pins σ H s->wi σ H R->
  wpAny (model X.prog X.w) X.A (eval iter X.env) (λv s1=>wpAny (model X.prog X.w) X.A (pyIter v) (Vd X pins σ tg R) X.xe s1) X.xe s
variable{u:Aa}{o:Obj}
theorem Fp{M:Model}{A:Ag}{E:Aa->Ab->Prop}{s:Ab}{it:Addr}{n:String}{vs:Array Aa}{Q:Unit->Ab->Prop}(ho:s.heap.get? it\o)(hc:o.cls=.type n)(hd:o.data=.fields vs)(hn:["enumerate","zip","dict_itemiterator","dict_reverseitemiterator","odict_iterator","itertools.zip_longest","itertools.pairwise"].contains n=false)(hQ:Q () s):wpAny M A (letOwnedTupleGo tg (.ref it) u) Q E s:=by
 unfold letOwnedTupleGo
 cases tg<;>first
  |exact aH hQ
  |(cases u<;>first
    |exact aH hQ
    |(apply ae (wpAny_load ho ?_)
      rw[hc,hd];show wpAny M A (if (["enumerate","zip","dict_itemiterator","dict_reverseitemiterator","odict_iterator","itertools.zip_longest","itertools.pairwise"].contains n&&vs[0]? == some (rawInt _))=true then _ else _) Q E s;rw[aC (by intro h;rw[hn,Bool.false_and] at h;cases h)];exact aH hQ))
def yT(K:ai)(a:Addr):It:=
 ⟨λi H=>∃xs x,d5 K H a xs/\xs[i]? = some x,λi H x H'=>H'=H/\∀xs,d5 K H a xs->xs[i]? = some x,λi H=>∃xs,d5 K H a xs/\xs.length<=i⟩
def PH(K:ai)(a:Addr):It:=
 ⟨λi H=>∃xs x,fH K H a xs/\xs[i]? = some x,λi H x H'=>H'=H/\∀xs,fH K H a xs->xs[i]? = some x,λi H=>∃xs,fH K H a xs/\xs.length<=i⟩
def BI(lo:Int)(n:Nat):It:=⟨λi _=>i<n,λi H x H'=>H'=H/\x=.int (lo+i),λi _=>n<=i⟩
variable{P:Ad}{w:Af}
theorem hq_{K:ai}(a it:Addr):Turn P w K tg (yT K a) [it] it (λi h=>h.IsListIter it a i) where
 mem:=by simp
 obj:=λi h st b hb=>by
  have e:b=it:=⇑hb
  subst e;let#[o,e,c,d]:=st;exact#[o,e,λv z=>by rw[d] at z;cases z]
 keep:=λi h h' st k=>st.at λo e=>k it Y1 o e
 item:=by
  intro X hP hw hK hc i pins s σ H E I hf st hg;subst hP hw hK;let#[xs,x,hq,hx]:=hg;let#[its,rv,p,hz]:=I.list hq;let#[u,hu,ru]:=rv.get hx;let#[f0,f1,f2,f3,f4,f5]:=hf it Y1;apply wpAny_pyNext_list_item st p.isList (x:=u) ⇑hu λh' dX sb=>?_;have I1:Inv X pins σ H { s with heap:=h' }:=I.turned (t':=s.toks) (λb o hb e=>(sb.2 b hb).trans e) f0 f1 f3 f4 f5;let#[o,e,c,d]:=id dX;exact#[u,U,Fp (s:={ s with heap:=h' }) e c d (by decide) #[x,H,I1,ru,#[U,λys hy=>by rw[I.jI hy hq];exact hx],dX,λb hb=>(hf b hb).1]]
 done:=by
  intro X hP hw hK hc i pins s σ H E I hf st hg;subst hP hw hK;let#[xs,hq,hx]:=hg;let#[its,rv,p,hz]:=I.list hq;let#[f0,f1,f2,f3,f4,f5]:=hf it Y1;let hl:=rv.length;exact wpAny_pyNext_list_end (I.ok.hd hc) st p.isList (by simp;omega) λh' eb=>#[U,I.turned (t':=s.toks) (λb o hb e=>eb b o hb e) f0 f1 f3 f4 f5]
 self:=λ_ _ _ _ _ st h=>wpAny_pyIter_listiter st h
theorem fS_{K:ai}(a it:Addr):Turn P w K tg (PH K a) [it] it (λi h=>h.IsTupleIter it a i) where
 mem:=by simp
 obj:=λi h st b hb=>by
  have e:b=it:=⇑hb
  subst e;let#[o,e,c,d]:=st;exact#[o,e,λv z=>by rw[d] at z;cases z]
 keep:=λi h h' st k=>st.at λo e=>k it Y1 o e
 item:=by
  intro X hP hw hK hc i pins s σ H E I hf st hg;subst hP hw hK;let#[xs,x,hq,hx]:=hg;let#[its,rv,p,hz]:=I.tuple hq;let#[u,hu,ru]:=rv.get hx;let#[f0,f1,f2,f3,f4,f5]:=hf it Y1;apply wpAny_pyNext_tuple_item st (show s.heap.IsTuple a its.toArray from p) (x:=u) ⇑hu λh' dX sb=>?_;have I1:Inv X pins σ H { s with heap:=h' }:=I.turned (t':=s.toks) (λb o hb e=>(sb.2 b hb).trans e) f0 f1 f3 f4 f5;let#[o,e,c,d]:=id dX;exact#[u,U,Fp (s:={ s with heap:=h' }) e c d (by decide) #[x,H,I1,ru,#[U,λys hy=>by rw[I.dm hy hq];exact hx],dX,λb hb=>(hf b hb).1]]
 done:=by
  intro X hP hw hK hc i pins s σ H E I hf st hg;subst hP hw hK;let#[xs,hq,hx]:=hg;let#[its,rv,p,hz]:=I.tuple hq;let#[f0,f1,f2,f3,f4,f5]:=hf it Y1;let hl:=rv.length;exact wpAny_pyNext_tuple_end (I.ok.hd hc) st (show s.heap.IsTuple a its.toArray from p) (by simp;omega) λh' eb=>#[U,I.turned (t':=s.toks) (λb o hb e=>eb b o hb e) f0 f1 f3 f4 f5]
 self:=λ_ _ _ _ _ st h=>wpAny_pyIter_tupleiter st h
theorem fY_{K:ai}(it:Addr)(lo:Int)(n:Nat):Turn P w K tg (BI lo n) [it] it (λi h=>IsRangeIter h it (lo+(i:Nat) * 1) ((n:Int) - (i:Nat)) 1) where
 mem:=by simp
 obj:=λi h st b hb=>by
  have e:b=it:=⇑hb
  subst e
  exact#[_,st,λv z=>by
   have z':Data.fields _=Data.cell v:=z;cases z']
 keep:=λi h h' st k=>k it Y1 _ st
 item:=by
  intro X hP hw hK hc i pins s σ H E I hf st hg;subst hP hw hK;let#[f0,f1,f2,f3,f4,f5]:=hf it Y1;let W:=Walks.range (prog:=X.prog) (w:=X.w) (I.ok.hd hc) it lo 1 n;apply W.item i s _ _ hg st λv h' tk hv dX kk=>?_;let#[t,rfl]:=hv;have I1:Inv X pins σ H { s with heap:=h',toks:=tk }:=I.turned (λb o hb e=>kk b o ⇑hb e) f0 f1 f3 f4 f5;apply#[_,U,Fp (s:={ s with heap:=h',toks:=tk }) (n:="range_iterator") dX U U (by decide) #[.int (lo+i),H,I1,#[t,?_],#[U,U],dX,λb hb=>(hf b hb).1]];rw[Int.mul_one]
 done:=by
  intro X hP hw hK hc i pins s σ H E I hf st hg;subst hP hw hK;let#[f0,f1,f2,f3,f4,f5]:=hf it Y1;exact wpAny_pyNext_range_end (I.ok.hd hc) st (by have:n<=i:=hg;omega) λh' eb=>#[U,I.turned (t':=s.toks) (λb o hb e=>eb b o hb e) f0 f1 f3 f4 f5]
 self:=λ_ _ _ _ _ st h=>wpAny_pyIter_rangeiter st h
inductive sS (K:ai) (R:It->Hp->Prop) (x:V) (H1:Hp):Prop
 |mk:∀a,x=.ref a->(∃xs,d5 K H1 a xs)->R (yT K a) H1->sS K R x H1
def Et(K:ai)(tl:TE):TI:=λσ H R=>tl σ H λx H1=>sS K R x H1
inductive xW (K:ai) (R:It->Hp->Prop) (x:V) (H1:Hp):Prop
 |mk:∀a,x=.ref a->(∃xs,fH K H1 a xs)->R (PH K a) H1->xW K R x H1
def Lp(K:ai)(tl:TE):TI:=λσ H R=>tl σ H λx H1=>xW K R x H1
variable{X:Cx}{l:Expr}{tl:TE}
theorem d4(hl:PE X l tl):PI X tg l (Et X.K tl):=by
 intro pins s σ H R I h;apply aS (hl pins s σ H _ I h) λv s1 ⟨x,H1,I1,r1,q1⟩=>?_;let#[a,e,#[xs,hq],q]:=q1;subst e;cases r1;let#[its,rv,p,hz]:=I1.list hq;apply wpAny_pyIter_list p.isList ?_;apply#[s1.heap.objs.size,[s1.heap.objs.size],_,_,H1,U,I1.kept (t':=s1.toks) λb o e=>bo _ e,hq_ a _,#[_,dj _ U,U,U],λb hb=>?_,q];have e:b=s1.heap.objs.size:=⇑hb
 subst e;exact I1.i0 (a9 _) (I1.aE.fresh (a9 _))
theorem Rh(hl:PE X l tl):PI X tg l (Lp X.K tl):=by
 intro pins s σ H R I h;apply aS (hl pins s σ H _ I h) λv s1 ⟨x,H1,I1,r1,q1⟩=>?_;let#[a,e,#[xs,hq],q]:=q1;subst e;cases r1;let#[its,rv,p,hz]:=I1.tuple hq;apply wpAny_pyIter_tuple (show s1.heap.IsTuple a its.toArray from p) ?_;apply#[s1.heap.objs.size,[s1.heap.objs.size],_,_,H1,U,I1.kept (t':=s1.toks) λb o e=>bo _ e,fS_ a _,#[_,dj _ U,U,U],λb hb=>?_,q];have e:b=s1.heap.objs.size:=⇑hb
 subst e;exact I1.i0 (a9 _) (I1.aE.fresh (a9 _))
variable{pins:List (Addr × Obj)}{lo:Int}
theorem Z_{H:Hp}{s:Ab}{R:It->Hp->Prop}{E:Aa->Ab->Prop}{hi:Int}{t u v:Tok}{tk:Nat}(I:Inv X pins σ H s)(h1:-(2 ^ 62)<=lo)(h2:lo<2 ^ 62)(h3:-(2 ^ 62)<=hi)(h4:hi<2 ^ 62)(q:R (BI lo (hi - lo).toNat) H):wpAny (model X.prog X.w) X.A (pyIter (.ref s.heap.objs.size)) (Vd X pins σ tg R) E { s with heap:=s.heap.push { cls:=.type "range",data:=.fields (List.toArray [.int lo t,.int hi u,.int 1 v]) },toks:=tk }:=by
 apply wpAny_pyIter_range (IsRange.new ..) (small_one h1 h2 h3 h4) ?_;have I1:Inv X pins σ H { s with heap:=s.heap.push { cls:=.type "range",data:=.fields (List.toArray [.int lo t,.int hi u,.int 1 v]) },toks:=tk }:=I.kept λb o e=>bo _ e
 apply#[(s.heap.push { cls:=.type "range",data:=.fields (List.toArray [.int lo t,.int hi u,.int 1 v]) }).objs.size,[(s.heap.push { cls:=.type "range",data:=.fields (List.toArray [.int lo t,.int hi u,.int 1 v]) }).objs.size],_,_,H,U,
  I1.kept (t':=tk) λb o e=>bo _ e,fY_ _ lo (hi - lo).toNat,?_,λb hb=>?_,q]
 ·have e1:lo+((0:Nat):Int) * 1=lo:=by simp
  have e2:(((hi - lo).toNat:Nat):Int) - ((0:Nat):Int)=Builtin.Range.rangeSize lo hi 1:=by rw[rangeSize_one];split<;>omega
  show IsRangeIter _ _ (lo+((0:Nat):Int) * 1) ((((hi - lo).toNat:Nat):Int) - ((0:Nat):Int)) 1;rw[e1,e2];exact dj _ U
 have e:b=(s.heap.push { cls:=.type "range",data:=.fields (List.toArray [.int lo t,.int hi u,.int 1 v]) }).objs.size:=⇑hb
 subst e;exact I1.i0 (a9 _) (I1.aE.fresh (a9 _))
inductive sR (R:It->Hp->Prop) (vs:af) (H1:Hp):Prop
 |mk:∀j:Int,vs=[.int j]->-(2 ^ 62)<=j->j<2 ^ 62->R (BI 0 j.toNat) H1->sR R vs H1
def Es(ta:TA):TI:=λσ H R=>ta σ H λvs H1=>sR R vs H1
variable{p:Pos}
theorem ql{a:Expr}{ta:TA}(hg:Gl X "range")(hm:X.mg "range"=none)(ha:PA X [a] ta)(hs:starEach [a] X.env=[(false,eval a X.env)]:=by rfl):PI X tg (.Call (.Name "range" p) [a] [] pos) (Es ta):=by
 intro pins s σ H R I h;apply Call_ (wA I hg hm boot_range (CF (aS (ha pos pins s σ H _ I h) λus s1 ⟨vs,H1,I1,r1,q1⟩=>?_) hs U));let#[j,e,q1,q2,q]:=q1;subst e;cases r1 with
 |cons r rr=>
  cases rr;let#[t,rfl]:=r;exact call_range_1 (Z_ I1 Y0 Y0 q1 q2 ⇑q)
def Ko(wi:TI)(g:TG)(tb:TS):TS:=λD σ H=>wi σ H λJ H1=>∃W:Nat->Nat->St->Hp->Prop,(∃m,W 0 m σ H1)/\∀i m σ H,W i m σ H->
 (J.stop i H/\D.nx σ H)∨(J.go i H/\∃N:St->Hp->Prop,(∀bf H',N bf H'->∃m',m'<m/\W (i+1) m' bf H')/\∀x H',J.vo i H x H'->g x σ H' λgc H2=>tb { D with nx:=N,ct:=N,bk:=D.nx } gc H2)
def wQ(fp:aw)(h:Heap):List (Addr × Obj):=fp.filterMap λb=>(h.get? b).map λo=>(b,o)
variable{fp:aw}{h:Heap}
theorem JK(hb:b∈fp)(e:h.get? b\o):(b,o)∈wQ fp h:=yO.mpr #[b,hb,by rw[e];rfl]
theorem gy_{p:Addr × Obj}(hp:p∈wQ fp h):p.1∈fp/\h.get? p.1\p.2:=by
 let#[b,hb,e]:=yO.mp hp;cases q:h.get? b with
 |none=>rw[q] at e;cases e
 |some o=>
  rw[q] at e;have e':(b,o)=p:=dN e;subst e';exact#[hb,q]
theorem Inv.pinned{H:Hp}{s:Ab}(I:Inv X pins σ H s)(hf:∀b∈fp,dk X pins H b)(ho:∀b∈fp,∃o,s.heap.get? b\o/\∀v,o.data≠.cell v):Inv X (pins++wQ fp s.heap) σ H s:=
 I.nM λp hp=>(dB.mp hp).elim (λz=>I.pin p (kb _ z)) λz=>by
  let#[hb,e]:=gy_ z;let#[f0,f1,f2,_]:=hf p.1 hb;let#[o,e',d]:=ho p.1 hb;rw[e] at e';cases e';exact#[e,f0,f1,f2,d]
theorem Inv.eR{pl:List (Addr × Obj)}{H:Hp}{s:Ab}(I:Inv X (pins++pl) σ H s):Inv X pins σ H s:=I.nM λp hp=>I.pin p (kb _ (List.mem_append_left _ hp))
theorem d8{iter:Expr}{wi:TI}{g:TG}(hp:PassesOwn (model X.prog X.w) X.A X.env X.xe)(hc:X.calm=true)(hi:PI X tg iter wi)(hg:PG X tg g)(hb:ki X body tb)(hs:∀x,foldedSetIterable iter X.env x=pure x:=by intro _;rfl):PS X (.For tg iter body [] pos) (Ko wi g tb):=by
 intro pins s σ H D I h;apply wpAny_For (aS (hi pins s σ H _ I h) λv s1 h1=>aS h1 λHK s2 h2=>?_) hs;let#[it,fp,tn,J,H2,e,I2,T,cO,f2,W,#[m0,w0],turn]:=h2;subst e;have zf:∀{H':Hp},(∀b∈fp,H' b=none)->∀b∈fp,dk X pins H' b:=λhn b hb=>#[hn b hb,(f2 b hb).2];apply codeAny_forLoop_any (λn s'=>∃i bf H',Inv X pins bf H' s'/\tn i s'.heap/\(∀b∈fp,H' b=none)/\W i n bf H') ?_ m0 #[0,σ,H2,I2,cO,λb hb=>(f2 b hb).1,w0];rintro n s3 ⟨i,kD,H3,I3,dW,SU,w3⟩;rcases turn i n kD H3 w3 with⟨stop,qn⟩|⟨go,N,hN,step⟩
 ·apply wpAny_passesOwn hp (aS (T.done X U U U hc i pins s3 kD H3 X.xe I3 (zf SU) dW stop) λr s4 ⟨hr,I4⟩=>?_);subst hr;exact wpAny_execs_nil #[kD,H3,I4,qn]
 apply wpAny_passesOwn hp (aS (T.item X U U U hc i pins s3 kD H3 X.xe I3 (zf SU) dW go) λr s4 ⟨u,hr,h4⟩=>?_);subst hr;apply wpAny_passesOwn hp (aS h4 λ_ s5 ⟨x,H5,I5,r5,y5,iO,o_⟩=>?_);let I5':=I5.pinned (zf o_) (T.obj _ _ iO);apply wpAny_passesOwn hp (aS (hg _ s5 kD H5 x u _ I5' r5 (step x H5 y5)) λ_ s6 ⟨Vf,H6,I6,q6⟩=>?_);apply wpAny_passesOwn hp (aS (hb _ s6 Vf H6 _ I6 q6) λf s7 q7=>?_)
 have again:∀{qu:St} {H7:Hp},Inv X (pins++wQ fp s5.heap) qu H7 s7->N qu H7->∃m,m<n/\∃i bf H',Inv X pins bf H' s7/\tn i s7.heap/\(∀b∈fp,H' b=none)/\W i m bf H':=λ{qu H7} I7 n7=>by
  let#[m',hm,w7]:=hN qu H7 n7;apply#[m',hm,i+1,qu,H7,I7.eR,T.keep _ _ _ iO λb hb o e=>(I7.pin (b,o) (kb _ (kb _ (JK hb e)))).1,λb hb=>?_,w7];let#[o,e,d]:=T.obj _ _ iO b hb;exact (I7.pin (b,o) (kb _ (kb _ (JK hb e)))).2.1
 cases f with
 |next=>let#[qu,H7,I7,n7]:=q7;exact again I7 n7
 |cont=>let#[qu,H7,I7,n7]:=q7;exact again I7 n7
 |brk=>let#[qu,H7,I7,q7]:=q7;exact#[qu,H7,I7.eR,q7]
 |ret v=>let#[x7,qu,H7,I7,r7,q7]:=q7;exact#[x7,qu,H7,I7.eR,r7,q7]
theorem ie{K:ai}{a:Addr}{xs:af}{g:TG}{D:Ends}{H:Hp}(Pv:dD)(h0:Pv 0 σ H)(hl:∀i σ H,i<=xs.length->Pv i σ H->d5 K H a xs)(hs:∀i x σ H,xs[i]? = some x->Pv i σ H->g x σ H λgc H2=>tb { D with nx:=Pv (i+1),ct:=Pv (i+1),bk:=D.nx } gc H2)(hd:∀σ H,Pv xs.length σ H->D.nx σ H) :
  ∃W:Nat->Nat->St->Hp->Prop,(∃m,W 0 m σ H)/\∀i m σ H,W i m σ H->
   ((yT K a).stop i H/\D.nx σ H)∨((yT K a).go i H/\∃N:St->Hp->Prop,(∀bf H',N bf H'->∃m',m'<m/\W (i+1) m' bf H')/\∀x H',(yT K a).vo i H x H'->g x σ H' λgc H2=>tb { D with nx:=N,ct:=N,bk:=D.nx } gc H2):=by
 apply#[λi m σ H=>m=xs.length - i/\i<=xs.length/\Pv i σ H,#[xs.length,by simp,gN _,h0],?_];rintro i m σ H ⟨rfl,hi,p⟩;let q:=hl i σ H hi p;by_cases dQ:i<xs.length
 ·apply .inr #[#[xs,xs[i],q,by simp[dQ]],Pv (i+1),λbf H' p'=>#[xs.length - (i+1),by omega,U,dQ,p'],λx H' y=>?_];let#[e,y]:=y;subst e;exact hs i x σ _ (y xs q) p
 have e:i=xs.length:=by omega
 subst e;exact .inl #[#[xs,q,a9 _],hd σ H p]
theorem t7{g:TG}{D:Ends}{H:Hp}(Pv:dD)(h0:Pv 0 σ H)(hs:∀i σ H,i<n->Pv i σ H->g (.int (lo+i)) σ H λgc H2=>tb { D with nx:=Pv (i+1),ct:=Pv (i+1),bk:=D.nx } gc H2)(hd:∀σ H,Pv n σ H->D.nx σ H) :
  ∃W:Nat->Nat->St->Hp->Prop,(∃m,W 0 m σ H)/\∀i m σ H,W i m σ H->
   ((BI lo n).stop i H/\D.nx σ H)∨((BI lo n).go i H/\∃N:St->Hp->Prop,(∀bf H',N bf H'->∃m',m'<m/\W (i+1) m' bf H')/\∀x H',(BI lo n).vo i H x H'->g x σ H' λgc H2=>tb { D with nx:=N,ct:=N,bk:=D.nx } gc H2):=by
 apply#[λi m σ H=>m=n - i/\i<=n/\Pv i σ H,#[n,by simp,gN _,h0],?_];rintro i m σ H ⟨rfl,hi,p⟩;by_cases dQ:i<n
 ·apply .inr #[dQ,Pv (i+1),λbf H' p'=>#[n - (i+1),by omega,U,dQ,p'],λx H' y=>?_];let#[e,y]:=y;subst e y;exact hs i σ _ dQ p
 have e:i=n:=by omega
 subst e;exact .inl #[a9 _,hd σ H p]
theorem _y{c:TT}{D:Ends}{H:Hp}(Pv:km)(μ:St->Hp->Nat)(h0:Pv σ H)(hs:∀σ H,Pv σ H->c σ H λb H1=>if b=true then tb { D with nx:=λbf H'=>Pv bf H'/\μ bf H'<μ σ H,ct:=λbf H'=>Pv bf H'/\μ bf H'<μ σ H,bk:=D.nx } σ H1 else D.nx σ H1)(mono:∀σ H Q Q',(∀b H1,Q b H1->Q' b H1)->c σ H Q->c σ H Q'):qy c tb D σ H:=by
 apply#[λm σ H=>m=μ σ H/\Pv σ H,#[_,U,h0],?_];rintro m σ H ⟨rfl,p⟩;apply mono σ H _ _ (λb H1 q=>?_) (hs σ H p);cases b with
 |true=>exact#[_,λbf H' ⟨p',l⟩=>#[_,l,U,p'],q]
 |false=>exact q
abbrev R2:=V->V->Hp->VK->Prop
def dU(X:Cx)(f:Aa->Aa->Sem Aa)(r:R2):Prop:=
 ∀(pins:List (Addr × Obj)) (s:Ab) (σ:St) (H:Hp) (x y:V) (v u:Aa) (Q:VK),Inv X pins σ H s->RelV x v->RelV y u->r x y H Q->
  wpAny (model X.prog X.w) X.A (f v u) (EP X pins σ Q) X.xe s
def Px(X:Cx)(f:Aa->Sem Aa)(r:V->Hp->VK->Prop):Prop:=
 ∀(pins:List (Addr × Obj)) (s:Ab) (σ:St) (H:Hp) (x:V) (v:Aa) (Q:VK),Inv X pins σ H s->RelV x v->r x H Q->
  wpAny (model X.prog X.w) X.A (f v) (EP X pins σ Q) X.xe s
def gn(X:Cx)(f:Aa)(r:af->Hp->VK->Prop):Prop:=
 ∀(pins:List (Addr × Obj)) (s:Ab) (σ:St) (H:Hp) (xs:af) (us:aj) (Q:VK),Inv X pins σ H s->Vals xs us->r xs H Q->
  wpAny (model X.prog X.w) X.A (call f us) (EP X pins σ Q) X.xe s
def mU(r:R2)(ta tb:TE):TE:=λσ H Q=>ta σ H λx H1=>tb σ H1 λy H2=>r x y H2 Q
def V2(r:V->Hp->VK->Prop)(ta:TE):TE:=λσ H Q=>ta σ H λx H1=>r x H1 Q
inductive rI (C:Int->Int->Prop) (g:Int->Int->V) (x:V) (y:V) (H:Hp) (Q:VK):Prop
 |mk:∀i j,x=.int i->y=.int j->C i j->Q (g i j) H->rI C g x y H Q
inductive sj (g:Int->Int->V) (x:V) (y:V) (H:Hp) (Q:VK):Prop
 |mk:∀i j,x=.int i->y=.int j->Q (g i j) H->sj g x y H Q
inductive rU (g:Int->V) (x:V) (H:Hp) (Q:VK):Prop
 |mk:∀i,x=.int i->Q (g i) H->rU g x H Q
variable{r:R2}
variable{g:Int->Int->Int}
variable{j:Int}
section
variable{X:Cx}{a b c:Expr}{ta tb tc:TE}{pos:Pos}
theorem By(ha:PE X a ta)(hb:PE X b tb){s:Ab}{H:Hp}{R:V->V->Hp->Prop}(I:Inv X pins σ H s)(h:ta σ H λx H1=>tb σ H1 λy H2=>R x y H2){Q:Aa->Ab->Prop}{f:Aa->Aa->Sem Aa}(hf:∀v u s2 x y H2,Inv X pins σ H2 s2->RelV x v->RelV y u->R x y H2->wpAny (model X.prog X.w) X.A (f v u) Q X.xe s2) :
  wpAny (model X.prog X.w) X.A (eval a X.env) (λv aL=>wpAny (model X.prog X.w) X.A (eval b X.env) (λu jA=>wpAny (model X.prog X.w) X.A (f v u) Q X.xe jA) X.xe aL) X.xe s:=by
 apply aS (ha pins s σ H _ I h) λv s1 ⟨x,H1,I1,r1,q1⟩=>?_;apply aS (hb pins s1 σ H1 _ I1 q1) λu s2 ⟨y,H2,I2,r2,q2⟩=>?_;exact hf v u s2 x y H2 I2 r1 r2 q2
theorem br{op:Operator}(ho:dU X (binaryOp op) r)(ha:PE X a ta)(hb:PE X b tb):PE X (.BinOp a op b pos) (mU r ta tb):=by
 intro pins s σ H Q I h;exact wpAny_BinOp (By ha hb I h λv u s2 x y H2 I2 rx ry q=>ho pins s2 σ H2 x y v u Q I2 rx ry q)
theorem A_{op:UnaryOp}{r:V->Hp->VK->Prop}(ho:Px X (unaryOp op) r)(ha:PE X a ta):PE X (.UnaryOp op a pos) (V2 r ta):=by
 intro pins s σ H Q I h;exact UnaryOp_ (aS (ha pins s σ H _ I h) λv s1 ⟨x,H1,I1,r1,q1⟩=>ho pins s1 σ H1 x v Q I1 r1 q1)
theorem BU{f:Aa->Aa->Sem Aa}{C:Int->Int->Prop}(rule:∀(i j:Int) (t u:Tok) (s:Ab) (Q:Aa->Ab->Prop) (E:Aa->Ab->Prop),C i j->Q (.int (g i j) s.toks) { s with toks:=s.toks+1 }->wpAny (model X.prog X.w) X.A (f (.int i t) (.int j u)) Q E s) :
  dU X f (rI C λi j=>.int (g i j)):=by
 intro pins s σ H x y v u Q I rx ry h;let#[i,j,rfl,rfl,hc,q]:=h;let#[t,rfl]:=rx;let#[t',rfl]:=ry;exact rule i j t t' s _ _ hc #[.int (g i j),H,I.tok _,#[_,U],q]
theorem DU{f:Aa->Aa->Sem Aa}(rule:∀(i j:Int) (t u:Tok) (s:Ab) (Q:Aa->Ab->Prop) (E:Aa->Ab->Prop),Q (.int (g i j) s.toks) { s with toks:=s.toks+1 }->wpAny (model X.prog X.w) X.A (f (.int i t) (.int j u)) Q E s) :
  dU X f (sj λi j=>.int (g i j)):=by
 intro pins s σ H x y v u Q I rx ry h;let#[i,j,rfl,rfl,q]:=h;let#[t,rfl]:=rx;let#[t',rfl]:=ry;exact rule i j t t' s _ _ #[.int (g i j),H,I.tok _,#[_,U],q]
theorem zS{f:Aa->Aa->Sem Aa}{g:Int->Int->Bool}
  (rule:∀(i j:Int) (t u:Tok) (s:Ab) (Q:Aa->Ab->Prop) (E:Aa->Ab->Prop),Q (.bool (g i j)) s->wpAny (model X.prog X.w) X.A (f (.int i t) (.int j u)) Q E s) :
  dU X f (sj λi j=>.bl (g i j)):=by
 intro pins s σ H x y v u Q I rx ry h;let#[i,j,rfl,rfl,q]:=h;let#[t,rfl]:=rx;let#[t',rfl]:=ry;exact rule i j t t' s _ _ #[.bl (g i j),H,I,U,q]
def PV(i j:Int):Prop:=0<j/\j<1073741824
def PU(i j:Int):Prop:=0<=j/\j<=1000000/\i.natAbs<2 ^ 64
def BL(i j:Int):Prop:=(-(2 ^ 64)<i/\i<2 ^ 64)∨(-(2 ^ 64)<j/\j<2 ^ 64)
theorem BL.ok{i:Int}(h:BL i j):IntMulOk i j:=by
 rcases h with⟨h1,h2⟩|⟨h1,h2⟩
 ·exact .of_left (intBits_le_64 h1 h2)
 exact .of_right (intBits_le_64 h1 h2)
theorem fG:dU X (binaryOp .Add) (sj λi j=>.int (i+j)):=DU λ_ _ _ _ _ _ _ q=>add_int q
theorem Cw:dU X (binaryOp .Sub) (sj λi j=>.int (i - j)):=DU λ_ _ _ _ _ _ _ q=>sub_int q
theorem tX:dU X (binaryOp .Mult) (rI BL λi j=>.int (i * j)):=BU λ_ _ _ _ _ _ _ hc q=>mul_int q hc.ok
theorem FU:dU X (binaryOp .FloorDiv) (rI PV λi j=>.int (i / j)):=BU λi j _ _ _ _ _ hc q=>by
 have h1:(0:Int)<j:=hc.1;have h2:j<1073741824:=hc.2;exact floordiv_int Y0 (by rw[Int.fdiv_eq_ediv_of_nonneg i Y0];exact q) (.inl (PyProof.noPylong_small Y0))
theorem Bv:dU X (binaryOp .Mod) (rI (λ_ j=>0<j) λi j=>.int (i % j)):=BU λi j _ _ _ _ _ hc q=>by
 have h1:(0:Int)<j:=hc;exact mod_int' Y0 (by rw[Int.fmod_eq_emod_of_nonneg i Y0];exact q)
theorem Yz:dU X (binaryOp .Pow) (rI PU λi j=>.int (i ^ j.toNat)):=BU λ_ _ _ _ _ _ _ hc q=>pow_int_small hc.1 hc.2.1 hc.2.2 q
theorem VR{f:Aa->Sem Aa}{g:Int->Int}
  (rule:∀(i:Int) (t:Tok) (s:Ab) (Q:Aa->Ab->Prop) (E:Aa->Ab->Prop),Q (.int (g i) s.toks) { s with toks:=s.toks+1 }->wpAny (model X.prog X.w) X.A (f (.int i t)) Q E s) :
  Px X f (rU λi=>.int (g i)):=by
 intro pins s σ H x v Q I rx h;let#[i,rfl,q]:=h;let#[t,rfl]:=rx;exact rule i t s _ _ #[.int (g i),H,I.tok _,#[_,U],q]
theorem Bl:Px X (unaryOp .USub) (rU λi=>.int (-i)):=VR λ_ _ _ _ _ q=>neg_int q
end
def zq:V->V->Bool
 |.non,.non=>true | .non,.int _=>true | .int _,.non=>true | .non,.bl _=>true | .bl _,.non=>true | .non,.str _=>true | .str _,.non=>true
 |.int _,.int _=>true | .bl _,.bl _=>true | .str _,.str _=>true | .byt _,.byt _=>true
 |.int _,.str _=>true | .str _,.int _=>true | .bl _,.str _=>true | .str _,.bl _=>true
 |_,_=>false
def WD:R2:=λx y H Q=>zq x y=true/\Q (.bl (decide (x=y))) H
def WB:R2:=λx y H Q=>zq x y=true/\Q (.bl (!decide (x=y))) H
theorem Ru{i:Int}:decide (V.int i=V.int j)=(i == j):=by
 rw[Bool.eq_iff_iff];simp
theorem Rl{i j:Bool}:decide (V.bl i=V.bl j)=(i == j):=by
 rw[Bool.eq_iff_iff];simp
theorem Sk{i j:Str}:decide (V.str i=V.str j)=(i == j):=by
 rw[Bool.eq_iff_iff];simp
theorem Sq{i j:Array UInt8}:decide (V.byt i=V.byt j)=(i.toList == j.toList):=by
 rw[Bool.eq_iff_iff];cases i;cases j;simp
variable{BV:CmpOp}{r':R2}
section
variable{X:Cx}{a b c:Expr}{ta tb tc:TE}{pos:Pos}
theorem fq{H:Hp}{s:Ab}{Q:VK}{k k':Bool}(I:Inv X pins σ H s)(q:Q (.bl k) H)(e:k=k'):EP X pins σ Q (.bool k') s:=by
 subst e;exact#[.bl k,H,I,U,q]
theorem Lm:dU X (compareOp .Eq) WD:=by
 intro pins s σ H x y v u Q I rx ry h;let#[hs,q]:=h;cases x with
 |non=>
  cases rx;cases y with
  |non=>cases ry;exact PySem.EqNone.eq_none_none (fq I q Y1)
  |bl j=>cases ry;exact PySem.EqNone.eq_none_bool (fq I q Y1)
  |int j=>let#[t',rfl]:=ry;exact PySem.EqNone.eq_none_int (fq I q Y1)
  |str j=>let#[t',rfl]:=ry;exact PySem.EqNone.eq_none_str (fq I q Y1)
  |_=>exact absurd (show false=true from hs) gr
 |bl i=>
  cases rx;cases y with
  |non=>cases ry;exact PySem.EqNone.eq_bool_none (fq I q Y1)
  |bl j=>cases ry;exact eq_bool (fq I q Rl)
  |str j=>let#[t',rfl]:=ry;exact PySem.EqMixed.eq_bool_str (fq I q Y1)
  |_=>exact absurd (show false=true from hs) gr
 |int i=>
  let#[t,rfl]:=rx;cases y with
  |non=>cases ry;exact PySem.EqNone.eq_int_none (fq I q Y1)
  |int j=>let#[t',rfl]:=ry;exact eq_int (fq I q Ru)
  |str j=>let#[t',rfl]:=ry;exact PySem.EqMixed.eq_int_str (fq I q Y1)
  |_=>exact absurd (show false=true from hs) gr
 |str i=>
  let#[t,rfl]:=rx;cases y with
  |non=>cases ry;exact PySem.EqNone.eq_str_none (fq I q Y1)
  |bl j=>cases ry;exact PySem.EqMixed.eq_str_bool (fq I q Y1)
  |int j=>let#[t',rfl]:=ry;exact PySem.EqMixed.eq_str_int (fq I q Y1)
  |str j=>let#[t',rfl]:=ry;exact eq_str (fq I q Sk)
  |_=>exact absurd (show false=true from hs) gr
 |byt i=>
  let#[t,rfl]:=rx;cases y with
  |byt j=>let#[t',rfl]:=ry;exact PySem.W.eq_bytes (fq I q Sq)
  |_=>exact absurd (show false=true from hs) gr
 |_=>cases y<;>exact absurd (show false=true from hs) gr
theorem om:dU X (compareOp .NotEq) WB:=by
 intro pins s σ H x y v u Q I rx ry h;let#[hs,q]:=h;cases x with
 |non=>
  cases rx;cases y with
  |non=>cases ry;exact PySem.EqNone.ne_none_none (fq I q Y1)
  |bl j=>cases ry;exact PySem.EqNone.ne_none_bool (fq I q Y1)
  |int j=>let#[t',rfl]:=ry;exact PySem.EqNone.ne_none_int (fq I q Y1)
  |str j=>let#[t',rfl]:=ry;exact PySem.EqNone.ne_none_str (fq I q Y1)
  |_=>exact absurd (show false=true from hs) gr
 |bl i=>
  cases rx;cases y with
  |non=>cases ry;exact PySem.EqNone.ne_bool_none (fq I q Y1)
  |bl j=>cases ry;exact ne_bool (fq I q (eW not Rl))
  |str j=>let#[t',rfl]:=ry;exact PySem.EqMixed.ne_bool_str (fq I q Y1)
  |_=>exact absurd (show false=true from hs) gr
 |int i=>
  let#[t,rfl]:=rx;cases y with
  |non=>cases ry;exact PySem.EqNone.ne_int_none (fq I q Y1)
  |int j=>let#[t',rfl]:=ry;exact ne_int (fq I q (eW not Ru))
  |str j=>let#[t',rfl]:=ry;exact PySem.EqMixed.ne_int_str (fq I q Y1)
  |_=>exact absurd (show false=true from hs) gr
 |str i=>
  let#[t,rfl]:=rx;cases y with
  |non=>cases ry;exact PySem.EqNone.ne_str_none (fq I q Y1)
  |bl j=>cases ry;exact PySem.EqMixed.ne_str_bool (fq I q Y1)
  |int j=>let#[t',rfl]:=ry;exact PySem.EqMixed.ne_str_int (fq I q Y1)
  |str j=>let#[t',rfl]:=ry;exact ne_str (fq I q (eW not Sk))
  |_=>exact absurd (show false=true from hs) gr
 |byt i=>
  let#[t,rfl]:=rx;cases y with
  |byt j=>let#[t',rfl]:=ry;exact PySem.W.ne_bytes (fq I q (eW not Sq))
  |_=>exact absurd (show false=true from hs) gr
 |_=>cases y<;>exact absurd (show false=true from hs) gr
theorem Fs:dU X (compareOp .Lt) (sj λi j=>.bl (decide (i<j))):=zS λ_ _ _ _ _ _ _ q=>lt_int q
theorem tL:dU X (compareOp .LtE) (sj λi j=>.bl (decide (i<=j))):=zS λ_ _ _ _ _ _ _ q=>le_int q
theorem EM:dU X (compareOp .Gt) (sj λi j=>.bl (decide (j<i))):=zS λ_ _ _ _ _ _ _ q=>gt_int q
inductive UQ (x:V) (y:V) (H:Hp) (Q:VK):Prop
 |mk:∀i j,x=.str i->y=.str j->Q (.bl (decide (i.cps.toList<j.cps.toList))) H->UQ x y H Q
theorem gK_:dU X (compareOp .Lt) UQ:=by
 intro pins s σ H x y v u Q I rx ry h;let#[i,j,rfl,rfl,q]:=h;let#[t,rfl]:=rx;let#[t',rfl]:=ry;exact lt_str (fq I q rfl)
theorem Yg:dU X (compareOp .Is) (λx y H Q=>y=.non/\Q (.bl (decide (x=.non))) H):=by
 intro pins s σ H x y v u Q I rx ry h;let#[rfl,q]:=h;cases ry;apply is_none_gen (fq I q ?_)
 cases x<;>first
  |(cases rx;rfl)
  |(let#[t,rfl]:=rx;rfl)
theorem RU:dU X (compareOp .IsNot) (λx y H Q=>y=.non/\Q (.bl (!decide (x=.non))) H):=by
 intro pins s σ H x y v u Q I rx ry h;let#[rfl,q]:=h;cases ry;apply isnot_none_gen (fq I q ?_)
 cases x<;>first
  |(cases rx;rfl)
  |(let#[t,rfl]:=rx;rfl)
theorem sI(b:Expr)(h:op≠.In:=by decide)(h2:op≠.NotIn:=by decide):behindInMarks op b=false:=by
 have e1:(op == CmpOp.In)=false:=by cases op<;>first|rfl|exact absurd rfl h
 have e2:(op == CmpOp.NotIn)=false:=by cases op<;>first|rfl|exact absurd rfl h2
 cases b<;>simp[behindInMarks,e1,e2]
theorem wN(ho:dU X (compareOp op) r)(ha:PE X a ta)(hb:PE X b tb)(hm:behindInMarks op b=false:=by exact sI _):PE X (.Compare a [op] [b] pos) (mU r ta tb):=by
 intro pins s σ H Q I h;exact wpAny_Compare1 (By ha hb I h λv u s2 x y H2 I2 rx ry q=>ho pins s2 σ H2 x y v u Q I2 rx ry q) hm
inductive qC (Q:Bool->Hp->Prop) (x:V) (H':Hp):Prop
 |mk:∀k,x=.bl k->Q k H'->qC Q x H'
def xj(t:TE):TT:=λσ H Q=>t σ H λx H'=>qC Q x H'
theorem eO(ho:dU X (compareOp op) r)(ha:PE X a ta)(hb:PE X b tb)(hm:behindInMarks op b=false:=by exact sI _):PT X (.Compare a [op] [b] pos) (xj (mU r ta tb)):=by
 intro pins s σ H Q I h
 apply wpAny_isTrue_Compare1 (aS (ha pins s σ H _ I h) λv s1 ⟨x,H1,I1,r1,q1⟩=>aS (hb pins s1 σ H1 _ I1 q1) λu s2 ⟨y,H2,I2,r2,q2⟩=>
  aS (ho pins s2 σ H2 x y v u _ I2 r1 r2 q2) λc s3 ⟨z,H3,I3,r3,k,e,q3⟩=>?_) hm
 subst e;cases r3;exact tR #[H3,I3,q3]
inductive mX (r':R2) (tc:TE) (σ:St) (Q:VK) (y:V) (z:V) (H3:Hp):Prop
 |mk:∀k,z=.bl k->(if k=true then tc σ H3 λw' H4=>r' y w' H4 Q else Q (.bl false) H3)->mX r' tc σ Q y z H3
def qJ(r r':R2)(ta tb tc:TE):TE:=λσ H Q=>ta σ H λx H1=>tb σ H1 λy H2=>r x y H2 λz H3=>mX r' tc σ Q y z H3
theorem NB(ho:dU X (compareOp op) r)(n5:dU X (compareOp BV) r')(ha:PE X a ta)(hb:PE X b tb)(hc:PE X c tc)(hm:lastMarks [op,BV] [b,c]=false:=by with_unfolding_all rfl):PE X (.Compare a [op,BV] [b,c] pos) (qJ r r' ta tb tc):=by
 intro pins s σ H Q I h
 apply Compare_chain (aS (ha pins s σ H _ I h) λv s1 ⟨x,H1,I1,r1,q1⟩=>chain_link (aS (hb pins s1 σ H1 _ I1 q1) λu s2 ⟨y,H2,I2,r2,q2⟩=>
  aS (ho pins s2 σ H2 x y v u _ I2 r1 r2 q2) λd s3 ⟨z,H3,I3,r3,k,e,q3⟩=>?_)) hm
 subst e;cases r3;apply tR ?_;cases k with
 |false=>exact ite_ff #[.bl false,H3,I3,U,q3]
 |true=>exact ite_tt (chain_last (aS (hc pins s3 σ H3 _ I3 q3) λw' s4 ⟨z',H4,I4,r4,q4⟩=>n5 pins s4 σ H4 y z' u w' Q I4 r2 r4 q4))
theorem NC(ho:dU X (compareOp op) r)(n5:dU X (compareOp BV) r')(ha:PE X a ta)(hb:PE X b tb)(hc:PE X c tc)(hm:lastMarks [op,BV] [b,c]=false:=by with_unfolding_all rfl):PT X (.Compare a [op,BV] [b,c] pos) (xj (qJ r r' ta tb tc)):=by
 intro pins s σ H Q I h
 apply isTrue_chain (aS (ha pins s σ H _ I h) λv s1 ⟨x,H1,I1,r1,q1⟩=>test_link (aS (hb pins s1 σ H1 _ I1 q1) λu s2 ⟨y,H2,I2,r2,q2⟩=>
  aS (ho pins s2 σ H2 x y v u _ I2 r1 r2 q2) λd s3 ⟨z,H3,I3,r3,k,e,q3⟩=>?_)) hm
 subst e;cases r3;apply tR ?_;cases k with
 |false=>
  let#[k',e',q']:=q3;cases e';exact ite_ff #[H3,I3,q']
 |true=>
  apply ite_tt (test_last (aS (hc pins s3 σ H3 _ I3 q3) λw' s4 ⟨z',H4,I4,r4,q4⟩=>aS (n5 pins s4 σ H4 y z' u w' _ I4 r2 r4 q4) λd' s5 ⟨z2,H5,I5,r5,k2,e2,q5⟩=>?_));subst e2;cases r5;exact tR #[H5,I5,q5]
theorem gg:(sizeLine:Nat)<2 ^ 63:=by rw[cJ];decide
inductive UI (x:V) (y:V) (H:Hp) (Q:VK):Prop
 |mk:∀i j,x=.str i->y=.str j->i.length+j.length<=sizeLine->Q (.str (i++j)) H->UI x y H Q
theorem g4_:dU X (binaryOp .Add) UI:=by
 intro pins s σ H x y v u Q I rx ry h;let#[i,j,rfl,rfl,hz,q]:=h;let#[t,rfl]:=rx;let#[t',rfl]:=ry;exact add_str (λt' tk=>⟨.str (i++j),H,I.tok _,⟨_,rfl⟩,q⟩) hz
theorem vals1{x:V}{us:aj}(r:Vals [x] us):∃u,us=[u]/\RelV x u:=by
 cases r with
 |cons r1 r2=>cases r2;exact#[_,U,r1]
theorem vals2{x y:V}{us:aj}(r:Vals [x,y] us):∃u w',us=[u,w']/\RelV x u/\RelV y w':=by
 cases r with
 |cons r1 r2=>
  cases r2 with
  |cons r3 r4=>cases r4;exact#[_,_,U,r1,r3]
inductive Uj (xs:af) (H:Hp) (Q:VK):Prop
 |mk:∀i,xs=[.int i]->Q (.int (if i<0 then -i else i)) H->Uj xs H Q
theorem _v:gn X (.builtin "abs") Uj:=by
 intro pins s σ H xs us Q I r h;let#[i,rfl,q]:=h;let#[u,rfl,t,rfl]:=vals1 r;exact call_abs_int λu tk=>#[.int (if i<0 then -i else i),H,I.tok _,#[_,U],q]
inductive UT (xs:af) (H:Hp) (Q:VK):Prop
 |mk:∀i j,xs=[.int i,.int j]->Q (.int (if j > i then j else i)) H->UT xs H Q
theorem hA_(hc:X.calm=true):gn X (.builtin "max") UT:=by
 intro pins s σ H xs us Q I r h;let#[i,j,rfl,q]:=h;let#[u,w',rfl,#[t,rfl],#[t',rfl]]:=vals2 r;apply max_two_ints (I.ok.hd hc) λh' tk k=>#[_,H,I.kept k,?_,q];by_cases hj:j > i
 ·rw[aK hj,aK hj];exact#[_,U]
 rw[aC hj,aC hj];exact#[_,U]
inductive US (xs:af) (H:Hp) (Q:VK):Prop
 |mk:∀i j,xs=[.int i,.int j]->Q (.int (if j<i then j else i)) H->US xs H Q
theorem hJ_(hc:X.calm=true):gn X (.builtin "min") US:=by
 intro pins s σ H xs us Q I r h;let#[i,j,rfl,q]:=h;let#[u,w',rfl,#[t,rfl],#[t',rfl]]:=vals2 r;apply min_two_ints (I.ok.hd hc) λh' tk k=>#[_,H,I.kept k,?_,q];by_cases hj:j<i
 ·rw[aK hj,aK hj];exact#[_,U]
 rw[aC hj,aC hj];exact#[_,U]
theorem T7:gn X (.type "int") (λxs H Q=>(∃i,xs=[.int i]/\Q (.int i) H)∨∃k,xs=[.bl k]/\Q (.int (if k then 1 else 0)) H):=by
 intro pins s σ H xs us Q I r h;rcases h with⟨i,rfl,q⟩|⟨k,rfl,q⟩
 ·let#[u,rfl,t,rfl]:=vals1 r;exact call_int_int #[.int i,H,I,#[_,U],q]
 let#[u,rfl,r1]:=vals1 r;cases r1;exact call_int_bool #[.int (if k then 1 else 0),H,I.tok _,#[_,U],q]
end
structure mK (h:Heap) (x dx C:Addr) (mA:Str->Option Aa):Prop where
 obj:h.get? x\PySem.W.instObj C dx
 ns:h.Ns1 dx mA
 ne:dx≠x
variable{mA:Str->Option Aa}
theorem he_{dx:Addr}(n:h.Ns1 dx mA):∃od,h.get? dx\od/\∀name,PySem.W.lookIn name od\mA name:=by
 let#[o,es,ep,ho,hd,hk,_,hm]:=n;apply#[o,ho,λname=>?_];let e:=hm name;unfold nsFind findBy at e;rw[<- Array.find?_toList] at e;unfold PySem.W.lookIn;rw[hd];dsimp only;split
 ·rename_i y q
  rw[q] at e;exact eW some e
 rename_i q
 rw[q] at e
 have a:es.toList.any (·.refKey)=false:=by
  rw[List.any_eq_false];intro y hy;let#[z,t,AH]:=hk y (Array.mem_toList_iff.mp hy);simp[DictEntry.refKey,AH]
 have a':¬es.toList.any (·.refKey)=true:=by rw[a];exact gr
 rw[aC a'];exact eW some e
theorem mK.look{x dx C:Addr}(I:mK h x dx C mA):∃od,PySem.W.InstAt h x (PySem.W.instObj C dx) C (some od)/\∀name,PySem.W.lookIn name od\mA name:=
 let #[od,ho,hl]:=he_ I.ns
 #[od,#[I.obj,U,U,ho],hl]
variable{pl:Sem Bool}
variable{kw:List (Str × Aa)}
section
variable{prog:Ad}{w:Af}{A:Ag}{E:Aa->Ab->Prop}{s:Ab}{K:ai}{x dx C f:Addr}{mA:Str->Option Aa}{name:Str}{v:Aa}
theorem Zy{expr:Bool}{Q:Aa->Ab->Prop}(X:K.In s.heap)(I:mK s.heap x dx C mA)(hg:PySem.W.plainGet K C name=true)(hh:PySem.W.hasDictIn K C=true)
  (ha:PySem.W.findIn K (.ref C) name\none) (hv:mA name\v) (Ew:PySem.W.handedIn v=true) (h:Q v { s with toks:=s.toks+1 }) :
  wpAny (model prog w) A (getAttr (.ref x) name expr) Q E s:=by
 let#[od,J,hl]:=I.look;exact PySem.W.get_value X J (PySem.W.plainGet_of hg).1 (PySem.W.findObj_own hh ha U (by rw[hl,hv])) Ew h
theorem _O{Q:Aa × aj->Ab->Prop}(X:K.In s.heap)(I:mK s.heap x dx C mA)(hg:PySem.W.plainGet K C name=true)(hf:PySem.W.findIn K (.ref C) name\some (.ref f))(ht:PySem.W.isFn K (.ref f)=true)(hv:mA name=none)(h:Q (.ref f,[.ref x]) s) :
  wpAny (model prog w) A (getMethod (.ref x) name pl) Q E s:=by
 let#[od,J,hl]:=I.look;exact PySem.W.method_fn X J (PySem.W.plainGet_of hg).1 (PySem.W.plainGet_of hg).2 hf (beq_iff_eq.mp ht) (by show (PySem.W.lookIn name od).map (·.isSome)=some false;rw[hl,hv];rfl) h
theorem ZN{ns:ag}{Q:Unit->Ab->Prop}(X:K.In s.heap)(I:mK s.heap x dx C mA)
  (hs:PySem.W.findIn K (.ref C) "__setattr__"\some (.builtin "object.__setattr__")) (hp:PySem.W.plainOver K C=true) (ht:PySem.W.takerIn K C name\none) (hh:PySem.W.hasDictIn K C=true)
  (hw:PySem.Within mA ns) (hsz:ns.length<=sizeLine)
  (h:∀h',mK h' x dx C (λy=>if y=name then some v else mA y)->Heap.SameBut dx s.heap h'->Q () { s with heap:=h',toks:=s.toks+2 }) :
  wpAny (model prog w) A (setAttr (.ref x) name v) Q E s:=by
 let#[od,J,hl]:=I.look;apply PySem.W.set_plain X J hs (PySem.W.osa_open (s:={ s with toks:=s.toks+1 }) (r:=none) X J hp ht λb=>?_);let#[cd,hc,g9]:=PySem.W.any_some hh;have hx:s.heap.get? x=some #[.ref C,some dx,.plain,#[]]:=I.obj;apply ae (aH (ae (ae (wpAny_loadPart hx (ae (PySem.W.Looks.here (s:={ s with toks:=s.toks+1 }) (PySem.W.looks_clsIn X hc) ?_))))));rw[g9];apply aH (a:=some dx) (ae (aH (ae ?_)));apply wpAny_nsSet1 (s:={ s with toks:=s.toks+1 }) I.ns λh' x6 pR=>?_;let#[oD,esD,epD,hoD,hdD,hcD]:=x6.count (PySem.Within.cons name v hw);apply ae (wpAny_lookBehind hoD (by rw[hdD];exact pastItsLine_dict (ic hcD (by rw[jy];omega))) ?_);exact aH (h _ #[(pR.2 _ (dI I.ne)).trans I.obj,x6,I.ne] pR)
theorem _l{R:Result->Ab->Prop}{vs:aj}(X:K.In s.heap)(hm:PySem.W.makesIn K C=true)(hi:PySem.W.findIn K (.ref C) "__init__"\some (.ref f))(hf:PySem.W.typeIn K (.ref f)\.type "function")(h:codeAny (model prog w) (A.under (.builtin "type.__call__" #[.ref C::vs,kw])) (.call (.ref f) #[.ref (s.heap.objs.size+1)::vs,kw]) (PySem.W.InitBack (s.heap.objs.size+1) R)
   { s with heap:=(s.heap.push PySem.W.emptyDict).push (PySem.W.instObj C s.heap.objs.size) }) :
  codeAny (model prog w) A (.call (.ref C) #[vs,kw]) R s:=by
 let#[hh,g,d,t,os]:=s;exact PySem.W.make_core (PySem.W.makes_of X hm) (PySem.W.looks_findIn X hi) (λself=>PySem.W.bind_fn X self hf) (.inl U) h
end
def aP(f:Str)(v:V):List (Str × V)->List (Str × V)
 |[]=>[(f,v)]
 |(g,x)::r=>if g=f then (g,v)::r else (g,x)::aP f v r
theorem gT(f g:Str)(v:V):∀fs:List (Str × V),(aP f v fs).lookup g=if g=f then some v else fs.lookup g
 |[]=>by
  show List.lookup g [(f,v)]=_;by_cases h:g=f
  ·have hb:(g == f)=true:=beq_iff_eq.mpr h;simp only[List.lookup,hb,aK h]
  ·have hb:(g == f)=false:=beq_eq_false_iff_ne.mpr h;simp only[List.lookup,hb,aC h]
 |(k,x)::r=>by
  let ih:=gT f g v r;rw[show aP f v ((k,x)::r)=(if k=f then (k,v)::r else (k,x)::aP f v r) from U];by_cases hk:k=f
  ·rw[aK hk];by_cases h:g=k
   ·have hb:(g == k)=true:=beq_iff_eq.mpr h;simp only[List.lookup,hb,aK (h.trans hk)]
   have hb:(g == k)=false:=beq_eq_false_iff_ne.mpr h;simp only[List.lookup,hb,aC (λe:g=f=>h (e.trans hk.symm))]
  rw[aC hk];by_cases h:g=k
  ·have hb:(g == k)=true:=beq_iff_eq.mpr h;simp only[List.lookup,hb,aC (λe:g=f=>hk (h.symm.trans e))]
  have hb:(g == k)=false:=beq_eq_false_iff_ne.mpr h;simp only[List.lookup,hb];exact ih
theorem Ow(f:Str)(v:V):∀fs:List (Str × V),f∈(aP f v fs).map (·.1)/\∀g,g∈fs.map (·.1)->g∈(aP f v fs).map (·.1)
 |[]=>#[by simp[aP],λg h=>by simp at h]
 |(k,x)::r=>by
  let#[i1,i2]:=Ow f v r;rw[show aP f v ((k,x)::r)=(if k=f then (k,v)::r else (k,x)::aP f v r) from U];by_cases hk:k=f
  ·rw[aK hk];subst hk;exact#[by simp,λg h=>by simpa using h]
  rw[aC hk];apply#[?_,λg h=>?_]
  ·rw[fE];exact fo _ i1
  rw[fE] at h ⊢;rcases cg.mp h with e|e
  ·exact cg.mpr (.inl e)
  exact fo _ (i2 g e)
theorem UD(f:Str)(v:V):∀fs:List (Str × V),(aP f v fs).length<=fs.length+1
 |[]=>by simp[aP]
 |(k,x)::r=>by
  let ih:=UD f v r;rw[show aP f v ((k,x)::r)=(if k=f then (k,v)::r else (k,x)::aP f v r) from U];by_cases hk:k=f
  ·rw[aK hk,jy,jy];omega
  rw[aC hk,jy,jy];omega
variable{v:V}{o:Option Aa}
theorem eN.some_of(r:eN (some v) o):∃u,o\u/\RelV v u:=by
 cases o with
 |none=>exact (show False from r).elim
 |some u=>exact#[u,U,r]
theorem eN.none_of(r:eN none o):o=none:=by
 cases o with
 |none=>rfl
 |some u=>exact (show False from r).elim
theorem gX_(r:RelV v u):PySem.W.handedIn u=true:=by
 cases v with
 |non=>cases (show u=Value.none from r);rfl
 |bl b=>cases (show u=Value.bool b from r);rfl
 |int i=>let#[t,e]:=(show ∃t,u=Value.int i t from r);cases e;rfl
 |str x=>let#[t,e]:=(show ∃t,u=Value.str x t from r);cases e;rfl
 |byt b=>let#[t,e]:=(show ∃t,u=Value.bytes b t from r);cases e;rfl
 |flt b=>let#[t,e]:=(show ∃t,u=Value.float b t from r);cases e;rfl
 |ref a=>cases (show u=Value.ref a from r);rfl
 |ty n=>cases (show u=Value.type n from r);rfl
section
variable{P:Ad}{w:Af}{H H':Hp}{h h':Heap}{a C dx:Addr}{fs fs':List (Str × V)}
theorem Jj(aE:fQ P w H h)(e:H a\.ins C dx fs):∃mA,mK h a dx C mA/\(∀f,eN (fs.lookup f) (mA f))/\PySem.Within mA (fs.map (·.1))/\fs.length<=1000/\H dx\.own a:=by
 let#[d,z,ne,ob,mA,n,r,q]:=(show fj P w H h a (.ins C dx fs) from aE a _ e);exact#[mA,#[ob,n,ne],r,q,z,d]
end
structure mP (K:ai) (C:Addr):Prop where
 pg:PySem.W.plainGet K C Str.empty=true
 hd:PySem.W.hasDictIn K C=true
 po:PySem.W.plainOver K C=true
 sa:PySem.W.findIn K (.ref C) "__setattr__"\some (.builtin "object.__setattr__")
theorem mP.get{K:ai}{C:Addr}(c:mP K C)(f:Str):PySem.W.plainGet K C f=true:=c.pg
def mh(K:ai)(C:Addr)(f:Str):Prop:=PySem.W.findIn K (.ref C) f=some none
theorem mh.Dc{K:ai}{C:Addr}{f:Str}(n:mh K C f):PySem.W.takerIn K C f\none:=by
 unfold PySem.W.takerIn;rw[show PySem.W.findIn K (.ref C) f\none from n];rfl
structure Con (K:ai) (C:Addr) (f:Str) (v:V) (u:Aa):Prop where
 at_:PySem.W.findIn K (.ref C) f\some u
 rel:RelV v u
 get:PySem.W.specialIn K u "__get__"\none
 cp:PySem.W.copiedNames.contains f=false
structure Meth (K:ai) (C:Addr) (m:Str) (f:Addr):Prop where
 at_:PySem.W.findIn K (.ref C) m\some (.ref f)
 fn:PySem.W.isFn K (.ref f)=true
 kp:PySem.W.keepIn K (.ref f)=true
section
variable{X:Cx}{pins:List (Addr × Obj)}{σ:St}{H:Hp}{s:Ab}{a C dx:Addr}{fs:List (Str × V)}{f:Str}{v:V}{A:Ag}{E:Aa->Ab->Prop}
theorem fQ_{b:Bool}{Q:Aa->Ab->Prop}(I:Inv X pins σ H s)(e:H a\.ins C dx fs)(c:mP X.K C)(n:mh X.K C f)(l:fs.lookup f\v)
  (h:∀u s',Inv X pins σ H s'->RelV v u->Q u s'):wpAny (model X.prog X.w) A (getAttr (.ref a) f b) Q E s:=by
 let#[mA,O,r,_,_,_]:=Jj I.aE e;let#[u,hu,ru]:=eN.some_of (v:=v) (o:=mA f) (by rw[<- l];exact r f);exact Zy I.gI O (c.get f) c.hd n hu (gX_ ru) (h u _ (I.tok _) ru)
theorem Uz{m:Str}{g:Addr}{Q:Aa × aj->Ab->Prop}(I:Inv X pins σ H s)(e:H a\.ins C dx fs)(c:mP X.K C)(k:Meth X.K C m g)(l:fs.lookup m=none)(h:Q (.ref g,[.ref a]) s):wpAny (model X.prog X.w) A (getMethod (.ref a) m pl) Q E s:=by
 let#[mA,O,r,_,_,_]:=Jj I.aE e;have hn:mA m=none:=eN.none_of (by rw[<- l];exact r m);exact _O I.gI O (c.get m) k.at_ k.fn hn h
theorem fR_{y:V}{Q:Unit->Ab->Prop}(I:Inv X pins σ H s)(e:H a\.ins C dx fs)(c:mP X.K C)(n:mh X.K C f)(hl:fs.length<1000)(ry:RelV y u)(h:∀s',Inv X pins σ (upd H a (.ins C dx (aP f y fs))) s'->Q () s'):wpAny (model X.prog X.w) A (setAttr (.ref a) f u) Q E s:=by
 let#[mA,O,r,wi,_,ho]:=Jj I.aE e;have hz:(fs.map (·.1)).length<=sizeLine:=by rw[aq,cJ];omega
 apply ZN I.gI O c.sa c.po n.Dc c.hd wi hz λh' O' sb=>h _ ?_;have hd:∃o,h'.get? dx\o:=let #[o,_,_,e',_]:=O'.ns;#[o,e'];apply I.write (x:=a) (e:=dx) (by rw[e];exact True.intro) (.inr ho) (λb q hb z=>(sb.2 b hb).trans z) hd ?_;apply#[by rw[aA O.ne];exact ho,?_,O.ne,O'.obj,_,O'.ns,λg=>?_,λg hg=>?_]
 ·have:=UD f y fs;omega
 ·show eN ((aP f y fs).lookup g) (if g=f then some u else mA g);rw[gT];by_cases q:g=f
  ·rw[aK q,aK q];exact ry
  rw[aC q,aC q];exact r g
 by_cases q:g=f
 ·rw[q];exact (Ow f y fs).1
 apply (Ow f y fs).2 g (wi g λz=>hg ?_);show (if g=f then some u else mA g)=none;rw[aC q];exact z
theorem Inv.made(I:Inv X pins σ H s):Inv X pins σ (upd (upd H s.heap.objs.size (.own (s.heap.objs.size+1))) (s.heap.objs.size+1) (.ins C s.heap.objs.size []))
  { s with heap:=(s.heap.push PySem.W.emptyDict).push (PySem.W.instObj C s.heap.objs.size) }:=by
 have e1:(s.heap.push PySem.W.emptyDict).get? s.heap.objs.size\PySem.W.emptyDict:=dj s.heap U
 have e2:((s.heap.push PySem.W.emptyDict).push (PySem.W.instObj C s.heap.objs.size)).get? (s.heap.objs.size+1)\PySem.W.instObj C s.heap.objs.size:=by
  have:=dj (s.heap.push PySem.W.emptyDict) (o:=PySem.W.instObj C s.heap.objs.size) U;rwa [Heap.size_push] at this
 have e3:(s.heap.push PySem.W.emptyDict).Ns s.heap.objs.size (λ_=>none):=#[PySem.W.emptyDict,#[],_,e1,U,(λe he=>absurd he Y1),λ_=>rfl];let I1:=I.laid (a:=s.heap.objs.size) (o:=.own (s.heap.objs.size+1)) (h':=s.heap.push PySem.W.emptyDict) (t':=s.toks) (λb u q=>bo _ q) (a9 _) #[_,e1];apply I1.laid (a:=s.heap.objs.size+1) (o:=.ins C s.heap.objs.size []) (t':=s.toks) (λb u q=>bo _ q) (Nat.le_of_eq (Heap.size_push _ _)) ?_;have ne:s.heap.objs.size≠s.heap.objs.size+1:=dE (Nat.lt_succ_self _);apply#[by rw[aA ne,ay],gN _,ne,e2,λ_=>none,(Heap.Ns1.of_empty e3).at λo q=>bo _ q,λ_=>True.intro,λy hy=>absurd U hy]
theorem Yk{prog:Ad}{env:Env}{e:Expr}{f:Str}{s:Ab}{Q:Aa->Ab->Prop}(hb:attributeBase e f env (eval e env)=eval e env)(h:wpAny (model prog w) A (eval e env) (λo aL=>wpAny (model prog w) A (getAttr o f true) Q E aL) E s):wpAny (model prog w) A (eval (.Attribute e f pos) env) Q E s:=
 Attribute_any_ h (by rw[arm_eval_Attribute,hb])
end
inductive xo (K:ai) (f:Str) (Q:VK) (x:V) (H1:Hp):Prop
 |mk:∀a C dx fs v,x=.ref a->H1 a\.ins C dx fs->mP K C->mh K C f->fs.lookup f\v->Q v H1->xo K f Q x H1
def Do(K:ai)(ta:TE)(f:Str):TE:=λσ H Q=>ta σ H λx H1=>xo K f Q x H1
inductive xD (K:ai) (f:Str) (D:Ends) (σ:St) (y:V) (x:V) (H2:Hp):Prop
 |mk:∀a C dx fs,x=.ref a->H2 a\.ins C dx fs->mP K C->mh K C f->fs.length<1000->D.nx σ (upd H2 a (.ins C dx (aP f y fs)))->xD K f D σ y x H2
def Kx(K:ai)(ta tv:TE)(f:Str):TS:=λD σ H=>tv σ H λy H1=>ta σ H1 λx H2=>xD K f D σ y x H2
section
variable{X:Cx}{o e value:Expr}{f:Str}{pos pos' Kd:Pos}{ta tv:TE}
theorem i_(he:PE X e ta)(hb:attributeBase e f X.env (eval e X.env)=eval e X.env):PE X (.Attribute e f pos) (Do X.K ta f):=by
 intro pins s σ H Q I h;apply Yk hb (aS (he pins s σ H _ I h) λu s1 ⟨x,H1,I1,rx,a,C,dx,fs,v,ex,ea,c,n,l,q⟩=>?_);subst ex;obtain rfl:u=Value.ref a:=rx;exact fQ_ I1 ea c n l λu' s2 I2 ru=>#[v,H1,I2,ru,q]
theorem wC(ha:PE X o ta)(hv:PE X value tv)(hs:swapsWith value (some (.Attribute o f pos')) pos.line X.env=pure false):PS X (.Assign [.Attribute o f pos'] value pos) (Kx X.K ta tv f):=by
 intro pins s σ H D I h;apply plainObj_wpAny_Assign_Attribute (aS (hv pins s σ H _ I h) λu s1 ⟨y,H1,I1,ry,q⟩=>aS (ha pins s1 σ H1 _ I1 q) λov s2 ⟨x,H2,I2,rx,a,C,dx,fs,ex,ea,c,n,l,q2⟩=>?_) hs;subst ex;obtain rfl:ov=Value.ref a:=rx;exact fR_ I2 ea c n l ry λs3 I3=>#[σ,_,I3,q2]
end
section
variable{X:Cx}{pins:List (Addr × Obj)}{σ:St}{H:Hp}{s:Ab}{A:Ag}{E:Aa->Ab->Prop}{Q:Aa->Ab->Prop}{c:Aa}{b:Bool}
inductive dC (K:ai) (H:Hp):V->Aa->Prop where
 |non:dC K H .non (.type "NoneType")
 |bl (x:Bool):dC K H (.bl x) (.type "bool")
 |int (i:Int):dC K H (.int i) (.type "int")
 |str (x:Str):dC K H (.str x) (.type "str")
 |flt (x:UInt64):dC K H (.flt x) (.type "float")
 |lst {a:Addr} {xs:af} (e:H a\.lst xs):dC K H (.ref a) (.type "list")
 |frz {a:Addr} {o:Obj} {xs:af} (e:H a\.frz o (.lst xs)):dC K H (.ref a) (.type "list")
 |tup {a:Addr} {xs:af} (e:H a\.tup xs):dC K H (.ref a) (.type "tuple")
 |dK {a:Addr} {kvs:List (Key × V)} (e:H a\.dK kvs):dC K H (.ref a) (.type "dict")
 |dT {a:Addr} {kvs:List (aD × V)} (e:H a\.dT kvs):dC K H (.ref a) (.type "dict")
 |ins {a C dx:Addr} {fs:List (Str × V)} (e:H a\.ins C dx fs) (cl:mP K C) (ha:PySem.W.findIn K (.ref C) "__class__"\some (.builtin "object.__class__"))
   (hn:PySem.W.specialIn K (.builtin "object.__class__") "__get__"\some (.builtin "getset_descriptor.__get__")) (B7:PySem.W.takesIn K (.builtin "object.__class__")\true)
   (hm:PySem.W.mroIn K C (.type "object")\true):dC K H (.ref a) (.ref C)
theorem Ui{x:V}{t:Aa}(I:Inv X pins σ H s)(rx:RelV x u)(ty:dC X.K H x t)(e:PySem.W.kitOne X.K t c\b)(h:∀tk,Q (.bool b) { s with toks:=tk }) :
  wpAny (model X.prog X.w) A (call (.builtin "isinstance") [u,c]) Q E s:=by
 cases ty with
 |non=>cases (show u=Value.none from rx);exact tK PySem.W.kitx_none I.gI True.intro e nofun h
 |bl y=>cases (show u=Value.bool y from rx);exact tK PySem.W.kitx_bool I.gI True.intro e nofun h
 |int i=>let#[t,q]:=(show ∃t,u=Value.int i t from rx);cases q;exact tK PySem.W.kitx_int I.gI True.intro e nofun h
 |str y=>let#[t,q]:=(show ∃t,u=Value.str y t from rx);cases q;exact tK PySem.W.kitx_str I.gI True.intro e nofun h
 |flt y=>let#[t,q]:=(show ∃t,u=Value.float y t from rx);cases q;exact tK PySem.W.kitx_float I.gI True.intro e nofun h
 |@lst a xs ea=>
  cases (show u=Value.ref a from rx);let#[_,_,n,_,h1]:=(show fj X.prog X.w H s.heap a (.lst xs) from I.aE a _ ea);exact tK PySem.W.kitx_list I.gI #[_,h1,U] e nofun h
 |@frz a ob xs ea=>
  cases (show u=Value.ref a from rx);let#[_,_,_,n,_,h1]:=(show fj X.prog X.w H s.heap a (.frz ob (.lst xs)) from I.aE a _ ea);exact tK PySem.W.kitx_list I.gI #[_,h1,U] e nofun h
 |@tup a xs ea=>
  cases (show u=Value.ref a from rx);let#[_,_,_,p,_]:=(show fj X.prog X.w H s.heap a (.tup xs) from I.aE a _ ea);let#[o,h1,h2,_]:=p;exact tK PySem.W.kitx_tuple I.gI #[o,h1,h2] e nofun h
 |@dK a kvs ea=>
  cases (show u=Value.ref a from rx);let#[_,_,vs,_,p]:=(show fj X.prog X.w H s.heap a (.dK kvs) from I.aE a _ ea);let#[o,es,ep,h1,h2,_]:=p;exact tK PySem.W.kitx_dict I.gI #[o,h1,h2.1] e nofun h
 |@dT a kvs ea=>
  cases (show u=Value.ref a from rx);let#[_,_,xs,_,o,es,ep,h1,h2,_]:=(show fj X.prog X.w H s.heap a (.dT kvs) from I.aE a _ ea);exact tK PySem.W.kitx_dict I.gI #[o,h1,h2.1] e nofun h
 |@ins a C dx fs ea cl ha hn B7 hm=>
  cases (show u=Value.ref a from rx);let#[mA,O,_]:=Jj I.aE ea;let#[od,J,_]:=O.look;exact tK (PySem.W.kitx_own (cl.get _) cl.hd ha hn B7 hm) I.gI J e nofun h
end
structure aY (k:Nat) (A:Ag):Prop where
 hd:A.handled=none
 dp:A.depth+3 * k+5<recursionLimit
 un:A.units+16 * k+200<cLine
theorem aY.mono{j:Nat}{A:Ag}(r:aY k A)(h:j<=k):aY j A:=#[r.hd,by have:=r.dp;omega,by have:=r.un;omega]
theorem aY.deeper{A:Ag}(r:aY (k+1) A)(env:Env):aY k (A.deeper env):=
 #[r.hd,by have:=r.dp;show A.depth+1+3 * k+5<_;omega,by have:=r.un;show A.units+3+16 * k+200<_;omega]
theorem aY.in1{A:Ag}(r:aY (k+1) A):aY k A.in1:=
 #[r.hd,by have:=r.dp;show A.depth+3 * k+5<_;omega,by have:=r.un;show A.units+1+16 * k+200<_;omega]
theorem fC_{A:Ag}{C:Addr}{us:aj}:(A.under (.builtin "type.__call__" #[.ref C::us,kw])).depth=A.depth+1:=by
 first|rfl|simp[Around.under,Code.weight,Code.isCreation,Code.isGuard,Code.isCaller,Code.frames,Code.isFrame,guardIds]
theorem fI_{A:Ag}{C:Addr}{us:aj}:(A.under (.builtin "type.__call__" #[.ref C::us,kw])).units=A.units+1:=by
 first|rfl|simp[Around.under,Code.cUnits,Code.frames,Code.isFrame]
theorem aY.make{A:Ag}(r:aY (k+1) A)(C:Addr)(us:aj)(kw:List (Str × Aa)):aY k (A.under (.builtin "type.__call__" #[.ref C::us,kw])):=
 #[r.hd,by have:=r.dp;rw[fC_];omega,by have:=r.un;rw[fI_];omega]
theorem aY.depth{A:Ag}(r:aY k A):A.depth<recursionLimit:=by have:=r.dp;omega
theorem aY.units{A:Ag}(r:aY k A):A.units+64<cLine:=by have:=r.un;omega
def gG:TA:=λ_ H Q=>Q [] H
def qa(ta:TE)(tr:TA):TA:=λσ H Q=>ta σ H λx H1=>tr σ H1 λxs H2=>Q (x::xs) H2
section
variable{X:Cx}{e:Expr}{es:List Expr}{te:TE}{t:TA}{pos:Pos}
theorem bR:PA X [] gG:=λ_ _ _ _ H Q I h=>Calls.spliced_nil #[[],H,I,.nil,h]
theorem d7(ha:PE X e te)(hr:PA X es t)(hs:starEach (e::es) X.env=(false,eval e X.env)::starEach es X.env:=by rfl):PA X (e::es) (qa te t):=by
 intro pos pins s σ H Q I h;rw[hs];show wpAny _ _ (spliced ((false,eval e X.env)::backTo pos (starEach es X.env))) _ _ s;apply Calls.spliced_cons (aS (ha pins s σ H _ I h) λu s1 ⟨x,H1,I1,r1,q1⟩=>?_);exact aS (hr pos pins s1 σ H1 _ I1 q1) λus s2 ⟨xs,H2,I2,r2,q2⟩=>#[x::xs,H2,I2,.cons r1 r2,q2]
def qA(t:TA):TE:=λσ H Q=>t σ H λxs H1=>xs.length<=sizeLine/\∀p,H1 p=none->Q (.ref p) (upd H1 p (.tup xs))
def vw(t:TA):TE:=λσ H Q=>t σ H λxs H1=>xs.length<=sizeLine/\∀p,H1 p=none->Q (.ref p) (upd H1 p (.lst xs))
theorem dA{x1}(h:PA X es t):PE X (.Tuple es x1 pos) (qA t):=by
 intro pins s σ H Q I hq;apply wpAny_Tuple_spliced (aS (h pos pins s σ H _ I hq) λus s1 ⟨xs,H1,I1,r,z,q⟩=>#[by rw[<- r.length];exact z,?_]);have hf:H1 s1.heap.objs.size=none:=I1.aE.fresh (a9 _);apply#[.ref s1.heap.objs.size,upd H1 s1.heap.objs.size (.tup xs),I1.laid (t':=s1.toks) (λb u e=>bo _ e) (a9 _) ?_,U,q _ hf];exact#[z,us,r,#[_,dj _ U,U,_,U],_,dj _ U,U]
theorem eI(h:PA X es t):PE X (.List es pos) (vw t):=by
 intro pins s σ H Q I hq;apply wpAny_List_spliced (aS (h pos pins s σ H _ I hq) λus s1 ⟨xs,H1,I1,r,z,q⟩=>#[by rw[<- r.length];exact z,?_]);have hf:H1 s1.heap.objs.size=none:=I1.aE.fresh (a9 _);apply#[.ref s1.heap.objs.size,upd H1 s1.heap.objs.size (.lst xs),I1.laid (t':=s1.toks) (λb u e=>bo _ e) (a9 _) ?_,U,q _ hf];exact#[z,us,0,r,dj _ U]
end
abbrev Sp:=af->Hp->VK->XK->Prop
abbrev vk:=List Env->Hp->Ab->XK->Aa->Ab->Prop
structure iH (P:Ad) (w:Af) (K:ai) (mg:Str->Option Aa) (base:Heap) (A:Ag) (outer:List Env) (s:Ab) (H:Hp):Prop where
 frames:A.frames\outer
 mod:Mod K mg base
 bs:∀b o,base.get? b\o->s.heap.get? b\o/\H b=none
 tU:base.objs.size<=s.heap.objs.size
 fW:s.heap.FunFrames base outer
 wg:∀b∈o9 outer,H b=none
 aE:fQ P w H s.heap
 bare:AllBare s.gens
def CE(outer:List Env)(P:Ad)(w:Af)(H:Hp)(s:Ab)(Q:VK)(u:Aa)(s':Ab):Prop:=
 ∃v H',s'.os=s.os/\AllBare s'.gens/\Un (o9 outer) [] H H' s.heap s'.heap/\fQ P w H' s'.heap/\RelV v u/\Q v H'
def CR(CX:vk)(outer:List Env)(P:Ad)(w:Af)(H:Hp)(s:Ab)(Q:VK)(E:XK)(r:Result)(s':Ab):Prop:=
 match r with
 |.ok (.ret u)=>CE outer P w H s Q u s'
 |.ok _=>False
 |.error e=>CX outer H s E e s'
structure ak (P:Ad) (w:Af) (K:ai) (mg:Str->Option Aa) (base:Heap) (CX:vk) (k:Nat) (f:Addr) (fd:Ae) (ps:ag) (sp:Sp):Prop where
 len:∀vs H Q E,sp vs H Q E->vs.length=ps.length
 run:∀(A:Ag) (outer:List Env) (s:Ab) (H:Hp) (args:Args) (us:aj) (vs:af) (Q:VK) (E:XK),aY k A->iH P w K mg base A outer s H->BindsTo s fd args (ps.zip us)->Vals vs us->sp vs H Q E->
  codeAny (model P w) A (.call (.ref f) args) (CR CX outer P w H s Q E) s
variable{K:ai}{f:Addr}{mg:Str->Option Aa}{base:Heap}{CX:vk}{fd:Ae}{ps:ag}
theorem ak.imp{sp BQ:Sp}(F:ak P w K mg base CX k f fd ps sp)(h:∀vs H Q E,BQ vs H Q E->sp vs H Q E):ak P w K mg base CX k f fd ps BQ:=
 #[λvs H Q E q=>F.len vs H Q E (h _ _ _ _ q),λA outer s H args us vs Q E hr he hb hv hs=>F.run A outer s H args us vs Q E hr he hb hv (h _ _ _ _ hs)]
variable{H:Hp}{A:Ag}{outer:List Env}
theorem iH.make{s:Ab}(e:iH P w K mg base A outer s H)(C:Addr)(us:aj)(kw:List (Str × Aa)) :
  iH P w K mg base (A.under (.builtin "type.__call__" #[.ref C::us,kw])) outer s H:=#[by first|exact e.frames|(simpa [Around.under,Code.envs,Code.isFrame,pushEnvs] using e.frames),e.mod,e.bs,e.tU,e.fW,e.wg,e.aE,e.bare]
section
variable{X:Cx}{pins:List (Addr × Obj)}{σ:St}{H:Hp}{s s':Ab}
theorem Inv.A7(I:Inv X pins σ H s):iH X.prog X.w X.K X.mg X.base X.A X.stack s H:=
 #[I.ok.frames,I.ok.mod,I.bs,ic I.ok.tU I.sz,I.stack,I.mY,I.aE,I.bare]
theorem Inv.after{Q:VK}(I:Inv X pins σ H s)(h:CE X.stack X.prog X.w H s Q u s'):EP X pins σ Q u s':=by
 let#[v,H',os,bare,un,aE,r,q]:=h;let#[hh,g,d,t,KM]:=s';obtain rfl:KM=s.os:=os;exact#[v,H',I.call (h':=hh) (g':=g) (d':=d) (t':=t) (ch:=[]) un aE bare (λb z=>absurd z Y1),r,q]
end
def xt(sp:Sp)(gP:af)(E:XK)(t:TA):TE:=λσ H Q=>t σ H λvs H1=>sp (vs++gP) H1 Q E
inductive qG (C:Addr) (m:Str) (sp:Sp) (gP:af) (E:XK) (t:TA) (σ:St) (Q:VK) (x:V) (H1:Hp):Prop
 |mk:∀a dx fs,x=.ref a->H1 a\.ins C dx fs->fs.lookup m=none->(t σ H1 λvs H2=>sp (x::(vs++gP)) H2 Q E)->qG C m sp gP E t σ Q x H1
def mV(C:Addr)(m:Str)(sp:Sp)(gP:af)(E:XK)(ta:TE)(t:TA):TE:=λσ H Q=>ta σ H λx H1=>qG C m sp gP E t σ Q x H1
def xm(C:Addr)(sp:Sp)(gP:af)(E:XK)(t:TA):TE:=λσ H Q=>t σ H λvs H1=>∀x dx,H1 x=none->H1 dx=none->dx≠x->
 sp (.ref x::(vs++gP)) (upd (upd H1 dx (.own x)) x (.ins C dx [])) (λv H2=>v=.non/\Q (.ref x) H2) E
def p9(K:ai)(fd:Ae)(ps:ag)(ds:aj):Prop:=
 ∀(s:Ab) (us:aj),K.In s.heap->(us++ds).length=ps.length->BindsTo s fd #[us,[]] (ps.zip (us++ds))
theorem p9.all(h:∀us:aj,us.length=ps.length->bindArgs fd #[us,[]]=pure (ps.zip us)):p9 K fd ps []:=λs us _ hl=>by
 rw[List.append_nil] at hl ⊢;exact .of_eq (h us hl)
def wR(CX:vk)(X:Cx)(E:XK):Prop:=∀(pins:List (Addr × Obj)) (σ:St) (H:Hp) (s:Ab) (e:Aa) (s':Ab),Inv X pins σ H s->CX X.stack H s E e s'->X.xe e s'
variable{E:XK}{Q:VK}{gP vs:af}{sp:Sp}{ds:aj}
theorem LO{s:Ab}{us:aj}(F:ak X.prog X.w X.K X.mg X.base CX k f fd ps sp)(hr:aY k X.A)(hb:p9 X.K fd ps ds)(hd:Vals gP ds)(hx:wR CX X E)(I:Inv X pins σ H s)(r:Vals vs us)(h:sp (vs++gP) H Q E):wpAny (model X.prog X.w) X.A (call (.ref f) us) (EP X pins σ Q) X.xe s:=by
 have r2:Vals (vs++gP) (us++ds):=r.append hd;have hl:(us++ds).length=ps.length:=by rw[<- r2.length];exact F.len _ _ _ _ h
 apply wpAny_call (codeAny_mono (F.run X.A X.stack s H #[us,[]] (us++ds) (vs++gP) Q E hr I.A7 (hb s us I.gI hl) r2 h) λr s' hq=>?_);cases r with
 |error e=>exact hx pins σ H s e s' I hq
 |ok fl=>
  cases fl with
  |ret u=>exact I.after hq
  |next=>exact False.elim hq
  |brk=>exact False.elim hq
  |cont=>exact False.elim hq
variable{x:Str}{t:TA}{e:Expr}
theorem Zs(F:ak X.prog X.w X.K X.mg X.base CX k f fd ps sp)(hr:aY k X.A)(hg:Gl X x)(hm:X.mg x\.ref f)(hk:PySem.W.keepIn X.K (.ref f)=true)(hb:p9 X.K fd ps ds)(hd:Vals gP ds)(hx:wR CX X E)
  (ha:PA X (e::es) t) (sZ:(x == ("__debug__":Str))=false:=by decide) (he:starEach (e::es) X.env=(false,eval e X.env)::starEach es X.env:=by rfl) (iY:(backTo pos (starEach es X.env)).any (·.1)=false:=by rfl) :
  PE X (.Call (.Name x p) (e::es) [] pos) (xt sp gP E t):=by
 intro pins s σ H Q I h;apply wpAny_Call_Name_kw (ML I hg hm ?_ sZ);apply PySem.W.callWith_K (h₀:=X.base) I.ok.mod.En hk (aS (ha pos pins s σ H _ I h) λus s1 ⟨vs,H1,I1,r,q⟩=>#[I1.gI,?_]) he iY;exact LO F hr hb hd hx I1 r q
variable{o:Expr}{ta:TE}{C:Addr}{m:Str}{apos:Pos}
theorem Zc(he:PE X o ta)(c:mP X.K C)(hm:Meth X.K C m f)(F:ak X.prog X.w X.K X.mg X.base CX k f fd ps sp)(hr:aY k X.A)(hb:p9 X.K fd ps ds)(hd:Vals gP ds)(hx:wR CX X E)(ha:PA X (e::es) t)(Ay:starEach (e::es) X.env=(false,eval e X.env)::starEach es X.env:=by rfl)(iY:(backTo pos (starEach es X.env)).any (·.1)=false:=by rfl)(ht:eval (.Call (.Attribute o m apos) (e::es) [] pos) X.env=(do
   let ov <- eval o X.env
   standAt apos.atName
   let (f,first) <- holding [ov] (getMethod ov m pl)
   callWith pos f first (backTo pos (starEach (e::es) X.env)) (backToKw pos (keywordEach [] X.env))):=by rfl) :
  PE X (.Call (.Attribute o m apos) (e::es) [] pos) (mV C m sp gP E ta t):=by
 intro pins s σ H Q I h;apply PySem.W.methodCall_KW (pl:=pl) (aS (he pins s σ H _ I h) λu s1 ⟨x,H1,I1,rx,a,dx,fs,ex,ea,l,q⟩=>?_) ht;subst ex;obtain rfl:u=Value.ref a:=rx;apply Uz I1 ea c hm l ?_;apply PySem.W.callWith_K (first:=[.ref a]) (h₀:=X.base) I.ok.mod.En hm.kp (aS (ha pos pins s1 σ H1 _ I1 q) λus s2 ⟨vs,H2,I2,r,q2⟩=>#[I2.gI,?_]) Ay iY;exact LO (us:=.ref a::us) (vs:=.ref a::vs) F hr hb hd hx I2 (.cons U r) q2
theorem _D(he:PE X o ta)(c:mP X.K C)(hm:Meth X.K C m f)(F:ak X.prog X.w X.K X.mg X.base CX k f fd ps sp)(hr:aY k X.A)(hb:p9 X.K fd ps ds)(hd:Vals gP ds)(hx:wR CX X E)(ht:eval (.Call (.Attribute o m apos) [] [] pos) X.env=(do
   let ov <- eval o X.env
   standAt apos.atName
   let (f,first) <- holding [ov] (getMethod ov m pl)
   callWith pos f first (backTo pos (starEach [] X.env)) (backToKw pos (keywordEach [] X.env))):=by rfl) :
  PE X (.Call (.Attribute o m apos) [] [] pos) (mV C m sp gP E ta gG):=by
 intro pins s σ H Q I h;apply PySem.W.methodCall_KW (pl:=pl) (aS (he pins s σ H _ I h) λu s1 ⟨x,H1,I1,rx,a,dx,fs,ex,ea,l,q⟩=>?_) ht;subst ex;obtain rfl:u=Value.ref a:=rx;apply Uz I1 ea c hm l ?_;exact PySem.W.callWith_K0 (first:=[.ref a]) I1.gI hm.kp (LO (us:=[.ref a]) (vs:=[.ref a]) F hr hb hd hx I1 (.cons U .nil) q)
structure Mk (K:ai) (C f:Addr):Prop where
 makes:PySem.W.makesIn K C=true
 init:PySem.W.findIn K (.ref C) "__init__"\some (.ref f)
 fn:PySem.W.isFn K (.ref f)=true
 kp:PySem.W.keepIn K (.ref C)=true
theorem _J{s:Ab}{us:aj}(M:Mk X.K C f)(F:ak X.prog X.w X.K X.mg X.base CX k f fd ps sp)(hr:aY (k+1) X.A)(hb:p9 X.K fd ps ds)(hd:Vals gP ds)(hx:wR CX X E)(I:Inv X pins σ H s)(r:Vals vs us)(h:∀x dx,H x=none->H dx=none->dx≠x->sp (.ref x::(vs++gP)) (upd (upd H dx (.own x)) x (.ins C dx [])) (λv H2=>v=.non/\Q (.ref x) H2) E) :
  wpAny (model X.prog X.w) X.A (call (.ref C) us) (EP X pins σ Q) X.xe s:=by
 let hq:=h (s.heap.objs.size+1) s.heap.objs.size (I.aE.fresh (Nat.le_succ _)) (I.aE.fresh (a9 _)) (dE (Nat.lt_succ_self _));let I2:=Inv.made (C:=C) I;have r2:Vals (V.ref (s.heap.objs.size+1)::(vs++gP)) (Value.ref (s.heap.objs.size+1)::(us++ds)):=.cons U (r.append hd)
 have hl:(Value.ref (s.heap.objs.size+1)::us++ds).length=ps.length:=by
  let e:=r2.length;rw[F.len _ _ _ _ hq] at e;exact e.symm
 apply wpAny_call (_l (f:=f) I.gI M.makes M.init (beq_iff_eq.mp M.fn) (codeAny_mono (F.run _ X.stack _ _ #[Value.ref (s.heap.objs.size+1)::us,[]] (Value.ref (s.heap.objs.size+1)::(us++ds)) _ _ E (hr.make C us [])
  (I2.A7.make C us []) (hb _ (Value.ref (s.heap.objs.size+1)::us) I2.gI hl) r2 hq) λr s' hq'=>?_))
 cases r with
 |error e=>exact hx pins σ _ _ e s' I2 hq'
 |ok fl=>
  cases fl with
  |ret u=>
   let#[v,H',I3,rv,ev,q3]:=I2.after hq';subst ev;exact#[rv,#[V.ref (s.heap.objs.size+1),H',I3,U,q3]]
  |next=>exact False.elim hq'
  |brk=>exact False.elim hq'
  |cont=>exact False.elim hq'
theorem ZI(M:Mk X.K C f)(F:ak X.prog X.w X.K X.mg X.base CX k f fd ps sp)(hr:aY (k+1) X.A)(hg:Gl X x)(hm:X.mg x\.ref C)(hb:p9 X.K fd ps ds)(hd:Vals gP ds)(hx:wR CX X E)
  (ha:PA X (e::es) t) (sZ:(x == ("__debug__":Str))=false:=by decide) (he:starEach (e::es) X.env=(false,eval e X.env)::starEach es X.env:=by rfl) (iY:(backTo pos (starEach es X.env)).any (·.1)=false:=by rfl) :
  PE X (.Call (.Name x p) (e::es) [] pos) (xm C sp gP E t):=by
 intro pins s σ H Q I h;apply wpAny_Call_Name_kw (ML I hg hm ?_ sZ);apply PySem.W.callWith_K (h₀:=X.base) I.ok.mod.En M.kp (aS (ha pos pins s σ H _ I h) λus s1 ⟨vs,H1,I1,r,q⟩=>#[I1.gI,?_]) he iY;exact _J M F hr hb hd hx I1 r q
def PK(X:Cx)(B2:List Keyword)(t:TA):Prop:=
 ∀(pos:Pos) (pins:List (Addr × Obj)) (s:Ab) (σ:St) (H:Hp) (Q:af->Hp->Prop),Inv X pins σ H s->t σ H Q->wpAny (model X.prog X.w) X.A (evalAll ((backToKw pos (keywordEach B2 X.env)).map (·.2))) (AP X pins σ Q) X.xe s
theorem YF:PK X [] gG:=λ_ _ _ _ H Q I h=>wpAny_evalAll_nil #[[],H,I,.nil,h]
variable{Lh:Pos}{B2:List Keyword}{nm:Option Str}
theorem YR(ha:PE X e te)(hr:PK X B2 t):PK X (#[nm,e,Lh]::B2) (qa te t):=by
 intro pos pins s σ H Q I h;show wpAny _ _ (evalAll ((do let v <- eval e X.env;standAt pos;pure v)::(backToKw pos (keywordEach B2 X.env)).map (·.2))) _ _ s;apply wpAny_evalAll_cons (ae (aS (ha pins s σ H _ I h) λu s1 ⟨x,H1,I1,r1,q1⟩=>ae (wpAny_standAt (aH ?_))));exact aS (hr pos pins s1 σ H1 _ I1 q1) λus s2 ⟨xs,H2,I2,r2,q2⟩=>#[x::xs,H2,I2,.cons r1 r2,q2]
structure PF (K:ai) (fd:Ae) (ps ks:ag) (g:aj->aj->aj) (gV:af->af->af):Prop where
 to:∀(s:Ab) (us ws:aj),K.In s.heap->(g us ws).length=ps.length->BindsTo s fd #[us,ks.zip ws] (ps.zip (g us ws))
 rel:∀{vs:af} {us:aj} {zs:af} {ws:aj},Vals vs us->Vals zs ws->Vals (gV vs zs) (g us ws)
structure bQ (N P:ag) (sc:Scope):Prop where
 kind:sc.kind=.function
 co:sc.isCoroutine=false
 gen:sc.isGenerator=false
 nd:N.Nodup
 pre:N.take P.length=P
 par:∀x∈P,sc.names.lookup x\.local∨sc.names.lookup x\.cell
 zX:∀y∈sc.names,y.2≠.free
theorem TX{kindOf:Str->Option NameKind}{x:Str}:∀{binds:List (Str × Aa)} {m:Str->Option Aa},(∀v,(x,v)∉binds)->bindL kindOf binds m x=m x
 |[],_,_=>rfl
 |(n,v)::r,m,h=>by
  unfold bindL;rw[TX λw hw=>h w (fo _ hw)];split
  ·have:x≠n:=by rintro rfl;exact h v fY
   simp[this]
  rfl
theorem TL{kindOf:Str->Option NameKind}{x:Str}:∀{binds:List (Str × Aa)} {m:Str->Option Aa},(∀v,(x,v)∉binds)->bindC kindOf binds m x=m x
 |[],_,_=>rfl
 |(n,v)::r,m,h=>by
  unfold bindC;rw[TL λw hw=>h w (fo _ hw)];split
  ·rfl
  have:x≠n:=by rintro rfl;exact h v fY
  simp[this]
theorem TQ{kindOf:Str->Option NameKind}{x:Str}{v:Aa}:∀{P:ag} {vs:aj} {i:Nat} {m:Str->Option Aa},P.Nodup->P[i]? = some x->vs[i]? = some v->kindOf x\.local->
  bindL kindOf (P.zip vs) m x\v
 |[],_,_,_,_,h,_,_=>by simp at h
 |_::_,[],_,_,_,_,h,_=>by simp at h
 |p::P,w::vs,0,m,nd,h1,h2,hk=>by
  simp at h1 h2;subst h1;subst h2;show bindL kindOf ((p,w)::P.zip vs) m p=_;unfold bindL;rw[TX λv hv=>(kU.mp nd).1 (List.of_mem_zip hv).1,aK hk];simp
 |p::P,w::vs,i+1,m,nd,h1,h2,hk=>by
  show bindL kindOf ((p,w)::P.zip vs) m x=_;unfold bindL;exact TQ (i:=i) (kU.mp nd).2 ⇑h1 ⇑h2 hk
theorem T1{kindOf:Str->Option NameKind}{x:Str}{v:Aa}:∀{P:ag} {vs:aj} {i:Nat} {m:Str->Option Aa},P.Nodup->P[i]? = some x->vs[i]? = some v->kindOf x≠some .local->
  bindC kindOf (P.zip vs) m x\v
 |[],_,_,_,_,h,_,_=>by simp at h
 |_::_,[],_,_,_,_,h,_=>by simp at h
 |p::P,w::vs,0,m,nd,h1,h2,hk=>by
  simp at h1 h2;subst h1;subst h2;show bindC kindOf ((p,w)::P.zip vs) m p=_;unfold bindC;rw[TL λv hv=>(kU.mp nd).1 (List.of_mem_zip hv).1,aC hk];simp
 |p::P,w::vs,i+1,m,nd,h1,h2,hk=>by
  show bindC kindOf ((p,w)::P.zip vs) m x=_;unfold bindC;exact T1 (i:=i) (kU.mp nd).2 ⇑h1 ⇑h2 hk
def start(N:ag)(vs:af):St:=vs.map some++List.replicate (N.length - vs.length) none
def i6(CX:vk)(P:Ad)(w:Af)(K:ai)(mg:Str->Option Aa)(base:Heap)(N:ag)(qual:Str)(scope:Scope)(f:Addr)(cd:Aa)(A:Ag)(outer:List Env)(s:Ab)(H:Hp)(E:XK):Cx where
 prog:=P
 w:=w
 K:=K
 mg:=mg
 base:=base
 A:=A.deeper (envOfC qual scope s.heap.objs.size f cd)
 N:=N
 di:=s
 kq:=H
 env:=envOfC qual scope s.heap.objs.size f cd
 outer:=outer
 stack:=envOfC qual scope s.heap.objs.size f cd::outer
 ex:=[]
 calm:=true
 fn:=λ_=>true
 pn:=[]
 xe:=λe s'=>wpAny (model P w) (A.deeper (envOfC qual scope s.heap.objs.size f cd)) (leaving (envOfC qual scope s.heap.objs.size f cd) e) (λ_ pK=>CX outer H s E e pK) (λe' pK=>CX outer H s E e' pK) s'
theorem SJ{sc:Scope}(h:sc.names.lookup x\.cell):∃c,(cellsFrom n sc.names []).lookup x\c:=by
 let q:=PySem.W.cellsFrom_some sc.names n [] (.inl h);exact Option.isSome_iff_exists.mp q
variable{N:ag}{qual:Str}{scope:Scope}
theorem h7_{cd:Aa}{s s1:Ab}{us:aj}(S:bQ N ps scope)(hd:A.handled=none)(e0:iH P w K mg base A outer s H)(hl:vs.length=ps.length)(r:Vals vs us)(x:InCallC s s.heap.objs.size (bindL (envOfC qual scope s.heap.objs.size f cd).kindOf (ps.zip us) λ_=>none) (cellsFrom (s.heap.objs.size+1) scope.names []) (bindC (envOfC qual scope s.heap.objs.size f cd).kindOf (ps.zip us) λ_=>none) s1) :
  Inv (i6 CX P w K mg base N qual scope f cd A outer s H E) [] (start N vs) H s1:=by
 have iY:ps.length<=N.length:=by have:=eW List.length S.pre;rw[dJ] at this;omega
 let#[h1,tk,rfl,hk]:=x.done;have vL:∀b:Addr,b∉(i6 CX P w K mg base N qual scope f cd A outer s H E).ex:=λb z=>absurd (show b∈([]:aw) from z) Y1
 apply#[#[e0.mod,S.kind,U,U,a9 _,λy z c h1 h2=>?_,λy hy=>?_,λy c _ h=>?_,λ_=>hd,Around.frames_deeper e0.frames,.inr #[U,U],λb z=>absurd z (vL b),e0.bs,e0.tU,λb _ _=>vL b,λb z=>absurd z (vL b),e0.fW,e0.wg],
  rfl,e0.bare,Un.kept hk,#[_,x.toInCall.ns,λi y v h1 h2 h3=>?_],λy c h=>#[_,x.cell y c h],e0.aE.fresh (a9 _),λy c h=>?_,λp hp=>absurd (show p∈([]:List (Addr × Obj)) from hp) Y1,e0.aE.kept hk,?_]
 ·exact name_of_addr x.apart (qf h1) (qf h2)
 ·have hy:scope.names.lookup y\.cell∨scope.names.lookup y\.free:=hy;rcases hy with hy|hy
  ·exact SJ hy
  exact absurd U (S.zX _ (qf hy))
 ·exact Nat.le_of_lt (x.above y c (qf h))
 ·have hi:i<vs.length:=by
   unfold start at h2;by_cases hi:i<vs.length
   ·exact hi
   rw[yP ⇑hi] at h2;rw[List.getElem?_replicate] at h2;split at h2<;>cases h2
  have ha:vs[i]? = some v:=by
   unfold start at h2;rw[w4 ⇑hi,de] at h2;cases e:vs[i]? with
   |none=>rw[e] at h2;cases h2
   |some a=>rw[e] at h2;cases h2;rfl
  let#[u,hu,rv]:=r.get ha
  have hp:ps[i]? = some y:=by
   rw[<- S.pre,List.getElem?_take_of_lt Y0];exact h1
  have Ho:ps.Nodup:=by rw[<- S.pre];exact S.nd.sublist (List.take_sublist _ _)
  apply#[u,rv,?_];rcases S.par y (cB hp) with k|k
  ·exact .inl #[k,TQ Ho hp hu k]
  let#[c,e]:=SJ (n:=s.heap.objs.size+1) k;apply .inr #[.inl k,c,e,?_];let q:=x.cell y c e;rw[T1 Ho hp hu (by show scope.names.lookup y≠_;rw[k];decide)] at q;exact q
 ·exact e0.aE.fresh (Nat.le_of_lt (x.above y c (qf h)))
 unfold start;show _=N.length;rw[dM,aq,CQ];omega
theorem QT{name:Str}{params:Arguments}{dV kV doc pm aO ct oc:Aa}{an od:Option Addr}{kE:Array (Option Aa)}(lk:K.lookup f=some #[oc,od,.func (PySem.W.fnOf name qual params body scope dV kV doc pm an aO ct),kE])(iy:PySem.W.codeIn K aO qual=true)(S:bQ N ps scope)(len:∀vs H Q E,sp vs H Q E->vs.length=ps.length)(fU:∀(A:Ag) (outer:List Env) (s:Ab) (H:Hp) (vs:af) (Q:VK) (E:XK),aY k (A.deeper (envOfC qual scope s.heap.objs.size f aO))->sp vs H Q E->
   ∃t,ki (i6 CX P w K mg base N qual scope f aO A outer s H E) body t/\t { nx:=λ_ H'=>Q .non H',rt:=Q } (start N vs) H) :
  ak P w K mg base CX (k+1) f (PySem.W.fnOf name qual params body scope dV kV doc pm an aO ct) ps sp:=by
 apply#[len,λA outer s H args us vs Q E hr e0 hb r kF=>?_];let hl:=len _ _ _ _ kF;have KX:K.In s.heap:=e0.mod.En.keeps λb o e=>(e0.bs b o e).1;have lim:s.heap.NoLimit:=e0.mod.nolimit.keeps λb o e=>(e0.bs b o e).1
 have E2:∀y∈ps.zip us,scope.names.lookup y.1\.local∨(scope.names.lookup y.1\.cell/\((cellsFrom (s.heap.objs.size+1) scope.names []).lookup y.1).isSome=true):=λ⟨n,v⟩ hy=>by
  rcases S.par n (List.of_mem_zip hy).1 with q|q
  ·exact .inl q
  exact .inr #[q,PySem.W.cellsFrom_some _ _ _ (.inl q)]
 apply codeAny_call_function hr.depth (KX _ _ lk) U S.co S.gen U (PySem.W.codeRec_of KX iy) (hb _ _ _ _ ?_);apply wpAny_newFunctionEnv_cells S.kind E2 λenv he s1 x=>?_;subst he;apply#[lim.keeps x.toInCall.keep,codeAny_func ?_];let#[t,ht,hq]:=fU A outer s H vs Q E (hr.deeper _) kF;have I:Inv (i6 CX P w K mg base N qual scope f aO A outer s H E) [] (start N vs) H s1:=h7_ S hr.hd e0 hl r x;apply wpAny_mono (ht [] s1 (start N vs) H _ I hq) (λfl s' hs=>?_) λe s' hs=>hs
 have fin:∀{bf:St} {H':Hp} {v:V} {u:Aa},Inv (i6 CX P w K mg base N qual scope f aO A outer s H E) [] bf H' s'->RelV v u->Q v H'->CE outer P w H s Q u s':=
  λ{bf H' v u} J rv q=>#[v,H',J.os,J.bare,J.base,J.aE,rv,q]
 cases fl with
 |ret u=>
  let#[v,bf,H',J,rv,q]:=hs;exact fin J rv q
 |next=>
  let#[bf,H',J,q]:=hs;exact fin (v:=V.non) (u:=Value.none) J U q
 |brk=>
  let#[_,_,_,q]:=hs;exact False.elim q
 |cont=>
  let#[_,_,_,q]:=hs;exact False.elim q
def Qa(r:af->Hp->VK->Prop)(t:TA):TE:=λσ H Q=>t σ H λvs H1=>r vs H1 Q
variable{r:af->Hp->VK->Prop}{id:String}
theorem bT(hc:gn X (.builtin id) r)(hg:Gl X x)(hm:X.mg x=none)(hv:bootBuiltins x\.builtin id)(ha:PA X (e::es) t)(hn:x≠"__name__":=by decide)(sZ:(x == ("__debug__":Str))=false:=by decide)
  (he:starEach (e::es) X.env=(false,eval e X.env)::starEach es X.env:=by rfl) (iY:(backTo pos (starEach es X.env)).any (·.1)=false:=by rfl):PE X (.Call (.Name x p) (e::es) [] pos) (Qa r t):=by
 intro pins s σ H Q I h;apply wpAny_Call_Name_kw (wA I hg hm hv ?_ hn sZ);exact PyProof.Rows.callWith_builtin1 (aS (ha pos pins s σ H _ I h) λus s1 ⟨vs,H1,I1,r1,q1⟩=>hc pins s1 σ H1 vs us Q I1 r1 q1) he iY
variable{T:String}
theorem gS(hc:gn X (.type T) r)(hg:Gl X x)(hm:X.mg x=none)(hv:bootBuiltins x\.type T)(ha:PA X (e::es) t)(hn:x≠"__name__":=by decide)(sZ:(x == ("__debug__":Str))=false:=by decide)
  (he:starEach (e::es) X.env=(false,eval e X.env)::starEach es X.env:=by rfl) (iY:(backTo pos (starEach es X.env)).any (·.1)=false:=by rfl):PE X (.Call (.Name x p) (e::es) [] pos) (Qa r t):=by
 intro pins s σ H Q I h;apply wpAny_Call_Name_kw (wA I hg hm hv ?_ hn sZ);exact CF (aS (ha pos pins s σ H _ I h) λus s1 ⟨vs,H1,I1,r1,q1⟩=>hc pins s1 σ H1 vs us Q I1 r1 q1) he iY
end L2
local macro_rules|`(!$f:ident $a*)=>if [`bz,`mQ,`bY,`ak,`ko].contains f.getId then let i:=Lean.mkIdent;`($f $(i `P) $(i `w) $(i `K) $(i `mg) $(i `base) $a*)else Lean.Macro.throwUnsupported
namespace HT
open PySem PyProof.Rows
section
open PySem.SeqAt
open PySem.AutoSeq1 (wpAny_loadPart')
open PySem.MeetsSeq PySem.MeetsSeq2 PySem.MeetsSeq3
end
variable{t:Addr}{E Q:Aa->Ab->Prop}{prog:Ad}{w:Af}{A:Ag}{s:Ab}
theorem wD{b:Addr}{vs ws:aj}(ht:IsTup s.heap t vs.toArray)(hb:IsTup s.heap b ws.toArray)(hv:vs≠[])(h1:ws=[]->Q (.ref t) s)(h2:ws≠[]->Q (.ref s.heap.objs.size) { s with heap:=s.heap.push { cls:=.type "tuple",data:=.seq (vs++ws).toArray } })(hsz:vs.length+ws.length<=sizeLine):wpAny (model prog w) A (binaryOp .Add (.ref t) (.ref b)) Q E s:=by
 let#[#[cls,dd,data,sl],ho,hc,n,hd]:=id ht;let#[#[Oi,Jc,data2,G_],fK,js,n2,hd2]:=id hb;simp only at hc hd js hd2;subst hc hd js hd2;have e:vs.toArray++ws.toArray=(vs++ws).toArray:=by simp
 by_cases hw:ws=[]
 ·exact concat_meets #[_,ho,U] #[_,fK,U] noFill_tuple_add seq_tuple_add PySem.F.slot_tuple_add PySem.F.entry_tuple_add (PySem.F.args_tuple_add_2 _ _)
   (tuple_addW1 t b vs.toArray ws.toArray n n2 dd Jc sl G_ ⇑hv (by simp[hw])) #[ho,fK,h1 hw]
 apply concat_meets #[_,ho,U] #[_,fK,U] noFill_tuple_add seq_tuple_add PySem.F.slot_tuple_add PySem.F.entry_tuple_add (PySem.F.args_tuple_add_2 _ _)
  (tuple_addW2 t b vs.toArray ws.toArray n n2 dd Jc sl G_ ⇑hv ⇑hw (by rw[cY,cY];exact hsz)) #[ho,fK,?_]
 rw[e];exact h2 hw
def bU(n d:Nat):Option Int->Nat
 |none=>d
 |some v=>if v<0 then (v+(n:Int)).toNat else min v.toNat n
theorem eS(n d:Nat):bU n d none=d:=rfl
theorem d6(n d k:Nat):bU n d (some (k:Int))=min k n:=by
 show (if (k:Int)<0 then ((k:Int)+(n:Int)).toNat else min (k:Int).toNat n)=min k n;rw[aC Y0,yR]
theorem Yy(n d:Nat)(hd:d<=n)(o:Option Int):bU n d o<=n:=by
 cases o with
 |none=>exact hd
 |some v=>
  show (if v<0 then (v+(n:Int)).toNat else min v.toNat n)<=n;by_cases hv:v<0
  ·rw[aK hv];omega
  rw[aC hv];exact Nat.min_le_right _ _
theorem RB(v:Int)(n d:Nat):(if v<0 then max (v+(n:Int)) 0 else min v (n:Int))=((bU n d (some v):Nat):Int):=by
 show (if v<0 then max (v+(n:Int)) 0 else min v (n:Int))=(((if v<0 then (v+(n:Int)).toNat else min v.toNat n):Nat):Int);by_cases hv:v<0
 ·simp only[aK hv];omega
 simp only[aC hv];omega
theorem fH_(lo hi:Option Int)(n:Nat):Builtin.Slice.sliceAdjust lo hi 1 (n:Int)=(((bU n 0 lo:Nat):Int),((bU n n hi:Nat):Int)):=by
 have h1:¬((1:Int)<0):=by omega
 unfold Builtin.Slice.sliceAdjust;simp only[h1,if_false];apply Prod.ext ?_ ?_
 ·cases lo with
  |none=>rfl
  |some v=>exact RB v n 0
 cases hi with
 |none=>rfl
 |some v=>exact RB v n n
theorem fD_(i j:Nat):Builtin.Slice.slicePlaces (i:Int) (j:Int) 1=j - i:=by
 unfold Builtin.Slice.slicePlaces;have h1:(1:Int) > 0:=by omega
 simp only[h1,if_true,Int.ediv_one];split<;>omega
theorem Ur{v:Aa}{o:Option Int}{Q:Option Int->Ab->Prop}(p:IsPart v o)(h:Q o s):wpAny (model prog w) A (Builtin.Slice.slicePartIndex v) Q E s:=by
 cases p with
 |none=>exact slicePart_none h
 |int i t=>exact slicePart_int h
variable{sl:Addr}{vl vu:Aa}{hi lo:Option Int}
theorem U6{n:Nat}{Q:Int × Int × Nat->Ab->Prop}(hs:s.heap.IsSliceOf sl vl vu .none)(pl:IsPart vl lo)(pu:IsPart vu hi)(h:Q (((bU n 0 lo:Nat):Int),1,bU n n hi - bU n 0 lo) s):wpAny (model prog w) A (Builtin.Slice.sliceApplied (.ref sl) (pure (n:Int))) Q E s:=by
 let#[os,AA,Ie,AN]:=id hs;unfold Builtin.Slice.sliceApplied Builtin.Slice.sliceFields;apply ae (ae (hJ AA AN (x:=vl) U (ae (hJ AA AN (x:=vu) U (ae (hJ AA AN (x:=.none) U (aH ?_)))))));apply ae (slicePart_none ?_);show wpAny _ _ (if ((1:Int) == 0)=true then _ else _) _ _ s;rw[aC (by decide)];apply ae (Ur pl (ae (Ur pu (ae (aH ?_)))));show wpAny _ _ (match Builtin.Slice.sliceAdjust lo hi 1 (n:Int) with|(lo,hi)=>pure (lo,(1:Int),Builtin.Slice.slicePlaces lo hi 1)) _ _ s;rw[fH_ lo hi n];show wpAny _ _ (pure (((bU n 0 lo:Nat):Int),(1:Int),Builtin.Slice.slicePlaces ((bU n 0 lo:Nat):Int) ((bU n n hi:Nat):Int) 1)) _ _ s;rw[fD_];exact aH h
theorem _H(xs:Array Aa)(i k:Nat):((List.range k).filterMap λ(m:Nat)=>xs[((i:Int)+(m:Int) * 1).toNat]?).toArray=((xs.toList.drop i).take k).toArray:=by
 have e:(λ(m:Nat)=>xs[((i:Int)+(m:Int) * 1).toNat]?)=λm=>xs[i+m]?:=by
  funext m
  have:((i:Int)+(m:Int) * 1).toNat=i+m:=by omega
  rw[this]
 rw[e];have:=pick_run xs i k;rw[List.filterMap_map] at this;have e2:((λx=>xs[x]?) ∘ λx=>i+x)=λm=>xs[i+m]?:=rfl;rw[e2] at this;rw[this]
theorem fV{items:Array Aa}(ht:IsTup s.heap t items)(hs:s.heap.IsSliceOf sl vl vu .none)(pl:IsPart vl lo)(pu:IsPart vu hi)(hw:¬(bU items.size 0 lo=0/\bU items.size items.size hi=items.size))(h:Q (.ref s.heap.objs.size) { s with heap:=s.heap.push { cls:=.type "tuple",data:=.seq ((items.toList.drop (bU items.size 0 lo)).take (bU items.size items.size hi - bU items.size 0 lo)).toArray } })(hsz:items.size<=sizeLine):wpAny (model prog w) A (getItem (.ref t) (.ref sl)) Q E s:=by
 have n0:sizeOk (.seq ((items.toList.drop (bU items.size 0 lo)).take (bU items.size items.size hi - bU items.size 0 lo)).toArray):=by
  show ((items.toList.drop (bU items.size 0 lo)).take (bU items.size items.size hi - bU items.size 0 lo)).toArray.size<=sizeLine;rw[cY,dJ,wX,ud];omega
 have hj:bU items.size items.size hi<=items.size:=Yy _ _ (a9 _) hi;let#[os,AA,Ie,AN]:=id hs;have Fk:s.TypeIs (.ref sl) "slice":=#[os,AA,Ie];unfold getItem
 try with_reducible apply gR ?_
 first|refine ae (aH ?_)|skip
 apply ae (wpAny_sequenceKey ht.typeIs (by decide) ?_)
 apply ae (wG (name:=Str.ofString "__getitem__") ht.typeIs PyProof.Rows.slot_tuple_getitem
  (tQ PyProof.Rows.slot_tuple_getitem ht.typeIs entry_tuple_getitem ?_ (args_tuple_getitem _ _)))
 show wpAny _ _ (Builtin.Tuple.tupleItemsOf (.ref t) >>= _) _ _ s;apply ae (tupleItemsOf_ ht ?_);apply ae (wpAny_typeOf Fk ?_);rw[aK (by decide)];apply ae (U6 hs pl pu ?_)
 have kI:¬((((bU items.size 0 lo:Nat):Int) == 0&&(1:Int) == 1&&(bU items.size items.size hi - bU items.size 0 lo) == items.size)=true):=by
  intro q;rw[yQ,yQ] at q;have q1:((bU items.size 0 lo:Nat):Int)=0:=eq_of_beq q.1.1;have q2:bU items.size items.size hi - bU items.size 0 lo=items.size:=eq_of_beq q.2;exact hw #[by omega,by omega]
 show wpAny _ _ (if (((bU items.size 0 lo:Nat):Int) == 0&&(1:Int) == 1&&(bU items.size items.size hi - bU items.size 0 lo) == items.size)=true then _ else _) _ _ s;rw[aC kI,_H]
 first
  |exact ae (m:=Builtin.Tuple.tupleExact _) (qb (aH ⟨_,rfl,aH h⟩) n0)
  |exact ae (m:=Builtin.Tuple.tupleExact _) (qb (ae (aH (aH ⟨_,rfl,aH h⟩))) n0)
  |exact ae (ae (m:=Builtin.Tuple.tupleExact _) (qb (aH (aH ⟨_,rfl,aH h⟩)) n0))
  |exact ae (ae (m:=Builtin.Tuple.tupleExact _) (qb (aH ⟨_,rfl,aH h⟩) n0))
end HT
namespace L2
open PySem PySem.Spec PyProof.Rows
abbrev TO:=St->Hp->(Option Int->Hp->Prop)->Prop
def PO(X:Cx)(e:Option Expr)(t:TO):Prop:=
 ∀(pins:List (Addr × Obj)) (s:Ab) (σ:St) (H:Hp) (Q:Option Int->Hp->Prop),Inv X pins σ H s->t σ H Q->
  wpAny (model X.prog X.w) X.A (evalPart e X.env) (λu s'=>∃o H',Inv X pins σ H' s'/\IsPart u o/\Q o H') X.xe s
def JB:TO:=λ_ H Q=>Q none H
inductive qE (Q:Option Int->Hp->Prop) (x:V) (H1:Hp):Prop
 |mk:∀i,x=.int i->Q (some i) H1->qE Q x H1
def yr(t:TE):TO:=λσ H Q=>t σ H λx H1=>qE Q x H1
section
variable{X:Cx}{e:Expr}{te:TE}{lo hi:Option Expr}{tl th:TO}{pos p2:Pos}
theorem jd:PO X none JB:=by
 intro pins s σ H Q I h;rw[evalPart_none];exact aH #[none,H,I,.none,h]
theorem jc(h:PE X e te):PO X (some e) (yr te):=by
 intro pins s σ H Q I hw;rw[evalPart_some];apply aS (h pins s σ H _ I hw) λu s1 ⟨x,H1,I1,r1,q1⟩=>?_;let#[i,rfl,q]:=q1;let#[t,rfl]:=r1;exact#[some i,H1,I1,.int i t,q]
def JT(X:Cx)(r:V->Option Int->Option Int->Hp->VK->Prop):Prop:=
 ∀(pins:List (Addr × Obj)) (s:Ab) (σ:St) (H:Hp) (x:V) (v vl vu:Aa) (lo hi:Option Int) (sl:Addr) (Q:VK),Inv X pins σ H s->RelV x v->s.heap.IsSliceOf sl vl vu .none->IsPart vl lo->IsPart vu hi->r x lo hi H Q->
  ∃T id,typeLookup (.type T) "__getitem__"=pure (some (.builtin id))/\s.TypeIs v T/\wpAny (model X.prog X.w) X.A (getItem v (.ref sl)) (EP X pins σ Q) X.xe s
def Dg(r:V->Option Int->Option Int->Hp->VK->Prop)(te:TE)(tl th:TO):TE:=λσ H Q=>te σ H λx H1=>tl σ H1 λl H2=>th σ H2 λu H3=>r x l u H3 Q
theorem jf{r:V->Option Int->Option Int->Hp->VK->Prop}(hr:JT X r)(he:PE X e te)(hl:PO X lo tl)(hu:PO X hi th):PE X (.Subscript e (.Slice lo hi none p2) pos) (Dg r te tl th):=by
 intro pins s σ H Q I h;apply Subscript_ (aS (he pins s σ H _ I h) λv s1 ⟨x,H1,I1,r1,q1⟩=>?_);apply wpAny_Slice (aS (hl pins s1 σ H1 _ I1 q1) λvl s2 ⟨l,H2,I2,pl,q2⟩=>aS (hu pins s2 σ H2 _ I2 q2) λvu s3 ⟨u,H3,I3,pu,q3⟩=>?_);rw[evalPart_none];apply aH ?_;have I4:Inv X pins σ H3 { s3 with heap:=s3.heap.push { cls:=.type "slice",data:=.fields (List.toArray [vl,vu,.none]) } }:=I3.kept (t':=s3.toks) λb ob q=>bo _ q;let#[T,id,hT,ht,hg]:=hr pins { s3 with heap:=s3.heap.push { cls:=.type "slice",data:=.fields (List.toArray [vl,vu,.none]) } } σ H3 x v vl vu l u s3.heap.objs.size Q I4 r1 (Heap.IsSliceOf.new ..) pl pu q3;show wpAny (model X.prog X.w) X.A (subscriptTail e (.Slice lo hi none p2) v (.ref s3.heap.objs.size)) (EP X pins σ Q) X.xe { s3 with heap:=s3.heap.push { cls:=.type "slice",data:=.fields (List.toArray [vl,vu,.none]) } };exact tail_any (ops:=[.ref s3.heap.objs.size,v]) ht hT hg (by with_unfolding_all rfl)
def cq(xs:af)(lo hi:Option Int):af:=(xs.drop (HT.bU xs.length 0 lo)).take (HT.bU xs.length xs.length hi - HT.bU xs.length 0 lo)
theorem Gy(xs:af)(lo hi:Option Int):(cq xs lo hi).length<=xs.length:=by
 unfold cq;rw[dJ,wX];omega
inductive DO (K:ai) (x:V) (lo:Option Int) (hi:Option Int) (H:Hp) (Q:VK):Prop
 |mk:∀a xs,x=.ref a->fH K H a xs->¬(HT.bU xs.length 0 lo=0/\HT.bU xs.length xs.length hi=xs.length)->(∀p,H p=none->Q (.ref p) (upd H p (.tup (cq xs lo hi))))->DO K x lo hi H Q
theorem FF:JT X (DO X.K):=by
 intro pins s σ H x v vl vu lo hi sl Q I rx hs pl pu h;let#[a,xs,rfl,hx,hw,q]:=h;cases rx;let#[its,r,ht,hz]:=I.tuple hx;have hlen:its.toArray.size=xs.length:=by rw[cY];exact r.length.symm
 apply⟨"tuple",_,PyProof.Rows.slot_tuple_getitem.lookup,ht.typeIs,?_⟩;apply HT.fV ht hs pl pu (by rw[hlen];exact hw) ?_ (by rw[hlen];exact hz);rw[hlen];apply⟨.ref s.heap.objs.size,_,I.laid (t':=s.toks) (o:=.tup (cq xs lo hi)) (λb ob q=>bo _ q) (a9 _) ?_,rfl,q _ (I.aE.fresh (a9 _))⟩;exact⟨ic (Gy xs lo hi) hz,_,(r.drop (HT.bU xs.length 0 lo)).take (HT.bU xs.length xs.length hi - HT.bU xs.length 0 lo),IsTup.new _ _,_,dj _ rfl,rfl⟩
theorem Vals.nR{xs:af}{us:aj}(r:Vals xs us):us=[] ↔ xs=[]:=by
 cases r with
 |nil=>simp
 |cons _ _=>simp
end
def vR(n:Nat)(i:Int):Option Nat:=if 0<=i then (if i<n then some i.toNat else none) else if -(n:Int)<=i then some (i+n).toNat else none
def ib{α:Type}(xs:List α)(i:Int):Option α:=(vR xs.length i).bind λj=>xs[j]?
variable{j n:Nat}
theorem Sz{i:Int}(h:vR n i\j):seqIndex? i n\j/\j<n/\-(n:Int)<=i/\i<n:=by
 unfold vR at h;by_cases h0:0<=i
 ·rw[aK h0] at h;by_cases h1:i<n
  ·rw[aK h1] at h;have e:i.toNat=j:=dN h;exact#[by rw[seqIndex_of h0 h1,e],by omega,by omega,h1]
  rw[aC h1] at h;cases h
 rw[aC h0] at h;by_cases h1:-(n:Int)<=i
 ·rw[aK h1] at h;have e:(i+n).toNat=j:=dN h;exact#[by rw[seqIndex_neg Y0 h1,e],by omega,h1,by omega]
 rw[aC h1] at h;cases h
theorem M6{α:Type}{xs:List α}{i:Int}{v:α}(h:ib xs i\v):∃j,seqIndex? i xs.length\j/\xs[j]? = some v/\j<xs.length/\-(xs.length:Int)<=i/\i<xs.length:=by
 unfold ib at h;cases e:vR xs.length i with
 |none=>rw[e] at h;cases h
 |some j=>
  rw[e] at h;let#[h1,h2,h3,h4]:=Sz e;exact#[j,h1,h,h2,h3,h4]
theorem cZ{α:Type}{xs:List α}{v:α}(h:xs[j]? = some v):ib xs (j:Int)\v:=by
 have hj:j<xs.length:=(cu.mp h).1
 have e:vR xs.length (j:Int)\j:=by
  unfold vR;rw[aK Y0,aK Y0];simp
 unfold ib;rw[e];exact h
def w9(b:Expr):Prop:=∀o i,subscripted b false o i=operate [o,i] (getItem o i)
def CS(X:Cx)(r:R2):Prop:=
 ∀(value slice:Expr) (pins:List (Addr × Obj)) (s:Ab) (σ:St) (H:Hp) (x y:V) (v u:Aa) (Q:VK),Inv X pins σ H s->RelV x v->RelV y u->r x y H Q->
  subscripted slice false v u=operate [v,u] (getItem v u)->wpAny (model X.prog X.w) X.A (subscriptTail value slice v u) (EP X pins σ Q) X.xe s
def MtR(X:Cx)(id:String)(r:V->af->Hp->VK->Prop):Prop:=
 ∀(pins:List (Addr × Obj)) (s:Ab) (σ:St) (H:Hp) (x:V) (xs:af) (v:Aa) (us:aj) (Q:VK),Inv X pins σ H s->RelV x v->Vals xs us->r x xs H Q->
  wpAny (model X.prog X.w) X.A (call (.builtin id) (v::us)) (EP X pins σ Q) X.xe s
variable{pins:List (Addr × Obj)}{σ:St}{s:Ab}{its its':aj}
variable{A:Ag}{u:Aa}
variable{T:String}
section
variable{X:Cx}{a b:Expr}{ta tb:TE}{pos:Pos}
theorem bg{r:R2}(hr:CS X r)(ha:PE X a ta)(hb:PE X b tb)(hs:w9 b:=by exact λ_ _=>rfl):PE X (.Subscript a b pos) (mU r ta tb):=by
 intro pins s σ H Q I h;exact Subscript_ (By ha hb I h λv u s2 x y H2 I2 rx ry q=>hr a b pins s2 σ H2 x y v u Q I2 rx ry q (hs _ _))
inductive vH (K:ai) (x:V) (y:V) (H:Hp) (Q:VK):Prop
 |mk:∀p xs i v,x=.ref p->y=.int i->d5 K H p xs->ib xs i\v->Q v H->vH K x y H Q
inductive jE (K:ai) (x:V) (y:V) (H:Hp) (Q:VK):Prop
 |mk:∀p xs i v,x=.ref p->y=.int i->fH K H p xs->ib xs i\v->Q v H->jE K x y H Q
inductive DQ (x:V) (y:V) (H:Hp) (Q:VK):Prop
 |mk:∀z i c,x=.str z->y=.int i->z.length<=sizeLine->ib z.cps.toList i\c->Q (.str ⟨(List.toArray [c])⟩) H->DQ x y H Q
theorem fX:CS X (vH X.K):=by
 intro value slice pins s σ H x y v u Q I rx ry h hs;let#[p,xs,i,z,rfl,rfl,hq,he,q]:=h;cases rx;let#[t,rfl]:=ry;let#[its,r,pl,hz]:=I.list hq;let#[j,h1,h2,h3,h4,h5]:=M6 he;let#[w,ew,iR]:=r.get h2;let hl:=r.length;let hn:=gg;have fin:EP X pins σ Q w s:=⟨z,H,I,iR,q⟩;by_cases h0:0<=i
 ·have hj:i.toNat=j:=by
   rw[seqIndex_of h0 h5] at h1;exact dN h1
  exact item_listR pl.isList h0 Y0 (by rw[hj];simpa using ew) fin hs
 have hj:(i+(its.toArray.size:Int)).toNat=j:=by
  rw[seqIndex_neg Y0 h4] at h1;rw[cY,<- hl];exact dN h1
 exact subscriptTail_builtinR (x:=w) pl.isList.typeIs slot_list_getitem.lookup
  (wpAny_getItem_list_neg (Q:=λr s'=>r=w/\EP X pins σ Q r s') pl.isList Y0 (by rw[cY]<;>omega) Y0 (by rw[hj];simpa using ew) ⟨rfl,fin⟩) hs
theorem cj:CS X (jE X.K):=by
 intro value slice pins s σ H x y v u Q I rx ry h hs;let#[p,xs,i,z,rfl,rfl,hq,he,q]:=h;cases rx;let#[t,rfl]:=ry;let#[its,r,pl,hz]:=I.tuple hq;let#[j,h1,h2,h3,h4,h5]:=M6 he;let#[w,ew,iR]:=r.get h2;let hl:=r.length;let hn:=gg;have fin:EP X pins σ Q w s:=⟨z,H,I,iR,q⟩
 exact subscriptTail_builtinR (x:=w) pl.typeIs slot_tuple_getitem.lookup
  (getItem_tuple (j:=j) (Q:=λr s'=>r=w/\EP X pins σ Q r s') pl Y0 Y0 (by rw[cY,<- hl];exact h1) ⇑ew ⟨rfl,fin⟩) hs
theorem YL:CS X DQ:=by
 intro value slice pins s σ H x y v u Q I rx ry h hs;let#[z,i,c,rfl,rfl,hz,he,q]:=h;let#[t,rfl]:=rx;let#[t',rfl]:=ry;let#[j,h1,h2,h3,h4,h5]:=M6 he;have hl:z.cps.toList.length=z.length:=by simp[Str.length]
 rw[hl] at h1 h4 h5;let hn:=gg
 exact tail_any (typeIs_str s z t) slot_str_getitem.lookup (getItem_str (c:=c) (by
  have e1:decide (i < -(2 ^ 63:Int))=false:=fO Y0;have e2:decide (i ≥ 2 ^ 63)=false:=fO Y0;rw[e1,e2,Bool.or_false]) (by rw[h1];simpa using h2) ⟨.str ⟨(List.toArray [c])⟩,H,I.tok _,⟨_,rfl⟩,q⟩) hs
theorem fZ_(its:aj)(n j:Nat)(u:Aa):Obj.mapSeq (·.setIfInBounds j u) { cls:=.type "list",data:=.seq its.toArray n }={ cls:=.type "list",data:=.seq (its.set j u).toArray n }:=by
 simp[Obj.mapSeq]
theorem Inv.lst{pins:List (Addr × Obj)}{σ:St}{H:Hp}{s:Ab}{p:Addr}{xs:af}(I:Inv X pins σ H s)(h:H p\.lst xs) :
  ∃(its:aj) (n:Nat),Vals xs its/\s.heap.get? p=some { cls:=.type "list",data:=.seq its.toArray n }/\xs.length<=sizeLine:=by
 let#[z,its,n,r,e]:=I.aE p _ h;exact⟨its,n,r,e,z⟩
theorem Inv.Aj{H:Hp}{p:Addr}{xs ys:af}{n':Nat}{f:Obj->Obj}(I:Inv X pins σ H s)(h:H p\.lst xs)(ho:s.heap.get? p=some { cls:=.type "list",data:=.seq its.toArray n })(hf:f { cls:=.type "list",data:=.seq its.toArray n }={ cls:=.type "list",data:=.seq its'.toArray n' })(r:Vals ys its')(hz:ys.length<=sizeLine)(t:Nat) :
  Inv X pins σ (upd H p (.lst ys)) { s with heap:=s.heap.update p f,toks:=t }:=by
 have e:(s.heap.update p f).get? p=some { cls:=.type "list",data:=.seq its'.toArray n' }:=by
  rw[Heap.get?_update_self f ho (by rw[hf]<;>rfl),hf]
 apply I.write (x:=p) (e:=p) (by rw[h];trivial) (.inl rfl) (λb u hb q=>(u5 _ _ (dI hb)).trans q) ⟨_,e⟩ ?_;exact⟨hz,its',n',r,e⟩
inductive xH (o:V) (i:V) (v:V) (H:Hp) (Q:Hp->Prop):Prop
 |mk:∀p xs k j,o=.ref p->i=.int k->H p\.lst xs->vR xs.length k\j->Q (upd H p (.lst (xs.set j v)))->xH o i v H Q
theorem Tj:GL X xH:=by
 intro pins s σ H o i v ov iv u Q I ro ri rv h;let#[p,xs,k,j,rfl,rfl,hp,hj,q]:=h;cases ro;let#[t,rfl]:=ri;let#[its,n,r,ho,hz]:=I.lst hp;let#[h1,h2,h3,h4]:=Sz hj;let hl:=r.length;let hn:=gg
 have I':Inv X pins σ (upd H p (.lst (xs.set j v))) { s with heap:=s.heap.update p (Obj.mapSeq (·.setIfInBounds j u)) }:=
  I.Aj hp ho (fZ_ its n j u) (r.set rv j) (by rw[List.length_set];exact hz) s.toks
 by_cases h0:0<=k
 ·have hk:k.toNat=j:=by
   rw[seqIndex_of h0 h4] at h1;exact dN h1
  exact PySem.W.ki_setAt ho h0 Y0 (by rw[cY,<- hl];exact h4) (by rw[hk];exact⟨_,I',q⟩)
 have hk:(k+(its.toArray.size:Int)).toNat=j:=by
  rw[seqIndex_neg Y0 h3] at h1;rw[cY,<- hl];exact dN h1
 exact PySem.W.ki_setBack ho Y0 (by rw[cY,<- hl];exact h3) Y0 (by rw[hk];exact⟨_,I',q⟩)
theorem em_(lo hi:Option Int)(n:Nat):(sliceBounds lo hi none n).1=((HT.bU n 0 lo:Nat):Int)/\(sliceBounds lo hi none n).2.1=((HT.bU n n hi:Nat):Int)/\(sliceBounds lo hi none n).2.2=1:=by
 apply⟨?_,?_,rfl⟩
 ·cases lo with
  |none=>simp[sliceBounds,HT.bU]
  |some i=>
   simp only[sliceBounds,HT.bU,Option.getD_none,show (1:Int) > 0 by decide,if_true];by_cases h:i<0
   ·simp only[h,if_true]<;>omega
   simp only[h,if_false]<;>omega
 cases hi with
 |none=>simp[sliceBounds,HT.bU]
 |some i=>
  simp only[sliceBounds,HT.bU,Option.getD_none,show (1:Int) > 0 by decide,if_true];by_cases h:i<0
  ·simp only[h,if_true]<;>omega
  simp only[h,if_false]<;>omega
theorem dV_(its:aj)(lo hi:Option Int):slicePick its.toArray lo hi none=((its.drop (HT.bU its.length 0 lo)).take (HT.bU its.length its.length hi - HT.bU its.length 0 lo)).toArray:=by
 let#[h1,h2,h3]:=em_ lo hi its.toArray.size;unfold slicePick;rw[h1,h2,h3];simp only[sliceRange_one,pick_run,cY]<;>rfl
inductive se (K:ai) (x:V) (lo:Option Int) (hi:Option Int) (H:Hp) (Q:VK):Prop
 |mk:∀a xs,x=.ref a->d5 K H a xs->(∀p,H p=none->Q (.ref p) (upd H p (.lst (cq xs lo hi))))->se K x lo hi H Q
theorem tW:JT X (se X.K):=by
 intro pins s σ H x v vl vu lo hi sl Q I rx hs pl pu h;let#[a,xs,rfl,hx,q]:=h;cases rx;let#[its,r,ht,hz]:=I.list hx;let hlen:=r.length;apply⟨"list",_,slot_list_getitem.lookup,ht.isList.typeIs,?_⟩;apply wpAny_getItem_list_slice ht.isList hs pl pu .none Y1 ?_ (by rw[cY]<;>omega)
 rw[dV_,<- hlen];apply⟨.ref s.heap.objs.size,_,I.laid (t':=s.toks) (o:=.lst (cq xs lo hi)) (λb ob q=>bo _ q) (a9 _) ?_,rfl,q _ (I.aE.fresh (a9 _))⟩;exact⟨ic (Gy xs lo hi) hz,_,0,(r.drop (HT.bU xs.length 0 lo)).take (HT.bU xs.length xs.length hi - HT.bU xs.length 0 lo),dj _ rfl⟩
def p7:V->Bool
 |.non=>true
 |.bl _=>true
 |.int _=>true
 |.str _=>true
 |_=>false
def pe:V->V->Bool
 |.non,.non=>true
 |.bl a,.bl b=>a == b
 |.bl a,.int b=>(if a then 1 else 0) == b
 |.int a,.bl b=>a == (if b then 1 else 0)
 |.int a,.int b=>a == b
 |.str a,.str b=>a == b
 |_,_=>false
theorem yE{y x:V}{v:Aa}(ry:RelV y u)(rx:RelV x v)(fy:p7 y=true)(fx:p7 x=true):SeqAt.EqAt A s u v (pe y x):=by
 cases y with
 |non=>
  cases ry;cases x with
  |non=>cases rx;exact SeqAt.EqAt.same _
  |bl b=>cases rx;exact SeqAt.EqAt.none_bool b
  |int b=>let#[t,rfl]:=rx;exact SeqAt.EqAt.none_int b t
  |str b=>let#[t,rfl]:=rx;exact SeqAt.EqAt.none_str b t
  |_=>exact absurd (show false=true from fx) gr
 |bl a=>
  cases ry;cases x with
  |non=>cases rx;exact SeqAt.EqAt.bool_none a
  |bl b=>cases rx;exact SeqAt.EqAt.bool_bool a b
  |int b=>let#[t,rfl]:=rx;exact SeqAt.EqAt.bool_int a b t
  |str b=>let#[t,rfl]:=rx;exact SeqAt.EqAt.bool_str a b t
  |_=>exact absurd (show false=true from fx) gr
 |int a=>
  let#[t',rfl]:=ry;cases x with
  |non=>cases rx;exact SeqAt.EqAt.int_none a t'
  |bl b=>cases rx;exact SeqAt.EqAt.int_bool a t' b
  |int b=>let#[t,rfl]:=rx;exact SeqAt.EqAt.int_int a t' b t
  |str b=>let#[t,rfl]:=rx;exact SeqAt.EqAt.int_str a t' b t
  |_=>exact absurd (show false=true from fx) gr
 |str a=>
  let#[t',rfl]:=ry;cases x with
  |non=>cases rx;exact SeqAt.EqAt.str_none a t'
  |bl b=>cases rx;exact SeqAt.EqAt.str_bool a t' b
  |int b=>let#[t,rfl]:=rx;exact SeqAt.EqAt.str_int a t' b t
  |str b=>let#[t,rfl]:=rx;exact SeqAt.EqAt.str_str a t' b t
  |_=>exact absurd (show false=true from fx) gr
 |_=>exact absurd (show false=true from fy) gr
def wm(x:V)(u:Aa):Bool:=match u with
 |.none=>pe .non x
 |.bool b=>pe (.bl b) x
 |.int i _=>pe (.int i) x
 |.str z _=>pe (.str z) x
 |_=>false
theorem Rm{x y:V}(r:RelV y u)(f:p7 y=true):wm x u=pe y x:=by
 cases y with
 |non=>cases r;rfl
 |bl b=>cases r;rfl
 |int i=>let#[t,rfl]:=r;rfl
 |str z=>let#[t,rfl]:=r;rfl
 |_=>exact absurd (show false=true from f) gr
theorem M5{x:V}:∀{xs:af} {us:aj},Vals xs us->xs.all p7=true->us.any (wm x)=xs.any λy=>pe y x
 |_,_,.nil,_=>rfl
 |y::xs,u::us,.cons r t,f=>by
  rw[List.all_cons,yQ] at f;rw[List.any_cons,List.any_cons,Rm r f.1,M5 t f.2]
theorem NR{A:Ag}{s:Ab}{x:V}{v:Aa}(rx:RelV x v)(fx:p7 x=true):∀{xs:af} {us:aj},Vals xs us->xs.all p7=true->∀u∈us,SeqAt.EqAt A s u v (wm x u)
 |_,_,.nil,_=>λu hu=>by cases hu
 |y::xs,u::us,.cons r t,f=>λu' hu=>by
  rw[List.all_cons,yQ] at f;rcases cg.mp hu with rfl|hu
  ·rw[Rm r f.1];exact yE r rx f.1 fx
  exact NR rx fx t f.2 u' hu
def HN(x:V)(xs:af):Bool:=xs.any λy=>pe y x
inductive KJ (K:ai) (neg:Bool) (x:V) (y:V) (H:Hp) (Q:VK):Prop
 |mk:∀p xs,y=.ref p->(d5 K H p xs∨fH K H p xs)->p7 x=true->xs.all p7=true->Q (.bl (if neg then !HN x xs else HN x xs)) H->KJ K neg x y H Q
theorem eq_:dU X (compareOp .NotIn) (KJ X.K true):=by
 intro pins s σ H x y v u Q I rx ry h;let#[p,xs,rfl,hq,fx,fs,q]:=h;cases ry;rcases hq with hq|hq
 ·let#[its,r,pl,hz]:=I.list hq;apply SeqAt.notIn_listAt (wm x) pl.isList (λw hw=>NR rx fx r fs w ⇑hw) ⟨.bl _,H,I,rfl,?_⟩;rw[show its.toArray.any (wm x)=its.any (wm x) by simp,M5 r fs];exact q
 let#[its,r,pl,hz]:=I.tuple hq;apply SeqAt.notIn_tupleAt (wm x) pl (λw hw=>NR rx fx r fs w ⇑hw) ⟨.bl _,H,I,rfl,?_⟩;rw[show its.toArray.any (wm x)=its.any (wm x) by simp,M5 r fs];exact q
inductive Pi (K:ai) (xs:af) (H:Hp) (Q:VK):Prop
 |mk:∀p ys,xs=[.ref p]->(d5 K H p ys∨fH K H p ys)->Q (.int ys.length) H->Pi K xs H Q
theorem gx:gn X (.builtin "len") (Pi X.K):=by
 intro pins s σ H xs us Q I r h;let#[p,ys,rfl,hq,q]:=h;let#[u,rfl,rx]:=vals1 r;cases rx;let hn:=gg;rcases hq with hq|hq
 ·let#[its,r',pl,hz]:=I.list hq;let hlen:=r'.length;exact Calls.call_len_list pl.isList (by simp only[cY]<;>omega) ⟨.int ys.length,H,I.tok _,⟨s.toks+1,by rw[cY,hlen]⟩,q⟩
 let#[its,r',pl,hz]:=I.tuple hq;let hlen:=r'.length;exact len_tuple pl (by simp only[cY]<;>omega) ⟨.int ys.length,H,I.tok _,⟨s.toks+1,by rw[cY,hlen]⟩,q⟩
inductive U8 (xs:af) (H:Hp) (Q:VK):Prop
 |mk:∀z,xs=[.str z]->z.length<=sizeLine->Q (.int z.length) H->U8 xs H Q
theorem ea_:gn X (.builtin "len") U8:=by
 intro pins s σ H xs us Q I r h;let#[z,rfl,hz,q]:=h;let#[u,rfl,t,rfl]:=vals1 r;let hn:=gg;exact len_str Y0 ⟨.int z.length,H,I.tok _,⟨_,rfl⟩,q⟩
inductive U_ (K:ai) (xs:af) (H:Hp) (Q:VK):Prop
 |mk:∀p ys,xs=[.ref p]->(d5 K H p ys∨fH K H p ys)->(∀l,H l=none->Q (.ref l) (upd H l (.lst ys)))->U_ K xs H Q
theorem Pd:gn X (.type "list") (U_ X.K):=by
 intro pins s σ H xs us Q I r h;let#[p,ys,rfl,hq,q]:=h;let#[u,rfl,rx]:=vals1 r;cases rx
 have fin:∀(its:aj),Vals ys its->ys.length<=sizeLine->∀(h':Heap) (c':Nat),(∀b o',s.heap.get? b\o'->h'.get? b\o')->
   h'.get? s.heap.objs.size=some { cls:=.type "list",dict:=none,data:=.seq its.toArray c',slots:=#[] }->EP X pins σ Q (.ref s.heap.objs.size) { s with heap:=h' }:=λits r' hz h' c' kp e=>
  #[.ref s.heap.objs.size,_,I.laid (t':=s.toks) kp (a9 _) (show fj X.prog X.w _ h' _ (.lst ys) from #[hz,its,c',r',e]),U,q _ (I.aE.fresh (a9 _))]
 rcases hq with hq|hq
 ·let#[its,r',pl,hz]:=I.list hq;let hlen:=r'.length;let#[o,ho,hc,n,hd]:=pl.isList;exact call_list_seq p (.inl U) ho hc hd (λh' c' kp e=>fin its r' hz h' c' kp e) (by simp only[cY]<;>omega)
 let#[its,r',pl,hz]:=I.tuple hq;let hlen:=r'.length;let#[o,ho,hc,n,hd]:=pl;exact call_list_seq p (.inr U) ho hc hd (λh' c' kp e=>fin its r' hz h' c' kp e) (by simp only[cY]<;>omega)
inductive U5 (K:ai) (xs:af) (H:Hp) (Q:VK):Prop
 |mk:∀p ys,xs=[.ref p]->((d5 K H p ys/\∀l,H l=none->Q (.ref l) (upd H l (.tup ys)))∨(fH K H p ys/\Q (.ref p) H))->U5 K xs H Q
theorem JI:gn X (.type "tuple") (U5 X.K):=by
 intro pins s σ H xs us Q I r h;let#[p,ys,rfl,h]:=h;let#[u,rfl,rx]:=vals1 r;cases rx;rcases h with⟨hq,q⟩|⟨hq,q⟩
 ·let#[its,r',pl,hz]:=I.list hq;let hlen:=r'.length;apply call_tuple_list pl.isList (λh' kp=>?_) (by simp only[cY]<;>omega)
  have I1:Inv X pins σ H { s with heap:=h' }:=I.kept (t':=s.toks) kp
  have I2:Inv X pins σ (upd H h'.objs.size (.tup ys)) { s with heap:=h'.push { cls:=.type "tuple",data:=.seq its.toArray } }:=
   I1.laid (t':=s.toks) (λb o e=>bo _ e) (a9 _) (show fj X.prog X.w _ _ _ (.tup ys) from ⟨hz,its,r',IsTup.new _ _,_,dj _ rfl,rfl⟩)
  exact⟨.ref h'.objs.size,_,I2,rfl,q _ (I1.aE.fresh (a9 _))⟩
 let#[its,r',pl,hz]:=I.tuple hq;exact call_tuple_same pl ⟨.ref p,H,I,rfl,q⟩
def P5(K:ai)(T:String)(x:V)(H:Hp):Prop:=match x with
 |.str _=>T="str"
 |.int _=>T="int"
 |.ref p=>(T="list"/\∃xs,d5 K H p xs)∨(T="tuple"/\∃o,K.lookup p\o/\o.cls=.type "tuple"/\o.dict=none) ∨
   (T="dict"/\((∃kvs,H p\.dK kvs)∨∃kvs,H p\.dT kvs))∨(T="set"/\∃S n,H p\.set S n)
 |_=>False
theorem Yw{H:Hp}{x:V}{v:Aa}(I:Inv X pins σ H s)(r:RelV x v)(ty:P5 X.K T x H) :
  s.TypeIs v T/\∀a,v=.ref a->∃ob,s.heap.get? a\ob/\ob.dict=none:=by
 cases x with
 |str z=>
  let#[t,rfl]:=r;cases (show T="str" from ty);exact#[typeIs_str s z t,λ_ e=>nomatch e]
 |int i=>
  let#[t,rfl]:=r;cases (show T="int" from ty);exact#[typeIs_int s i t,λ_ e=>nomatch e]
 |ref p=>
  cases r;rcases ty with⟨rfl,xs,hq⟩|⟨rfl,o,hk,hc,hd⟩|⟨rfl,hk⟩|⟨rfl,S,n,hk⟩
  ·let#[its,_,pl,_]:=I.list hq;apply#[pl.isList.typeIs,λa e=>?_];cases e;let#[o,n,e,c,hd,_]:=pl;exact#[o,e,hd]
  ·apply#[#[o,I.gI p o hk,hc],λa e=>?_];cases e;exact#[o,I.gI _ o hk,hd]
  ·have z:∃o,s.heap.get? p\o/\o.ExactDict:=by
    rcases hk with⟨kvs,hk⟩|⟨kvs,hk⟩
    ·let#[_,_,_,_,o,_,_,e,ex,_]:=I.aE p _ hk;exact#[o,e,ex]
    let#[_,_,_,_,o,_,_,e,ex,_]:=I.aE p _ hk;exact#[o,e,ex]
   let#[o,e,ex]:=z;apply#[#[o,e,ex.1],λa e2=>?_];cases e2;exact#[o,e,ex.2.1]
  ·let#[o,_,_,_,e,ex,_]:=I.aE p _ hk;apply#[#[o,e,ex.1],λa e2=>?_];cases e2;exact#[o,e,ex.2.1]
 |_=>exact False.elim ty
def Qd(K:ai)(T:String)(r:V->af->Hp->VK->Prop)(to:TE)(t:TA):TE:=λσ H Q=>to σ H λx H1=>P5 K T x H1/\t σ H1 λxs H2=>r x xs H2 Q
variable{o e:Expr}{es:List Expr}{to:TE}{t:TA}{name:Str}{apos cX:Pos}{T id:String}{r:V->af->Hp->VK->Prop}
theorem kQ(pa:PlainAttrs T)(slot:Slot T name id)(hty:typeOf (.builtin id)=pure (.type "method_descriptor"))(hm:MtR X id r)(ho:PE X o to)(ha:PA X (e::es) t)
  (jQ:attributeBase o name X.env (eval o X.env)=eval o X.env:=by rfl)
  (L9:((backTo cX (starEach (e::es) X.env)).all (λx=>!x.1)&&(backToKw cX (keywordEach [] X.env)).all (λx=>x.1.isSome)
   && decide ((e::es).length+([]:List Keyword).length+(if ([]:List Keyword).isEmpty then 0 else 1)<30))=true:=by rfl)
  (jO:(apos.endLine == cX.line)=true:=by rfl) (hs:starEach (e::es) X.env=(false,eval e X.env)::starEach es X.env:=by rfl) (Az:(backTo cX (starEach es X.env)).any (·.1)=false:=by rfl) :
  PE X (.Call (.Attribute o name apos) (e::es) [] cX) (Qd X.K T r to t):=by
 intro pins s σ H Q I h;apply wpAny_Call_method_late jQ L9 jO U (aS (ho pins s σ H _ I h) λv s1 ⟨x,H1,I1,r1,ty,q1⟩=>?_);let#[h1,h2]:=Yw I1 r1 ty;apply#[T,id,pa,slot,hty,h1,h2,?_];let hA:=ha cX pins s1 σ H1 _ I1 q1;rw[hs] at hA ⊢;apply Calls.callWith_builtin (by show (false || (backTo cX (starEach es X.env)).any (·.1))=false;rw[Az]<;>rfl) (Calls.evalArgs_plain ?_)
 exact aS hA λus s2 ⟨vs,H2,I2,r2,q2⟩=>hm pins s2 σ H2 x vs v us Q I2 r1 r2 q2
end
def PB(X:Cx)(id:String)(r:V->af->Hp->VK->Prop):Prop:=
 ∀(pins:List (Addr × Obj)) (s:Ab) (σ:St) (H:Hp) (x:V) (xs:af) (v:Aa) (us:aj) (Q:VK),Inv X pins σ H s->RelV x v->Vals xs us->r x xs H Q->
  wpAny (model X.prog X.w) X.A (call (.builtin id) (v::us)) (EP X pins σ Q) X.xe s
theorem Vals.one:∀{x:V} {us:aj},Vals [x] us->∃u,us=[u]/\RelV x u
 |_,_,.cons r .nil=>#[_,U,r]
theorem Vals.two:∀{x y:V} {us:aj},Vals [x,y] us->∃u v,us=[u,v]/\RelV x u/\RelV y v
 |_,_,_,.cons r (.cons q .nil)=>#[_,_,U,r,q]
variable{t':Nat}
section
variable{X:Cx}{pins:List (Addr × Obj)}{σ:St}{H:Hp}{s:Ab}{l b:Addr}{xs ys zs:af}
theorem Inv.Ak{f:Array Aa->Array Aa}(I:Inv X pins σ H s)(hH:H l\.lst xs)(e:s.heap.get? l=some { cls:=.type "list",data:=.seq its.toArray n })(hf:f its.toArray=its'.toArray)(hv:Vals ys its')(hz:ys.length<=sizeLine) :
  Inv X pins σ (upd H l (.lst ys)) { s with heap:=s.heap.update l (Obj.mapSeq f),toks:=t' }:=by
 let q:=PySem.IsL.update e f;rw[hf] at q;apply I.write (x:=l) (e:=l) (by rw[hH];exact trivial) (.inl U) (λb' u hb hu=>(u5 s.heap (Obj.mapSeq f) (dI hb)).trans hu) #[_,q] ?_;exact#[hz,its',_,hv,q]
theorem Inv.Al(I:Inv X pins σ H s)(hv:Vals ys its)(hz:ys.length<=sizeLine) :
  Inv X pins σ (upd H s.heap.objs.size (.lst ys)) { s with heap:=s.heap.push { cls:=.type "list",data:=.seq its.toArray },toks:=t' }:=
 I.laid (λ_ _ q=>bo _ q) (a9 _) #[hz,its,0,hv,dj _ U]
theorem Inv.fresh(I:Inv X pins σ H s):H s.heap.objs.size=none:=I.aE.fresh (a9 _)
theorem Inv.jH(I:Inv X pins σ H s)(hH:H l\.lst xs):xs.length<=sizeLine/\∃(its:aj) (n:Nat),Vals xs its/\xs.length=its.length/\s.heap.get? l=some { cls:=.type "list",data:=.seq its.toArray n }:=by
 let#[z,its,n,r,e]:=I.aE l _ hH;exact#[z,its,n,r,r.length,e]
theorem sG(h:n<=sizeLine):Builtin.List.listTooLong n=false:=by
 unfold Builtin.List.listTooLong;exact fO Y0
end
inductive MV (x:V) (vs:af) (H:Hp) (Q:VK):Prop
 |mk:∀l xs y,x=.ref l->vs=[y]->H l\.lst xs->xs.length<sizeLine->Q .non (upd H l (.lst (xs++[y])))->MV x vs H Q
variable{X:Cx}
theorem pG:PB X "list.append" MV:=by
 intro pins s σ H x vs v us Q I rx rv h;let#[l,xs,y,rfl,rfl,hH,hz,q]:=h;cases rx;let#[u,rfl,ru]:=rv.one;let#[z,its,n,r,hl,e]:=I.jH hH;apply call_meets F.slot_list_append ⟨_,e,rfl⟩ F.entry_list_append (F.args_list_append_2 _ _) (PySem.list_append l its.toArray n u (by rw[cY];omega)) ⟨e,?_⟩;apply⟨.non,_,I.Ak (its':=its++[u]) hH e Y1 (r.append (.cons ru .nil)) ?_,rfl,q⟩;rw[dM,oC];omega
inductive nK (x:V) (vs:af) (H:Hp) (Q:VK):Prop
 |mk:∀l b xs zs,x=.ref l->vs=[.ref b]->H l\.lst xs->H b\.lst zs->xs.length+zs.length<=sizeLine->Q .non (upd H l (.lst (xs++zs)))->nK x vs H Q
theorem h6_:PB X "list.extend" nK:=by
 intro pins s σ H x vs v us Q I rx rv h;let#[l,b,xs,zs,rfl,rfl,hH,hB,hz,q]:=h;cases rx;let#[u,rfl,ru]:=rv.one;cases ru;let#[z,its,n,r,hl,e]:=I.jH hH;let#[z2,iw,n2,r2,jq,e2]:=I.jH hB;have hsz:its.toArray.size+iw.toArray.size<=sizeLine:=by rw[cY,cY];omega
 have EU:¬(!its.toArray.isEmpty&&Builtin.List.listTooLong (its.toArray.size+iw.toArray.size))=true:=by
  rw[sG hsz,Bool.and_false];exact gr
 apply call_meets F.slot_list_extend ⟨_,e,rfl⟩ F.entry_list_extend (F.args_list_extend_2 _ _)
  (AutoSeq1.list_extend_list_list_0 l its.toArray n b iw.toArray n2 EU (by rw[cY];omega) Y0) ⟨e,e2,?_⟩
 apply⟨.non,_,I.Ak (its':=its++iw) hH e Y1 (r.append r2) ?_,rfl,q⟩;rw[dM];omega
inductive oS (x:V) (y:V) (H:Hp) (Q:VK):Prop
 |mk:∀l b xs zs,x=.ref l->y=.ref b->H l\.lst xs->H b\.lst zs->xs.length+zs.length<=sizeLine->(∀p,H p=none->Q (.ref p) (upd H p (.lst (xs++zs))))->oS x y H Q
theorem qi:dU X (binaryOp .Add) oS:=by
 intro pins s σ H x y v u Q I rx ry h;let#[l,b,xs,zs,rfl,rfl,hH,hB,hz,q]:=h;cases rx;cases ry;let#[z,its,n,r,hl,e]:=I.jH hH;let#[z2,iw,n2,r2,jq,e2]:=I.jH hB;apply PySem.P.add_list e e2 ?_ (by rw[cY,cY];omega);have ea:its.toArray++iw.toArray=(its++iw).toArray:=by simp
 rw[ea];exact⟨.ref _,_,I.Al (t':=s.toks) (r.append r2) (by rw[dM];omega),rfl,q _ I.fresh⟩
variable{o:aI}
variable{d:V}
section
variable{κ:Type}[DecidableEq κ]
def aZ(kvs:List (κ × V))(k:κ):aI:=(kvs.find? λkv=>decide (kv.1=k)).map (·.2)
def putK(kvs:List (κ × V))(k:κ)(v:V):List (κ × V):=
 if (kvs.any λkv=>decide (kv.1=k))=true then kvs.map (λkv=>if kv.1=k then (kv.1,v) else kv) else kvs++[(k,v)]
theorem yI{p:κ × V}{r:List (κ × V)}{k:κ}(e:p.1=k):aZ (p::r) k\p.2:=by simp[aZ,List.find?_cons,e]
theorem yJ{p:κ × V}{r:List (κ × V)}{k:κ}(e:¬p.1=k):aZ (p::r) k=aZ r k:=by simp[aZ,List.find?_cons,e]
theorem CK(k:κ):∀kvs:List (κ × V),(kvs.any λkv=>decide (kv.1=k))=(aZ kvs k).isSome
 |[]=>rfl
 |p::r=>by
  rw[List.any_cons];by_cases e:p.1=k
  ·simp only[yI e,c_ e,Bool.true_or,Option.isSome_some]
  rw[yJ e,fO e,Bool.false_or];exact CK k r
theorem JP(kvs:List (κ × V))(k:κ)(v:V):(putK kvs k v).length<=kvs.length+1:=by
 unfold putK;split
 ·rw[aq];omega
 rw[dM,jy,List.length_nil];omega
theorem yK{kvs:List (κ × V)}{k:κ}(v:V)(h:aZ kvs k=none):putK kvs k v=kvs++[(k,v)]:=by
 unfold putK;rw[CK,h];exact aC (by decide)
theorem eN.dP{u:Option Aa}(r:eN o u):o.isSome=u.isSome:=by
 cases o with
 |none=>cases u with
  |none=>rfl
  |some _=>exact (show False from r).elim
 |some _=>cases u with
  |none=>exact (show False from r).elim
  |some _=>rfl
theorem eN.getD{u:Option Aa}{d':Aa}(r:eN o u)(rd:RelV d d'):RelV (o.getD d) (u.getD d'):=by
 cases o with
 |none=>cases u with
  |none=>exact rd
  |some _=>exact (show False from r).elim
 |some _=>cases u with
  |none=>exact (show False from r).elim
  |some _=>exact r
theorem KV.val{kvs:List (κ × V)}{vs:List (κ × Aa)}(r:KV kvs vs)(k:κ):eN (aZ kvs k) (valueAt vs k):=by
 unfold KV at r
 induction r with
 |nil=>exact True.intro
 |@cons p q ps qs h t ih=>
  let#[h1,h2]:=h;by_cases e:p.1=k
  ·have e':q.1=k:=h1.symm.trans e;have b:valueAt (q::qs) k\q.2:=by simp[valueAt,List.find?_cons,e']
   rw[yI e,b];exact h2
  have e':¬q.1=k:=λz=>e (h1.trans z);have b:valueAt (q::qs) k=valueAt qs k:=by simp[valueAt,List.find?_cons,e']
  rw[yJ e,b];exact ih
theorem KV.any{kvs:List (κ × V)}{vs:List (κ × Aa)}(r:KV kvs vs)(k:κ):(kvs.any λkv=>decide (kv.1=k))=vs.any λkv=>decide (kv.1=k):=by
 unfold KV at r
 induction r with
 |nil=>rfl
 |cons h t ih=>rw[List.any_cons,List.any_cons,ih,h.1]
theorem KV.zL{kvs:List (κ × V)}{vs:List (κ × Aa)}(r:KV kvs vs)(k:κ){y:V}(ry:RelV y u) :
  KV (kvs.map λkv=>if kv.1=k then (kv.1,y) else kv) (vs.map λkv=>if kv.1=k then (kv.1,u) else kv):=by
 unfold KV at r ⊢
 induction r with
 |nil=>exact .nil
 |@cons p q ps qs h t ih=>
  rw[fE,fE];apply .cons ?_ ih;let#[h1,h2]:=h;by_cases e:p.1=k
  ·rw[aK e,aK (h1.symm.trans e)];exact#[h1,ry]
  rw[aC e,aC (λz=>e (h1.trans z))];exact#[h1,h2]
theorem KV.put{kvs:List (κ × V)}{vs:List (κ × Aa)}(r:KV kvs vs)(k:κ){y:V}(ry:RelV y u):KV (putK kvs k y) (stored vs k u):=by
 unfold putK stored;rw[r.any k];by_cases e:(vs.any λkv=>decide (kv.1=k))=true
 ·rw[aK e,aK e];exact r.zL k ry
 rw[aC e,aC e];exact Paired.snoc r #[U,ry]
theorem KV.keys{kvs:List (κ × V)}{vs:List (κ × Aa)}(r:KV kvs vs):kvs.map (·.1)=vs.map (·.1):=by
 unfold KV at r
 induction r with
 |nil=>rfl
 |cons h t ih=>rw[fE,fE,ih,h.1]
theorem KV.length{kvs:List (κ × V)}{vs:List (κ × Aa)}(r:KV kvs vs):kvs.length=vs.length:=bI r
end
variable{P:Ad}{w:Af}
theorem wz{k:Key}(r:RelV (kV k) u):(dZ P w).is k u=true:=by
 cases k with
 |inl i=>let#[t,e]:=(show ∃t,u=Value.int i t from r);subst e;exact eQ_ P w i t
 |inr x=>let#[t,e]:=(show ∃t,u=Value.str x t from r);subst e;exact eJ_ P w x t
theorem Tr{P:Ad}{w:Af}:∀{ks:aD} {us:aj},Vals (ks.map kV) us->ItemsAre (dZ P w) ks us
 |[],_,r=>by rw[List.map_nil] at r;cases r;exact .nil
 |k::ks,_,r=>by
  rw[fE] at r;cases r with
  |cons h t=>exact .cons (wz h) (Tr t)
abbrev KT(H:Hp):List (aD × V)->List (aD × Addr × Aa)->Prop:=Paired λp q=>p.1=q.1/\H q.2.1\.tup (p.1.map kV)/\RelV p.2 q.2.2
variable{xs:List (aD × Addr × Aa)}{H:Hp}{kvs:List (aD × V)}
theorem KT.val(r:KT H kvs xs)(k:aD):eN (aZ kvs k) ((atKey xs k).map (·.2)):=by
 induction r with
 |nil=>exact True.intro
 |@cons p q ps qs h t ih=>
  let#[h1,_,h2]:=h;by_cases e:p.1=k
  ·have e':q.1=k:=h1.symm.trans e;have b:atKey (q::qs) k\q.2:=by simp[atKey,List.find?_cons,e']
   rw[yI e,b];exact h2
  have e':¬q.1=k:=λz=>e (h1.trans z);have b:atKey (q::qs) k=atKey qs k:=by simp[atKey,List.find?_cons,e']
  rw[yJ e,b];exact ih
theorem KT.zL(r:KT H kvs xs)(k:aD){y:V}(ry:RelV y u) :
  KT H (kvs.map λkv=>if kv.1=k then (kv.1,y) else kv) (xs.map (putAt k u)):=by
 induction r with
 |nil=>exact .nil
 |@cons p q ps qs h t ih=>
  rw[fE,fE];apply .cons ?_ ih;let#[h1,h2,h3]:=h;unfold putAt;by_cases e:p.1=k
  ·rw[aK e,aK (h1.symm.trans e)];exact#[h1,h2,ry]
  rw[aC e,aC (λz=>e (h1.trans z))];exact#[h1,h2,h3]
variable{b:Addr}
theorem KT.put(r:KT H kvs xs)(k:aD){y:V}(hb:H b\.tup (k.map kV))(ry:RelV y u) :
  KT H (putK kvs k y) (storedH xs k b u):=by
 have e:(kvs.any λkv=>decide (kv.1=k))=(atKey xs k).isSome:=by
  rw[CK,(r.val k).dP,Option.isSome_map]
 unfold putK storedH;rw[e];by_cases q:(atKey xs k).isSome=true
 ·rw[aK q,aK q];exact r.zL k ry
 rw[aC q,aC q];exact Paired.snoc r #[U,hb,ry]
variable{H':Hp}
theorem KT.keeps(r:KT H kvs xs)(ht:∀b ys,H b\.tup ys->H' b\.tup ys):KT H' kvs xs:=
 Paired.aQ r λ_ _ z=>#[z.1,ht _ _ z.2.1,z.2.2]
variable{h:Heap}{a:Addr}
theorem QW{u:HO}(ok:fQ P w H h)(e:Rd H a u):fj P w H h a u:=e.ok ok
theorem kP{kvs:List (Key × V)}(ok:fQ P w H h)(e:Rd H a (.dK kvs)):kvs.length<=sizeLine/\(a == sysModules)=false/\∃vs,KV kvs vs/\h.DictOf (dZ P w) a vs:=
 show fj P w H h a (.dK kvs) from QW ok e
theorem Fq{kvs:List (Key × V)}(ok:fQ P w H h)(e:H a\.dK kvs):kvs.length<=sizeLine/\(a == sysModules)=false/\∃vs,KV kvs vs/\h.DictOf (dZ P w) a vs:=kP ok (.inl e)
theorem wB{ks:aD}(ok:fQ P w H h)(e:H a\.tup (ks.map kV)):(tupleKind (dZ P w)).is h ks a:=by
 let#[_,its,r,#[o,h1,h2,n,h3],_]:=(show fj P w H h a (.tup (ks.map kV)) from ok a _ e);exact#[o,its.toArray,n,h1,h2,h3,by simpa using Tr r]
theorem yl(ok:fQ P w H h)(e:Rd H a (.dT kvs)):kvs.length<=sizeLine/\(a == sysModules)=false /\
  ∃xs,KT H kvs xs/\h.DictOfH (tupleKind (dZ P w)) a xs:=by
 let#[z,y,xs,r,o,es,ep,h1,h2,h3,h4,h5]:=(show fj P w H h a (.dT kvs) from QW ok e);apply#[z,y,xs,r,o,es,ep,h1,h2,h3,h4,λx hx=>?_,h5]
 have all:∀{l:List (aD × V)} {m:List (aD × Addr × Aa)},KT H l m->∀x∈m,(tupleKind (dZ P w)).is h x.1 x.2.1:=by
  intro l m q
  induction q with
  |nil=>intro x hx;exact nomatch hx
  |@cons p q ps qs hq t ih=>
   intro x hx;rcases cg.mp hx with e|hx
   ·subst e;exact wB ok (by rw[<- hq.1];exact hq.2.1)
   exact ih x hx
 exact all r x hx
theorem Ln(ok:fQ P w H h)(e:H a\.dT kvs):kvs.length<=sizeLine/\(a == sysModules)=false /\
  ∃xs,KT H kvs xs/\h.DictOfH (tupleKind (dZ P w)) a xs:=yl ok (.inl e)
def cK(H:Hp)(a:Addr)(y:V)(r:aI):Prop:=
 (∃kvs k,Rd H a (.dK kvs)/\y=kV k/\r=aZ kvs k)∨∃kvs k b,Rd H a (.dT kvs)/\y=.ref b/\H b\.tup (k.map kV)/\r=aZ kvs k
def pJ(H:Hp)(a:Addr)(y v:V)(H':Hp):Prop:=
 (∃kvs k,H a\.dK kvs/\y=kV k/\kvs.length<sizeLine/\H'=upd H a (.dK (putK kvs k v))) ∨
 ∃kvs k b,H a\.dT kvs/\y=.ref b/\H b\.tup (k.map kV)/\kvs.length<sizeLine/\H'=upd H a (.dT (putK kvs k v))
theorem cK.k{kvs:List (Key × V)}{k:Key}(e:H a\.dK kvs):cK H a (kV k) (aZ kvs k):=.inl #[kvs,k,.inl e,U,U]
theorem cK.t{k:aD}(e:H a\.dT kvs)(eb:H b\.tup (k.map kV)):cK H a (.ref b) (aZ kvs k):=.inr #[kvs,k,b,.inl e,U,eb,U]
theorem pJ.k{kvs:List (Key × V)}{k:Key}{v:V}(e:H a\.dK kvs)(hl:kvs.length<sizeLine):pJ H a (kV k) v (upd H a (.dK (putK kvs k v))):=.inl #[kvs,k,e,U,hl,U]
theorem pJ.t{k:aD}{v:V}(e:H a\.dT kvs)(eb:H b\.tup (k.map kV))(hl:kvs.length<sizeLine) :
  pJ H a (.ref b) v (upd H a (.dT (putK kvs k v))):=.inr #[kvs,k,b,e,U,eb,hl,U]
variable{h':Heap}
variable{kvs:List (Key × V)}
section
variable{X:Cx}{pins:List (Addr × Obj)}{σ:St}{H:Hp}{s:Ab}{a:Addr}{y v:V}{u r:Aa}{o:aI}{A:Ag}{E:Aa->Ab->Prop}
theorem Inv.big(I:Inv X pins σ H s):sysModules<s.heap.objs.size:=by
 have h:mainGlobals<s.heap.objs.size:=(I.mod.glob.keeps I.bk).lt;exact Nat.lt_trans (by decide) h
theorem hv_{Q:Aa->Ab->Prop}(hu:A.units+1<cLine)(I:Inv X pins σ H s)(g:cK H a y (some v))(ry:RelV y u)(h:∀w' s',Inv X pins σ H s'->RelV v w'->Q w' s') :
  wpAny (model X.prog X.w) A (getItem (.ref a) u) Q E s:=by
 rcases g with⟨kvs,k,e,ey,l⟩|⟨kvs,k,b,e,ey,eb,l⟩
 ·subst ey;let#[z,hd,vs,rel,dd]:=kP I.aE e;let#[w',hw,iR]:=eN.some_of (v:=v) (o:=valueAt vs k) (by rw[l];exact rel.val k);exact wpAny_getItem_of (wz ry) dd.mapOf hw (h w' _ (I.tok _) iR)
 subst ey;cases (show u=Value.ref b from ry);let#[z,hd,xs,rel,dd]:=yl I.aE e;let#[w',hw,iR]:=eN.some_of (v:=v) (o:=(atKey xs k).map (·.2)) (by rw[l];exact rel.val k);let#[p,hp,kG]:=wY.mp hw;apply wpAny_getItem_heap (tupleKind_room_in1 hu) (wB I.aE eb) dd hp ?_;rw[kG];exact h w' _ (I.tok _) iR
theorem Nn{Q:Aa->Ab->Prop}(hu:A.units+1<cLine)(I:Inv X pins σ H s)(g:cK H a y o)(ry:RelV y u)(h:∀s',Inv X pins σ H s'->Q (.bool o.isSome) s') :
  wpAny (model X.prog X.w) A (compareOp .In u (.ref a)) Q E s:=by
 rcases g with⟨kvs,k,e,ey,l⟩|⟨kvs,k,b,e,ey,eb,l⟩
 ·subst ey;let#[z,hd,vs,rel,dd]:=kP I.aE e;apply wpAny_in_of (wz ry) hd dd.mapOf ?_;rw[<- (rel.val k).dP,<- l];exact h _ (I.tok _)
 subst ey;cases (show u=Value.ref b from ry);let#[z,hd,xs,rel,dd]:=yl I.aE e;apply wpAny_in_heap (tupleKind_room_in1 hu) (wB I.aE eb) hd dd ?_;let q:=(rel.val k).dP;rw[Option.isSome_map] at q;rw[<- q,<- l];exact h _ (I.tok _)
theorem Yj{Q:Aa->Ab->Prop}(hu:A.units+1<cLine)(I:Inv X pins σ H s)(g:cK H a y o)(ry:RelV y u)(h:∀s',Inv X pins σ H s'->Q (.bool (!o.isSome)) s') :
  wpAny (model X.prog X.w) A (compareOp .NotIn u (.ref a)) Q E s:=by
 rcases g with⟨kvs,k,e,ey,l⟩|⟨kvs,k,b,e,ey,eb,l⟩
 ·subst ey;let#[z,hd,vs,rel,dd]:=kP I.aE e;apply wpAny_notIn_of (wz ry) hd dd.mapOf ?_;rw[<- (rel.val k).dP,<- l];exact h _ (I.tok _)
 subst ey;cases (show u=Value.ref b from ry);let#[z,hd,xs,rel,dd]:=yl I.aE e;apply wpAny_notIn_heap (tupleKind_room_in1 hu) (wB I.aE eb) hd dd ?_;let q:=(rel.val k).dP;rw[Option.isSome_map] at q;rw[<- q,<- l];exact h _ (I.tok _)
theorem MX{ob:HO}(I:Inv X pins σ H s)(mu:GO (H a))(hs:Heap.SameBut a s.heap h')(he:∃q,h'.get? a\q)(new:fj X.prog X.w (upd H a ob) h' a ob) :
  Inv X pins σ (upd H a ob) { s with heap:=h',toks:=t' }:=
 I.write (x:=a) (e:=a) mu (.inl U) (λb q hb z=>(hs.2 b hb).trans z) he new
theorem Mp{vs:List (Key × Aa)}(z:kvs.length<=sizeLine)(hd:(a == sysModules)=false)(rel:KV kvs vs)(dd:h'.DictOf (dZ P w) a vs) :
  fj P w H' h' a (.dK kvs):=#[z,hd,vs,rel,dd]
theorem hE_{Q:Unit->Ab->Prop}(hu:A.units+1<cLine)(I:Inv X pins σ H s)(g:pJ H a y v H')(ry:RelV y u)(rv:RelV v r)(h:∀s',Inv X pins σ H' s'->Q () s') :
  wpAny (model X.prog X.w) A (setItem (.ref a) u r) Q E s:=by
 rcases g with⟨kvs,k,e,ey,l,eH⟩|⟨kvs,k,b,e,ey,eb,l,eH⟩
 ·subst ey eH;let#[z,hd,vs,rel,dd]:=Fq I.aE e;have hz:vs.length<=sizeLine:=by rw[<- rel.length];exact z
  have hl:(putK kvs k v).length<=sizeLine:=by have:=JP kvs k v;omega
  apply wpAny_setItem_pairs (hsz:=hz) (wz ry) dd λh' Cz hs=>h _ ?_;have he:∃q,h'.get? a\q:=let #[q,_,_,hq,_]:=Cz;#[q,hq];exact MX I (by rw[e];exact True.intro) hs he (Mp hl hd (rel.put k rv) Cz)
 subst ey eH;cases (show u=Value.ref b from ry);let#[z,hd,xs,rel,dd]:=Ln I.aE e;have hz:xs.length<=sizeLine:=by rw[<- bI rel];exact z
 have hl:(putK kvs k v).length<=sizeLine:=by have:=JP kvs k v;omega
 apply wpAny_setItem_heap (hsz:=hz) (tupleKind_room_in1 hu) (wB I.aE eb) dd λh' Cz hs=>h _ ?_;let#[q,es,ep,hq,h2,h3,h4,_,h5]:=Cz;apply MX I (by rw[e];exact True.intro) hs #[q,hq] #[hl,hd,_,(rel.put k eb rv).keeps λc ys ec=>?_,q,es,ep,hq,h2,h3,h4,h5];rw[aA (bO ec e nofun)];exact ec
end
variable{E:Aa->Ab->Prop}
theorem Yt{Q:Aa->Ab->Prop}(I:Inv X pins σ H s)(e:Rd H a (.dK kvs))(h:∀t s',Inv X pins σ H s'->Q (.int kvs.length t) s'):wpAny (model X.prog X.w) A (call (.builtin "len") [.ref a]) Q E s:=by
 let#[z,hd,vs,rel,dd]:=kP I.aE e;apply call_len_dict hd dd (by rw[<- rel.length];rw[cJ] at z;omega) ?_;rw[<- rel.length];exact h _ _ (I.tok _)
def GN(i:Expr):Prop:=∀ov iv,subscripted i false ov iv=operate [ov,iv] (getItem ov iv)
variable{value:Expr}{pos:Pos}
theorem Zu{prog:Ad}{env:Env}{slice:Expr}{id:String}{Q:Aa->Ab->Prop}(hl:typeLookup (.type T) "__getitem__"=pure (some (.builtin id)))(hs:GN slice)(h:wpAny (model prog w) A (eval value env) (λo aL=>wpAny (model prog w) A (eval slice env) (λi jA=>jA.TypeIs o T/\wpAny (model prog w) A (getItem o i) Q E jA) E aL) E s) :
  wpAny (model prog w) A (eval (.Subscript value slice pos) env) Q E s:=by
 apply Subscript_ (wpAny_mono h (λo aL Lu=>wpAny_mono Lu (λi jA Ax=>?_) λ_ _ x=>x) λ_ _ x=>x);let#[hT,Ax]:=Ax;unfold subscriptTail;apply ae ?_;rw[getitemInPython_of_ne hT.not_modules];apply ae (wpAny_specialOf hT hl ?_)
 have fin:wpAny (model prog w) A (subscripted slice false o i) (λr Du=>wpAny (model prog w) A (letTemporaryGo value o r >>= λ_=>pure r) Q E Du) E jA:=by
  rw[hs o i];exact wpAny_operating (wpAny_mono Ax (λr Du Ls=>ae (wpAny_letTemporaryGo (aH Ls))) λ_ _ x=>x)
 first
  |exact aH (ae fin)
  |exact ae (aH (ae fin))
  |exact ae fin
theorem ew_{y:V}(I:Inv X pins σ H s)(g:cK H a y o):s.TypeIs (.ref a) "dict":=by
 rcases g with⟨kvs,k,e,_,_⟩|⟨kvs,k,b,e,_,_,_⟩
 ·let#[_,_,vs,_,dd]:=kP I.aE e;exact dd.typeIs
 let#[_,_,xs,_,dd]:=yl I.aE e;exact dd.typeIs
inductive qI (Q:VK) (x:V) (y:V) (H2:Hp):Prop
 |mk:∀a v,x=.ref a->cK H2 a y (some v)->Q v H2->qI Q x y H2
def Dp(td ty:TE):TE:=λσ H Q=>td σ H λx H1=>ty σ H1 λy H2=>qI Q x y H2
inductive xq (Q:VK) (y:V) (x:V) (H2:Hp):Prop
 |mk:∀a o,x=.ref a->cK H2 a y o->Q (.bl o.isSome) H2->xq Q y x H2
def Kq(ty td:TE):TE:=λσ H Q=>ty σ H λy H1=>td σ H1 λx H2=>xq Q y x H2
inductive TN (Q:VK) (y:V) (x:V) (H2:Hp):Prop
 |mk:∀a o,x=.ref a->cK H2 a y o->Q (.bl (!o.isSome)) H2->TN Q y x H2
def vx(ty td:TE):TE:=λσ H Q=>ty σ H λy H1=>td σ H1 λx H2=>TN Q y x H2
inductive rY (D:Ends) (σ:St) (v:V) (x:V) (y:V) (H3:Hp):Prop
 |mk:∀a H4,x=.ref a->pJ H3 a y v H4->D.nx σ H4->rY D σ v x y H3
def DH(td ty tv:TE):TS:=λD σ H=>tv σ H λv H1=>td σ H1 λx H2=>ty σ H2 λy H3=>rY D σ v x y H3
variable{i o:Expr}{td ty:TE}
theorem j7(hu:X.A.units+1<cLine)(ho:PE X o td)(hi:PE X i ty)(hs:GN i:=by exact λ_ _=>rfl):PE X (.Subscript o i pos) (Dp td ty):=by
 intro pins s σ H Q I h;apply Zu PySem.F.slot_dict_getitem.lookup hs (aS (ho pins s σ H _ I h) λu s1 ⟨x,H1,I1,rx,q1⟩=>aS (hi pins s1 σ H1 _ I1 q1) λiv s2 ⟨y,H2,I2,ry,a,v,ex,g,q2⟩=>?_);subst ex;obtain rfl:u=Value.ref a:=rx;exact#[ew_ I2 g,hv_ hu I2 g ry λw' s3 I3 iR=>#[v,H2,I3,iR,q2]]
theorem Bo(hu:X.A.units+1<cLine)(hi:PE X i ty)(ho:PE X o td):PC X .In i o (Kq ty td):=by
 intro pins s σ H Q I h;apply aS (hi pins s σ H _ I h) λiv s1 ⟨y,H1,I1,ry,q1⟩=>aS (ho pins s1 σ H1 _ I1 q1) λu s2 ⟨x,H2,I2,rx,a,ov,ex,g,q2⟩=>?_;subst ex;obtain rfl:u=Value.ref a:=rx;exact Nn hu I2 g ry λs3 I3=>#[.bl ov.isSome,H2,I3,U,q2]
theorem GE(hu:X.A.units+1<cLine)(hi:PE X i ty)(ho:PE X o td):PC X .NotIn i o (vx ty td):=by
 intro pins s σ H Q I h;apply aS (hi pins s σ H _ I h) λiv s1 ⟨y,H1,I1,ry,q1⟩=>aS (ho pins s1 σ H1 _ I1 q1) λu s2 ⟨x,H2,I2,rx,a,ov,ex,g,q2⟩=>?_;subst ex;obtain rfl:u=Value.ref a:=rx;exact Yj hu I2 g ry λs3 I3=>#[.bl (!ov.isSome),H2,I3,U,q2]
variable{pos':Pos}{tv:TE}
theorem u4(hu:X.A.units+1<cLine)(ho:PE X o td)(hi:PE X i ty)(hv:PE X value tv)(hs:swapsWith value (some (.Subscript o i pos')) pos.line X.env=pure false) :
  PS X (.Assign [.Subscript o i pos'] value pos) (DH td ty tv):=by
 intro pins s σ H D I h;apply wpAny_Assign_Subscript (aS (hv pins s σ H _ I h) λr s1 ⟨v,H1,I1,rv,q1⟩=>aS (ho pins s1 σ H1 _ I1 q1) λu s2 ⟨x,H2,I2,rx,q2⟩=>aS (hi pins s2 σ H2 _ I2 q2) λiv s3 ⟨y,H3,I3,ry,a,H4,ex,g,q3⟩=>?_) hs;subst ex;obtain rfl:u=Value.ref a:=rx;exact hE_ hu I3 g ry rv λs4 I4=>#[σ,H4,I4,q3]
theorem _M(h:Heap)(hb:sysModules<h.objs.size):fj P w H (h.push { cls:=.type "dict",data:=.dict #[] }) h.objs.size (.dK []):=
 #[gN _,beq_eq_false_iff_ne.mpr (dI (dE hb)),[],.nil,Heap.DictOf.new h]
theorem S9(h:Heap)(hb:sysModules<h.objs.size):fj P w H (h.push { cls:=.type "dict",data:=.dict #[] }) h.objs.size (.dT []):=
 #[gN _,beq_eq_false_iff_ne.mpr (dI (dE hb)),[],.nil,_,#[],0,dj _ U,#[U,U,U],U,U,List.nodup_nil]
def y_:TE:=λ_ H Q=>∀p,H p=none->Q (.ref p) (upd H p (.dK []))
def y9:TE:=λ_ H Q=>∀p,H p=none->Q (.ref p) (upd H p (.dT []))
theorem Gu:PE X (.Dict [] [] pos) y_:=λpins s σ H Q I h=>
 wpAny_Dict_empty #[.ref s.heap.objs.size,_,I.laid (a:=s.heap.objs.size) (o:=.dK []) (t':=s.toks) (λ_ _ q=>bo _ q) (a9 _) (_M s.heap I.big),U,h _ (I.aE.fresh (a9 _))]
theorem S0:PE X (.Dict [] [] pos) y9:=λpins s σ H Q I h=>
 wpAny_Dict_empty #[.ref s.heap.objs.size,_,I.laid (a:=s.heap.objs.size) (o:=.dT []) (t':=s.toks) (λ_ _ q=>bo _ q) (a9 _) (S9 s.heap I.big),U,h _ (I.aE.fresh (a9 _))]
def wV(kvs more:List (Key × V)):List (Key × V):=more.foldl (λacc kv=>putK acc kv.1 kv.2) kvs
theorem Ph:∀(more kvs:List (Key × V)),(wV kvs more).length<=kvs.length+more.length
 |[],kvs=>by show kvs.length<=kvs.length+0;omega
 |p::r,kvs=>by
  let h1:=Ph r (putK kvs p.1 p.2);let h2:=JP kvs p.1 p.2;show (wV (putK kvs p.1 p.2) r).length<=_;rw[jy];omega
structure M1 (X:Cx) (o:Expr) (m:Str) (apos:Pos) (e:Expr) (cX:Pos):Prop where
 base:attributeBase o m X.env (eval o X.env)=eval o X.env
 MJ:((backTo cX (starEach [e] X.env)).all (λx=>!x.1)&&(backToKw cX (keywordEach [] X.env)).all (λx=>x.1.isSome)
  && decide (([e]:List Expr).length+([]:List Keyword).length+(if ([]:List Keyword).isEmpty then 0 else 1)<30))=true
 line:(apos.endLine == cX.line)=true
 trees:backTo cX (starEach [e] X.env)=[(false,eval e X.env)]
structure M2 (X:Cx) (o:Expr) (m:Str) (apos:Pos) (e f:Expr) (cX:Pos):Prop where
 base:attributeBase o m X.env (eval o X.env)=eval o X.env
 MJ:((backTo cX (starEach [e,f] X.env)).all (λx=>!x.1)&&(backToKw cX (keywordEach [] X.env)).all (λx=>x.1.isSome)
  && decide (([e,f]:List Expr).length+([]:List Keyword).length+(if ([]:List Keyword).isEmpty then 0 else 1)<30))=true
 line:(apos.endLine == cX.line)=true
 trees:backTo cX (starEach [e,f] X.env)=[(false,eval e X.env),(false,eval f X.env)]
def PL(H:Hp)(a:Addr):Prop:=(∃kvs,Rd H a (.dK kvs))∨∃kvs,Rd H a (.dT kvs)
theorem Iq(I:Inv X pins σ H s)(d:PL H a) :
  s.TypeIs (.ref a) "dict"/\(∀b,Value.ref a=.ref b->∃ob,s.heap.get? b\ob/\ob.dict=none)/\(a == sysModules)=false:=by
 rcases d with⟨kvs,e⟩|⟨kvs,e⟩
 ·let#[_,hd,vs,_,dd]:=kP I.aE e;apply#[dd.typeIs,λb q=>?_,hd];cases q;let#[ob,_,_,h1,h2,_]:=dd;exact#[ob,h1,h2.2.1]
 let#[_,hd,xs,_,dd]:=yl I.aE e;apply#[dd.typeIs,λb q=>?_,hd];cases q;let#[ob,_,_,h1,h2,_]:=dd;exact#[ob,h1,h2.2.1]
variable{y:V}{o:aI}{Q:Aa->Ab->Prop}
theorem YK(hu:A.units+1<cLine)(I:Inv X pins σ H s)(g:cK H a y o)(ry:RelV y u)(h:∀w' s',Inv X pins σ H s'->RelV (o.getD .non) w'->Q w' s') :
  wpAny (model X.prog X.w) A (call (.builtin "dict.get") [.ref a,u]) Q E s:=by
 rcases g with⟨kvs,k,e,ey,l⟩|⟨kvs,k,b,e,ey,eb,l⟩
 ·subst ey;let#[z,hd,vs,rel,dd]:=kP I.aE e;apply call_meetsIn PySem.F.slot_dict_get dd.typeIs PySem.F.entry_dict_get (PySem.F.args_dict_get_2 _ _) (meets_dict_get (dZ X.prog X.w) a (wz ry) hd) #[_,dd.mapOf,h _ _ (I.tok _) ?_];rw[l];exact (rel.val k).getD U
 subst ey;cases (show u=Value.ref b from ry);let#[z,hd,xs,rel,dd]:=yl I.aE e;apply call_meetsIn PySem.F.slot_dict_get dd.typeIs PySem.F.entry_dict_get (PySem.F.args_dict_get_2 _ _) (meetsH_dict_get (tupleKind (dZ X.prog X.w)) a b hd) #[tupleKind_room_in1 hu,k,xs,wB I.aE eb,dd,h _ _ (I.tok _) ?_];rw[l];exact (rel.val k).getD U
variable{r:Aa}
theorem X7(hu:A.units+1<cLine)(I:Inv X pins σ H s)(g:cK H a y o)(ry:RelV y u)(rd:RelV d r)(h:∀w' s',Inv X pins σ H s'->RelV (o.getD d) w'->Q w' s') :
  wpAny (model X.prog X.w) A (call (.builtin "dict.get") [.ref a,u,r]) Q E s:=by
 rcases g with⟨kvs,k,e,ey,l⟩|⟨kvs,k,b,e,ey,eb,l⟩
 ·subst ey;let#[z,hd,vs,rel,dd]:=kP I.aE e;apply call_meetsIn PySem.F.slot_dict_get dd.typeIs PySem.F.entry_dict_get (PySem.F.args_dict_get_3 _ _ _) (meets_dict_get_default (dZ X.prog X.w) a (wz ry) hd r) #[_,dd.mapOf,h _ _ (I.tok _) ?_];rw[l];exact (rel.val k).getD rd
 subst ey;cases (show u=Value.ref b from ry);let#[z,hd,xs,rel,dd]:=yl I.aE e;apply call_meetsIn PySem.F.slot_dict_get dd.typeIs PySem.F.entry_dict_get (PySem.F.args_dict_get_3 _ _ _) (meetsH_dict_get_default (tupleKind (dZ X.prog X.w)) a b hd r) #[tupleKind_room_in1 hu,k,xs,wB I.aE eb,dd,h _ _ (I.tok _) ?_];rw[l];exact (rel.val k).getD rd
def zd(td ty:TE):TE:=λσ H Q=>td σ H λx H1=>∃a,x=.ref a/\PL H1 a/\ty σ H1 λy H2=>∃o,cK H2 a y o/\Q (o.getD .non) H2
def zc(td ty tx:TE):TE:=λσ H Q=>td σ H λx H1=>∃a,x=.ref a/\PL H1 a/\ty σ H1 λy H2=>tx σ H2 λz H3=>∃o,cK H3 a y o/\Q (o.getD z) H3
variable{e o:Expr}{apos cX:Pos}
theorem _t(hu:X.A.units+1<cLine)(ho:PE X o td)(he:PE X e ty)(m:M1 X o "get" apos e cX):PE X (.Call (.Attribute o "get" apos) [e] [] cX) (zd td ty):=by
 intro pins s σ H Q I h;apply wpAny_Call_method m.base m.MJ m.line PySem.F.plainAttrs_dict PySem.F.slot_dict_get PySem.F.type_dict_get (aS (ho pins s σ H _ I h) λu s1 ⟨x,H1,I1,rx,a,ex,d,q1⟩=>?_);subst ex;obtain rfl:u=Value.ref a:=rx;let#[t1,t2,_]:=Iq I1 d;apply#[t1,t2,?_];rw[m.trees];apply Calls.callWith_builtin U (Calls.evalArgs_plain (Calls.spliced_cons (aS (he pins s1 σ H1 _ I1 q1) λiv s2 ⟨y,H2,I2,ry,ov,g,q2⟩=>Calls.spliced_nil ?_)));exact YK hu I2 g ry λw' s3 I3 iR=>#[_,H2,I3,iR,q2]
variable{f:Expr}{tx:TE}
theorem _j(hu:X.A.units+1<cLine)(ho:PE X o td)(he:PE X e ty)(hf:PE X f tx)(m:M2 X o "get" apos e f cX):PE X (.Call (.Attribute o "get" apos) [e,f] [] cX) (zc td ty tx):=by
 intro pins s σ H Q I h;apply wpAny_Call_method m.base m.MJ m.line PySem.F.plainAttrs_dict PySem.F.slot_dict_get PySem.F.type_dict_get (aS (ho pins s σ H _ I h) λu s1 ⟨x,H1,I1,rx,a,ex,d,q1⟩=>?_);subst ex;obtain rfl:u=Value.ref a:=rx;let#[t1,t2,_]:=Iq I1 d;apply#[t1,t2,?_];rw[m.trees]
 apply Calls.callWith_builtin U (Calls.evalArgs_plain (Calls.spliced_cons (aS (he pins s1 σ H1 _ I1 q1) λiv s2 ⟨y,H2,I2,ry,q2⟩=>
  Calls.spliced_cons (aS (hf pins s2 σ H2 _ I2 q2) λfv s3 ⟨z,H3,I3,rz,ov,g,q3⟩=>Calls.spliced_nil ?_))))
 exact X7 hu I3 g ry rz λw' s4 I4 iR=>#[_,H3,I4,iR,q3]
end L2
namespace Ve
open PySem PySem.W PySem.Calls PyProof.Rows
variable{P:Params}{h:Heap}
theorem cC_:∀(ns:List Int) (vs:aj),WellAll P h vs (ns.map WData.int)->IntsAre vs ns:=by
 intro ns
 induction ns with
 |nil=>
  intro vs w;rw[List.map_nil] at w;cases w;exact .nil
 |cons n ns ih=>
  intro vs w;rw[fE] at w;cases w with
  |cons a b=>
   cases a;exact .cons _ _ (ih _ b)
variable{l:OpenLaw}{n:Nat}
theorem gS_(hn:l.most\n){args:List WData}{vals:aj}(vV:l.row.toRowW.claim.pre args=true)(Lx:WellAll P h vals args) :
  ∃a vs ns,vals=[Value.ref a]/\args=[WData.list (ns.map WData.int)]/\h.get? a=some { cls:=.type "list",data:=.seq vs.toArray }/\IntsAre vs ns/\ns.length<=n:=by
 have hsh:WShape.hasAll [] args [.list .int]=true:=(pre_splitW vV).1;have hc:l.pre.holds [] { args:=args }=true:=(pre_splitW vV).2;let#[d,r,rfl,h1,h2]:=hasAllW_cons hsh;obtain rfl:=hasAllW_nil h2;let#[xs,rfl,h3]:=hasW_list h1;let#[ns,rfl]:=items_int h3
 have hlen:ns.length<=n:=by
  unfold OpenLaw.pre at hc
  have h4:(WTm.not (.lt (.lit (.int (n:Int))) (.len (.arg 0)))).holds [] { args:=[.list (ns.map .int)] }=true:=by
   let h4:=(holds_andW hc).1;rw[hn] at h4;exact h4
  let h5:=condW_of h4 (w_not (w_lt w_lit (w_len_list (w_arg U))));rw[aq] at h5;apply Nat.le_of_not_lt λq=>?_;have q':(n:Int)<((ns.length:Nat):Int):=by omega
  first
   |(rw[c_ q'] at h5;exact absurd h5 (by decide))
   |(simp at h5;omega)
 cases Lx with
 |cons w1 w2=>
  cases w2;cases w1 with
  |list ho AV=>exact#[_,_,ns,U,U,ho,cC_ ns _ AV,hlen]
theorem hh_(l:OpenLaw)(args:List WData):l.row.toRowW.claim.post args (.bool true) args=true:=
 postW_of (r:=l.row.toRowW) (X:=(true == true))
  (show WShape.has [] (.bool true) .bool=true by first|rfl|decide|simp[WShape.has,WShape.arms,WShape.armsAll])
  (show (WTm.eq .res (.lit (.bool true))).value [] { args:=args,res:=some (.bool true),after:=args }=some (.bool (true == true)) from w_eq_bool (w_res U) w_lit) U
theorem j6{q:Ad}{loose:ag}{XP:(Str->Option Aa)->Heap->Prop}{YP:Af->Heap->Prop}{d:DefRec}(hn:l.most\n)(E_:d.params.defaults=[])(call:∀(w:Af) (di aL:Ab) (mg mb:Str->Option Aa) (fa:Addr) (o:Obj) (pm cd doc:Aa) (a:Addr) (vs:aj) (ns:List Int),
   Ground q loose [] XP w di mg mb aL.heap->YP w aL.heap->
   aL.heap.get? fa\o->o.data=.func (docDef d.name d.params d.body d.scope pm cd doc)->aL.heap.CodeRec cd d.name->mg d.name\.ref fa->
   aL.heap.get? a=some { cls:=.type "list",data:=.seq vs.toArray }->IntsAre vs ns->ns.length<=n->aL.gens=#[]->
   codeAny (model l.prog w) callerA (.call (.ref fa) #[[.ref a],[]]) (λr s'=>r=.ok (.ret (.bool true))/\OldK aL.heap s'.heap/\s'.os=aL.os/\AllBare s'.gens) aL) :
  WalkO q loose XP YP l.row.toRowW d [] (λf vs=>PySem.call f vs):=by
 intro w di aL mg mb G Y fa o pm cd doc dV kV ho hd iy hD hmg hg args vals as vV hlay hrd Lx RM;obtain rfl:dV=.none:=Dflts.none hD E_;obtain rfl:kV=.none:=Dflts.noKw hD;let#[a,vs,ns,rfl,rfl,AB,hints,hlen]:=gS_ hn vV Lx;apply enter_call (codeAny_mono (call w di aL mg mb fa o pm cd doc a vs ns G Y ho (fd_plain hd) iy hmg AB hints hlen hg) λr s' hq=>?_);let#[rfl,h2,h3,h4]:=hq;exact#[.inl #[.bool true,.bool true,[],U,λ_=>rfl,.bool true,hh_ l _,λ_=>#[List.Pairwise.nil,λ_ hm=>(nomatch hm)]],h2,h3,h4]
end Ve
namespace L2
open PySem PySem.Spec PyProof.Rows
theorem Ug:∀{vs:aj} {ns:List Int},IntsAre vs ns->Vals (ns.map V.int) vs
 |_,_,.nil=>.nil
 |_,_,.cons n t h=>.cons #[t,U] (Ug h)
def pA(s:Stmt)(j:Nat):Stmt:=match s with
 |.ClassDef _ _ _ body _ _ _ _ _ _ _=>body.getD j (.Pass #[0,0,0,0])
 |_=>.Pass #[0,0,0,0]
def gQ(s:Stmt):Arguments:=match s with
 |.FunctionDef _ a _ _ _ _ _ _ _ _=>a
 |_=>{ posonlyargs:=[],args:=[],vararg:=none,kwonlyargs:=[],kw_defaults:=[],kwarg:=none,defaults:=[] }
def f_(s:Stmt):List Stmt:=match s with
 |.FunctionDef _ _ b _ _ _ _ _ _ _=>b
 |_=>[]
def a_(s:Stmt):Scope:=match s with
 |.FunctionDef _ _ _ _ _ _ sc _ _ _=>sc
 |_=>{ kind:=.function,names:=[],isGenerator:=false,isCoroutine:=false }
abbrev bc:vk:=λ_ _ _ _ _ _=>False
abbrev E0:XK:=λ_ _ _=>False
variable{X:Cx}
theorem nO:wR bc X E0:=λ_ _ _ _ _ _ _ h=>h.elim
structure bu (K:ai) (x qual:Str) (st:Stmt) (f:Addr) (fd:Ae):Prop where
 ex:∃(oc:Aa) (od:Option Addr) (kV doc pm:Aa) (an:Option Addr) (aO ct:Aa) (kE:Array (Option Aa)),
  fd=PySem.W.fnOf x qual (gQ st) (f_ st) (a_ st) .none kV doc pm an aO ct/\K.lookup f=some #[oc,od,.func fd,kE]/\PySem.W.codeIn K aO qual=true
 kp:PySem.W.keepIn K (.ref f)=true
variable{qual x:Str}{st:Stmt}{f:Addr}{fd:Ae}{N ps:ag}{k:Nat}{sp:Sp}{P:Ad}{w:Af}{K:ai}{mg:Str->Option Aa}{base:Heap}
theorem bu.ok(F:bu K x qual st f fd)(S:bQ N ps (a_ st))(len:∀vs H Q E,sp vs H Q E->vs.length=ps.length)(fU:∀(aO:Aa) (A:Ag) (outer:List Env) (s:Ab) (H:Hp) (vs:af) (Q:VK) (E:XK),aY k (A.deeper (envOfC qual (a_ st) s.heap.objs.size f aO))->sp vs H Q E->
   ∃t,ki (i6 bc P w K mg base N qual (a_ st) f aO A outer s H E).xO (f_ st) t/\t { nx:=λ_ H'=>Q .non H',rt:=Q } (start N vs) H):!ak bc (k+1) f fd ps sp:=by
 let#[oc,od,kV,doc,pm,an,aO,ct,kE,rfl,lk,iy]:=F.ex;apply QT lk iy S len λA outer s H vs Q E hr kF=>?_;let#[t,h,q]:=fU aO A outer s H vs Q E hr kF;exact#[t,h.xO,q]
theorem bu.bW(F:bu K x qual st f fd)(S:bQ N ps (a_ st))(fU:∀(aO:Aa) (A:Ag) (outer:List Env) (s:Ab) (H:Hp) (vs:af) (Q:VK) (E:XK),aY k (A.deeper (envOfC qual (a_ st) s.heap.objs.size f aO))->sp vs H Q E->
   ∃t,ki (i6 bc P w K mg base N qual (a_ st) f aO A outer s H E).xO (f_ st) t/\t { nx:=λ_ H'=>Q .non H',rt:=Q } (start N vs) H)(len:∀vs H Q E,sp vs H Q E->vs.length=ps.length:=by intro vs H Q E h;first|(cases h;subst_vars;rfl)|(let#[rfl,_]:=h;rfl)|(let#[_,rfl,_]:=h;rfl)|(let#[_,_,rfl,_]:=h;rfl)|(let#[_,_,_,rfl,_]:=h;rfl)|(let#[_,_,_,_,rfl,_]:=h;rfl)):!ak bc (k+1) f fd ps sp:=F.ok S len fU
theorem bu.binds(F:bu K x qual st f fd)(h:∀(kV doc pm:Aa) (an:Option Addr) (aO ct:Aa) (us:aj),us.length=ps.length->bindArgs (PySem.W.fnOf x qual (gQ st) (f_ st) (a_ st) .none kV doc pm an aO ct) #[us,[]]=pure (ps.zip us)):p9 K fd ps []:=by
 let#[oc,od,kV,doc,pm,an,aO,ct,kE,rfl,lk,iy]:=F.ex;exact .all (h kV doc pm an aO ct)
theorem Rb{oc:Aa}{od an:Option Addr}{kE:Array (Option Aa)}{kV doc pm aO ct:Aa}(l:K.lookup f=some #[oc,od,.func (PySem.W.fnOf x qual (gQ st) (f_ st) (a_ st) .none kV doc pm an aO ct),kE])(c:PySem.W.codeIn K aO qual=true)(k:PySem.W.keepIn K (.ref f)=true):bu K x qual st f (PySem.W.fnOf x qual (gQ st) (f_ st) (a_ st) .none kV doc pm an aO ct):=#[#[oc,od,kV,doc,pm,an,aO,ct,kE,U,l,c],k]
theorem fP{A:Ag}(hr:aY k A):A.units+1<cLine:=Nat.lt_of_le_of_lt (Nat.add_le_add_left (by decide:1<=64) _) hr.units
theorem pv(i:Nat){pos:Pos}(hN:X.N[i]? = some x:=by rfl)(hv:Pw X.env.scope x:=by first|exact Or.inl U|exact Or.inr (Or.inl U)|exact Or.inr (Or.inr U))(hd:(x == ("__debug__":Str))=false:=by decide)(iy:(x == ("__classdict__":Str))=false:=by decide):PE X (.Name x pos) (dh i):=YE hN hv hd iy
inductive UN (xs:af) (H:Hp) (Q:VK):Prop
 |mk:∀a kvs,xs=[V.ref a]->H a\.dK kvs->Q (.int kvs.length) H->UN xs H Q
theorem hM_:gn X (.builtin "len") UN:=by
 intro pins s σ H xs us Q I r h;let#[a,kvs,rfl,ha,q]:=h;let#[u,rfl,ru]:=vals1 r;cases ru;exact Yt I (.inl ha) λt s' I'=>#[.int kvs.length,H,I',#[t,U],q]
variable{A B:Prop}
theorem aF(h:B):if false=true then A else B:=by
 rw[aC gr];exact h
theorem bN(h:A):if true=true then A else B:=by
 rw[aK U];exact h
variable{c:Prop}
theorem bH[Decidable c](h1:c->A)(h2:¬c->B):if c then A else B:=by
 by_cases h:c
 ·rw[aK h];exact h1 h
 rw[aC h];exact h2 h
theorem A9[Decidable c](hc:c)(h:B):if (!decide c)=true then A else B:=by
 rw[c_ hc];exact aF h
def aa(H H':Hp):Prop:=∀b o,H b\o->H' b\o
theorem aa.refl(H:Hp):aa H H:=λ_ _ h=>h
variable{H:Hp}
theorem aa.trans{H1 H2:Hp}(a:aa H H1)(b:aa H1 H2):aa H H2:=λc o h=>b c o (a c o h)
theorem aa.free{H':Hp}(e:aa H H'){l:Addr}(h:H' l=Option.none):H l=Option.none:=by
 cases q:H l with
 |none=>rfl
 |some o=>
  rw[e l o q] at h;cases h
section
variable{κ:Type}[DecidableEq κ]
theorem Zi{kvs:List (κ × V)}{k:κ}{v:V}(h:aZ kvs k\v):k∈kvs.map (·.1):=by
 have q:(kvs.any λkv=>decide (kv.1=k))=true:=by
  rw[CK,h]
  all_goals rfl
 let#[p,hp,e]:=List.any_eq_true.mp q;exact bx.mpr #[p,hp,tP e]
end
end L2
local macro_rules|`(%[$x,*|$_])=>do return (<-x.getElems.foldrM (λe (a:Lean.Term)=>if e.raw.isNatLit?.isSome then`(L2.d7 (L2.pv $e) $a)else`(L2.d7 $e $a)) (<-`(L2.bR)))
namespace L2
open PySem PySem.Spec PyProof.Rows
def i7(env:Env):List (Str × NameKind)->List (Str × Addr)->List (Str × Addr)
 |[],cs=>cs
 |(n,k)::r,cs=>i7 env r (if k == .free then (n,(env.cells.lookup n).getD 0)::cs else cs)
theorem Pg{env:Env}(f:Str × NameKind->List (Str × Addr)->Sem (ForInStep (List (Str × Addr))))
  (hf:∀n k cs,f (n,k) cs=if (k == .free)=true then (do let a <- cellOf env n;pure (.yield ((n,a)::cs))) else pure (.yield cs)) :
  ∀(names:List (Str × NameKind)) (cs:List (Str × Addr)),(∀x∈names,x.2=.free->∃c,env.cells.lookup x.1\c)->forIn names cs f=(pure (i7 env names cs):Sem _)
 |[],cs,_=>by rw[List.forIn_nil];rfl
 |(n,k)::r,cs,h=>by
  rw[List.forIn_cons,hf];have hr:∀x∈r,x.2=.free->∃c,env.cells.lookup x.1\c:=λx hx=>h x (fo _ hx);unfold i7;by_cases hk:(k == NameKind.free)=true
  ·let#[c,hc]:=h (n,k) fY ⇑hk;have hc:env.cells.lookup n\c:=hc;rw[aK hk,aK hk];have e:cellOf env n=pure c:=by unfold cellOf;rw[hc]
   rw[e];simp only[pure_bind];rw[Pg f hf r _ hr,hc];rfl
  rw[aC hk,aC hk];simp only[pure_bind];exact Pg f hf r _ hr
variable{scope:Scope}{env:Env}
theorem U0(h:∀x∈scope.names,x.2=.free->∃c,env.cells.lookup x.1\c):closureFor scope env=pure (i7 env scope.names []):=by
 simp only[closureFor];rw[Pg (env:=env) _ (λn k cs=>by by_cases hk:(k == NameKind.free)=true<;>simp[hk]) scope.names [] h]
 simp only[pure_bind]
theorem Ux{env:Env}:∀{names:List (Str × NameKind)} {cs:List (Str × Addr)} {x:Str} {c:Addr},(x,c)∈i7 env names cs->(x,c)∈cs∨((x,NameKind.free)∈names/\c=(env.cells.lookup x).getD 0)
 |[],cs,x,c,h=>.inl h
 |(n,k)::r,cs,x,c,h=>by
  unfold i7 at h;rcases Ux h with h|⟨h,e⟩
  ·by_cases hk:(k == NameKind.free)=true
   ·rw[aK hk] at h;rcases cg.mp h with q|q
    ·cases q;have:k=.free:=⇑hk
     subst this;exact .inr #[fY,U]
    exact .inl q
   rw[aC hk] at h;exact .inl h
  exact .inr #[fo _ h,e]
theorem On{env:Env}:∀{names:List (Str × NameKind)} {cs:List (Str × Addr)} {x:Str},(x,NameKind.free)∈names∨(∃c,(x,c)∈cs)->∃c,(x,c)∈i7 env names cs
 |[],cs,x,h=>by
  rcases h with h|h
  ·cases h
  ·exact h
 |(n,k)::r,cs,x,h=>by
  unfold i7;apply On ?_;rcases h with h|⟨c,h⟩
  ·rcases cg.mp h with e|h
   ·cases e;exact .inr #[(env.cells.lookup n).getD 0,by rw[aK (by decide)];exact fY]
   exact .inl h
  apply .inr #[c,?_];split
  ·exact fo _ h
  exact h
theorem Pe:∀(names:List (Str × NameKind)) (n:Nat) (acc cl:List (Str × Addr)),cellsFrom n names (acc++cl)=cellsFrom n names acc++cl
 |[],_,_,_=>rfl
 |(x,k)::r,n,acc,cl=>by
  unfold cellsFrom;split
  ·exact Pe r (n+1) ((x,n)::acc) cl
  exact Pe r n acc cl
theorem O9:∀{names:List (Str × NameKind)} {n:Nat} {acc:List (Str × Addr)} {x:Str} {c:Addr},(x,c)∈cellsFrom n names acc->(x,c)∈acc∨(x,NameKind.cell)∈names
 |[],_,_,_,_,h=>.inl h
 |(y,k)::r,n,acc,x,c,h=>by
  unfold cellsFrom at h;by_cases hk:(k == NameKind.cell)=true
  ·rw[aK hk] at h;rcases O9 h with h|h
   ·rcases cg.mp h with e|h
    ·cases e;have:k=.cell:=⇑hk
     subst this;exact .inr fY
    exact .inl h
   exact .inr (fo _ h)
  rw[aC hk] at h;rcases O9 h with h|h
  ·exact .inl h
  exact .inr (fo _ h)
theorem O_{α:Type}:∀{l:List (Str × α)} {x:Str} {c:α},(x,c)∈l->∃c',l.lookup x\c'
 |(k,v)::r,x,c,h=>by
  rw[qp];cases hb:x == k with
  |true=>exact#[v,U]
  |false=>
   rcases cg.mp h with e|h
   ·cases e;simp at hb
   exact O_ h
def jU(scope:Scope)(C:Addr)(env:Env):Env:=
 { scope:=relabel scope env,locals:=C,globals:=env.globals,cells:=cellsFrom (C+1) scope.names (i7 env scope.names []),qual:=env.qual,func:=none,code:=env.code,frame:=env.frame,builtins:=env.builtins }
theorem UY{M:Model}{A:Ag}{E:Aa->Ab->Prop}{s:Ab}{cl:List (Str × Addr)}{Q:Env->Ab->Prop}(h:Q { scope:=scope,locals:=s.heap.objs.size,globals:=env.globals,cells:=cellsFrom (s.heap.objs.size+1) scope.names cl,qual:=env.qual,func:=none,code:=env.code,frame:=env.frame,builtins:=env.builtins }
   { s with heap:=pushCells (s.heap.push { cls:=.type "dict",data:=.dict #[] }) scope.names }) :
  wpAny M A (newFunctionEnv scope env.globals cl [] env.qual none .none (some env)) Q E s:=by
 simp only[newFunctionEnv,Option.isSome_some,if_true];apply ae (wpAny_alloc ?_);apply ae (wpAny_layCells _ (λname kind cells=>by cases hkc:kind == NameKind.cell<;>simp[hkc]) _ _ _ _ ?_)
 rw[show ({ s with heap:=s.heap.push { cls:=.type "dict",data:=.dict #[] } }:Ab).heap.objs.size=s.heap.objs.size+1 from Heap.size_push ..];rw[List.forIn_nil];exact ae (aH (aH h))
def JE(PN:ag)(ps:Scope)(N:ag)(own:Nat)(fr:List Nat)(scope:Scope):Bool:=
 decide (scope.kind=.function)&&decide N.Nodup&&decide (own+fr.length=N.length)
 && (scope.names.all λy=>decide (scope.names.lookup y.1\y.2))
 && (scope.names.all λy=>if y.2=.free then decide (ps.names.lookup y.1\.cell) || decide (ps.names.lookup y.1\.free) else true)
 && ((fr.map λj=>PN[j]?) == (N.drop own).map some)
 && ((N.drop own).all λx=>decide (scope.names.lookup x\.free))
structure mO (PN:ag) (ps:Scope) (N:ag) (own:Nat) (fr:List Nat) (scope:Scope):Prop where
 kind:scope.kind=.function
 nd:N.Nodup
 len:own+fr.length=N.length
 look:∀y∈scope.names,scope.names.lookup y.1\y.2
 par:∀y∈scope.names,y.2=.free->ps.names.lookup y.1\.cell∨ps.names.lookup y.1\.free
 o9:(fr.map λj=>PN[j]?)=(N.drop own).map some
 frk:∀x∈N.drop own,scope.names.lookup x\.free
variable{N:ag}{own:Nat}
theorem mO.of{PN:ag}{ps:Scope}{fr:List Nat}(h:JE PN ps N own fr scope=true):mO PN ps N own fr scope:=by
 unfold JE at h;simp only[yQ,uT,List.all_eq_true,beq_iff_eq] at h;let#[#[#[#[#[#[h1,h2],h3],h4],h5],h6],h7]:=h;apply#[h1,h2,h3,h4,λy hy e=>?_,h6,h7];let q:=h5 y hy;rw[aK e] at q;simpa using q
def BA(own:Nat)(fr:List Nat)(σ:St):St:=List.replicate own none++fr.map λj=>(σ[j]?).join
def ia(X:Cx)(N:ag)(scope:Scope)(fp:aw)(s:Ab)(H:Hp):Cx where
 prog:=X.prog
 w:=X.w
 K:=X.K
 mg:=X.mg
 base:=X.base
 A:=X.A
 N:=N
 di:=s
 kq:=H
 env:=jU scope s.heap.objs.size X.env
 outer:=X.stack
 stack:=X.stack
 ex:=fp
 fn:=λx=>decide (scope.names.lookup x\.local) || decide (scope.names.lookup x\.cell)
 calm:=X.calm
 pn:=[]
 xe:=λ_ _=>False
theorem UM{ps:Scope}{env:Env}(he:env.scope=ps){x:Str}:∀{names:List (Str × NameKind)} {k:NameKind},names.lookup x\k->
  (names.map λ(n,k)=>if (k == NameKind.free&&env.scope.kind == .function&&env.kindOf n == some .cell) then (n,NameKind.cell) else (n,k)).lookup x =
   some (if (k == NameKind.free&&env.scope.kind == .function&&env.kindOf x == some .cell) then .cell else k)
 |(n,k')::r,k,h=>by
  rw[qp] at h;rw[fE];cases hb:x == n with
  |true=>
   rw[hb] at h;cases h;have e:x=n:=⇑hb
   subst e;dsimp only;split<;>simp[qp]
  |false=>
   rw[hb] at h;let ih:=UM he (env:=env) h;dsimp only;split<;>(rw[qp,hb];exact ih)
theorem Oc{env:Env}{x:Str}:∀{names:List (Str × NameKind)} {k:NameKind},(names.map λ(n,k)=>if (k == NameKind.free&&env.scope.kind == .function&&env.kindOf n == some .cell) then (n,NameKind.cell) else (n,k)).lookup x\k->∃k',names.lookup x\k'/\(k'=k∨(k'=.free/\k=.cell))
 |(n,k')::r,k,h=>by
  rw[fE] at h;rw[qp];dsimp only at h;cases hb:x == n with
  |true=>
   apply#[k',U,?_];by_cases hc:(k' == NameKind.free&&env.scope.kind == .function&&env.kindOf n == some .cell)=true
   ·rw[aK hc,qp,hb] at h;cases h;simp only[yQ,beq_iff_eq] at hc;exact .inr #[hc.1.1,U]
   ·rw[aC hc,qp,hb] at h;cases h;exact .inl U
  |false=>
   have h':(r.map λ(n,k)=>if (k == NameKind.free&&env.scope.kind == .function&&env.kindOf n == some .cell) then (n,NameKind.cell) else (n,k)).lookup x\k:=by
    split at h<;>(rw[qp,hb] at h;exact h)
   exact Oc h'
theorem dF_{α:Type}{x:Str}{c:α}:∀{l r:List (Str × α)},(l++r).lookup x\c->(x,c)∈l∨(x,c)∈r:=λh=>dB.mp (qf h)
section
variable{X:Cx}{pins:List (Addr × Obj)}{σ:St}{H:Hp}{s:Ab}{N:ag}{own:Nat}{fr:List Nat}{scope:Scope}{fp:aw}
theorem Tq(I:Inv X pins σ H s)(S:mO X.N X.env.scope N own fr scope){x:Str}{c:Addr}(h:(x,c)∈i7 X.env scope.names []):X.env.cells.lookup x\c/\(x,NameKind.free)∈scope.names:=by
 rcases Ux h with h|⟨h,e⟩
 ·cases h
 let#[c',hc]:=I.ok.has x (S.par _ h U);apply#[?_,h];rw[e,hc];rfl
theorem Inv.block(I:Inv X pins σ H s)(S:mO X.N X.env.scope N own fr scope)(Ic:∀b∈fp,dk X pins H b)(hfo:∀b∈fp,∃o,s.heap.get? b\o) :
  Inv (ia X N scope fp s H) [] (BA own fr σ) H { s with heap:=pushCells (s.heap.push { cls:=.type "dict",data:=.dict #[] }) scope.names }:=by
 have kept:∀b o,s.heap.get? b\o->(pushCells (s.heap.push { cls:=.type "dict",data:=.dict #[] }) scope.names).get? b\o:=λb o e=>pushCells_keeps _ _ b o (bo _ e);let Jt:=cellsFrom_ok scope.names (s.heap.push { cls:=.type "dict",data:=.dict #[] }) (s.heap.objs.size+1) [] #[λ_ _ hm=>(nomatch hm),List.Pairwise.nil] (by rw[Heap.size_push];exact a9 _);rw[Heap.size_push] at Jt;have ecs:cellsFrom (s.heap.objs.size+1) scope.names (i7 X.env scope.names [])=cellsFrom (s.heap.objs.size+1) scope.names []++i7 X.env scope.names []:=Pe _ _ [] _
 have g8:∀{x c},(cellsFrom (s.heap.objs.size+1) scope.names (i7 X.env scope.names [])).lookup x\c->((x,c)∈cellsFrom (s.heap.objs.size+1) scope.names []/\(x,NameKind.cell)∈scope.names/\s.heap.objs.size+1<=c)∨(X.env.cells.lookup x\c/\(x,NameKind.free)∈scope.names):=λ{x c} h=>by
  rw[ecs] at h;rcases dF_ h with h|h
  ·apply .inl #[h,?_,(Jt.empty _ _ h).2];rcases O9 h with q|q
   ·cases q
   exact q
  exact .inr (Tq I S h)
 have DV:∀{x c},X.env.cells.lookup x\c->c<s.heap.objs.size:=λ{x c} h=>by
  let#[v,hv]:=I.cell x c h;exact hv.lt
 have hb:∀b∈fp,b<s.heap.objs.size:=λb hb=>let #[o,e]:=hfo b hb;bK e
 apply#[#[I.ok.mod,S.kind,I.ok.glob,I.ok.blt,a9 _,λx y c h1 h2=>?_,λx hx=>?_,λx c hf h=>?_,I.ok.hd,I.ok.frames,.inl U,λb yb=>#[dE (hb b yb),λx c h=>?_],I.bs,?_,λb o e yb=>?_,λb yb hs=>?_,I.stack,I.mY],
  rfl,I.bare,Un.kept kept,#[_,(Heap.Ns.new s.heap (.type "dict")).keeps (pushCells_keeps _ _),λi x v h1 h2 h3=>?_],λx c h=>?_,I.aE.fresh (a9 _),λx c h=>?_,λp hp=>absurd (show p∈([]:List (Addr × Obj)) from hp) Y1,I.aE.kept kept,?_]
 ·-- inj
  rcases g8 h1 with⟨m1,k1,l1⟩|⟨m1,k1⟩<;>rcases g8 h2 with⟨m2,k2,l2⟩|⟨m2,k2⟩
  ·exact name_of_addr Jt.apart m1 m2
  ·exact absurd (DV m2) (Nat.not_lt.mpr (Nat.le_of_succ_le l1))
  ·exact absurd (DV m1) (Nat.not_lt.mpr (Nat.le_of_succ_le l2))
  exact I.ok.inj x y c m1 m2
 ·-- has
  have key:(x,NameKind.cell)∈scope.names∨(x,NameKind.free)∈scope.names:=by
   rcases hx with hx|hx
   ·let#[k',e,q]:=Oc (env:=X.env) (show _\NameKind.cell from hx);let m:=qf e;rcases q with q|⟨q,_⟩
    ·exact .inl (q▸m)
    exact .inr (q▸m)
   let#[k',e,q]:=Oc (env:=X.env) (show _\NameKind.free from hx);let m:=qf e;rcases q with q|⟨_,q⟩
   ·exact .inr (q▸m)
   cases q
  show ∃c,(cellsFrom (s.heap.objs.size+1) scope.names (i7 X.env scope.names [])).lookup x\c
  have:((cellsFrom (s.heap.objs.size+1) scope.names (i7 X.env scope.names [])).lookup x).isSome=true:=by
   apply PySem.W.cellsFrom_some _ _ _ ?_;rcases key with q|q
   ·exact .inl (S.look _ q)
   let#[c,m]:=On (env:=X.env) (names:=scope.names) (cs:=[]) (x:=x) (.inl q);let#[c',e]:=O_ m;exact .inr (by rw[e];rfl)
  exact Option.isSome_iff_exists.mp this
 ·-- CD
  rcases g8 h with⟨_,_,l⟩|⟨_,k⟩
  ·exact Nat.le_of_succ_le l
  let e:=S.look _ k;have hf:(decide (scope.names.lookup x\.local) || decide (scope.names.lookup x\.cell))=true:=hf;rw[show scope.names.lookup x\.free from e] at hf;exact absurd hf (by decide)
 ·rcases g8 h with⟨_,_,l⟩|⟨q,_⟩
  ·exact je (jz (hb b yb) (Nat.le_of_succ_le l))
  exact (Ic b yb).2.2.2.2.1 x c q
 ·exact ic I.ok.tU I.sz
 ·rcases (Ic b yb).2.2.2.1 with q|q
  ·exact I.ok.sJ b o e q
  exact absurd (jz (bK e) I.ok.tU) Y0
 ·rcases cg.mp (I.kZ b hs) with q|q
  ·exact (Ic b yb).2.1 q
  exact (Ic b yb).2.2.1 q
 ·-- names
  have hi:own<=i:=by
   apply Nat.le_of_not_lt λdQ=>?_;unfold BA at h2;rw[w4 (by rw[CQ];exact dQ),List.getElem?_replicate,aK dQ] at h2;cases h2
  have g_:(fr.map λj=>(σ[j]?).join)[i - own]? = some (some v):=by
   unfold BA at h2;rw[yP (by rw[CQ];exact hi),CQ] at h2;exact h2
  have h1:N[i]? = some x:=h1;have hx:(N.drop own)[i - own]? = some x:=by rw[List.getElem?_drop,show own+(i - own)=i by omega];exact h1
  rw[de] at g_;cases ej:fr[i - own]? with
  |none=>rw[ej] at g_;cases g_
  |some j=>
   rw[ej] at g_;have g_:(σ[j]?).join\v:=dN g_
   have oZ:σ[j]? = some (some v):=by
    cases q:σ[j]? with
    |none=>rw[q] at g_;cases g_
    |some o=>rw[q] at g_;exact eW some g_
   have hN:X.N[j]? = some x:=by
    let q:=eW (λl=>l[i - own]?) S.o9;simp only[de,ej,hx,Option.map_some] at q;exact dN q
   let kf:=S.frk x (cB hx);let mf:=qf kf;let#[m,hm,hv]:=I.loc;let pk:=S.par _ mf U;let#[u,ru,lk]:=hv j x v hN oZ (pk.elim (λq=>.inr (.inl q)) λq=>.inr (.inr q));apply#[u,ru,?_];have Ql:X.env.kindOf x\.cell∨X.env.kindOf x\.free:=pk;rcases lk with⟨k,_⟩|⟨_,c,hc,n9⟩
   ·rw[k] at Ql;rcases Ql with q|q<;>cases q
   let#[c',m1]:=On (env:=X.env) (names:=scope.names) (cs:=[]) (x:=x) (.inl mf);let e1:=(Tq I S m1).1;rw[hc] at e1;cases e1;apply .inr #[?_,c,?_,n9.keeps kept]
   ·let q:=UM (env:=X.env) U kf;show (relabel scope X.env).names.lookup x\.cell∨(relabel scope X.env).names.lookup x\.free;unfold relabel;rw[q];split
    ·exact .inl U
    exact .inr U
   let#[c2,e2]:=Option.isSome_iff_exists.mp (PySem.W.cellsFrom_some (x:=x) scope.names (s.heap.objs.size+1) (i7 X.env scope.names []) (.inr (by let#[c',e]:=O_ m1;rw[e];rfl)));show (cellsFrom (s.heap.objs.size+1) scope.names (i7 X.env scope.names [])).lookup x\c;rcases g8 e2 with⟨_,q,_⟩|⟨q,_⟩
   ·have:=S.look _ q;rw[show scope.names.lookup x\.free from kf] at this;cases this
   rw[hc] at q;cases q;exact e2
 ·-- cells
  rcases g8 h with⟨q,_,_⟩|⟨q,_⟩
  ·exact#[_,(Jt.empty _ _ q).1]
  let#[v,hv]:=I.cell x c q;exact#[v,hv.keeps kept]
 ·rcases g8 h with⟨q,_,l⟩|⟨q,_⟩
  ·exact I.aE.fresh Y0
  exact I.eG x c q
 show (BA own fr σ).length=N.length;unfold BA;rw[dM,CQ,aq];exact S.len
end
def GK(X:Cx)(ifs:List Expr)(t:TT):Prop:=
 ∀(pins:List (Addr × Obj)) (s:Ab) (σ:St) (H:Hp) (Q:Bool->Hp->Prop),Inv X pins σ H s->t σ H Q->
  wpAny (model X.prog X.w) X.A (forIn ifs true λc r=>if r=true then do let ok <- isTrue c X.env (eval c X.env);pure (ForInStep.yield ok) else pure (ForInStep.yield r)) (TP X pins σ Q) X.xe s
def qx:TT:=λ_ H Q=>Q true H
variable{σ:St}
theorem eP{H:Hp}{A B:Hp->Prop}(h:A H):qx σ H λb H4=>if b=true then A H4 else B H4:=by
 unfold qx;exact bN h
variable{X:Cx}
theorem jx:GK X [] qx:=λ_ _ _ H _ I h=>wpAny_tests_nil #[H,I,h]
theorem Jh{c:Expr}{t:TT}(h:PT X c t):GK X [c] t:=λpins s σ H Q I q=>wpAny_tests_one (h pins s σ H Q I q)
def yA(J:It)(g:TG)(tc:TT)(te:TE)(jk:St)(D:Addr)(H1:Hp)(Q:VK):Prop:=∃W:Nat->Nat->St->Hp->Prop,
 (∃m,W 0 m jk (upd H1 D (.lst [])))/\∀i m bf H',W i m bf H'->(J.stop i H'/\Q (.ref D) H') ∨
  (J.go i H'/\∃Nx:St->Hp->Prop,(∀gc H2,Nx gc H2->∃m',m'<m/\W (i+1) m' gc H2) /\
   ∀x H2,J.vo i H' x H2->g x bf H2 λkD H3=>tc kD H3 λb H4=>if b=true then te kD H4 λy H5=>∃out,H5 D\.lst out/\out.length<sizeLine/\Nx kD (upd H5 D (.lst (out++[y]))) else Nx kD H4)
def xr(wi:TI)(own:Nat)(fr:List Nat)(g:TG)(tc:TT)(te:TE):TE:=λσ H Q=>wi σ H λJ H1=>∀D,H1 D=none->yA J g tc te (BA own fr σ) D H1 Q
variable{Q:VK}{J:It}{D:Addr}{elt iter tg:Expr}{ifs:List Expr}{pos:Pos}{g:TG}{tc:TT}{te:TE}
theorem Ry{R:Result->Ab->Prop}{fr:List Nat}{pins:List (Addr × Obj)}{H1:Hp}{s2:Ab}{it:Addr}{fp:aw}{tn:Nat->Heap->Prop}(S:mO X.N X.env.scope N own fr scope)(hc:X.calm=true)(hg:∀fp s H,PG (ia X N scope fp s H) tg g)(ht:∀fp s H,GK (ia X N scope fp s H) ifs tc)(he:∀fp s H,PE (ia X N scope fp s H) elt te)(I3:Inv X pins σ (upd H1 D (.lst [])) s2)(T:Turn X.prog X.w X.K tg J fp it tn)(st:tn 0 s2.heap)(f2:∀b∈fp,dk X pins (upd H1 D (.lst [])) b)(k:yA J g tc te (BA own fr σ) D H1 Q)(hR:∀H' s',Inv X pins σ H' s'->(∃m,s'.heap.Ns s2.heap.objs.size m)->H' s2.heap.objs.size=none->Q (.ref D) H'->R (.ok .next) s') :
  codeAny (model X.prog X.w) X.A (.compStart (.ListComp elt [#[tg,iter,ifs,0]] scope pos) 0 (.ref it) (.ref D) (jU scope s2.heap.objs.size X.env)) R
   { s2 with heap:=pushCells (s2.heap.push { cls:=.type "dict",data:=.dict #[] }) scope.names }:=by
 let#[W,#[m0,w0],turn]:=k;let I4:=I3.block (N:=N) S f2 (λb hb=>let #[o,e,_]:=T.obj _ _ st b hb;#[o,e]);have kept:∀b o,s2.heap.get? b\o->(pushCells (s2.heap.push { cls:=.type "dict",data:=.dict #[] }) scope.names).get? b\o:=λb o e=>pushCells_keeps _ _ b o (bo _ e);have gU:tn 0 (pushCells (s2.heap.push { cls:=.type "dict",data:=.dict #[] }) scope.names):=T.keep _ _ _ st λb hb o e=>kept b o e
 have fx:∀{H':Hp},(∀b∈fp,H' b=none)->∀b∈fp,dk (ia X N scope fp s2 (upd H1 D (.lst []))) [] H' b:=λhn b hb=>
  #[hn b hb,(I4.ok.ID b hb).1,I4.ok.tJ b hb,.inl hb,(I4.ok.ID b hb).2,λp hp=>absurd (show p∈([]:List (Addr × Obj)) from hp) Y1]
 have loop:codeAny (model X.prog X.w) X.A (.compLoop (.ListComp elt [#[tg,iter,ifs,0]] scope pos) 0 (.ref it) (.ref D) (jU scope s2.heap.objs.size X.env)) R
   { s2 with heap:=pushCells (s2.heap.push { cls:=.type "dict",data:=.dict #[] }) scope.names }:=by
  apply codeAny_loop U (λn s'=>∃i bf H',Inv (ia X N scope fp s2 (upd H1 D (.lst []))) [] bf H' s'/\tn i s'.heap/\(∀b∈fp,H' b=none)/\W i n bf H') (λn s' hI=>?_) m0 #[0,_,_,I4,gU,λb hb=>(f2 b hb).1,w0];let#[i,bf,H',I5,iO,o_,w5]:=hI;show wpAny _ X.A ((compTurn (.ListComp elt [#[tg,iter,ifs,0]] scope pos) 0 (.ref it) (.ref D) (jU scope s2.heap.objs.size X.env)).onRaise (λx=>do noteFrame x (jU scope s2.heap.objs.size X.env);theTreesLotGoes x)) _ _ s';apply wpAny_noted (wpAny_mono (E:=λ_ _=>False) ?_ (λ_ _ q=>q) λ_ _ q=>q.elim);rw[compTurn_list];apply ae (wpAny_standAt (ae ?_));rcases turn i n bf H' w5 with⟨stop,q⟩|⟨go,Nx,hN,step⟩
  ·apply aS (T.done (ia X N scope fp s2 (upd H1 D (.lst []))) U U U hc i [] s' bf H' _ I5 (fx o_) iO stop) λr s6 ⟨hr,I6⟩=>?_;subst hr;apply aH (hR H' s6 (I3.FZ I6.os I6.base I6.aE I6.bare λb hb=>?_) ?_ I6.free q)
   ·exact#[(f2 b hb).2.2.2.1,(f2 b hb).2.1,(f2 b hb).2.2.2.2.1,(f2 b hb).2.2.2.2.2]
   let#[m,hm,_]:=I6.loc;exact#[m,hm]
  apply aS (T.item (ia X N scope fp s2 (upd H1 D (.lst []))) U U U hc i [] s' bf H' _ I5 (fx o_) iO go) λr s6 ⟨u,hr,h6⟩=>?_;subst hr;apply ae (aS h6 λ_ s7 ⟨x,H7,I7,r7,y7,gz,A2⟩=>?_);let I7':=I7.pinned (fx A2) (T.obj _ _ gz)
  have back:∀{uA:St} {H8:Hp} {s8:Ab},Inv (ia X N scope fp s2 (upd H1 D (.lst []))) ([]++wQ fp s7.heap) uA H8 s8->Nx uA H8->∃m,m<n/\∃i bf H',Inv (ia X N scope fp s2 (upd H1 D (.lst []))) [] bf H' s8/\tn i s8.heap/\(∀b∈fp,H' b=none)/\W i m bf H':=λ{uA H8 s8} I8 n8=>by
   let#[m',hm,w8]:=hN uA H8 n8;apply#[m',hm,i+1,uA,H8,I8.eR,T.keep _ _ _ gz λb hb o e=>(I8.pin (b,o) (kb _ (kb _ (JK hb e)))).1,λb hb=>?_,w8];let#[o,e,d]:=T.obj _ _ gz b hb;exact (I8.pin (b,o) (kb _ (kb _ (JK hb e)))).2.1
  apply ae (aS (hg fp s2 (upd H1 D (.lst [])) _ s7 bf H7 x u _ I7' r7 (step x H7 y7)) λ_ s8 ⟨uA,H8,I8,q8⟩=>?_);apply ae (aS (ht fp s2 (upd H1 D (.lst [])) _ s8 uA H8 _ I8 q8) λb s9 ⟨H9,I9,q9⟩=>?_);cases b with
  |false=>
   simp only[pH,if_false] at q9 ⊢;exact aH #[U,back I9 q9]
  |true=>
   simp only[if_true] at q9 ⊢;apply ae (ae (aS (he fp s2 (upd H1 D (.lst [])) _ s9 uA H9 _ I9 q9) λy DM ⟨yv,H10,I10,WI,out,hD,hz,WN⟩=>?_));apply ae (aS (pG (X:=ia X N scope fp s2 (upd H1 D (.lst []))) _ DM uA H10 (.ref D) [yv] (.ref D) [y] (λ_ H'=>Nx uA H') I10 U (.cons WI .nil) #[D,out,yv,U,U,hD,hz,WN]) λ_ s11 ⟨_,PM,I11,_,WM⟩=>?_);exact aH (aH #[U,back I11 WM])
 exact codeAny_compStart_list loop (T.self _ 0 _ _ _ gU loop)
variable{wi:TI}
theorem jb(N:ag)(own:Nat)(fr:List Nat)(hi:PI X tg iter wi)(hg:∀fp s H,PG (ia X N scope fp s H) tg g)(ht:∀fp s H,GK (ia X N scope fp s H) ifs tc)(he:∀fp s H,PE (ia X N scope fp s H) elt te)
  (S:JE X.N X.env.scope N own fr scope=true:=by kernel_rfl) (hc:X.calm=true:=by rfl) (hs:∀x,foldedSetIterable iter X.env x=pure x:=by intro _;rfl) :
  PE X (.ListComp elt [#[tg,iter,ifs,0]] scope pos) (xr wi own fr g tc te):=by
 intro pins s σ H Q I h;let S':=mO.of S;rw[eval_ListComp];have s_:closureFor scope X.env=pure (i7 X.env scope.names []):=U0 λx hx e=>I.ok.has x.1 (S'.par x hx e);apply wpAny_comprehension_free (use:=none) U hs s_ S'.kind (λx hx e=>by rw[S'.look x hx,e]) (aS (hi pins s σ H _ I h) λv s1 h1=>aS h1 λHK s2 h2=>?_);let#[it,fp,tn,J,H1,rfl,I2,T,cO,f2,k]:=h2;apply qb (UY ?_);have hD:H1 s2.heap.objs.size=none:=I2.fresh;let I3:=I2.Al (ys:=[]) (its:=[]) (t':=s2.toks) .nil (gN _);have kept:∀b o,s2.heap.get? b\o->(s2.heap.push { cls:=.type "list",data:=.seq ([]:aj).toArray }).get? b\o:=λb o e=>bo _ e;apply Ry (own:=own) (fr:=fr) (Q:=Q) S' hc hg ht he I3 T (T.keep _ _ _ cO λb hb o e=>kept b o e) (λb hb=>?_) (k _ hD) ?_
 ·apply#[?_,(f2 b hb).2];let#[o,e,_]:=T.obj _ _ cO b hb;rw[aA (dE (bK e))];exact (f2 b hb).1
 rintro H' s' I' ⟨m,hm⟩ hn q;apply#[m,hm,λh' hs'=>#[.ref s2.heap.objs.size,H',?_,U,q]]
 exact I'.turned (t':=s'.toks) (λb o hb e=>hs'.extBut b o hb e) hn (je I3.lt) (.inr I3.sz) (λx c Mh e=>by
  let#[v,hv]:=I3.cell x c Mh
  exact absurd hv.lt (by rw[e];exact uf _)) λp hp e=>by
   have:=(I3.pin p hp).1;rw[e] at this;exact absurd (bK this) (uf _)
def Dq(i:Nat)(te:TE):TS:=λD σ H=>te σ H λx H1=>D.nx (σ.set i (some x)) H1
theorem M4{i:Nat}{x:Str}{px:Pos}(N:ag)(own:Nat)(fr:List Nat)(hN:X.N.Nodup)(hi':X.N[i]? = some x)(hx:Loc X.env.scope x)
  (hi:PI X tg iter wi) (hg:∀fp s H,PG (ia X N scope fp s H) tg g) (ht:∀fp s H,GK (ia X N scope fp s H) ifs tc) (he:∀fp s H,PE (ia X N scope fp s H) elt te) {pos':Pos}
  (S:JE X.N X.env.scope N own fr scope=true:=by kernel_rfl) (hc:X.calm=true:=by rfl) (hs:∀x,foldedSetIterable iter X.env x=pure x:=by intro _;rfl)
  (hf:X.fn x=true∨X.env.scope.names.lookup x\.local:=by first|exact .inl U|exact .inr U|assumption)
  (hsw:swapsWith (.ListComp elt [#[tg,iter,ifs,0]] scope pos) (some (.Name x px)) pos'.line X.env=pure true:=by rfl) :
  PS X (.Assign [.Name x px] (.ListComp elt [#[tg,iter,ifs,0]] scope pos) pos') (Dq i (xr wi own fr g tc te)):=by
 intro pins s σ H E I h;let S':=mO.of S;rw[exec_Assign_Name_used _ _ _ _ hsw];apply ae (wpAny_standAt (ae ?_));show wpAny _ X.A (do let _ <- comprehension (.ListComp elt [#[tg,iter,ifs,0]] scope pos) scope X.env _ (newList []) false (eval iter X.env) (some (assign (.Name x px) X.env))) _ _ s;have s_:closureFor scope X.env=pure (i7 X.env scope.names []):=U0 λx hx e=>I.ok.has x.1 (S'.par x hx e)
 apply ae (wpAny_mono (wpAny_comprehension_free (use:=some (assign (.Name x px) X.env)) (Q:=λ_ s'=>SP X pins E .next s') U hs s_ S'.kind (λx hx e=>by rw[S'.look x hx,e]) (aS (hi pins s σ H _ I h) λv s1 h1=>aS h1 λHK s2 h2=>?_))
  (λ_ s' hq=>aH (aH hq)) λ_ _ e=>e)
 let#[it,fp,tn,J,H1,rfl,I2,T,cO,f2,k]:=h2;apply qb (UY ?_);have hD:H1 s2.heap.objs.size=none:=I2.fresh;let I3:=I2.Al (ys:=[]) (its:=[]) (t':=s2.toks) .nil (gN _);have kept:∀b o,s2.heap.get? b\o->(s2.heap.push { cls:=.type "list",data:=.seq ([]:aj).toArray }).get? b\o:=λb o e=>bo _ e;apply Ry (own:=own) (fr:=fr) (Q:=λx H1=>E.nx (σ.set i (some x)) H1) S' hc hg ht he I3 T (T.keep _ _ _ cO λb hb o e=>kept b o e) (λb hb=>?_) (k _ hD) ?_
 ·apply#[?_,(f2 b hb).2];let#[o,e,_]:=T.obj _ _ cO b hb;rw[aA (dE (bK e))];exact (f2 b hb).1
 rintro H' s' I' ⟨m,hm⟩ hn q
 have uS:∀y c,X.env.cells.lookup y\c->c≠(s2.heap.push { cls:=.type "list",data:=.seq ([]:aj).toArray }).objs.size:=λy c Mh e=>by
  let#[v,hv]:=I3.cell y c Mh;exact absurd hv.lt (by rw[e];exact uf _)
 show wpAny _ X.A (assign (.Name x px) X.env (.ref s2.heap.objs.size)) _ _ s';apply wpAny_assign_Name (Ud (v:=V.ref s2.heap.objs.size) I' hN hi' hx U (λpK I'' ⟨a,pR,ha⟩=>?_) hf)
 have hCa:(s2.heap.push { cls:=.type "list",data:=.seq ([]:aj).toArray }).objs.size≠a:=by
  rcases ha with e|e
  ·rw[e];exact je I3.lt
  exact (uS x a e).symm
 apply#[m,hm.sameBut pR hCa,λh' hs'=>#[_,H',?_,q]]
 exact I''.turned (t':=pK.toks) (λb o hb e=>hs'.extBut b o hb e) hn (je I3.lt) (.inr I3.sz) uS λp hp e=>by
   have:=(I3.pin p hp).1;rw[e] at this;exact absurd (bK this) (uf _)
def BJ(g:TG)(own:Nat)(fv:List aI)(dec:V->Hp->List aI->Prop):Prop:=
 ∀(x:V) (o:List aI) (H:Hp) (k:km) (o3:List aI),o.length=own->dec x H o3->k (o3++fv) H->g x (o++fv) H k
variable{fv:List aI}
theorem fg:BJ (jw 0) 1 fv (λx _ o3=>o3=[some x]):=λx o H k o3 hl e h=>by
 subst e
 match o,hl with
 |[a],_=>exact h
inductive FR (K:ai) (x:V) (H:Hp) (o3:List aI):Prop
 |mk:∀p u v,x=.ref p->fH K H p [u,v]->o3=[some u,some v]->FR K x H o3
inductive FQ (K:ai) (x:V) (H:Hp) (o3:List aI):Prop
 |mk:∀p u v w,x=.ref p->fH K H p [u,v,w]->o3=[some u,some v,some w]->FQ K x H o3
variable{K:ai}
theorem wc:BJ (gi K 2 (pZ (jw 0) (pZ (jw 1) tH))) 2 fv (FR K):=λx o H k o3 hl e h=>by
 let#[p,u,v,rfl,hp,rfl]:=e
 match o,hl with
 |[a,b],_=>exact#[p,[u,v],U,hp,U,u,[v],U,v,[],U,U,h]
theorem Mx:BJ (gi K 3 (pZ (jw 0) (pZ (jw 1) (pZ (jw 2) tH)))) 3 fv (FQ K):=λx o H k o3 hl e h=>by
 let#[p,u,v,w,rfl,hp,rfl]:=e
 match o,hl with
 |[a,b,c],_=>exact#[p,[u,v,w],U,hp,U,u,[v,w],U,v,[w],U,w,[],U,U,h]
variable{H:Hp}{dec:V->Hp->List aI->Prop}{jk:St}
theorem IX(oZ:jk=List.replicate own none++fv)(G:BJ g own fv dec)(n:Nat)(Pv:Nat->af->Hp->Prop)(h0:Pv 0 [] (upd H D (.lst [])))(EF:∀out H',Pv n out H'->J.stop n H'/\Q (.ref D) H')(AL:∀i out H',i<n->Pv i out H'->J.go i H'/\∀x H2,J.vo i H' x H2->∃o3,dec x H2 o3/\o3.length=own/\∀Nx:Hp->Prop,(∀iS H2,Pv (i+1) iS H2->Nx H2)->
   tc (o3++fv) H2 λb H4=>if b=true then te (o3++fv) H4 λy H5=>∃eU,H5 D\.lst eU/\eU.length<sizeLine/\Nx (upd H5 D (.lst (eU++[y]))) else Nx H4) :
  yA J g tc te jk D H Q:=by
 subst oZ;apply#[λi m bf H'=>m=n - i/\i<=n/\(∃o:List aI,bf=o++fv/\o.length=own)/\∃out,Pv i out H',#[n,by simp,gN _,#[_,U,CQ],_,h0],?_];rintro i m bf H' ⟨rfl,hi,⟨o,rfl,ho⟩,out,p⟩;by_cases dQ:i<n
 ·let#[go,k]:=AL i out H' dQ p;apply .inr #[go,λgc H2=>(∃o:List aI,gc=o++fv/\o.length=own)/\∃out,Pv (i+1) out H2,λgc H2 q=>#[n - (i+1),by omega,U,dQ,q],λx H2 y=>?_];let#[o3,d,l3,q]:=k x H2 y;exact G x o H2 _ o3 ho d (q (λH2=>(∃o:List aI,o3++fv=o++fv/\o.length=own)/\∃out,Pv (i+1) out H2) λiS H2 z=>#[#[o3,U,l3],iS,z])
 have e:i=n:=by omega
 subst e;exact .inl (EF out H' p)
theorem j9{a:Addr}{xs:af}(oZ:jk=List.replicate own none++fv)(G:BJ g own fv dec)(Pv:Nat->af->Hp->Prop)(h0:Pv 0 [] (upd H D (.lst [])))(hl:∀i out H',i<=xs.length->Pv i out H'->d5 K H' a xs)(hd:∀out H',Pv xs.length out H'->Q (.ref D) H')(AL:∀i x out H',xs[i]? = some x->Pv i out H'->∃o3,dec x H' o3/\o3.length=own/\∀Nx:Hp->Prop,(∀iS H2,Pv (i+1) iS H2->Nx H2)->
   tc (o3++fv) H' λb H4=>if b=true then te (o3++fv) H4 λy H5=>∃eU,H5 D\.lst eU/\eU.length<sizeLine/\Nx (upd H5 D (.lst (eU++[y]))) else Nx H4) :
  yA (yT K a) g tc te jk D H Q:=by
 apply IX oZ G xs.length Pv h0 (λout H' p=>#[#[xs,hl _ _ _ (a9 _) p,a9 _],hd out H' p]) λi out H' hi p=>?_;let q:=hl i out H' (Nat.le_of_lt hi) p;apply#[#[xs,xs[i],q,by simp[hi]],λx H2 y=>?_];let#[e,y]:=y;subst e;exact AL i x out _ (y xs q) p
end L2
namespace qt
open PySem PySem.W PyProof.Rows
def Ok{α:Type}(f:Nat->Nat->Bool)(n:Nat):KasT α->(α->Prop)->Prop
 |.ret a,Q=>Q a
 |.ask i j k,Q=>i<n/\j<n/\Ok f n (k (f i j)) Q
theorem Ok.bind{α β:Type}{f:Nat->Nat->Bool}{n:Nat}{g:α->KasT β}{Q:β->Prop}:∀{t:KasT α} {R:α->Prop},Ok f n t R->(∀a,R a->Ok f n (g a) Q)->Ok f n (t.bind g) Q
 |.ret a,R,h,k=>k a h
 |.ask i j t,R,h,k=>#[h.1,h.2.1,Ok.bind h.2.2 k]
theorem Ok.imp{α:Type}{f:Nat->Nat->Bool}{n:Nat}{Q R:α->Prop}(k:∀a,Q a->R a):∀{t:KasT α},Ok f n t Q->Ok f n t R
 |.ret a,h=>k a h
 |.ask i j t,h=>#[h.1,h.2.1,Ok.imp k h.2.2]
theorem Ok.wp{α:Type}{f:Nat->Nat->Bool}{n:Nat}{cmp:Nat->Nat->(Bool->Ab->Prop)->Ab->Prop}{s:Ab}(hc:∀i j C,i<n->j<n->C (f i j) s->cmp i j C s){Q:α->Prop}{G:α->Ab->Prop}(k:∀a,Q a->G a s) :
  ∀{t:KasT α},Ok f n t Q->t.kasWp cmp G s
 |.ret a,h=>k a h
 |.ask i j t,h=>hc i j _ h.1 h.2.1 (Ok.wp hc k h.2.2)
structure Ord (f:Nat->Nat->Bool):Prop where
 fA:∀i,f i i=false
 trans:∀{i j k},f j i=false->f k j=false->f k i=false
 GZ:∀{i j},f i j=true->f j i=false
variable{p:Array Nat}
variable{i j:Nat}
variable{k:Nat}
variable{n:Nat}
variable{lo:Nat}
variable{dF:Nat}
section
variable{f:Nat->Nat->Bool}(O:Ord f){N:Nat}
abbrev at'(p:Array Nat)(i:Nat):Nat:=p.getD i 0
def Up(f:Nat->Nat->Bool)(p:Array Nat)(k:Nat):Prop:=∀i j,i<=j->j<k->f (at' p j) (at' p i)=false
def Down(f:Nat->Nat->Bool)(p:Array Nat)(k:Nat):Prop:=∀i j,i<=j->j<k->f (at' p i) (at' p j)=false
def pI(f:Nat->Nat->Bool)(p:Array Nat)(lo k:Nat):Prop:=∀i,lo<=i->i<k->f (at' p i) (at' p (k - 1))=false/\f (at' p (k - 1)) (at' p i)=false
def Good(N:Nat)(p:Array Nat):Prop:=p.Perm (List.range N).toArray
theorem Good.size(h:Good N p):p.size=N:=by
 have:=h.size_eq;simpa using this
theorem Good.lt(h:Good N p)(hN:0<N)(i:Nat):at' p i<N:=by
 unfold at';by_cases hi:i<p.size
 ·have e:p.getD i 0=p[i]:=by simp[Array.getD,hi]
  rw[e];have m:p[i]∈(List.range N).toArray:=h.mem_iff.mp (Array.getElem_mem hi);simpa using m
 have e:p.getD i 0=0:=by simp[Array.getD,hi]
 rw[e];exact hN
theorem Good.rev(h:Good N p)(i j:Nat):Good N (kas_rev p i j):=(mirror_perm _ _ _ _).trans h
theorem Good.bub(h:Good N p)(i j:Nat):Good N (bubble p i j):=(bubble_perm _ _ _).trans h
theorem Gp{q:Array Nat}(h:p[i]? = q[j]?):at' p i=at' q j:=by
 unfold at';rw[Array.getD_eq_getD_getElem?,Array.getD_eq_getD_getElem?,h]
theorem Be(hj:j<=p.size)(k:Nat):at' (kas_rev p i j) k=if i<=k/\k<j then at' p (i+j - 1 - k) else at' p k:=by
 let e:=getElem?_mirror_all (i:=i) hj k;unfold kas_rev;split
 ·rename_i c
  rw[aK c] at e;exact Gp e
 rename_i c
 rw[aC c] at e;exact Gp e
theorem Q7{l:Nat}(hk:k<p.size)(hl:l<=k)(i:Nat):at' (bubble p k (k - l)) i=if i=l then at' p k else if l<i/\i<=k then at' p (i - 1) else at' p i:=by
 let e:=getElem?_bubble hk (k - l) Y0 i;rw[show k - (k - l)=l by omega] at e;by_cases c:i=l
 ·rw[aK c] at e ⊢;exact Gp e
 rw[aC c] at e ⊢;split
 ·rename_i d
  rw[aK d] at e;exact Gp e
 rename_i d
 rw[aC d] at e;exact Gp e
include O
theorem Up.more(h:Up f p n)(h1:1<=n)(c:f (at' p n) (at' p (n - 1))=false):Up f p (n+1):=λi j n6 hj=>by
 by_cases e:j<n
 ·exact h i j n6 e
 have e:j=n:=by omega
 subst e;by_cases e2:i=j
 ·subst e2;exact O.fA _
 exact O.trans (h i (j - 1) Y0 Y0) c
theorem Down.more(h:Down f p n)(h1:1<=n)(c:f (at' p (n - 1)) (at' p n)=false):Down f p (n+1):=λi j n6 hj=>by
 by_cases e:j<n
 ·exact h i j n6 e
 have e:j=n:=by omega
 subst e;by_cases e2:i=j
 ·subst e2;exact O.fA _
 exact O.trans c (h i (j - 1) Y0 Y0)
theorem ME{p:Array Nat}(g:Good N p)(hN:0<N):∀(m n:Nat),1<=n->Up f p n->Ok f N (kas_asc p m n) λr=>n<=r/\r<=n+m/\Up f p r/\(r<n+m->f (at' p r) (at' p (r - 1))=true)
 |0,n,_,h=>#[a9 _,a9 _,h,λq=>absurd q Y0]
 |m+1,n,h1,h=>by
  apply#[g.lt hN _,g.lt hN _,?_];dsimp only;by_cases c:f (at' p n) (at' p (n - 1))=true
  ·rw[aK c];exact#[a9 _,by omega,h,λ_=>c]
  rw[aC c];apply (ME g hN m (n+1) Y0 (h.more O h1 ⇑c)).imp λr ⟨a,b,u,z⟩=>#[by omega,by omega,u,λq=>z Y0]
theorem pI.rev(h:pI f p lo k)(hk:k<=p.size)(i:Nat):f (at' (kas_rev p lo k) i) (at' p i)=false/\f (at' p i) (at' (kas_rev p lo k) i)=false:=by
 rw[Be hk];split
 ·rename_i c
  let#[a1,a2]:=h i c.1 c.2;let#[b1,b2]:=h (lo+k - 1 - i) Y0 Y0;exact#[O.trans a2 b1,O.trans b2 a1]
 exact#[O.fA _,O.fA _]
theorem Down.rev(h:Down f p n)(l:pI f p lo k)(hk:k<=p.size):Down f (kas_rev p lo k) n:=λi j n6 hj=>by
 let#[a1,_]:=l.rev O hk i;let#[_,b2]:=l.rev O hk j;exact O.trans (O.trans b2 (h i j n6 hj)) a1
theorem Jg(hN:0<N):∀(m:Nat) (p:Array Nat) (n q:Nat),Good N p->1<=n->q+1<=n->n+m<=N->Down f p n->pI f p (n - (q+1)) n->
  Ok f N (kas_desc m p n q) λr=>Good N r.1/\n<=r.2.1/\r.2.1<=n+m/\Down f r.1 r.2.1/\r.2.2+1<=r.2.1/\pI f r.1 (r.2.1 - (r.2.2+1)) r.2.1
 |0,p,n,q,g,h1,hq,hn,d,l=>#[g,a9 _,a9 _,d,hq,l]
 |m+1,p,n,q,g,h1,hq,hn,d,l=>by
  apply#[g.lt hN _,g.lt hN _,?_];dsimp only;by_cases c:f (at' p n) (at' p (n - 1))=true
  ·rw[aK c];have d2:Down f p (n+1):=d.more O h1 (O.GZ c)
   have one:∀p':Array Nat,pI f p' (n+1 - (0+1)) (n+1):=λp' i h2 h3=>by
    have e:i=n+1 - 1:=by omega
    subst e;exact#[O.fA _,O.fA _]
   by_cases RG:q > 0
   ·rw[aK RG];have hk:n<=p.size:=by rw[g.size];omega
    exact (Jg hN m _ (n+1) 0 (g.rev _ _) Y0 Y0 Y0 (d2.rev O l hk) (one _)).imp λr ⟨a,b,b2,z⟩=>#[a,by omega,by omega,z]
   rw[aC RG];exact (Jg hN m _ (n+1) 0 g Y0 Y0 Y0 d2 (one _)).imp λr ⟨a,b,b2,z⟩=>#[a,by omega,by omega,z]
  rw[aC c];apply#[g.lt hN _,g.lt hN _,?_];dsimp only;have c:f (at' p n) (at' p (n - 1))=false:=⇑c
  by_cases e:f (at' p (n - 1)) (at' p n)=true
  ·rw[aK e];exact#[g,a9 _,by show n<=n+(m+1);omega,d,hq,l]
  rw[aC e];have e:f (at' p (n - 1)) (at' p n)=false:=⇑e
  apply (Jg hN m p (n+1) (q+1) g Y0 Y0 Y0 (d.more O h1 e) λi h2 h3=>?_).imp λr ⟨a,b,b2,z⟩=>#[a,by omega,by omega,z];show f (at' p i) (at' p n)=false/\f (at' p n) (at' p i)=false;by_cases ei:i=n
  ·subst ei;exact#[O.fA _,O.fA _]
  let#[a1,a2]:=l i Y0 Y0;exact#[O.trans e a1,O.trans a2 c]
def Nq(f:Nat->Nat->Bool)(N dF:Nat)(r:Nat × Array Nat):Prop:=Good N r.2/\1<=r.1/\r.1<=dF/\Up f r.2 r.1
theorem Je(hN:0<N)(g:Good N p)(h1:1<=n)(hn:n<=dF)(hr:dF<=N)(d:Down f p n):Ok f N (kas_tail3 n dF p) (Nq f N dF):=by
 unfold kas_tail3
 have u:Up f (kas_rev p 0 n) n:=λi j n6 hj=>by
  rw[Be (by rw[g.size];omega),Be (by rw[g.size];omega),aK Y0,aK Y0];exact d _ _ Y0 Y0
 exact (ME O (g.rev _ _) hN (dF - n) n h1 u).bind λm ⟨a,b,u,_⟩=>#[g.rev _ _,by show 1<=m;omega,by show m<=dF;omega,u]
theorem UC(hN:0<N)(g:Good N p)(hn:n+1<=dF)(hr:dF<=N)(d:Down f p (n+1)):Ok f N (kas_descPart n dF p) (Nq f N dF):=by
 unfold kas_descPart;apply (Jg O hN (dF - (n+1)) p (n+1) 0 g Y0 Y0 Y0 d λi h2 h3=>?_).bind λr ⟨g',a,b,d',hq,l⟩=>?_
 ·have e:i=n+1 - 1:=by omega
  subst e;exact#[O.fA _,O.fA _]
 split
 ·exact Je O hN (g'.rev _ _) Y0 Y0 hr (d'.rev O l (by rw[g'.size];omega))
 exact Je O hN g' Y0 Y0 hr d'
theorem hS_(hN:0<N)(g:Good N p)(h1:1<=dF)(hr:dF<=N):Ok f N (kas_count dF p) (Nq f N dF):=by
 unfold kas_count;apply (ME O g hN (dF - 1) 1 (a9 _) λi j n6 hj=>?_).bind λn ⟨a,b,u,st⟩=>?_
 ·have e:i=j:=by omega
  subst e;exact O.fA _
 by_cases e:(n == dF)=true
 ·rw[aK e];exact#[g,a,by show n<=dF;omega,u]
 rw[aC e];have e:n≠dF:=⇑e
 let c:=st Y0;by_cases h2:n > 1
 ·rw[aK h2];apply#[g.lt hN _,g.lt hN _,?_];dsimp only;by_cases c2:f (at' p 0) (at' p (n - 1))=true
  ·rw[aK c2];exact#[g,a,by show n<=dF;omega,u]
  rw[aC c2];have c2:f (at' p 0) (at' p (n - 1))=false:=⇑c2
  apply UC O hN (g.rev _ _) Y0 hr λi j n6 hj=>?_;by_cases ej:j<n
  ·rw[Be (by rw[g.size];omega),Be (by rw[g.size];omega),aK Y0,aK Y0];exact u _ _ Y0 Y0
  have ej:j=n:=by omega
  subst ej;by_cases ei:i=j
  ·subst ei;exact O.fA _
  rw[Be (by rw[g.size];omega),Be (by rw[g.size];omega),aK Y0,aC Y0];exact O.trans (O.trans (O.GZ c) c2) (u 0 _ Y0 Y0)
 rw[aC h2];have e1:n=1:=by omega
 subst e1;apply UC O hN g Y0 hr λi j n6 hj=>?_;by_cases ei:i=j
 ·subst ei;exact O.fA _
 have q1:i=0:=by omega
 have q2:j=1:=by omega
 subst q1;subst q2;exact O.GZ c
theorem Nr(hN:0<N){p:Array Nat}{k:Nat}(g:Good N p)(u:Up f p k):∀(m l r:Nat),r - l<=m->l<=r->r<=k->(∀i,i<l->f (at' p k) (at' p i)=false)->(∀i,r<=i->i<k->f (at' p k) (at' p i)=true)->
  Ok f N (kas_place p k m l r) λx=>x<=k/\(∀i,i<x->f (at' p k) (at' p i)=false)/\∀i,x<=i->i<k->f (at' p k) (at' p i)=true
 |0,l,r,hm,hl,hr,h1,h2=>by
  have e:l=r:=by omega
  subst e;exact#[hr,h1,h2]
 |m+1,l,r,hm,hl,hr,h1,h2=>by
  unfold kas_place;by_cases e:l ≥ r
  ·rw[aK e];have e:l=r:=by omega
   subst e;exact#[hr,h1,h2]
  rw[aC e];apply#[g.lt hN _,g.lt hN _,?_];dsimp only;by_cases c:f (at' p k) (at' p ((l+r) / 2))=true
  ·rw[aK c];apply Nr hN g u m l _ Y0 Y0 Y0 h1 λi h3 h4=>?_;by_cases ei:f (at' p k) (at' p i)=true
   ·exact ei
   have ei:f (at' p k) (at' p i)=false:=⇑ei
   have:=O.trans (u _ i h3 h4) ei;rw[c] at this;cases this
  rw[aC c];have c:f (at' p k) (at' p ((l+r) / 2))=false:=⇑c
  exact Nr hN g u m _ r Y0 Y0 hr (λi h3=>O.trans (u i _ Y0 Y0) c) h2
theorem Q4(hN:0<N):∀(m:Nat) (p:Array Nat) (k:Nat),Good N p->k+m=N->Up f p k->Ok f N (kas_bin m p k) λr=>Good N r/\Up f r N
 |0,p,k,g,e,u=>by
  have e:k=N:=by omega
  subst e;exact#[g,u]
 |m+1,p,k,g,e,u=>by
  unfold kas_bin;apply (Nr O hN g u k 0 k Y0 Y0 (a9 _) (λi h=>absurd h Y0) λi h1 h2=>absurd h2 Y0).bind λl ⟨hl,h1,h2⟩=>?_;have hk:k<p.size:=by rw[g.size];omega
  apply Q4 hN m _ (k+1) (g.bub _ _) Y0 λi j n6 hj=>?_;rw[Q7 hk hl,Q7 hk hl];by_cases ej:j=l
  ·rw[aK ej];by_cases ei:i=l
   ·rw[aK ei];exact O.fA _
   rw[aC ei,aC Y0];exact h1 i Y0
  rw[aC ej];by_cases TM:l<j/\j<=k
  ·rw[aK TM];by_cases ei:i=l
   ·rw[aK ei];exact O.GZ (h2 (j - 1) Y0 Y0)
   rw[aC ei];by_cases TU:l<i/\i<=k
   ·rw[aK TU];exact u _ _ Y0 Y0
   rw[aC TU];exact u _ _ Y0 Y0
  rw[aC TM];rw[aC (show ¬i=l by omega),aC (show ¬(l<i/\i<=k) by omega)];exact u _ _ Y0 Y0
theorem Sy(hN:0<N):Ok f N (kas_sort N) λp=>Good N p/\Up f p N:=by
 unfold kas_sort;apply (hS_ O hN (p:=(List.range N).toArray) (Array.Perm.refl _) hN (a9 _)).bind λr ⟨g,h1,h2,u⟩=>?_;split
 ·rename_i c
  rw[show max r.1 1=r.1 by omega];exact Q4 O hN _ _ _ g Y0 u
 rename_i c
 have e:r.1=N:=by omega
 exact#[g,e▸u]
end
def uz(prog:Ad)(w:Af)(A:Ag)(f:Nat->Nat->Bool)(vs:aj)(s:Ab):Prop:=
 ∃κ,(∀Q:SortKind->Ab->Prop,Q κ s->wpAny (model prog w) A (keyKind' vs.toArray) Q (λ_ _=>False) s)/\∀i j C,i<vs.length->j<vs.length->C (f i j) s->kas_ask prog w A κ vs i j C s
def Gq(a:Addr)(h h':Heap):Prop:=∀b o,b≠a->h.get? b\o->h'.get? b\o
def ml(p:Array Nat)(vs:aj):aj:=p.toList.map λi=>vs.getD i Value.none
theorem UG(vs:aj):ml (List.range vs.length).toArray vs=vs:=by
 unfold ml;apply List.ext_getElem? ?_;intro i;simp only[de];by_cases h:i<vs.length
 ·simp[h]
 simp[Nat.le_of_not_lt h]
variable{f:Nat->Nat->Bool}{prog:Ad}{w:Af}{A:Ag}{E:Aa->Ab->Prop}{s:Ab}
theorem _K{a:Addr}{vs:aj}{P:Fin->Ab->Prop}(O:Ord f)(ho:s.heap.get? a\seqObj "list" vs.toArray n)(cQ:vs.length<64)(AS:2<=vs.length->∀h',Gq a s.heap h'->uz prog w A f vs { s with heap:=h' })(h:∀(p:Array Nat) (h':Heap) (e:Nat),Good vs.length p->Up f p vs.length->h'.get? a\seqObj "list" (ml p vs).toArray e->Gq a s.heap h'->P (.done (.ret .none)) { s with heap:=h' }) :
  wpAny (model prog w) A (Builtin.«list.sort» #[[.ref a],[]]) P E s:=by
 have haz:a<s.heap.objs.size:=bK ho;obtain⟨e1,vW⟩:∃e1,(s.heap.update a (Obj.mapSeq λ_=>(#[]:Array Aa))).get? a\seqObj "list" #[] e1:=#[_,get?_update_seq ho (λ_=>#[])]
 have B1:vs.length<=sizeLine:=by
  have:=cJ;omega
 rw[list_sort_plain];apply ae (listItems_at ho U (ae (listUpdate_at ho U (ae (seqEpoch_at vW U (ae (wpAny_newTuple (ae (wpAny_newList (gR ?_) (gN _))) B1)))) ⇑B1 (gN _))))
 have keep:∀g:Array Aa->Array Aa,Gq a s.heap ((((s.heap.update a (Obj.mapSeq λ_=>(#[]:Array Aa))).push (seqObj "tuple" vs.toArray 0)).push (seqObj "list" #[] 0)).update a (Obj.mapSeq g)):=λg b o hb e=>by
  apply (u5 _ _ (dI hb)).trans (bo _ (bo _ ?_));exact (u5 _ _ (dI hb)).trans e
 have Er:Gq a s.heap (((s.heap.update a (Obj.mapSeq λ_=>(#[]:Array Aa))).push (seqObj "tuple" vs.toArray 0)).push (seqObj "list" #[] 0)):=λb o hb e=>
  bo _ (bo _ ((u5 _ _ (dI hb)).trans e))
 have Cb:(((s.heap.update a (Obj.mapSeq λ_=>(#[]:Array Aa))).push (seqObj "tuple" vs.toArray 0)).push (seqObj "list" #[] 0)).get? a\seqObj "list" #[] e1:=bo _ (bo _ vW);show wpAny (model prog w) A _ P E { s with heap:=((s.heap.update a (Obj.mapSeq λ_=>(#[]:Array Aa))).push (seqObj "tuple" vs.toArray 0)).push (seqObj "list" #[] 0) };dsimp only;by_cases h2:vs.toArray.size<2
 ·rw[aK h2,aK h2];apply ae (aH ?_);rw[StateT.run_pure]
  have wo:((vs.toArray.zip vs.toArray).map λx:Keyed=>x.2)=(ml (List.range vs.length).toArray vs).toArray:=by
   rw[UG];apply Array.ext' ?_;simp[List.map_snd_zip]
  apply ae (aH (ae (seqEpoch_at Cb U (ae (listUpdate_at Cb U ?_ (gN _) ?_)))))
  ·simp only[bne_self_eq_false,pH,if_false];apply aH (h (List.range vs.length).toArray _ _ (Array.Perm.refl _) (λi j n6 hj=>?_) ((get?_update_seq Cb _).trans (eW (λz=>some (seqObj "list" z _)) wo)) (keep _))
   have e:i=j:=by
    simp only[cY] at h2;omega
   subst e;exact O.fA _
  have e:((vs.toArray.zip vs.toArray).map λx:Keyed=>x.2).size<=sizeLine+1:=by
   simp only[Array.size_map,Array.size_zip,cY];omega
  exact e
 rw[aC h2,aC h2]
 have g_:2<=vs.length:=by
  simp only[cY] at h2;omega
 let#[κ,hk,hc]:=AS g_ _ Er;apply ae (wpAny_mono (hk (λk s'=>k=κ/\s'=_) #[U,U]) (λk s' E1=>?_) λ_ _ x=>x.elim);let#[rfl,rfl]:=E1
 apply ae (wpAny_mono (kat_run (ks:=vs) (vs:=vs) (G:=λp s'=>s'={ s with heap:=((s.heap.update a (Obj.mapSeq λ_=>(#[]:Array Aa))).push (seqObj "tuple" vs.toArray 0)).push (seqObj "list" #[] 0) }/\Good vs.length p/\Up f p vs.length)
  (Q:=λdX s'=>∃p:Array Nat,arrOf dX=p.map (kas_item (vs.toArray.zip vs.toArray))/\failedOf dX=none/\s'={ s with heap:=((s.heap.update a (Obj.mapSeq λ_=>(#[]:Array Aa))).push (seqObj "tuple" vs.toArray 0)).push (seqObj "list" #[] 0) }/\Good vs.length p/\Up f p vs.length)
  rfl g_ cQ (λp dX s' _ q1 q2 q3=>#[p,q1,q2,q3]) (Ok.wp hc (λp q=>#[U,q]) (Sy O Y0))) ?_ λ_ _ x=>x)
 rintro⟨⟨⟩,dX⟩ s' ⟨p,Mj,hf,hs',g,u⟩;have hs':s'={ s with heap:=((s.heap.update a (Obj.mapSeq λ_=>(#[]:Array Aa))).push (seqObj "tuple" vs.toArray 0)).push (seqObj "list" #[] 0) }:=hs';subst hs'
 have wo:((arrOf dX).map λx:Keyed=>x.2)=(ml p vs).toArray:=by
  rw[Mj];apply Array.ext' ?_;unfold ml;simp only[Array.map_map,Array.toList_map,List.toList_toArray];apply u6 λi _=>?_;show (kas_item (vs.toArray.zip vs.toArray) i).2=_;unfold kas_item;by_cases hi:i<vs.length
  ·simp[Array.getD,hi]
  simp[Array.getD,hi,Nat.le_of_not_lt hi]
 have esz:((arrOf dX).map λx:Keyed=>x.2).size=vs.length:=by
  rw[wo];unfold ml;simp only[cY,aq,ud];exact g.size
 apply ae (seqEpoch_at Cb U (ae (listUpdate_at Cb U ?_ (gN _) (by rw[esz];omega))));rw[hf];simp only[bne_self_eq_false,pH,if_false];exact aH (h p _ _ g u ((get?_update_seq Cb _).trans (eW (λz=>some (seqObj "list" z _)) wo)) (keep _))
theorem Uv{x:Aa}{Q:Aa->Ab->Prop}(O:Ord f)(l7:wpAny (model prog w) A.in1 (collect x) (λvs s1=>vs.length<64/\(2<=vs.length->∀h':Heap,(∀b o,s1.heap.get? b\o->h'.get? b\o)->uz prog w A.in1.in1 f vs { s1 with heap:=h' }) /\
   ∀(p:Array Nat) (h':Heap) (e:Nat),Good vs.length p->Up f p vs.length->h'.get? s1.heap.objs.size\seqObj "list" (ml p vs).toArray e->(∀b o,s1.heap.get? b\o->h'.get? b\o)->Q (.ref s1.heap.objs.size) { s1 with heap:=h' }) E s) :
  wpAny (model prog w) A (call (.builtin "sorted") [x]) Q E s:=by
 apply Calls.call_function_entry kind_sorted plain_sorted entry_sorted (args_sorted1 _) ?_;unfold Builtin.«sorted»;apply ae (m:=checkCount "sorted" 1 1 _) (aH (ae (wpAny_mono l7 (λvs s1 q=>?_) λ_ _ z=>z)));let#[cQ,AS,hQ]:=q;apply ae (wpAny_newList ?_ (by have:=cJ;omega));have hn:(s1.heap.push (seqObj "list" vs.toArray 0)).get? s1.heap.objs.size\seqObj "list" vs.toArray 0:=dj _ U
 have old:∀h',Gq s1.heap.objs.size (s1.heap.push (seqObj "list" vs.toArray 0)) h'->∀b o,s1.heap.get? b\o->h'.get? b\o:=λh' k b o e=>
  k b o (dE (bK e)) (bo _ e)
 apply ae (gR (tQ slot_list_sort #[_,hn,U] entry_list_sort (_K O hn cQ (λh2 h' k=>AS h2 h' (old h' k)) λp h' e g u q k=>#[_,U,?_]) (args_list_sort _)));exact aH #[_,U,hQ p h' e g u q (old h' k)]
end qt
namespace L2
open PySem PySem.Spec PyProof.Rows PySem.W qt
def jn:Key->Key->Bool
 |.inl i,.inl j=>decide (i<j)
 |.inl _,.inr _=>true
 |.inr _,.inl _=>false
 |.inr x,.inr y=>decide (x.cps.toList<y.cps.toList)
def bM:aD->aD->Bool
 |[],[]=>false
 |[],_::_=>true
 |_::_,[]=>false
 |a::r,b::q=>if a=b then bM r q else jn a b
theorem ZE:∀a:Key,jn a a=false
 |.inl i=>by simp[jn]
 |.inr x=>by simp[jn,List.lt_irrefl]
theorem TJ:∀{a b:Key},jn a b=true->jn b a=false
 |.inl i,.inl j,h=>by
  simp only[jn,uT,decide_eq_false_iff_not] at *;omega
 |.inl _,.inr _,_=>rfl
 |.inr _,.inl _,h=>by cases h
 |.inr x,.inr y,h=>by
  simp only[jn,uT,decide_eq_false_iff_not] at *;exact λq=>List.lt_irrefl _ (List.lt_trans h q)
theorem Sh:∀{a b:Key},jn a b=false->jn b a=false->a=b
 |.inl i,.inl j,h,h2=>by
  simp only[jn,decide_eq_false_iff_not] at *;rw[show i=j by omega]
 |.inl _,.inr _,h,_=>by cases h
 |.inr _,.inl _,_,h=>by cases h
 |.inr x,.inr y,h,h2=>by
  simp only[jn,decide_eq_false_iff_not] at *;rw[ext_toList (List.le_antisymm (List.not_lt.mp h2) (List.not_lt.mp h))]
theorem gE_:∀{a b c:Key},jn a b=true->jn b c=true->jn a c=true
 |.inl i,.inl j,.inl k,h,h2=>by
  simp only[jn,uT] at *;omega
 |.inl _,.inl _,.inr _,_,_=>rfl
 |.inl _,.inr _,.inr _,_,_=>rfl
 |.inl _,.inr _,.inl _,_,h=>by cases h
 |.inr _,.inl _,_,h,_=>by cases h
 |.inr _,.inr _,.inl _,_,h=>by cases h
 |.inr x,.inr y,.inr z,h,h2=>by
  simp only[jn,uT] at *;exact List.lt_trans h h2
theorem Nw:∀a:aD,bM a a=false
 |[]=>rfl
 |a::r=>by
  unfold bM;rw[aK U];exact Nw r
theorem Om:∀{a b:aD},bM a b=true->bM b a=false
 |[],[],h=>by cases h
 |[],_::_,_=>rfl
 |_::_,[],h=>by cases h
 |a::r,b::q,h=>by
  unfold bM at h ⊢;by_cases e:a=b
  ·rw[aK e] at h;rw[aK e.symm];exact Om h
  rw[aC e] at h;rw[aC (dI e)];exact TJ h
theorem NS:∀{a b:aD},bM a b=false->bM b a=false->a=b
 |[],[],_,_=>rfl
 |[],_::_,h,_=>by cases h
 |_::_,[],_,h=>by cases h
 |a::r,b::q,h,h2=>by
  unfold bM at h h2;by_cases e:a=b
  ·rw[aK e] at h;rw[aK e.symm] at h2;rw[e,NS h h2]
  rw[aC e] at h;rw[aC (dI e)] at h2;exact absurd (Sh h h2) e
theorem UK:∀{a b c:aD},bM a b=true->bM b c=true->bM a c=true
 |[],_,[],h,h2=>by
  rename_i b
  cases b with
  |nil=>cases h
  |cons _ _=>cases h2
 |[],_,_::_,_,_=>rfl
 |_::_,[],_,h,_=>by cases h
 |_::_,_::_,[],_,h=>by cases h
 |a::r,b::q,c::t,h,h2=>by
  unfold bM at h h2 ⊢;by_cases e:a=b
  ·subst e;rw[aK U] at h;by_cases e2:a=c
   ·rw[aK e2] at h2 ⊢;exact UK h h2
   rw[aC e2] at h2 ⊢;exact h2
  rw[aC e] at h;by_cases e2:b=c
  ·subst e2;rw[aC e];exact h
  rw[aC e2] at h2;let h3:=gE_ h h2;rw[aC (λq=>by rw[q,ZE] at h3;cases h3)];exact h3
theorem Uu{a b c:aD}(h:bM b a=false)(h2:bM c b=false):bM c a=false:=by
 cases e:bM c a with
 |false=>rfl
 |true=>
  by_cases e1:bM a b=true
  ·have:=UK e e1;rw[h2] at this;cases this
  have e1:bM a b=false:=⇑e1
  have:=NS e1 h;subst this;rw[h2] at e;cases e
def CU(ks:List aD):Prop:=ks.Pairwise λa b=>bM b a=false
theorem Us:∀{a b:List aD},a.Perm b->CU a->CU b->a=b
 |[],b,p,_,_=>by
  have:=p.length_eq;cases b with
  |nil=>rfl
  |cons _ _=>cases this
 |x::r,[],p,_,_=>by
  have:=p.length_eq;cases this
 |x::r,y::q,p,h1,h2=>by
  let#[a1,a2]:=List.pairwise_cons.mp h1;let#[b1,b2]:=List.pairwise_cons.mp h2
  have e:x=y:=by
   rcases cg.mp (p.mem_iff.mp fY) with m|m
   ·exact m
   rcases cg.mp (p.mem_iff.mpr fY) with m2|m2
   ·exact m2.symm
   exact NS (b1 _ m) (a1 _ m2)
  subst e;rw[Us ((List.perm_cons _).mp p) a2 b2]
def bh(ks:List aD):List aD:=ks.mergeSort λa b=>!bM b a
theorem ue(ks:List aD):(bh ks).Perm ks:=List.mergeSort_perm _ _
theorem fL_(ks:List aD):CU (bh ks):=by
 have:=List.pairwise_mergeSort (le:=λa b=>!bM b a) (λa b c h1 h2=>by
  simp only[Bool.not_eq_true'] at *;exact Uu h1 h2) (λa b=>by
  simp only[Bool.or_eq_true,Bool.not_eq_true'];by_cases e:bM b a=true
  ·exact .inr (Om e)
  exact .inl ⇑e) ks
 exact this.imp λh=>by simpa using h
variable{ks:List aD}
theorem OE{iW:List aD}(p:iW.Perm ks)(h:CU iW):iW=bh ks:=Us (p.trans (ue ks).symm) h (fL_ ks)
variable{p:Array Nat}
theorem GB{α:Type}{n:Nat}(g:Good n p)(F:Nat->α):(p.toList.map F).Perm ((List.range n).map F):=by
 have e:p.toList.Perm (List.range n):=by
  have:=Array.perm_iff_toList_perm.mp g;simpa using this
 exact e.map F
theorem MY{f:Nat->Nat->Bool}(hf:∀i j,i<ks.length->j<ks.length->f i j=bM (ks.getD i []) (ks.getD j []))(g:Good ks.length p)(u:Up f p ks.length):CU (p.toList.map λi=>ks.getD i []):=by
 unfold CU;rw[ub,List.pairwise_iff_getElem];intro i j hi hj n6;let hs:=g.size;rw[ud] at hi hj;have LW:j<ks.length:=by omega
 let q:=u i j (Nat.le_of_lt n6) LW;have hN:0<ks.length:=by omega
 rw[hf _ _ (g.lt hN _) (g.lt hN _)] at q;have e1:at' p i=p.toList[i]:=by simp[at',Array.getD,hi]
 have e2:at' p j=p.toList[j]:=by simp[at',Array.getD,hj]
 rw[e1,e2] at q;exact q
theorem M_(ks:List aD):Ord λi j=>bM (ks.getD i []) (ks.getD j []):=#[λ_=>Nw _,λh h2=>Uu h h2,λh=>Om h]
theorem GH{α:Type}(d:α)(l:List α):((List.range l.length).map λi=>l.getD i d)=l:=by
 apply List.ext_getElem? ?_;intro i;simp only[de];by_cases h:i<l.length
 ·simp[h]
 simp[Nat.le_of_not_lt h]
variable{ys:af}{vs:aj}
theorem NI(r:Vals ys vs)(g:Good vs.length p):Vals (p.toList.map λi=>ys.getD i .non) (ml p vs):=by
 unfold ml
 have key:∀l:List Nat,(∀i∈l,i<vs.length)->Vals (l.map λi=>ys.getD i .non) (l.map λi=>vs.getD i Value.none):=λl=>by
  induction l with
  |nil=>exact λ_=>.nil
  |cons i l ih=>
   intro h;apply .cons ?_ (ih λj hj=>h j (fo _ hj));let hi:=h i fY;have hy:i<ys.length:=by rw[r.length];exact hi
   let#[u,hu,ru]:=r.get (aX hy);have e1:ys.getD i .non=ys[i]:=by simp[hy]
   have e2:vs.getD i Value.none=u:=by simp[hu]
   show RelV (ys.getD i .non) (vs.getD i Value.none);rw[e1,e2];exact ru
 apply key p.toList λi hi=>?_;have m:i∈(List.range vs.length).toArray:=g.mem_iff.mp ⇑hi;simpa using m
theorem SG:∀{ss:ag} {vs:aj},Vals (ss.map V.str) vs->StrsAre vs ss
 |[],_,.nil=>.nil
 |x::r,_,.cons h t=>by
  let#[tk,rfl]:=h;exact .cons x tk (SG t)
def iE(ss:ag):ag:=(bh (ss.map λx=>[Sum.inr x])).map λk=>match k with
 |[.inr x]=>x
 |_=>⟨#[]⟩
def bP(x:Str):aD:=[Sum.inr x]
variable{prog:Ad}{w:Af}{A:Ag}{s:Ab}
theorem To{ss:ag}(r:StrsAre vs ss)(h2:2<=vs.length):uz prog w A (λi j=>bM ((ss.map bP).getD i []) ((ss.map bP).getD j [])) vs s:=by
 apply#[oneType',λQ q=>?_,λi j C hi hj hC=>?_]
 ·match vs,h2 with
  |v₁::VO::t,_=>
   rw[keyKind_strs r];exact aH q
 unfold kas_ask;rw[keyLt'_oneType]
 have look:∀k,k<vs.length->∃x t,vs.getD k Value.none=.str x t/\(ss.map bP).getD k []=[Sum.inr x]:=λk hk=>by
  let e:=r.strs;let#[x,t,q]:=r.all vs[k] (j_ hk);apply#[x,t,by simp[hk,q],?_]
  have RQ:k<ss.length:=by
   rw[<- e,aq];exact hk
  have e2:ss[k]=x:=by
   have e3:(vs.map strOf)[k]? = ss[k]?:=by rw[e]
   rw[de,aX hk,aX RQ,q] at e3;exact (dN e3).symm
  simp[RQ,e2,bP]
 let#[x,t,e1,e2]:=look i hi;let#[y,u,e3,e4]:=look j hj;rw[e1,e3];dsimp only at hC;rw[e2,e4] at hC;apply oneLt_str ?_;unfold bM at hC;by_cases e:x=y
 ·subst e;rw[aK U] at hC;have:decide (x.cps.toList<x.cps.toList)=false:=by simp[List.lt_irrefl]
  rw[this];exact hC
 rw[aC (λq=>e (iB q))] at hC;exact hC
def xU:Key->Bool
 |.inl _=>false
 |.inr _=>true
variable{a b:Key}
theorem _V{E:Aa->Ab->Prop}{c:Bool}{p q:Aa}{Q:Bool->Ab->Prop}(ra:RelV (kV a) p)(rb:RelV (kV b) q)(hk:xU a=xU b)(h:Q (jn a b) s) :
  wpAny (model prog w) A (oneLt' c p q) Q E s:=by
 cases a with
 |inl i=>
  cases b with
  |inr y=>cases hk
  |inl j=>
   let#[t,rfl]:=ra;let#[u,rfl]:=rb;cases c with
   |true=>exact oneLt_int h
   |false=>exact kat_one _ _ (lt_int (show PySem.W.BoolBack Q (.bool _) s from h))
 |inr x=>
  cases b with
  |inl j=>cases hk
  |inr y=>
   let#[t,rfl]:=ra;let#[u,rfl]:=rb;cases c with
   |true=>exact oneLt_str h
   |false=>exact kat_one _ _ (PyProof.Rows.lt_str (show PySem.W.BoolBack Q (.bool _) s from h))
theorem ZG(hk:xU a=xU b):pe (kV a) (kV b)=decide (a=b):=by
 cases a with
 |inl i=>
  cases b with
  |inr y=>cases hk
  |inl j=>
   show (i == j)=_;by_cases e:i=j
   ·subst e;simp
   ·rw[fO (λq=>e (Sum.inl.inj q))];simpa using e
 |inr x=>
  cases b with
  |inl j=>cases hk
  |inr y=>
   show (x == y)=_;by_cases e:x=y
   ·subst e;simp
   rw[fO (λq=>e (iB q))];simpa using e
theorem SR(a:Key):p7 (kV a)=true:=by cases a<;>rfl
theorem UW{prog:Ad}{w:Af}{A:Ag}{s:Ab}{Q:Bool->Ab->Prop}:∀{k1 k2:aD} {us vs:aj} (i:Nat),Vals (k1.map kV) us->Vals (k2.map kV) vs->k1.map xU=k2.map xU->Q (bM k1 k2) s->KatLex prog w A true false Q (us.zip vs) i s
 |[],[],_,_,i,.nil,.nil,_,h=>h
 |[],_::_,_,_,_,_,_,h,_=>by cases h
 |_::_,[],_,_,_,_,_,h,_=>by cases h
 |a::k1,b::k2,u::us,v::vs,i,.cons ra r1,.cons rb r2,hk,h=>by
  let#[e1,e2]:=List.cons.inj hk;apply kat_cons ?_;apply yE ra rb (SR a) (SR b) prog w _ _ ?_;rw[ZG e1];unfold bM at h;by_cases e:a=b
  ·rw[aK e] at h;rw[c_ e];exact kat_yes (UW (i+1) r1 r2 e2 h)
  rw[aC e] at h;rw[fO e];exact kat_no (_V ra rb e1 h)
def bS(K:ai)(H:Hp):af->List aD->Prop:=Paired λy k=>∃a,y=V.ref a/\H a\.tup (k.map kV)
def Alike(ks:List aD)(sh:List Bool):Prop:=sh≠[]/\∀k∈ks,k.map xU=sh
theorem hi_{X:Cx}{pins:List (Addr × Obj)}{σ:St}{H:Hp}{s':Ab}{sh:List Bool}(I:Inv X pins σ H s)(r:Vals ys vs)(t:bS X.K H ys ks)(al:Alike ks sh)(h2:2<=vs.length)(kp:∀b o,s.heap.get? b\o->s'.heap.get? b\o):uz X.prog X.w A (λi j=>bM (ks.getD i []) (ks.getD j [])) vs s':=by
 have look:∀k,k<vs.length->∃a its,vs.getD k Value.none=.ref a/\Vals ((ks.getD k []).map kV) its/\IsTup s'.heap a its.toArray/\ks.getD k []∈ks:=λk hk=>by
  have hy:k<ys.length:=by rw[r.length];exact hk
  have Cd:k<ks.length:=by rw[<- bI t];exact hy
  let#[u,hu,ru]:=r.get (aX hy)
  have gen:∀{ys:af} {ks:List aD} (k:Nat) (hy:k<ys.length) (Cd:k<ks.length),bS X.K H ys ks->∃a,ys[k]=V.ref a/\H a\.tup (ks[k].map kV):=λ{ys ks} k hy Cd t=>by
   induction t generalizing k with
   |nil=>exact absurd hy Y1
   |cons h t ih=>
    cases k with
    |zero=>exact h
    |succ k=>exact ih k ⇑hy ⇑Cd
  let#[a,e,sq]:=gen k hy Cd t;let#[its,ri,ti,_]:=I.tuple (fH.of sq);rw[e] at ru;cases ru;have e2:ks.getD k []=ks[k]:=by simp[Cd]
  apply#[a,its,by simp[hu],by rw[e2];exact ri,ti.keeps kp,?_];rw[e2];exact j_ Cd
 let#[l5,Fg]:=al
 obtain⟨c,DB,rfl⟩:∃c DB,sh=c::DB:=by
  cases sh with
  |nil=>exact absurd U l5
  |cons c DB=>exact#[c,DB,U]
 apply#[tuples' true,λQ q=>?_,λi j C hi hj hC=>?_]
 ·have A3:∀l:aj,(∀v∈l,∃(a:Addr) (its:aj) (k:aD),v=.ref a/\Vals (k.map kV) its/\IsTup s'.heap a its.toArray/\k.map xU=c::DB)->∃fs,KatTups s'.heap l fs/\fs.length=l.length/\∀v∈fs,Looks (model X.prog X.w) s'.heap (typeOf v) (.type (if c then "str" else "int")):=λl=>by
   induction l with
   |nil=>exact λ_=>#[[],.nil,U,λ_ h=>nomatch h]
   |cons v l ih=>
    intro h;let#[fs,h1,h2,h3]:=ih λv hv=>h v (fo _ hv);let#[a,its,k,rfl,rv,#[o,ho,hc,n,hd],hk]:=h v fY
    match k,its,rv,hk with
    |k0::k,u::its,.cons r0 _,hk=>
     apply#[u::fs,.cons ho hc hd Y1 h1,by simp[h2],λv hv=>?_];rcases cg.mp hv with e|hv
     ·subst e;let e0:=(List.cons.inj hk).1;cases k0 with
      |inl i=>
       let#[t,rfl]:=r0;rw[<- e0];exact .now
      |inr x=>
       let#[t,rfl]:=r0;rw[<- e0];exact .now
     exact h3 v hv
  let#[fs,h1,h3,h4]:=A3 vs λv hv=>by
   let#[k,hk,rfl]:=gB hv;let#[a,its,e,rv,ti,m]:=look k hk;apply#[a,its,_,?_,rv,ti,Fg _ m];rw[<- e];simp[hk]
  apply kat_kind h1 Y0 h4 (by cases c<;>decide) ?_
  have e:((Value.type (if c then "str" else "int")) != Value.type "tuple")=true:=by cases c<;>decide
  rw[e];exact q
 unfold kas_ask;let#[a,its,e1,r1,#[o,ho,_,n,hd],m1]:=look i hi;let#[b,iw,e2,r2,#[o2,fK,_,n2,hd2],m2]:=look j hj;rw[e1,e2];apply kat_lt ho hd fK hd2 ?_;let l1:=r1.length;let l2:=r2.length;let l3:=eW List.length ((Fg _ m1).trans (Fg _ m2).symm);simp only[aq] at l1 l2 l3;rw[show decide (its.toArray.size<iw.toArray.size)=false by simp;omega];exact UW 0 r1 r2 ((Fg _ m1).trans (Fg _ m2).symm) hC
end L2
namespace eY
open PySem PySem.W PyProof.Rows
def Raw(h:Heap)(d:Addr)(es:Array DictEntry)(ep:Nat):Prop:=∃o,h.get? d\o/\o.ExactDict/\o.data=.dict es ep
variable{h h':Heap}{d:Addr}{es:Array DictEntry}{ep:Nat}
theorem Raw.cA(x:Raw h d es ep)(k:∀o,h.get? d\o->h'.get? d\o):Raw h' d es ep:=let #[o,e,r]:=x;#[o,k o e,r]
variable{s:Ab}
theorem Raw.ty(x:Raw s.heap d es ep):s.TypeIs (.ref d) "dict":=let #[o,e,c,_]:=x;#[o,e,c.1]
variable{prog:Ad}{w:Af}{A:Ag}{E:Aa->Ab->Prop}
theorem _r{Q:Aa->Ab->Prop}(hd:(d == sysModules)=false)(x:Raw s.heap d es ep)(q:Q (.ref s.heap.objs.size) { s with heap:=s.heap.push { cls:=.type "dict_keyiterator",data:=.fields (List.toArray [.ref d,.int 0 0,.int es.size 0,.int ep 0]) } }) :
  wpAny (model prog w) A (pyIter (.ref d)) Q E s:=by
 let#[o,ho,hc,jP]:=id x;apply wpAny_pyIter_slot x.ty F.slot_dict_iter (tQ F.slot_dict_iter x.ty F.entry_dict_iter ?_ (F.args_dict_iter_1 _));unfold Builtin.«dict.__iter__» Builtin.Dict.dictSlotNone;apply ae (ae (wpAny_notOrdered_dict x.ty (show wpAny _ _ (pure (Value.ref d)) _ _ s from aH (show wpAny _ _ (Builtin.Dict.showsAll d >>= _) _ _ s from ?_))));unfold Builtin.Dict.showsAll;rw[aC (by rw[hd];decide)];apply ae (aH (ae (wpAny_dictEntries ho jP (ae (wpAny_dictEpoch ho jP (ae (qb (aH #[_,U,"dict_keyiterator",_,#[_,dj _ U,U],F.slot_dict_keyiterator_next.lookup,?_]))))))));exact q
variable{Q:Option Aa->Ab->Prop}{it:Addr}{i:Nat}
theorem _E(hit:s.heap.IsKeyIter it d i es.size ep)(x:Raw s.heap d es ep)(hi:i<es.size)(q:∀h',h'.IsKeyIter it d (i+1) es.size ep->Heap.SameBut it s.heap h'->Q (some es[i].key) { s with heap:=h' }):wpAny (model prog w) A (pyNext (.ref it)) Q E s:=by
 let#[o,ho,hc,hd]:=id hit;let#[od,EK,iy,pU]:=id x;unfold pyNext;apply ae (wpAny_attempt (wG (name:=Str.ofString "__next__") hit.typeIs F.slot_dict_keyiterator_next (tQ F.slot_dict_keyiterator_next hit.typeIs F.entry_dict_keyiterator_next ?_ (F.args_dict_keyiterator_next_1 _))));apply ae (aH (ae (ae ?_)))
 first|refine ae (wpAny_typeNameOfWhole_keyiter hit.typeIs (aH (ae (wpAny_fieldsOf ho hd ?_))))|refine ae (wpAny_typeNameOf_keyiter hit.typeIs (aH (ae (wpAny_fieldsOf ho hd ?_))))
 simp only[show Builtin.Dict_items.ownsTuple "dict_keyiterator"=false by decide,pH,if_false];apply (show wpAny _ _ (if (Value.ref d == Value.none)=true then _ else _) _ _ s from ?_);rw[aC (λz=>by cases z)];apply ae (aH (ae (wpAny_dictEntries EK pU ?_)));rw[aC Y1];apply ae (aH (ae (wpAny_dictEpoch EK pU ?_)));rw[aC Y1];apply aH ?_;simp only[show ¬((i:Int)<0) from by omega,if_false,yR,Array.getElem?_eq_getElem hi];apply ae ?_
 first|refine ae (wpAny_typeNameOfWhole_keyiter hit.typeIs (aH (ae (wpAny_isOneOf_keyiter hit.typeIs ?_))))|refine ae (wpAny_typeNameOf_keyiter hit.typeIs (aH (ae (wpAny_isOneOf_keyiter hit.typeIs ?_))))
 apply (show wpAny _ _ (setField (.ref it) 1 (rawInt ((i:Int)+1)) >>= _) _ _ s from ae (wpAny_setField ho hd Y1 ?_))
 have turned:(s.heap.update it (Obj.mapFields (·.setIfInBounds 1 (rawInt ((i:Int)+1))))).IsKeyIter it d (i+1) es.size ep:=
  #[_,Heap.get?_update_self _ ho (Obj.isFreed_of_fields (Obj.data_mapFields hd _)),(Obj.cls_mapFields ..).trans hc,by rw[Obj.data_mapFields hd];simp[rawInt]]
 apply ae (gR (ae (wpAny_isOneOf_keyiter (s:={ s with heap:=s.heap.update it (Obj.mapFields (·.setIfInBounds 1 (rawInt ((i:Int)+1)))) }) turned.typeIs ?_)));exact (show wpAny _ _ (pure es[i].key) _ _ _ from aH (aH #[_,U,aH (q _ turned (Heap.SameBut.update ..))]))
theorem _h(hh:A.handled=none)(hit:s.heap.IsKeyIter it d es.size es.size ep)(x:Raw s.heap d es ep)(q:∀h',Heap.ExtBut it s.heap h'->Q none { s with heap:=h' }):wpAny (model prog w) A (pyNext (.ref it)) Q E s:=by
 let#[o,ho,hc,hd]:=id hit;let#[od,EK,iy,pU]:=id x;unfold pyNext;apply ae (wpAny_attempt (wG (name:=Str.ofString "__next__") hit.typeIs F.slot_dict_keyiterator_next (tQ F.slot_dict_keyiterator_next hit.typeIs F.entry_dict_keyiterator_next ?_ (F.args_dict_keyiterator_next_1 _))));apply ae (aH (ae (ae ?_)))
 first|refine ae (wpAny_typeNameOfWhole_keyiter hit.typeIs (aH (ae (wpAny_fieldsOf ho hd ?_))))|refine ae (wpAny_typeNameOf_keyiter hit.typeIs (aH (ae (wpAny_fieldsOf ho hd ?_))))
 simp only[show Builtin.Dict_items.ownsTuple "dict_keyiterator"=false by decide,pH,if_false];apply (show wpAny _ _ (if (Value.ref d == Value.none)=true then _ else _) _ _ s from ?_);rw[aC (λz=>by cases z)];apply ae (aH (ae (wpAny_dictEntries EK pU ?_)));rw[aC Y1];apply ae (aH (ae (wpAny_dictEpoch EK pU ?_)));rw[aC Y1];apply aH ?_;simp only[show ¬((es.size:Int)<0) from by omega,if_false,yR,Array.getElem?_eq_none (a9 _)];apply ae ?_
 first|refine ae (wpAny_typeNameOfWhole_keyiter hit.typeIs (aH ?g))|refine ae (wpAny_typeNameOf_keyiter hit.typeIs (aH ?g))
 apply (show wpAny _ _ (setField (.ref it) 0 .none >>= _) _ _ s from ae (wpAny_setField ho hd Y1 (show wpAny _ _ (newExc (.type "StopIteration") [] >>= _) _ _ _ from ae ?_)));simp only[newExc,newTuple];apply ae (qb (ae (m:=firstArgMember _ _) (wpAny_of_eq (a:=Value.none) (by first|rfl|(simp only[firstArgMember];rfl)) (qb ?_ (by size_fits)))) (by size_fits));simp only[raiseNew];apply ae (wpAny_handled ?_);rw[show A.in1.handled=none from hh];apply ae (aH (wpAny_throw ?_));exact ae (wpAny_isInstance (T:="StopIteration") (b:=true) #[_,dj _ U,U] isSubtype_stop (aH (q _ (((Heap.SameBut.update ..).extBut.push _).push _))))
theorem gT_(hh:A.handled=none)(I d:Addr)(l5:d≠I)(es:Array DictEntry)(ep:Nat) :
  Walks prog w A I [I,d] [I] es.size (λi v=>∃h:i<es.size,v=es[i].key) (λi h=>h.IsKeyIter I d i es.size ep/\Raw h d es ep) where
 sub:=λb hb=>by simp only[fw] at hb;simp[hb]
 frame:=λ_ _ _ st k=>#[st.1.at λo e=>k I Y1 o e,st.2.cA λo e=>k d Y1 o e]
 item:=λi s Q E hi st hQ=>_E st.1 st.2 hi λh' AJ hs'=>hQ _ h' s.toks #[hi,U] #[AJ,st.2.cA λo e=>hs'.extBut d o l5 e] λb o hb e=>hs'.extBut b o (λh=>hb (by simp[h])) e
 done:=λs Q E st hQ=>_h hh st.1 st.2 λh' pT=>hQ h' s.toks λb o hb e=>pT b o (λh=>hb (by simp[h])) e
 self:=λ_ _ _ _ st hQ=>wpAny_pyIter_keyiter st.1 hQ
theorem ZM(lo:(d == sysModules)=false):KdlSrc prog w "dict" d d es.size (λi v=>∃h:i<es.size,v=es[i].key) (λh=>Raw h d es ep) where
 type:=λs x=>x.ty
 there:=λh x=>let #[o,e,_]:=x;#[bK e,bK e]
 keep:=λh h' x k=>x.cA λo e=>k d (.inl U) o e
 notList:=by decide
 notTuple:=by decide
 hint:=λ_ _ s _ x q=>kdl_hint_dict x.ty q
 iter:=λA s hh x=>#[_,_,λE Q q=>_r lo x q,gT_ hh _ d (let #[o,e,_]:=x;dE (bK e)) es ep,#[#[_,dj _ U,U,U],x.cA λo e=>bo _ e]]
theorem dd_:typeLookup (.type "list") "keys"=pure none:=by rw[typeLookup_type,builtinLookup_eq_fast];kernel_rfl
variable{a:Addr}{xs:Array Aa}{k:Nat}{tk:Tok}{R:Result->Ab->Prop}
theorem hc_(hx:s.heap.get? a\seqObj "list" xs k)(h:raisesAttr (.ref a) "keys" A R s) :
  codeAny (model prog w) A (.call (.builtin "list.__getattribute__") #[[.ref a,.str "keys" tk],[]]) R s:=by
 apply codeAny_call_builtin F.slot_list_getattribute.plain am_entry_list_getattribute (F.slot_list_getattribute.check _ _ _ _ _ _ _ _ #[_,hx,U] (F.args_list_getattribute_2 _ _) ?_);exact meets_getattribute_miss_list a xs k #[] "keys" tk dd_ (by decide) (by size_fits) prog w A R s #[hx,h]
theorem sM(hx:s.heap.get? a\seqObj "list" xs k)(hA:A.handled=none)(h:∀h' tk,(∀b o,s.heap.get? b\o->h'.get? b\o)->Q none { s with heap:=h',toks:=tk }):wpAny (model prog w) A (getAttr? (.ref a) "keys") Q E s:=by
 let#[hp,g,d,tk,os]:=s;have ty:∀fR,(#[hp,g,d,fR,os]:Ab).TypeIs (.ref a) "list":=λ_=>#[_,hx,U];let f1:=sub_AttributeError;let f2:=F.slot_list_getattribute.lookup;let f3:=F.slot_list_getattribute.bind (.ref a);let f4:=am_list_getattr_none;unfold getAttr? getAttrBy? getAttrBy
 repeat (any_goals (first|assumption|exact ty _|wp_step))
 apply hc_ hx #[hA,λh' fR e vT=>?_];let#[t',u',he]:=vT.there;show wpAny _ _ (getattributeRaised _ _ _ _ _ _ _) _ _ _;unfold getattributeRaised
 repeat (any_goals (first|assumption|wp_step))
 exact h _ _ vT.keeps
theorem CI:entryFor table "dict.update.loop"\Builtin.«dict.update.loop»:=entryFor_of_tree (by kernel_rfl)
theorem qo:plainId "dict.update.loop"=true:=by decide +kernel
theorem Cy(d it:Addr)(i:Int)(tk:Tok):Builtin.«dict.update.loop» #[[.ref d,.ref it,.int i tk,.none],[]]=(do
  let r <- pyNext (.ref it)
  match r with
  |none=>do Builtin.Dict.addKeywords d [];ret .none
  |some item=>do
   holding [item] (do
    let pair <- (Builtin.Dict.pairItems item).tryCatch λe=>do
     if !(<- isInstance e (.type "TypeError")) then throw e
     rule "dict.update.element-no-sequence"
     raiseError "TypeError" s!"cannot convert dictionary update sequence element #{i} to a sequence"
    match pair with
    |[k,v]=>holding [k,v] (dictSet d k v)
    |l=>do
     rule "dict.update.element-length"
     raiseError "ValueError" s!"dictionary update sequence element #{i} has length {l.length}; 2 is required")
   again (.builtin "dict.update.loop" #[[.ref d,.ref it,rawInt (i+1),.none],[]])):=by
 unfold Builtin.«dict.update.loop»;apply eW (λf=>pyNext (.ref it) >>= f) (funext λr=>?_);cases r<;>rfl
variable{b l:Addr}{ys:Array Aa}
variable{its:aj}
section
variable{prog:Ad}{w:Af}{K:Type}[DecidableEq K]{knd:PySem.KeyKind prog w K}{A:Ag}
def N0(knd:PySem.KeyKind prog w K)(h:Heap):aj->List (K × Aa)->Prop:=Paired λv p=>∃a key,v=.ref a/\IsTup h a (List.toArray [key,p.2])/\knd.is p.1 key=true
def eV(kvs:List (K × Aa))(ps:List (K × Aa)):List (K × Aa):=ps.foldl (λacc p=>stored acc p.1 p.2) kvs
theorem Ul(kvs:List (K × Aa))(k:K)(v:Aa):(stored kvs k v).length<=kvs.length+1:=by
 unfold stored;split
 ·simp
 simp
theorem BF(t:IsTup h b ys)(q:h.IsListIter it l i):b≠it:=λz=>by
 let#[o,ho,hc,_]:=t;let#[o2,fK,js,_]:=q;subst z;rw[ho] at fK;cases fK;rw[hc] at js;exact absurd js (by decide)
theorem eO_{kvs:List (K × Aa)}(t:IsTup h b ys)(q:h.DictOf knd d kvs):b≠d:=λz=>by
 let#[o,ho,hc,_]:=t;let#[o2,es,ep,fK,js,_]:=q;subst z;rw[ho] at fK;cases fK;let tj:=js.1;rw[hc] at tj;exact absurd tj (by decide)
theorem GD{kvs:List (K × Aa)}(q:h.DictOf knd d kvs)(k:∀o,h.get? d\o->h'.get? d\o):h'.DictOf knd d kvs:=by
 let#[o,es,ep,ho,r]:=q;exact#[o,es,ep,k _ ho,r]
theorem _x{key x:Aa}{k:K}{kvs:List (K × Aa)}(sY:d≠it)(hi:its.toArray[i]? = some (.ref a))(ht:IsTup s.heap a (List.toArray [key,x]))(hk:knd.is k key=true)(hit:s.heap.IsListIter it l i)(hl:s.heap.IsList l its.toArray)(hd:s.heap.DictOf knd d kvs)(hz:kvs.length<=1000)(hR:∀h2,h2.DictOf knd d (stored kvs k x)->(∀b o,b≠d->b≠it->s.heap.get? b\o->h2.get? b\o)->h2.IsListIter it l (i+1)->codeAny (model prog w) A (.builtin "dict.update.loop" #[[.ref d,.ref it,rawInt ((i:Int)+1),.none],[]]) R { s with heap:=h2,toks:=s.toks+1 }) :
  codeAny (model prog w) A (.builtin "dict.update.loop" #[[.ref d,.ref it,.int i tk,.none],[]]) R s:=by
 apply codeAny_builtin CI ?_;rw[yw qo _,Cy];apply ae (wpAny_pyNext_list_item hit hl hi λh1 AI xZ=>?_);let#[ot,LI,AQ,nt,Mc]:=id ht;have sU:h1.get? a\ot:=xZ.extBut _ _ (BF ht hit) LI;apply ae (gR (ae (wpAny_tryCatch ?_)));unfold Builtin.Dict.pairItems;apply ae (wpAny_typeOf (T:="tuple") #[ot,sU,AQ] ?_);rw[aK (by decide)];unfold seqItems?;apply ae (ae (wpAny_load sU ?_));rw[Mc];apply aH (aH ?_);apply (show wpAny _ _ (holding [key,x] (dictSet d key x)) _ _ _ from gR (wpAny_dictSet_pairs hk (GD hd λo q=>xZ.extBut _ _ sY q) (λh2 hd2 pR=>?_) (by have:=cJ;omega)));exact aH #[plainId_quiet qo _,hR h2 hd2 (λb o h3 h4 q=>pR.extBut _ _ h3 (xZ.extBut _ _ h4 q)) (AI.extBut pR.extBut (dI sY))]
theorem YW{kvs:List (K × Aa)}(sY:d≠it)(hh:A.handled=none)(hi:its.toArray[i]? = none)(hit:s.heap.IsListIter it l i)(hl:s.heap.IsList l its.toArray)(hd:s.heap.DictOf knd d kvs)(hR:∀h',h'.DictOf knd d kvs->(∀b o,b≠it->s.heap.get? b\o->h'.get? b\o)->R (.ok (.ret .none)) { s with heap:=h' }) :
  codeAny (model prog w) A (.builtin "dict.update.loop" #[[.ref d,.ref it,.int i tk,.none],[]]) R s:=by
 apply codeAny_builtin CI ?_;rw[yw qo _,Cy];apply ae (wpAny_pyNext_list_end hh hit hl hi λh' he=>?_);exact ae (m:=Builtin.Dict.addKeywords d []) (aH (aH (hR h' (GD hd λo q=>he _ _ sY q) λb o hb q=>he b o hb q)))
theorem YD(L3:l≠it)(sY:d≠it)(Cg:d≠l)(hh:A.handled=none)(rest:aj):∀(ps:List (K × Aa)) (i:Nat) (kvs:List (K × Aa)) (s:Ab) (R:Result->Ab->Prop) (tk:Tok),its.drop i=rest->N0 knd s.heap rest ps->
  s.heap.IsListIter it l i->s.heap.IsList l its.toArray->s.heap.DictOf knd d kvs->kvs.length+ps.length<=1000->
  (∀h' fR,h'.DictOf knd d (eV kvs ps)->(∀b o,b≠d->b≠it->s.heap.get? b\o->h'.get? b\o)->R (.ok (.ret .none)) { s with heap:=h',toks:=fR })->
  codeAny (model prog w) A (.builtin "dict.update.loop" #[[.ref d,.ref it,.int i tk,.none],[]]) R s:=by
 induction rest with
 |nil=>
  intro ps i kvs s R tk e hp hit hl hd hz hR;cases hp
  have hi:its.toArray[i]? = none:=by
   have:=eW List.length e;simp only[wX,List.length_nil] at this;simp;omega
  exact YW sY hh hi hit hl hd λh' g9 kp=>hR h' s.toks g9 λb o _ hb q=>kp b o hb q
 |cons v rest ih=>
  intro ps i kvs s R tk e hp hit hl hd hz hR;cases hp with
  |@cons _ p _ ps h0 hr=>
  let#[a,key,hv,ht,hk]:=h0;let#[k,x]:=p;subst hv
  have hi:its.toArray[i]? = some (.ref a):=by
   have q:(its.drop i)[0]? = some (.ref a):=by rw[e];rfl
   rw[List.getElem?_drop] at q;simpa using q
  have e':its.drop (i+1)=rest:=by
   rw[<- List.drop_drop,e];rfl
  simp only[jy] at hz;apply _x sY hi ht hk hit hl hd Y0 λh2 hd2 kp sW=>?_;have c1:((i:Int)+1)=((i+1:Nat):Int):=by omega
  rw[c1];apply ih ps (i+1) (stored kvs k x) _ R 0 e' (L2.Paired.aQ hr λv p ⟨b,ky,e1,t1,k1⟩=>#[b,ky,e1,?_,k1]) sW (hl.at λo q=>kp _ _ (dI Cg) L3 q) hd2 (by have:=Ul kvs k x;omega) λh' fR g9 Em=>hR h' fR g9 λb o h3 h4 q=>Em b o h3 h4 (kp b o h3 h4 q);let#[o,ho,r]:=id t1;exact#[o,kp _ _ (eO_ t1 hd) (BF t1 hit) ho,r]
theorem e1_{n:Nat}{ps:List (K × Aa)}{Q:Aa->Ab->Prop}(hh:A.handled=none)(ho:s.heap.get? l\seqObj "list" its.toArray n)(hp:N0 knd s.heap its ps)(hz:ps.length<=1000)(h:∀h' fR,h'.DictOf knd s.heap.objs.size (eV [] ps)->(∀b o,s.heap.get? b\o->h'.get? b\o)->Q (.ref s.heap.objs.size) { s with heap:=h',toks:=fR }) :
  wpAny (model prog w) A (call (.type "dict") [.ref l]) Q E s:=by
 apply callType_codes (Q₁:=λobj aL=>obj=.ref s.heap.objs.size/\aL={ s with heap:=s.heap.push { cls:=.type "dict",data:=.dict #[] } }) F.kt_called_dict (F.kt_typeCall_dict_1 _) F.entry_dict_init (kt_code_dict_new _ #[U,U]) ?_;rintro obj aL ⟨rfl,rfl⟩;have gh:(s.heap.push { cls:=.type "dict",data:=.dict #[] }).DictOf knd s.heap.objs.size []:=Heap.DictOf.new s.heap;have fZ:(s.heap.push { cls:=.type "dict",data:=.dict #[] }).get? l\seqObj "list" its.toArray n:=bo _ ho;apply#[gh.typeIs,F.args_dict_init_2 _ _,?_];unfold Builtin.«dict.__init__» Builtin.Dict.selfAndRest;apply ae (ae (wpAny_notOrdered_dict gh.typeIs ?_));apply (show wpAny _ _ (pure (s.heap.objs.size,[Value.ref l])) _ _ _ from aH ?_);apply (show wpAny _ _ (Builtin.Dict.updateFrom "dict.__init__" s.heap.objs.size (.ref l) [] .none) _ _ _ from ?_);unfold Builtin.Dict.updateFrom;apply ae (wpAny_typeOf (T:="list") #[_,fZ,U] ?_);rw[aK (by decide)];apply ae (sM fZ hh λh2 P8 k2=>?_);simp only[Option.isNone_none,if_true];have jq:h2.get? l\seqObj "list" its.toArray n:=k2 _ _ fZ;apply ae (wpAny_rule (ae (wpAny_pyIter_list #[_,jq,U,_,U] ?_)));apply aH #[plainId_quiet qo _,?_];have all:∀{b o},s.heap.get? b\o->(h2.push { cls:=.type "list_iterator",data:=.fields (List.toArray [.ref l,.int 0 0]) }).get? b\o:=λq=>bo _ (k2 _ _ (bo _ q))
 have hd2:h2.DictOf knd s.heap.objs.size []:=by
  let#[o,es,ep,ho,r]:=gh;exact#[o,es,ep,k2 _ _ ho,r]
 have ze:s.heap.objs.size<h2.objs.size:=by
  let#[o,es,ep,ho,r]:=hd2;exact bK ho
 have lz:l<s.heap.objs.size:=bK ho
 apply YD (A:=A.in1) (knd:=knd) (its:=its) (it:=h2.objs.size) (l:=l) (d:=s.heap.objs.size) (dE (Nat.lt_trans lz ze)) (dE ze) (je lz) hh its ps 0 [] _ _ 0 U (L2.Paired.aQ hp λv p ⟨b,ky,e1,t1,k1⟩=>#[b,ky,e1,t1.keeps λb o q=>all q,k1])
  #[_,dj _ U,U,U] #[_,bo _ jq,U,_,U] (by
   let#[o,es,ep,ho,r]:=hd2;exact#[o,es,ep,bo _ ho,r]) ⇑hz λh' fR g9 kp=>#[U,h h' fR g9 λb o q=>?_]
 have bl:b<s.heap.objs.size:=bK q;exact kp b o (dE bl) (dE (Nat.lt_trans bl ze)) (all q)
end
end eY
theorem zl{n:Nat}(h:decide (n<=16777216)=true:=by rfl):n<=PySem.sizeLine:=by
 rw[PySem.sizeLine_eq];exact tP h
namespace L2
open PySem PySem.Spec PyProof.Rows PySem.W qt eY
variable{ys:af}
theorem bS.same{K:ai}{H H':Hp}{ks:List aD}(t:bS K H ys ks)(e:aa H H'):bS K H' ys ks:=Paired.aQ t λy k ⟨a,z,q⟩=>#[a,z,e _ _ q]
theorem aa.new{H:Hp}{l:Addr}{o:HO}(h:H l=none):aa H (upd H l o):=λb u e=>by rw[aA (bG e h)];exact e
section
variable{X:Cx}{pins:List (Addr × Obj)}{σ:St}{H H':Hp}{s:Ab}{h':Heap}{t':Nat}
theorem Inv.many(I:Inv X pins σ H s)(k:∀b o,s.heap.get? b\o->h'.get? b\o)(hold:aa H H')(gh:∀b,H b=none->b<s.heap.objs.size->H' b=none)
  (hob:∀b o,H' b\o->H b=none->∃xs its,o=.tup xs/\xs.length<=sizeLine/\Vals xs its/\IsTup h' b its.toArray/\∃o,h'.get? b\o/\o.dict=none):Inv X pins σ H' { s with heap:=h',toks:=t' }:=by
 apply I.un #[λb o q _ _ _=>k b o q,λb o q _ _ _=>#[o.slots,k b o q],λb o q n _=>gh b n (bK q),λb o q _=>#[o,k b o q],λb xs q=>hold b _ q,λb o u q=>hold b _ q,λb ps q=>#[#[],by rw[Array.append_empty];exact hold b _ q]] λb o q=>?_;cases e:H b with
 |some u=>
  let e2:=hold b u e;rw[q] at e2;cases e2;exact (I.aE b o e).cA (λc v _ z=>k c v z) (λc z=>hold c _ z) λc xs z=>hold c _ z
 |none=>
  let#[xs,its,rfl,z,r,t]:=hob b o q e;exact#[z,its,r,t]
end
variable{R:aj->Ab->Prop}
section
variable{X:Cx}{pins:List (Addr × Obj)}{σ:St}{H:Hp}{s:Ab}{A:Ag}{E:Aa->Ab->Prop}
theorem _G{p:Addr}(I:Inv X pins σ H s)(h:d5 X.K H p ys)(hz:ys.length<=100000)(q:∀vs s1,Inv X pins σ H s1->Vals ys vs->R vs s1):wpAny (model X.prog X.w) A (collect (.ref p)) R E s:=by
 let#[its,r,pl,_]:=I.list h;let hl:=r.length;apply collect_list pl.isList (q its _ ?_ r) (by have:=cJ;omega);apply I.kept (t':=s.toks) λb u e=>?_;have lt:b<s.heap.objs.size:=bK e;rw[Heap.get?_update_ne _ _ _ _ (dE lt)];exact bo _ e
theorem JL{P:Nat->Aa->Prop}{acc:Array Aa}(h:ItemsOf P acc ys.length)(hp:∀(j:Nat) v,P j v->∀y,ys[j]? = some y->RelV y v):Vals ys acc.toList:=by
 have gen:∀(ys:af) (vs:aj),ys.length=vs.length->(∀(j:Nat) y v,ys[j]? = some y->vs[j]? = some v->RelV y v)->Vals ys vs:=λys=>by
  induction ys with
  |nil=>
   intro vs hl _;cases vs with
   |nil=>exact .nil
   |cons _ _=>cases hl
  |cons y ys ih=>
   intro vs hl h;cases vs with
   |nil=>cases hl
   |cons v vs=>exact .cons (h 0 y v U U) (ih vs ⇑hl λj y v a b=>h (j+1) y v ⇑a ⇑b)
 apply gen ys acc.toList (by rw[ud];exact h.1.symm) λj y v a b=>hp j v (h.2 j v ?_) y a;rw[<- Array.getElem?_toList];exact b
theorem Rf{d:Addr}{kvs:List (Key × V)}(I:Inv X pins σ H s)(h:Rd H d (.dK kvs)):∃(P:Nat->Aa->Prop) (OK:Heap->Prop),KdlSrc X.prog X.w "dict" d d (kvs.map λkv=>kV kv.1).length P OK/\OK s.heap/\∀(j:Nat) v,P j v->∀y,(kvs.map λkv=>kV kv.1)[j]? = some y->RelV y v:=by
 let#[z,hd,vs,rel,dd]:=kP I.aE h;let#[ep,dat]:=dd.dictAt;let hl:=rel.length;apply#[λi v=>∃k x,vs[i]? = some (k,x)/\(dZ X.prog X.w).is k v=true,λh=>h.DictAt (dZ X.prog X.w) d vs ep,(by rw[aq,hl];exact kdl_dict (knd:=dZ X.prog X.w) (kvs:=vs) (ep:=ep) hd),dat,λj v ⟨k,x,e,hk⟩ y hy=>?_];rw[de] at hy;have ek:kvs.map (·.1)=vs.map (·.1):=rel.keys;have e2:(kvs.map (·.1))[j]? = (vs.map (·.1))[j]?:=by rw[ek]
 rw[de,de,e] at e2;cases e3:kvs[j]? with
 |none=>rw[e3] at e2;cases e2
 |some kv=>
  rw[e3] at e2 hy;have e4:kv.1=k:=dN e2;have e5:kV kv.1=y:=dN hy;rw[<- e5,e4];have hk:wJ k v=true:=hk;rcases qr hk with⟨i,t,rfl,rfl⟩|⟨x,t,rfl,rfl⟩
  ·exact#[t,U]
  exact#[t,U]
theorem Re{d:Addr}{kvs:List (Key × V)}(hh:A.handled=none)(I:Inv X pins σ H s)(h:Rd H d (.dK kvs))(q:∀vs s1,Inv X pins σ H s1->Vals (kvs.map λkv=>kV kv.1) vs->R vs s1):wpAny (model X.prog X.w) A (collect (.ref d)) R E s:=by
 let#[P,OK,S,ok,hp]:=Rf I h;apply kdu_collect S hh ok ?_ λh' tk acc k a=>q _ _ (I.kept k) (JL a hp);rw[aq];exact (kP I.aE h).1
theorem X_{d:Addr}{kvs:List (aD × V)}(I:Inv X pins σ H s)(h:Rd H d (.dT kvs)):∃(ys:af) (P:Nat->Aa->Prop) (OK:Heap->Prop),bS X.K H ys (kvs.map (·.1))/\ys.length<=sizeLine/\KdlSrc X.prog X.w "dict" d d ys.length P OK/\OK s.heap/\∀(j:Nat) v,P j v->∀y,ys[j]? = some y->RelV y v:=by
 let#[z,hd,xs,rel,o,es,ep,ho,hc,jP,vZ,nd]:=h.ok I.aE
 have l1:es.size=xs.length:=by
  have:=eW List.length vZ;simpa using this
 let l2:=bI rel;apply#[xs.map λx=>V.ref x.2.1,λi v=>∃h:i<es.size,v=es[i].key,λh=>Raw h d es ep,?_,by rw[aq];omega,(by rw[aq,<- l1];exact ZM (es:=es) (ep:=ep) hd),#[o,ho,hc,jP],λj v ⟨hj,e⟩ y hy=>?_]
 ·have gen:∀{kvs:List (aD × V)} {xs:List (aD × Addr × Aa)},KT H kvs xs->bS X.K H (xs.map λx=>V.ref x.2.1) (kvs.map (·.1)):=λ{kvs xs} r=>by
   induction r with
   |nil=>exact .nil
   |cons h _ ih=>exact .cons #[_,U,h.2.1] ih
  exact gen rel
 rw[de] at hy;have hx:j<xs.length:=by omega
 rw[aX hx] at hy;have e1:V.ref xs[j].2.1=y:=dN hy
 have e2:es[j]=entryOfKey (tupleKind (dZ X.prog X.w)) xs[j]:=by
  have e3:es.toList[j]? = (xs.map (entryOfKey (tupleKind (dZ X.prog X.w))))[j]?:=by rw[vZ]
  rw[de,aX hx,Array.getElem?_toList,Array.getElem?_eq_getElem hj] at e3;exact dN e3
 rw[<- e1,e,e2];rfl
theorem Yc{d:Addr}{kvs:List (aD × V)}(hh:A.handled=none)(I:Inv X pins σ H s)(h:Rd H d (.dT kvs))(q:∀ys vs s1,Inv X pins σ H s1->Vals ys vs->bS X.K H ys (kvs.map (·.1))->R vs s1):wpAny (model X.prog X.w) A (collect (.ref d)) R E s:=by
 let#[ys,P,OK,t,z,S,ok,hp]:=X_ I h;exact kdu_collect S hh ok z λh' tk acc k a=>q ys _ _ (I.kept k) (JL a hp) t
def tV(v d:Addr):HO:=.ext λh=>h.IsItemsView v d
def qc(v d:Addr):HO:=.ext λh=>h.IsValuesView v d
def kL(K:ai)(H:Hp):af->List (Key × V)->Prop:=Paired λy p=>∃a,y=V.ref a/\H a\.tup [kV p.1,p.2]
theorem g8_{v d:Addr}{kvs:List (Key × V)}(hh:A.handled=none)(I:Inv X pins σ H s)(hv:H v\tV v d)(h:Rd H d (.dK kvs))(q:∀H1 ys vs s1,Inv X pins σ H1 s1->aa H H1->Vals ys vs->kL X.K H1 ys kvs->R vs s1) :
  wpAny (model X.prog X.w) A (collect (.ref v)) R E s:=by
 let#[z,hd,vs,rel,dd]:=kP I.aE h;let#[ep,dat]:=dd.dictAt;let#[iv,_,_]:=I.aE v _ hv;let hl:=rel.length;apply kdx_collect (knd:=dZ X.prog X.w) (kvs:=vs) (ep:=ep) hh iv dat Y0 λh' tk as k la G=>?_;have up:∀b,b∈as->s.heap.objs.size<b:=G.above
 have at1:∀(j:Nat) b p,as[j]? = some b->kvs[j]? = some p->∃its,Vals [kV p.1,p.2] its/\IsTup h' b its.toArray/\∃o,h'.get? b\o/\o.dict=none:=λj b p hj hp=>by
  let#[key,kk,x,e1,e2,e3]:=G.pairs j b hj
  have gen:∀{kvs:List (Key × V)} {vs:List (Key × Aa)},KV kvs vs->∀(j:Nat),vs[j]? = some (kk,x)->kvs[j]? = some p->p.1=kk/\RelV p.2 x:=λ{kvs vs} r=>by
   induction r with
   |nil=>intro j e;simp at e
   |@cons p' q _ _ h _ ih=>
    intro j e e';cases j with
    |zero=>
     have e:q=(kk,x):=⇑e
     have e':p'=p:=⇑e'
     subst e';rw[e] at h;exact h
    |succ j=>exact ih j ⇑e ⇑e'
  let#[g1,g2]:=gen rel j e1 hp;apply#[[key,x],.cons ?_ (.cons g2 .nil),#[_,e3,U,_,U],_,e3,U];rw[g1];have e2:wJ kk key=true:=e2;rcases qr e2 with⟨i,t,rfl,rfl⟩|⟨x,t,rfl,rfl⟩
  ·exact#[t,U]
  exact#[t,U]
 have look:∀{as:aw} {kvs:List (Key × V)},as.Pairwise (· < ·)->∀(j:Nat) b p,as[j]? = some b->kvs[j]? = some p->(as.zip kvs).lookup b\p:=λ{as}=>by
  induction as with
  |nil=>intro kvs _ j b p e;simp at e
  |cons a as ih=>
   intro kvs pw j b p e e';cases kvs with
   |nil=>simp at e'
   |cons q kvs=>
    let#[p1,p2]:=List.pairwise_cons.mp pw;show ((a,q)::as.zip kvs).lookup b\p;cases j with
    |zero=>
     have e:a=b:=⇑e
     have e':q=p:=⇑e'
     subst e;subst e';rw[List.lookup_cons_self]
    |succ j=>
     have e:as[j]? = some b:=⇑e
     have e':kvs[j]? = some p:=⇑e'
     let lt:=p1 b (cB e);rw[qp,show (b == a)=false by simp only[beq_eq_false_iff_ne];exact je lt];exact ih p2 j b p e e'
 have lk:as.length=kvs.length:=by omega
 let H1:Hp:=λb=>if b∈as then ((as.zip kvs).lookup b).map λp=>HO.tup [kV p.1,p.2] else H b
 have Fo:∀(j:Nat) b p,as[j]? = some b->kvs[j]? = some p->H1 b\.tup [kV p.1,p.2]:=λj b p e e'=>by
  show (if b∈as then _ else _)=_;rw[aK (cB e),look G.rise j b p e e'];rfl
 have og:∀b,b∉as->H1 b=H b:=λb hb=>aC hb;have old:∀b,b<s.heap.objs.size->b∉as:=λb hb m=>absurd (up b m) Y0;apply q H1 (as.map V.ref) _ _ (I.many (t':=tk) k (λb o e=>by rw[og b (old b (I.aE.lt e))];exact e) (λb e hb=>by rw[og b (old b hb)];exact e) λb o e e0=>?_) (λb o e=>by rw[og b (old b (I.aE.lt e))];exact e) ?_ ?_
 ·by_cases m:b∈as
  ·let#[j,hj]:=List.mem_iff_getElem?.mp m
   have jl:j<kvs.length:=by
    have:=(cu.mp hj).1;omega
   let e':=Fo j b kvs[j] hj (aX jl);rw[e] at e';cases e';let#[its,r,t]:=at1 j b _ hj (aX jl);exact#[_,its,U,zl,r,t]
  rw[og b m,e0] at e;cases e
 ·have gen:∀as:aw,Vals (as.map V.ref) (as.map Value.ref):=λas=>by
   induction as with
   |nil=>exact .nil
   |cons a as ih=>exact .cons U ih
  exact gen as
 have gen:∀(CO:aw) (fC:List (Key × V)),CO.length=fC.length->(∀(j:Nat) b p,CO[j]? = some b->fC[j]? = some p->H1 b\.tup [kV p.1,p.2])->kL X.K H1 (CO.map V.ref) fC:=λCO=>by
  induction CO with
  |nil=>
   intro fC hl _;cases fC with
   |nil=>exact .nil
   |cons _ _=>cases hl
  |cons a CO ih=>
   intro fC hl h;cases fC with
   |nil=>cases hl
   |cons p fC=>exact .cons #[a,U,h 0 a p U U] (ih fC ⇑hl λj b p e e'=>h (j+1) b p ⇑e ⇑e')
 exact gen as kvs lk Fo
end
theorem Te{a b:ag}(h:a.map bP=b.map bP):a=b:=by
 induction a generalizing b with
 |nil=>
  cases b with
  |nil=>rfl
  |cons _ _=>cases h
 |cons x a ih=>
  cases b with
  |nil=>cases h
  |cons y b=>
   let#[h1,h2]:=List.cons.inj h;have h1:[(Sum.inr x:Key)]=[Sum.inr y]:=h1;cases h1;rw[ih h2]
theorem Ol(ss:ag):(iE ss).map bP=bh (ss.map bP):=by
 have all:∀k∈bh (ss.map bP),∃x,k=bP x:=λk hk=>by
  let#[x,_,e]:=bx.mp ((ue _).mem_iff.mp hk);exact#[x,e.symm]
 have gen:∀l:List aD,(∀k∈l,∃x,k=bP x)->(l.map λk=>match k with | [.inr x]=>x|_=>(⟨#[]⟩:Str)).map bP=l:=λl=>by
  induction l with
  |nil=>exact λ_=>rfl
  |cons k l ih=>
   intro h;let#[x,rfl]:=h k fY;rw[fE,fE,ih λk hk=>h k (fo _ hk)];rfl
 exact gen _ all
theorem Gx(ss:ag):(iE ss).Perm ss:=by
 have p:((iE ss).map bP).Perm (ss.map bP):=by rw[Ol];exact ue _
 have back:∀l:ag,(l.map bP).map (λk=>match k with | [.inr x]=>x|_=>(⟨#[]⟩:Str))=l:=λl=>by
  rw[cy]
  induction l with
  |nil=>rfl
  |cons x l ih=>rw[fE,ih];rfl
 let q:=p.map (λk=>match k with | [.inr x]=>x|_=>(⟨#[]⟩:Str));rwa [back,back] at q
variable{u:Aa}
section
variable{X:Cx}{pins:List (Addr × Obj)}{σ:St}{H:Hp}{s:Ab}
theorem e5_{ss:ag}{Q:VK}(cQ:ss.length<64)(l7:wpAny (model X.prog X.w) X.A.in1 (collect u) (λvs s1=>∃H1,Inv X pins σ H1 s1/\Vals (ss.map V.str) vs/\∀l,H1 l=none->Q (.ref l) (upd H1 l (.lst ((iE ss).map V.str)))) X.xe s) :
  wpAny (model X.prog X.w) X.A (call (.builtin "sorted") [u]) (EP X pins σ Q) X.xe s:=by
 apply Uv (M_ (ss.map bP)) (aS l7 λvs s1 ⟨H1,I1,r,q⟩=>?_);have hl:vs.length=ss.length:=by rw[<- r.length,aq]
 apply#[by omega,λh2 h' _=>To (SG r) h2,λp h' e g up hD kp=>?_];have g':Good (ss.map bP).length p:=by rw[aq,<- hl];exact g
 let asc:=MY (ks:=ss.map bP) (λi j _ _=>rfl) g' (by rw[aq,<- hl];exact up)
 have perm:(p.toList.map λi=>(ss.map bP).getD i []).Perm (ss.map bP):=by
  have:=GB g' λi=>(ss.map bP).getD i [];rwa [GH] at this
 let es:=OE perm asc
 have inr:∀i∈p.toList,i<ss.length:=λi hi=>by
  have m:i∈(List.range vs.length).toArray:=g.mem_iff.mp ⇑hi;rw[hl] at m;simpa using m
 have e1:(p.toList.map λi=>ss.getD i ⟨#[]⟩)=iE ss:=by
  apply Te ?_;rw[Ol,<- es,cy];apply u6 λi hi=>?_;have:=inr i hi;simp[this]
 let rv:=NI r g
 have e2:(p.toList.map λi=>(ss.map V.str).getD i .non)=(iE ss).map V.str:=by
  rw[<- e1,cy];apply u6 λi hi=>?_;have:=inr i hi;simp[this]
 rw[e2] at rv;apply#[.ref s1.heap.objs.size,_,I1.laid (t':=s1.toks) kp (a9 _) (show fj X.prog X.w _ h' _ (.lst ((iE ss).map V.str)) from #[?_,ml p vs,e,rv,hD]),U,q _ (I1.aE.fresh (a9 _))];rw[aq,(Gx ss).length_eq];have:=cJ;omega
theorem _d{K:ai}{H:Hp}{ks:List aD}(t:bS K H ys ks):∀l:List Nat,(∀i∈l,i<ys.length)->bS K H (l.map λi=>ys.getD i .non) (l.map λi=>ks.getD i []):=λl=>by
 induction l with
 |nil=>exact λ_=>.nil
 |cons i l ih=>
  intro h;apply .cons ?_ (ih λj hj=>h j (fo _ hj));let hi:=h i fY
  have gen:∀{ys:af} {ks:List aD} (i:Nat),i<ys.length->bS K H ys ks->∃a,ys.getD i .non=V.ref a/\H a\.tup ((ks.getD i []).map kV):=λ{ys ks} i hy t=>by
   induction t generalizing i with
   |nil=>exact absurd hy Y1
   |cons h t ih=>
    cases i with
    |zero=>exact h
    |succ i=>exact ih i ⇑hy
  exact gen i hi t
theorem UH{ks:List aD}{sh:List Bool}{Q:VK}(cQ:ks.length<64)(al:Alike ks sh)(l7:wpAny (model X.prog X.w) X.A.in1 (collect u) (λvs s1=>∃H1 ys,Inv X pins σ H1 s1/\Vals ys vs/\bS X.K H1 ys ks/\∀l zs,H1 l=none->bS X.K H1 zs (bh ks)->zs.Perm ys->Q (.ref l) (upd H1 l (.lst zs))) X.xe s) :
  wpAny (model X.prog X.w) X.A (call (.builtin "sorted") [u]) (EP X pins σ Q) X.xe s:=by
 apply Uv (M_ ks) (aS l7 λvs s1 ⟨H1,ys,I1,r,t,q⟩=>?_);let l1:=r.length;let l2:=bI t;have hl:vs.length=ks.length:=by omega
 apply#[by omega,λh2 h' k=>hi_ I1 r t al h2 k,λp h' e g up hD kp=>?_];have g':Good ks.length p:=by rw[<- hl];exact g
 let asc:=MY (ks:=ks) (λi j _ _=>rfl) g' (by rw[<- hl];exact up)
 have perm:(p.toList.map λi=>ks.getD i []).Perm ks:=by
  have:=GB g' λi=>ks.getD i [];rwa [GH] at this
 let es:=OE perm asc
 have inr:∀i∈p.toList,i<ys.length:=λi hi=>by
  have m:i∈(List.range vs.length).toArray:=g.mem_iff.mp ⇑hi;rw[<- l1] at m;simpa using m
 let tz:=_d t p.toList inr;rw[es] at tz;let rv:=NI r g
 have pz:(p.toList.map λi=>ys.getD i .non).Perm ys:=by
  have:=GB (n:=ys.length) (by rw[l1];exact g) λi=>ys.getD i .non;rwa [GH] at this
 apply#[.ref s1.heap.objs.size,_,I1.laid (t':=s1.toks) kp (a9 _) (show fj X.prog X.w _ h' _ (.lst (p.toList.map λi=>ys.getD i .non)) from #[?_,ml p vs,e,rv,hD]),U,q _ _ (I1.aE.fresh (a9 _)) tz pz];rw[pz.length_eq];have:=cJ;omega
end
inductive nF (K:ai) (xs:af) (H:Hp) (Q:VK):Prop
 |mk:∀d kvs sh,xs=[.ref d]->H d\.dT kvs->Alike (kvs.map (·.1)) sh->kvs.length<64->(∀l zs,H l=none->bS K H zs (bh (kvs.map (·.1)))->Q (.ref l) (upd H l (.lst zs)))->nF K xs H Q
variable{X:Cx}
theorem eG_(hc:X.calm=true):gn X (.builtin "sorted") (nF X.K):=by
 intro pins s σ H xs us Q I r h;let#[d,kvs,sh,rfl,hd,al,cQ,q]:=h;let#[u,rfl,ru]:=vals1 r;cases ru;exact UH (by rw[aq];exact cQ) al (Yc (I.ok.hd hc) I (.inl hd) λys vs s1 I1 r1 t=>⟨H,ys,I1,r1,t,λl zs n t' _=>q l zs n t'⟩)
inductive nI (xs:af) (H:Hp) (Q:VK):Prop
 |mk:∀d kvs ss,xs=[.ref d]->H d\.dK kvs->kvs.map (·.1)=ss.map Sum.inr->ss.length<64->(∀l,H l=none->Q (.ref l) (upd H l (.lst ((iE ss).map V.str))))->nI xs H Q
theorem eB_(hc:X.calm=true):gn X (.builtin "sorted") nI:=by
 intro pins s σ H xs us Q I r h;let#[d,kvs,ss,rfl,hd,ek,cQ,q]:=h;let#[u,rfl,ru]:=vals1 r;cases ru;apply e5_ cQ (Re (I.ok.hd hc) I (.inl hd) λvs s1 I1 r1=>⟨H,I1,?_,q⟩)
 have e:(kvs.map λkv=>kV kv.1)=ss.map V.str:=by
  rw[show (kvs.map λkv=>kV kv.1)=(kvs.map (·.1)).map kV by rw[cy];rfl,ek,cy];rfl
 rwa [e] at r1
inductive sd (K:ai) (xs:af) (H:Hp) (Q:VK):Prop
 |mk:∀(v d:Addr) (kvs:List (Key × V)) (ks:List (Key × Key)) (sh:List Bool),xs=[.ref v]->H v\tV v d->H d\.dK kvs->kvs=ks.map (λk:Key × Key=>(k.1,kV k.2))->Alike (ks.map λk=>[k.1,k.2]) sh->ks.length<64->(∀l H1 zs,aa H H1->H1 l=none->bS K H1 zs (bh (ks.map λk=>[k.1,k.2]))->Q (.ref l) (upd H1 l (.lst zs)))->sd K xs H Q
theorem g5_(hc:X.calm=true):gn X (.builtin "sorted") (sd X.K):=by
 intro pins s σ H xs us Q I r h;let#[v,d,kvs,ks,sh,rfl,hv,hd,ek,al,cQ,q]:=h;let#[u,rfl,ru]:=vals1 r;cases ru;apply UH (by rw[aq];exact cQ) al (g8_ (I.ok.hd hc) I hv (.inl hd) λH1 ys vs s1 I1 sm r1 t=>⟨H1,ys,I1,r1,?_,λl zs n t' _=>q l H1 zs sm n t'⟩);subst ek
 have gen:∀(ks:List (Key × Key)) (ys:af),kL X.K H1 ys (ks.map (λk:Key × Key=>(k.1,kV k.2)))->bS X.K H1 ys (ks.map λk=>[k.1,k.2]):=λks=>by
  induction ks with
  |nil=>
   intro ys t;cases t;exact .nil
  |cons k ks ih=>
   intro ys t;cases t with
   |cons h t=>exact .cons h (ih _ t)
 exact gen ks ys t
inductive si (xs:af) (H:Hp) (Q:VK):Prop
 |mk:∀d kvs,xs=[.ref d]->Rd H d (.dK kvs)->(∀l,H l=none->Q (.ref l) (upd H l (.lst (kvs.map λkv=>kV kv.1))))->si xs H Q
theorem Oa(hc:X.calm=true):gn X (.type "list") si:=by
 intro pins s σ H xs us Q I r h;let#[d,kvs,rfl,hd,q]:=h;let#[u,rfl,ru]:=vals1 r;cases ru;let#[P,OK,S,ok,hp]:=Rf I hd;let z:=(kP I.aE hd).1;apply kdl_call S (I.ok.hd hc) ok (by rw[aq];exact z) λh' tk acc c k hD a=>?_;apply#[.ref s.heap.objs.size,_,I.laid (t':=tk) k (a9 _) (show fj X.prog X.w _ h' _ (.lst (kvs.map λkv=>kV kv.1)) from #[by rw[aq];exact z,acc.toList,c,JL a hp,by rw[Array.toArray_toList];exact hD]),U,q _ I.fresh]
theorem KV.eV{κ:Type}[DecidableEq κ]:∀{more:List (κ × V)} {rs:List (κ × Aa)} {kvs:List (κ × V)} {vs:List (κ × Aa)},KV more rs->KV kvs vs->KV (more.foldl (λacc kv=>putK acc kv.1 kv.2) kvs) (eY.eV vs rs):=λ{more rs kvs vs} h=>by
 induction h generalizing kvs vs with
 |nil=>exact λh=>h
 |@cons p q _ _ h _ ih=>
  intro h2;let#[k,y]:=p;let#[k',u]:=q;let#[h1,h3]:=h;have h1:k=k':=h1;subst h1;exact ih (h2.put k h3)
inductive nL (K:ai) (xs:af) (H:Hp) (Q:VK):Prop
 |mk:∀p ys kvs,xs=[.ref p]->H p\.lst ys->kL K H ys kvs->kvs.length<=1000->(∀l,H l=none->Q (.ref l) (upd H l (.dK (wV [] kvs))))->nL K xs H Q
theorem BE(hc:X.calm=true):gn X (.type "dict") (nL X.K):=by
 intro pins s σ H xs us Q I r h;let#[p,ys,kvs,rfl,hp,t,hz,q]:=h;let#[u,rfl,ru]:=vals1 r;cases ru;let#[z,its,n,rv,hl,ho]:=I.jH hp
 have gen:∀{ys:af} {its:aj} {kvs:List (Key × V)},Vals ys its->kL X.K H ys kvs->∃ps,KV kvs ps/\N0 (dZ X.prog X.w) s.heap its ps:=λ{ys its kvs} rv t=>by
  induction t generalizing its with
  |nil=>
   cases rv;exact#[[],.nil,.nil]
  |@cons y p ys kvs h t ih=>
   cases rv with
   |cons r0 rv=>
    let#[ps,h1,h2]:=ih rv;let#[a,e,sq]:=h;subst e;cases r0;let#[tv,rt,it,_]:=I.tuple (fH.of sq);let#[key,x,e2,rk,rx]:=vals2 rt;subst e2;apply#[(p.1,x)::ps,Paired.cons (show p.1=p.1/\RelV p.2 x from #[U,rx]) h1,Paired.cons (show ∃a' Ep,Value.ref a=.ref a'/\IsTup s.heap a' (List.toArray [Ep,x])/\(dZ X.prog X.w).is p.1 Ep=true from #[a,key,U,it,wz rk]) h2]
 let#[ps,h1,h2]:=gen rv t;let lp:=KV.length h1;apply e1_ (knd:=dZ X.prog X.w) (I.ok.hd hc) ho h2 Y0 λh' tk hd kp=>?_;apply#[.ref s.heap.objs.size,_,I.laid (t':=tk) kp (a9 _) (Mp ?_ (beq_eq_false_iff_ne.mpr (dI (dE I.big))) (KV.eV h1 .nil) hd),U,q _ I.fresh];have:=Ph kvs [];have:=cJ;simp only[List.length_nil] at *;show (wV [] kvs).length<=sizeLine;omega
theorem NP:∀{bs:List Bool} {vs:aj},Vals (bs.map V.bl) vs->vs=bs.map Value.bool
 |[],_,.nil=>rfl
 |b::bs,_,.cons h t=>by
  cases h;rw[NP t];rfl
inductive zQ (K:ai) (g:List Bool->Bool) (xs:af) (H:Hp) (Q:VK):Prop
 |mk:∀p bs,xs=[.ref p]->d5 K H p (bs.map V.bl)->Q (.bl (g bs)) H->zQ K g xs H Q
theorem SI(hc:X.calm=true):gn X (.builtin "all") (zQ X.K λbs=>bs.all id):=by
 intro pins s σ H xs us Q I r h;let#[p,bs,rfl,hp,q]:=h;let#[u,rfl,ru]:=vals1 r;cases ru;let#[its,rv,pl,z]:=I.list hp;obtain rfl:=NP rv;let hl:=pl.isList;have lt:p<s.heap.objs.size:=by let#[_,e,_]:=hl;exact bK e
 apply call_all_walk (wpAny_pyIter_list hl ⟨s.heap.objs.size,[s.heap.objs.size,p],[s.heap.objs.size],(bs.map Value.bool).toArray.size,_,_,λi=>(bs[i]?).getD true,rfl,Walks.list (A:=X.A.in1) (I.ok.hd hc) _ p (dE lt) _,⟨⟨_,dj _ rfl,rfl,rfl⟩,hl.push _⟩,λi v s' Q' E' hP hQ=>?_,λh' tk hk=>?_⟩)
 ·have hP:(bs.map Value.bool).toArray[i]? = some v:=hP;simp only[List.getElem?_toArray,de] at hP;cases e:bs[i]? with
  |none=>rw[e] at hP;cases hP
  |some b=>
   have hQ:Q' ((bs[i]?).getD true) s':=hQ;rw[e] at hP hQ;cases hP;exact tR hQ
 have e:((List.range (bs.map Value.bool).toArray.size).all λi=>(bs[i]?).getD true)=bs.all id:=by
  rw[cY,aq];exact LSm.range_all bs
 rw[e];exact#[.bl _,H,I.kept (LSm.kept_iter hk),U,q]
theorem hW_(hc:X.calm=true):gn X (.builtin "any") (zQ X.K λbs=>bs.any id):=by
 intro pins s σ H xs us Q I r h;let#[p,bs,rfl,hp,q]:=h;let#[u,rfl,ru]:=vals1 r;cases ru;let#[its,rv,pl,z]:=I.list hp;obtain rfl:=NP rv;let hl:=pl.isList;have lt:p<s.heap.objs.size:=by let#[_,e,_]:=hl;exact bK e
 apply call_any_walk (wpAny_pyIter_list hl #[s.heap.objs.size,[s.heap.objs.size,p],[s.heap.objs.size],(bs.map Value.bool).toArray.size,_,_,λi=>(bs[i]?).getD false,U,Walks.list (A:=X.A.in1) (I.ok.hd hc) _ p (dE lt) _,#[#[_,dj _ U,U,U],hl.push _],λi v s' Q' E' hP hQ=>?_,λh' tk hk=>?_])
 ·have hP:(bs.map Value.bool).toArray[i]? = some v:=hP;simp only[List.getElem?_toArray,de] at hP;cases e:bs[i]? with
  |none=>rw[e] at hP;cases hP
  |some b=>
   have hQ:Q' ((bs[i]?).getD false) s':=hQ;rw[e] at hP hQ;cases hP;exact tR hQ
 have e:((List.range (bs.map Value.bool).toArray.size).any λi=>(bs[i]?).getD false)=bs.any id:=by
  rw[cY,aq];exact LSm.range_any bs
 rw[e];exact#[.bl _,H,I.kept (LSm.kept_iter hk),U,q]
end L2
namespace GS
open PySem PySem.SeqAt PyProof.Rows
open AutoSeq1 (wpAny_loadPart')
open MeetsSeq MeetsSeq2 MeetsSeq3 SeqRoads2
theorem Yr(l b:Addr)(xs ys:Array Aa)(n m:Nat)(dl db:Option Addr)(sl sb:Array (Option Aa))(hs:xs.size=ys.size)(e:Nat->Bool)(k:Nat) :
  ∀i:Nat,xs.size - i=k->Meets (Builtin.«list.__eq__.loop» #[[.ref l,.ref b,rawInt i,rawInt 3],[]])
   (λA R s=>(s.heap.get? l=some { cls:=.type "list",dict:=dl,data:=.seq xs n,slots:=sl }/\s.heap.get? b=some { cls:=.type "list",dict:=db,data:=.seq ys m,slots:=sb }) /\
    (∀j (h1:j<xs.size) (h2:j<ys.size),EqAt A.in1 s xs[j] ys[j] (e j))/\R (.ok (.ret (.bool (!((List.range xs.size).drop i).all e)))) s):=by
 induction k with
 |zero=>
  intro i hk prog w A R s ⟨⟨gl,gb⟩,he,h⟩;let#[hp,g,d,tk,os]:=s
  wp_walk using pC gl,pC gb
  rw[show xs[((i:Nat):Int).toNat]? = none by simp;omega,show ys[((i:Nat):Int).toNat]? = none by simp;omega];rw[show (List.range xs.size).drop i=[] by simp;omega] at h
  wp_walk using pC gl,pC gb
  apply (show R (.ok (.ret (.bool (xs.size != ys.size)))) _ from ?_);rw[show (xs.size != ys.size)=false by simp[hs]];exact h
 |succ k ih=>
  intro i hk prog w A R s ⟨⟨gl,gb⟩,he,h⟩;let#[hp,g,d,tk,os]:=s
  wp_walk using pC gl,pC gb
  have z1:i<xs.size:=by omega
  have z2:i<ys.size:=by omega
  have q1:xs[((i:Nat):Int).toNat]? = some xs[i]:=by simp[z1]
  have q2:ys[((i:Nat):Int).toNat]? = some ys[i]:=by simp[z2]
  rw[show (List.range xs.size).drop i=i::(List.range xs.size).drop (i+1) by simp[List.drop_eq_getElem_cons,z1],List.all_cons] at h;rw[q1,q2];apply ae (he i z1 z2 prog w _ _ ?_);cases c:e i with
  |true=>
   rw[c] at h
   wp_walk
   rw[show ((i:Int)+1)=((i+1:Nat):Int) by omega];apply#[plainId_quiet plain_eq_loop _,codeAny_builtin entry_eq_loop ?_];rw[yw plain_eq_loop _];exact ih (i+1) Y0 prog w A R _ #[#[gl,gb],he,by simpa using h]
  |false=>
   rw[c] at h
   wp_walk using pC gl,pC gb
   rw[q1,q2]
   wp_walk
   simpa using h
theorem _k(l b:Addr)(xs ys:Array Aa)(n m:Nat)(dl db:Option Addr)(sl sb:Array (Option Aa))(hs:xs.size=ys.size)(e:Nat->Bool) :
  Meets (Builtin.«list.__ne__» #[[.ref l,.ref b],[]])
   (λA R s=>(s.heap.get? l=some { cls:=.type "list",dict:=dl,data:=.seq xs n,slots:=sl }/\s.heap.get? b=some { cls:=.type "list",dict:=db,data:=.seq ys m,slots:=sb }) /\
    (∀j (h1:j<xs.size) (h2:j<ys.size),EqAt A.in1 s xs[j] ys[j] (e j))/\R (.ok (.ret (.bool (!(List.range xs.size).all e)))) s):=by
 intro prog w A R s ⟨⟨gl,gb⟩,he,h⟩;let#[hp,g,d,tk,os]:=s;let f3:=AutoSeq1.sub_list_list;have no:¬(xs.size != ys.size)=true:=by simp[hs]
 wp_walk using pC gl,pC gb
 apply#[plainId_quiet plain_eq_loop _,codeAny_builtin entry_eq_loop ?_];rw[yw plain_eq_loop _];exact Yr l b xs ys n m dl db sl sb hs e _ 0 U prog w A R _ #[#[gl,gb],he,by simpa using h]
theorem _S(l b:Addr)(xs ys:Array Aa)(n m:Nat)(dl db:Option Addr)(sl sb:Array (Option Aa))(hs:(xs.size != ys.size)=true) :
  Meets (Builtin.«list.__ne__» #[[.ref l,.ref b],[]])
   (λA R s=>(s.heap.get? l=some { cls:=.type "list",dict:=dl,data:=.seq xs n,slots:=sl }/\s.heap.get? b=some { cls:=.type "list",dict:=db,data:=.seq ys m,slots:=sb })/\R (.ok (.ret (.bool true))) s):=
 .of_wp λprog w A R s ⟨⟨gl,gb⟩,h⟩=>by
  let#[hp,g,d,tk,os]:=s;let f3:=AutoSeq1.sub_list_list
  wp_walk using pC gl,pC gb
  exact#[_,U,h]
variable{b l:Addr}{xs ys:Array Aa}{E Q:Aa->Ab->Prop}{prog:Ad}{w:Af}{A:Ag}{s:Ab}
theorem iJ{e:Nat->Bool}(hl:s.heap.IsList l xs)(hb:s.heap.IsList b ys)(hs:xs.size=ys.size)(hu:A.units<cLine)(he:∀j (h1:j<xs.size) (h2:j<ys.size),EqAt A.in1 s xs[j] ys[j] (e j))(h:Q (.bool (!(List.range xs.size).all e)) s):wpAny (model prog w) A (compareOp .NotEq (.ref l) (.ref b)) Q E s:=by
 let#[#[c1,d1,t1,l1],o1,k1,n1,z1]:=id hl;let#[#[c2,d2,t2,l2],o2,k2,n2,z2]:=id hb;simp only at k1 z1 k2 z2;subst k1 z1 k2 z2;exact richCompare_meets_room (op:=.NotEq) #[_,o1,U] #[_,o2,U] F.slot_list_ne F.entry_list_ne (F.args_list_ne_2 _ _) (_k l b xs ys n1 n2 d1 d2 l1 l2 hs e) #[#[o1,o2],he,show Value.bool (!(List.range xs.size).all e)≠Value.notImplemented/\Q (.bool (!(List.range xs.size).all e)) s from #[(λx=>nomatch x),h]] hu
theorem gX(hl:s.heap.IsList l xs)(hb:s.heap.IsList b ys)(hs:(xs.size != ys.size)=true)(hu:A.units<cLine)(h:Q (.bool true) s):wpAny (model prog w) A (compareOp .NotEq (.ref l) (.ref b)) Q E s:=by
 let#[#[c1,d1,t1,l1],o1,k1,n1,z1]:=id hl;let#[#[c2,d2,t2,l2],o2,k2,n2,z2]:=id hb;simp only at k1 z1 k2 z2;subst k1 z1 k2 z2;exact richCompare_meets_room (op:=.NotEq) #[_,o1,U] #[_,o2,U] F.slot_list_ne F.entry_list_ne (F.args_list_ne_2 _ _) (_S l b xs ys n1 n2 d1 d2 l1 l2 hs) #[#[o1,o2],show Value.bool true≠Value.notImplemented/\Q (.bool true) s from #[(λx=>nomatch x),h]] hu
end GS
namespace L2
open PySem PySem.Spec PyProof.Rows PySem.W qt eY
abbrev Rp(D:Type):=Hp->V->D->Prop
structure ji (X:Cx) (n:Nat) {D:Type} [DecidableEq D] (R:Rp D):Prop where
 eq:∀{pins:List (Addr × Obj)} {σ:St} {H:Hp} {s:Ab} {A:Ag} {x y:V} {u v:Aa} {d e:D},Inv X pins σ H s->RelV x u->RelV y v->R H x d->R H y e->A.units+n<cLine->SeqAt.EqAt A s u v (decide (d=e))
 one:∀{pins:List (Addr × Obj)} {σ:St} {H:Hp} {s:Ab} {x:V} {d e:D},Inv X pins σ H s->R H x d->R H x e->d=e
def rS:Rp Str:=λ_ x d=>x=.str d
def rZ:Rp Int:=λ_ x d=>x=.int d
def r2(K:ai){D1 D2:Type}(R1:Rp D1)(R2:Rp D2):Rp (D1 × D2):=λH x d=>∃a u v,x=.ref a/\fH K H a [u,v]/\R1 H u d.1/\R2 H v d.2
def rL(K:ai){D:Type}(R:Rp D):Rp (List D):=λH x ds=>∃a xs,x=.ref a/\d5 K H a xs/\Paired (R H) xs ds
variable{X:Cx}
theorem gJ:ji X 0 rS where
 eq:=λ{pins σ H s A x y u v d e} I ru rv hx hy hu=>by
  have hx:x=.str d:=hx;have hy:y=.str e:=hy;subst hx;subst hy;let q:=yE (A:=A) (s:=s) ru rv U U
  have e2:pe (.str d) (.str e)=decide (d=e):=by
   show (d == e)=_;by_cases h:d=e
   ·subst h;simp
   simp[h]
  rwa [e2] at q
 one:=λ{pins σ H s x d e} I hx hy=>by
  have hx:x=.str d:=hx;have hy:x=.str e:=hy;rw[hx] at hy;exact V.str.inj hy
theorem Oe:ji X 0 rZ where
 eq:=λ{pins σ H s A x y u v d e} I ru rv hx hy hu=>by
  have hx:x=.int d:=hx;have hy:y=.int e:=hy;subst hx;subst hy;let q:=yE (A:=A) (s:=s) ru rv U U
  have e2:pe (.int d) (.int e)=decide (d=e):=by
   show (d == e)=_;by_cases h:d=e
   ·subst h;simp
   simp[h]
  rwa [e2] at q
 one:=λ{pins σ H s x d e} I hx hy=>by
  have hx:x=.int d:=hx;have hy:x=.int e:=hy;rw[hx] at hy;exact V.int.inj hy
theorem wU{h:Heap}{a:Addr}{its:Array Aa}(t:IsTup h a its):h.IsTuple a its:=t
variable{n:Nat}
theorem Bk{m:Nat}{D1 D2:Type}[DecidableEq D1][DecidableEq D2]{R1:Rp D1}{R2:Rp D2}(c1:ji X n R1)(c2:ji X m R2):ji X (max n m+1) (r2 X.K R1 R2) where
 one:=λ{pins σ H s x d e} I hx hy=>by
  let#[a,u,v,rfl,t,q1,q2]:=hx;let#[b,u',v',e0,t',Hf,He]:=hy;cases e0;let e1:=I.dm t t';cases e1;exact Prod.ext (c1.one I q1 Hf) (c2.one I q2 He)
 eq:=λ{pins σ H s A x y u v d e} I ru rv hx hy hu=>by
  let vT:=hx;let hy':=hy;let#[a,x1,x2,rfl,t,q1,q2]:=hx;let#[b,y1,y2,rfl,t',Hf,He]:=hy;cases ru;cases rv;by_cases tq:a=b
  ·subst tq;let e1:=I.dm t t';cases e1;have:d=e:=Prod.ext (c1.one I q1 Hf) (c2.one I q2 He);rw[c_ this];exact SeqAt.EqAt.same _
  let#[its,r,it,_]:=I.tuple t;let#[its',r',ZZ,_]:=I.tuple t';let#[u1,u2,rfl,r1,r2]:=vals2 r;let#[w1,w2,rfl,WJ,WE]:=vals2 r'
  let key:=SeqAt.EqAt.of_refs tq (SeqAt.RcAt.tuples (A:=A) (s:=s) (e:=λj=>if j=0 then decide (d.1=e.1) else decide (d.2=e.2)) (wU it) (wU ZZ) Y0 λj h1 h2=>by
   match j,h1,h2 with
   |0,_,_=>exact c1.eq I r1 WJ q1 Hf (by show A.units+1+n<cLine;omega)
   |1,_,_=>exact c2.eq I r2 WE q2 He (by show A.units+1+m<cLine;omega))
  have e3:((List.range (min [u1,u2].toArray.size [w1,w2].toArray.size)).all (λj=>if j=0 then decide (d.1=e.1) else decide (d.2=e.2))&&[u1,u2].toArray.size == [w1,w2].toArray.size)=decide (d=e):=by
   show (decide (d.1=e.1)&&(decide (d.2=e.2)&&true)&&true)=_;by_cases h1:d.1=e.1
   ·by_cases h2:d.2=e.2
    ·have:d=e:=Prod.ext h1 h2;simp[this]
    have:¬d=e:=λz=>h2 (by rw[z]);simp[h1,h2,this]
   have:¬d=e:=λz=>h1 (by rw[z]);simp[h1,this]
  rw[e3] at key;exact key
theorem dO{α β:Type}{F:α->β->Prop}:∀{l:List α} {m:List β},Paired F l m->∀(i:Nat) (h1:i<l.length) (h2:i<m.length),F l[i] m[i]
 |_,_,.cons h t,0,_,_=>h
 |_,_,.cons h t,i+1,h1,h2=>dO t i ⇑h1 ⇑h2
theorem UL{D:Type}[DecidableEq D]:∀{ds es:List D},ds.length=es.length->((List.range ds.length).all λj=>decide (ds[j]? = es[j]?))=decide (ds=es):=λ{ds es} hl=>by
 by_cases h:ds=es
 ·subst h;simp
 rw[fO h]
 have:∃i,i<ds.length/\ds[i]?≠es[i]?:=by
  apply Classical.byContradiction λhn=>h ?_;apply List.ext_getElem? ?_;intro i;by_cases hi:i<ds.length
  ·exact Classical.byContradiction λq=>hn #[i,hi,q]
  rw[List.getElem?_eq_none Y0,List.getElem?_eq_none Y0]
 let#[i,hi,q]:=this;rw[List.all_eq_false];exact#[i,by simpa using hi,by simpa using q]
theorem Od{D:Type}[DecidableEq D]{n:Nat}{R:Rp D}(c:ji X n R){pins:List (Addr × Obj)}{σ:St}{H:Hp}{s:Ab}(I:Inv X pins σ H s):∀{xs:af} {ds es:List D},Paired (R H) xs ds->Paired (R H) xs es->ds=es
 |_,_,_,.nil,.nil=>rfl
 |_,_,_,.cons h t,.cons h' t'=>by rw[c.one I h h',Od c I t t']
variable{pins:List (Addr × Obj)}{σ:St}{s:Ab}{A:Ag}
theorem M9{D:Type}[DecidableEq D]{R:Rp D}(c:ji X n R){H:Hp}(I:Inv X pins σ H s){xs ys:af}{us vs:aj}{ds es:List D}(ru:Vals xs us)(rv:Vals ys vs)(hx:Paired (R H) xs ds)(hy:Paired (R H) ys es)(hu:A.units+n<cLine) :
  ∀j (h1:j<us.toArray.size) (h2:j<vs.toArray.size),SeqAt.EqAt A s us.toArray[j] vs.toArray[j] (decide (ds[j]? = es[j]?)):=λj h1 h2=>by
 let l1:=ru.length;let l2:=rv.length;let l3:=bI hx;let l4:=bI hy;simp only[cY] at h1 h2;let q:=c.eq (A:=A) I (dO ru j Y0 h1) (dO rv j Y0 h2) (dO hx j Y0 Y0) (dO hy j Y0 Y0) hu
 have e:decide (ds[j]? = es[j]?)=decide (ds[j]' Y0=es[j]' Y0):=by
  rw[aX Y0,aX Y0];by_cases z:ds[j]' Y0=es[j]' Y0
  ·simp[z]
  simp[z]
 rw[e];exact q
def DS{D:Type}[DecidableEq D](R:Rp D)(neg:Bool):V->V->Hp->VK->Prop:=λx y H Q=>∃d e,R H x d/\R H y e/\Q (.bl (if neg then !decide (d=e) else decide (d=e))) H
theorem YA{D:Type}[DecidableEq D]{R:Rp D}(c:ji X n R)(hu:X.A.units+n+1<cLine):dU X (compareOp .NotEq) (DS (rL X.K R) true):=by
 intro pins s σ H x y v u Q I rx ry h;let#[d,e,#[a,xs,rfl,t,q],#[b,ys,rfl,t',q'],hq]:=h;cases rx;cases ry;let#[us,r,pl,_]:=I.list t;let#[vs,r',uD,_]:=I.list t';let l1:=r.length;let l2:=r'.length;let l3:=bI q;let l4:=bI q';have hq:Q (.bl (!decide (d=e))) H:=hq;by_cases hl:d.length=e.length
 ·apply GS.iJ pl.isList uD.isList (by simp only[cY];omega) Y0 (M9 c I r r' q q' (A:=X.A.in1) (by show X.A.units+1+n<cLine;omega)) #[.bl _,H,I,U,?_];rw[show us.toArray.size=d.length by simp only[cY];omega,UL hl];exact hq
 apply GS.gX pl.isList uD.isList (by simp only[cY,bne_iff_ne];omega) Y0 #[.bl _,H,I,U,?_];rwa [fO (λz=>hl (by rw[z]))] at hq
def zP(K:ai){D:Type}[DecidableEq D](R:Rp D)(neg:Bool):V->V->Hp->VK->Prop:=λx y H Q=>∃d es,R H x d/\rL K R H y es/\Q (.bl (if neg then !decide (d∈es) else decide (d∈es))) H
theorem My{D:Type}[DecidableEq D]{R:Rp D}(c:ji X n R){H:Hp}(I:Inv X pins σ H s){x:V}{u:Aa}{d:D}(ru:RelV x u)(hx:R H x d)(hu:A.units+n<cLine):∀{ys:af} {vs:aj} {es:List D},Vals ys vs->Paired (R H) ys es->
  ∃f:Aa->Bool,(∀w∈vs,SeqAt.EqAt A s w u (f w))/\vs.any f=decide (d∈es):=λ{ys vs es} rv hy=>by
 let f:Aa->Bool:=λw=>@decide (∃y e,RelV y w/\R H y e/\e=d) (Classical.propDecidable _)
 have sound:∀y w e,RelV y w->R H y e->f w=decide (e=d):=λy w e h1 h2=>by
  by_cases z:e=d
  ·rw[c_ z];exact @c_ _ (Classical.propDecidable _) #[y,e,h1,h2,z]
  rw[fO z];apply @fO _ (Classical.propDecidable _) λ⟨y',e',g1,g2,g3⟩=>z ?_;have:y'=y:=RelV.inj g1 h1;subst this;rw[<- g3];exact c.one I h2 g2
 apply#[f,?_,?_]
 ·induction rv generalizing es with
  |nil=>exact λw hw=>nomatch hw
  |cons h t ih=>
   cases hy with
   |cons g t'=>
    intro w hw;rcases cg.mp hw with rfl|hw
    ·rw[sound _ _ _ h g];exact c.eq I h ru g hx hu
    exact ih t' w hw
 induction rv generalizing es with
 |nil=>
  cases hy;simp
 |cons h t ih=>
  cases hy with
  |@cons _ e _ es g t'=>
   rw[List.any_cons,ih t',sound _ _ _ h g];by_cases z:e=d
   ·subst z;simp
   by_cases z2:d∈es
   ·simp[z2]
   have:¬d∈e::es:=λq=>by
    rcases cg.mp q with q|q
    ·exact z q.symm
    exact z2 q
   rw[fO z,fO z2,fO this];rfl
theorem Iu{D:Type}[DecidableEq D]{R:Rp D}(c:ji X n R)(hu:X.A.units+n+1<cLine):dU X (compareOp .In) (zP X.K R false):=by
 intro pins s σ H x y v u Q I rx ry h;let#[d,es,hx,#[a,ys,rfl,t,q],hq]:=h;cases ry;let#[us,r,pl,_]:=I.list t;let#[f,h1,h2]:=My c I (A:=X.A.in1) rx hx (by show X.A.units+1+n<cLine;omega) r q;apply SeqAt.in_listAt f pl.isList (λw hw=>h1 w ⇑hw) #[.bl _,H,I,U,?_];rw[show us.toArray.any f=us.any f by simp,h2];exact hq
theorem Tu{D:Type}[DecidableEq D]{R:Rp D}(c:ji X n R)(hu:X.A.units+n+1<cLine):dU X (compareOp .NotIn) (zP X.K R true):=by
 intro pins s σ H x y v u Q I rx ry h;let#[d,es,hx,#[a,ys,rfl,t,q],hq]:=h;cases ry;let#[us,r,pl,_]:=I.list t;let#[f,h1,h2]:=My c I (A:=X.A.in1) rx hx (by show X.A.units+1+n<cLine;omega) r q;apply SeqAt.notIn_listAt f pl.isList (λw hw=>h1 w ⇑hw) #[.bl _,H,I,U,?_];rw[show us.toArray.any f=us.any f by simp,h2];exact hq
inductive DR (K:ai) (xs:af) (H:Hp) (Q:VK):Prop
 |mk:∀x T t b,xs=[x,.ty T]->dC K H x t->PySem.W.kitOne K t (.type T)\b->Q (.bl b) H->DR K xs H Q
theorem gL:gn X (.builtin "isinstance") (DR X.K):=by
 intro pins s σ H xs us Q I r h;let#[x,T,t,b,rfl,ty,e,q]:=h;let#[u,w',rfl,ru,iR]:=vals2 r;cases (show w'=Value.type T from iR);exact Ui I ru ty e λtk=>#[.bl b,H,I.tok tk,U,q]
inductive UO (x:V) (y:V) (H:Hp) (Q:VK):Prop
 |mk:∀i j,x=.str i->y=.str j->Q (.bl (!decide (j.cps.toList<i.cps.toList))) H->UO x y H Q
theorem TH:dU X (compareOp .LtE) UO:=by
 intro pins s σ H x y v u Q I rx ry h;let#[i,j,rfl,rfl,q]:=h;let#[t,rfl]:=rx;let#[t',rfl]:=ry;exact PySem.P.le_str ⟨.bl _,H,I,rfl,q⟩
theorem Zz{prog:Ad}{w':Af}{E:Aa->Ab->Prop}(l:Addr)(its:Array Aa)(n:Nat)(k:Int)(t:Tok)(w:Aa)(h1:¬(!Builtin.List.listFitsIndex k)=true)(h2:its.size<=sizeLine){Q:Aa->Ab->Prop}(e:s.heap.get? l=some { cls:=.type "list",data:=.seq its n })(f:Array Aa->Array Aa)(hf:f=λxs:Array Aa=>let k:=if k<0 then (k+((xs.size:Nat):Int)).toNat else min k.toNat xs.size;(xs.extract 0 k).push w++xs.extract k)(q:Q .none { s with heap:=s.heap.update l (Obj.mapSeq f) }):wpAny (model prog w') A (call (.builtin "list.insert") [.ref l,.int k t,w]) Q E s:=by
 subst hf;let hm:=@PySem.AutoListH.list_insert_list_int_val_1 l its n k t w h1 h2;have ty:s.TypeIs (.ref l) "list":=⟨_,e,rfl⟩;exact wpAny_call (codeAny_call_builtin F.slot_list_insert.plain F.entry_list_insert (F.slot_list_insert.check _ _ _ _ _ _ _ _ ty (F.args_list_insert_3 _ _ _) (hm prog w' A (wants Q E) s ⟨e,q⟩)))
inductive nJ (x:V) (vs:af) (H:Hp) (Q:VK):Prop
 |mk:∀(l:Addr) (k:Nat) (xs:af) (y:V),x=.ref l->vs=[.int k,y]->H l\.lst xs->k<=xs.length->xs.length<100000->Q .non (upd H l (.lst (xs.take k++y::xs.drop k)))->nJ x vs H Q
theorem Oz:PB X "list.insert" nJ:=by
 intro pins s σ H x vs v us Q I rx rv h;let#[l,k,xs,y,rfl,rfl,hH,hk,hz,q]:=h;cases rx;let#[u,w,rfl,#[t,rfl],iR]:=rv.two;let#[z,its,n,r,hl,e]:=I.jH hH;let sz:=cJ
 have fit:Builtin.List.listFitsIndex (k:Int)=true:=by
  unfold Builtin.List.listFitsIndex;rw[c_ Y0,c_ Y0];rfl
 apply Zz l its.toArray n (k:Int) t w (by rw[fit];exact gr) (by rw[cY];omega) e _ rfl ?_;apply⟨.non,_,I.Ak (its':=its.take k++w::its.drop k) (f:=λxs=>let k':=if (k:Int)<0 then ((k:Int)+((xs.size:Nat):Int)).toNat else min (k:Int).toNat xs.size;(xs.extract 0 k').push w++xs.extract k') hH e ?_ (Vals.append (r.take k) (.cons iR (r.drop k))) ?_,rfl,q⟩
 ·have e1:(if (k:Int)<0 then ((k:Int)+((its.toArray.size:Nat):Int)).toNat else min (k:Int).toNat its.toArray.size)=k:=by
   rw[aC Y0];simp;omega
  dsimp only;rw[e1];apply Array.ext' ?_;simp[u9]
 rw[dM,jy,dJ,wX];omega
inductive qz (mk:Addr->Addr->HO) (Q:VK) (x:V) (H1:Hp):Prop
 |mk:∀d kvs,x=.ref d->H1 d\.dK kvs->(∀v,H1 v=none->Q (.ref v) (upd H1 v (mk v d)))->qz mk Q x H1
def xi(mk:Addr->Addr->HO)(td:TE):TE:=λσ H Q=>td σ H λx H1=>qz mk Q x H1
variable{H:Hp}{d:Addr}
theorem SB{cls:String}(I:Inv X pins σ H s)(φ:Heap->Prop)(_U:φ (s.heap.push { cls:=.type cls,data:=.fields (List.toArray [.ref d]) }))(hs:∀h1 h2:Heap,φ h1->(∀o,h1.get? s.heap.objs.size\o->h2.get? s.heap.objs.size\o)->φ h2) :
  Inv X pins σ (upd H s.heap.objs.size (.ext φ)) { s with heap:=s.heap.push { cls:=.type cls,data:=.fields (List.toArray [.ref d]) } }:=
 I.laid (t':=s.toks) (λ_ _ q=>bo _ q) (a9 _) #[_U,#[_,dj _ U],hs]
variable{o:Expr}{td:TE}{apos cX:Pos}
theorem Jm(ho:PE X o td)(jQ:attributeBase o "items" X.env (eval o X.env)=eval o X.env:=by rfl)(jO:(apos.endLine == cX.line)=true:=by rfl):PE X (.Call (.Attribute o "items" apos) [] [] cX) (xi tV td):=by
 intro pins s σ H Q I h;apply wpAny_Call_method0_late jQ jO (aS (ho pins s σ H _ I h) λv s1 ⟨x,H1,I1,r1,d,kvs,e,hd,q⟩=>?_);subst e;cases r1;let#[t1,t2,t3]:=Iq I1 (.inl #[kvs,.inl hd]);let#[_,_,vs,rel,dd]:=Fq I1.aE hd;apply#["dict","dict.items",PySem.F.plainAttrs_dict,PySem.F.slot_dict_items,PySem.F.type_dict_items,t1,t2,Calls.callWith_builtin U (PySem.evalArgs_none ?_)];apply call_meetsIn PySem.F.slot_dict_items t1 PySem.F.entry_dict_items (PySem.F.args_dict_items_1 _) (meets_dict_items (dZ X.prog X.w) d t3) #[#[vs,dd],?_];exact#[.ref _,_,SB I1 _ #[_,dj _ U,U,U] λh1 h2 ⟨o,e,r⟩ k=>#[o,k o e,r],U,q _ I1.fresh]
theorem Jx(ho:PE X o td)(jQ:attributeBase o "values" X.env (eval o X.env)=eval o X.env:=by rfl)(jO:(apos.endLine == cX.line)=true:=by rfl):PE X (.Call (.Attribute o "values" apos) [] [] cX) (xi qc td):=by
 intro pins s σ H Q I h;apply wpAny_Call_method0_late jQ jO (aS (ho pins s σ H _ I h) λv s1 ⟨x,H1,I1,r1,d,kvs,e,hd,q⟩=>?_);subst e;cases r1;let#[t1,t2,t3]:=Iq I1 (.inl #[kvs,.inl hd]);let#[_,_,vs,rel,dd]:=Fq I1.aE hd;apply#["dict","dict.values",PySem.F.plainAttrs_dict,PySem.F.slot_dict_values,PySem.F.type_dict_values,t1,t2,Calls.callWith_builtin U (PySem.evalArgs_none ?_)];apply call_meetsIn PySem.F.slot_dict_values t1 PySem.F.entry_dict_values (PySem.F.args_dict_values_1 _) (meets_dict_values (dZ X.prog X.w) d t3) #[#[vs,dd],?_];exact#[.ref _,_,SB I1 _ #[_,dj _ U,U,U] λh1 h2 ⟨o,e,r⟩ k=>#[o,k o e,r],U,q _ I1.fresh]
variable{kvs:List (Key × V)}
theorem Inv.freeze(I:Inv X pins σ H s)(h:H d\.dK kvs):∃o,s.heap.get? d\o/\Inv X pins σ (upd H d (.frz o (.dK kvs))) s:=by
 let#[z,hd,vs,rel,dd]:=Fq I.aE h;let#[o,es,ep,ho,r]:=id dd;have other:∀{b u},H b\u->u≠.dK kvs->upd H d (.frz o (.dK kvs)) b\u:=λ{b u} e ne=>by rw[aA (bO e h ne)];exact e
 apply#[o,ho,I.un (h':=s.heap) (t':=s.toks) #[λb u q _ _ _=>q,λb u q _ _ _=>#[u.slots,q],λb u q n _=>?_,λb u q _=>#[u,q],λb xs q=>other q Y1,λb u v q=>other q Y1,λb ps q=>#[#[],by rw[Array.append_empty];exact other q Y1]] λb u q=>?_]
 ·by_cases e:b=d
  ·subst e;rw[h] at n;cases n
  rw[aA e];exact n
 by_cases e:b=d
 ·subst e;rw[ay] at q;cases q;exact#[ho,z,hd,vs,rel,dd]
 rw[aA e] at q;exact (I.aE b u q).cA (λc v _ z=>z) (λc z=>other z Y1) λc xs z=>other z Y1
variable{o:Obj}
theorem Inv.qw(I:Inv X pins σ H s)(h:H d\.frz o (.dK kvs))(h0:∀o u,X.kq d≠some (.frz o u)):Inv X pins σ (upd H d (.dK kvs)) s:=by
 have other:∀{b u},H b\u->(∀o v,u≠.frz o v)->upd H d (.dK kvs) b\u:=λ{b u} e ne=>by rw[aA (bO e h (ne _ _))];exact e
 have nQ:∀{b},H b=none->upd H d (.dK kvs) b=none:=λ{b} e=>by
  rw[aA (λz=>by subst z;rw[h] at e;cases e)];exact e
 apply#[I.ok,I.os,I.bare,#[I.base.keep,I.base.slot,λb u q n hx=>nQ (I.base.free b u q n hx),I.base.there,λb xs q=>other (I.base.iM b xs q) Y1,λb u v q=>?_,λb ps q=>?_],I.loc,I.cell,nQ I.free,λx c e=>nQ (I.eG x c e),λp hp=>?_,λb u q=>?_,I.len]
 ·have:=I.base.hG b u v q;rw[aA (λz=>by subst z;exact h0 _ _ q)];exact this
 ·let#[more,e]:=I.base.ik b ps q;exact#[more,other e Y1]
 ·let#[a1,a2,a3]:=I.pin p hp;exact#[a1,nQ a2,a3]
 by_cases e:b=d
 ·subst e;rw[ay] at q;cases q;let#[ho,z,hd,vs,rel,dd]:=I.aE b _ h;exact#[z,hd,vs,rel,dd]
 rw[aA e] at q;exact (I.aE b u q).cA (λc v _ z=>z) (λc z=>other z Y1) λc xs z=>other z Y1
theorem Ut{es:Array DictEntry}{ep:Nat}(I:Inv X pins σ H s)(h:H d\.frz o (.dK kvs))(ho:o.data=.dict es ep):∃vs,KV kvs vs/\s.heap.DictAt (dZ X.prog X.w) d vs ep:=by
 let#[e,z,hd,vs,rel,o',Cr,IH,e',c',d',r]:=I.aE d _ h;rw[e] at e';cases e';rw[ho] at d';cases d';exact#[vs,rel,o,es,e,c',ho,r]
theorem Ms{κ:Type}{kvs:List (κ × V)}{vs:List (κ × Aa)}(r:KV kvs vs):∀(i:Nat) {k:κ} {x:V},kvs[i]? = some (k,x)->∃u,vs[i]? = some (k,u)/\RelV x u:=by
 induction r with
 |nil=>intro i k x e;simp at e
 |@cons p q _ _ h _ ih=>
  intro i k x e;cases i with
  |zero=>
   have e:p=(k,x):=⇑e
   subst e;apply#[q.2,?_,h.2];rw[List.getElem?_cons_zero];have h1:k=q.1:=h.1;rw[h1]
  |succ i=>exact ih i ⇑e
def PJ(x:Str):It:=#[λi _=>i<x.cps.size,λi H v H'=>H'=H/\∃c,x.cps[i]? = some c/\v=.str ⟨(List.toArray [c])⟩,λi _=>x.cps.size<=i]
variable{P:Ad}{w:Af}{K:ai}{tg:Expr}
theorem g3_(it:Addr)(x:Str)(t:Tok):Turn P w K tg (PJ x) [it] it (λi h=>i<=x.cps.size/\h.IsStrIter it "str_ascii_iterator" x t i) where
 mem:=by simp
 obj:=λi h st b hb=>by
  obtain rfl:b=it:=⇑hb
  let#[o,e,c,d]:=st.2;exact#[o,e,λv z=>by rw[d] at z;cases z]
 keep:=λi h h' st k=>#[st.1,let #[o,ho,r]:=st.2;#[o,k it Y1 o ho,r]]
 item:=by
  intro X hP hw hK hc i pins s σ H E I hf st hg;subst hP hw hK;have hg:i<x.cps.size:=hg;let#[f0,f1,f2,f3,f4,f5]:=hf it Y1;apply wpAny_pyNext_ascii_item st.2 (c:=x.cps[i]) (by simp[hg]) λh' dX sb=>?_;have I1:Inv X pins σ H { s with heap:=h',toks:=s.toks+1 }:=I.turned (t':=s.toks+1) (λb o hb e=>(sb.2 b hb).trans e) f0 f1 f3 f4 f5;let#[o',e,c,dd]:=id dX;exact#[_,U,Fp (s:={ s with heap:=h',toks:=s.toks+1 }) e c dd (by decide) #[.str ⟨#[x.cps[i]]⟩,H,I1,#[_,U],#[U,_,by simp[hg],U],#[hg,dX],λb hb=>(hf b hb).1]]
 done:=by
  intro X hP hw hK hc i pins s σ H E I hf st hg;subst hP hw hK;have hg:x.cps.size<=i:=hg;let#[f0,f1,f2,f3,f4,f5]:=hf it Y1;exact wpAny_pyNext_ascii_end (I.ok.hd hc) st.2 (by simp[hg]) λh' eb=>#[U,I.turned (t':=s.toks) (λb o hb e=>eb b o hb e) f0 f1 f3 f4 f5]
 self:=λ_ _ _ _ _ st h=>wpAny_pyIter_striter_ascii st.2 h
theorem hj_(it:Addr)(x:Str)(t:Tok):Turn P w K tg (PJ x) [it] it (λi h=>i<=x.cps.size/\h.IsStrIter it "str_iterator" x t i) where
 mem:=by simp
 obj:=λi h st b hb=>by
  obtain rfl:b=it:=⇑hb
  let#[o,e,c,d]:=st.2;exact#[o,e,λv z=>by rw[d] at z;cases z]
 keep:=λi h h' st k=>#[st.1,let #[o,ho,r]:=st.2;#[o,k it Y1 o ho,r]]
 item:=by
  intro X hP hw hK hc i pins s σ H E I hf st hg;subst hP hw hK;have hg:i<x.cps.size:=hg;let#[f0,f1,f2,f3,f4,f5]:=hf it Y1;apply wpAny_pyNext_wide_item st.2 (c:=x.cps[i]) (by simp[hg]) λh' dX sb=>?_;have I1:Inv X pins σ H { s with heap:=h',toks:=s.toks+1 }:=I.turned (t':=s.toks+1) (λb o hb e=>(sb.2 b hb).trans e) f0 f1 f3 f4 f5;let#[o',e,c,dd]:=id dX;exact#[_,U,Fp (s:={ s with heap:=h',toks:=s.toks+1 }) e c dd (by decide) #[.str ⟨#[x.cps[i]]⟩,H,I1,#[_,U],#[U,_,by simp[hg],U],#[hg,dX],λb hb=>(hf b hb).1]]
 done:=by
  intro X hP hw hK hc i pins s σ H E I hf st hg;subst hP hw hK;have hg:x.cps.size<=i:=hg;let#[f0,f1,f2,f3,f4,f5]:=hf it Y1;exact wpAny_pyNext_wide_end (I.ok.hd hc) st.2 (by simp[hg]) λh' eb=>#[U,I.turned (t':=s.toks) (λb o hb e=>eb b o hb e) f0 f1 f3 f4 f5]
 self:=λ_ _ _ _ _ st h=>wpAny_pyIter_striter_wide st.2 h
inductive xX (R:It->Hp->Prop) (v:V) (H1:Hp):Prop
 |mk:∀x,v=.str x->R (PJ x) H1->xX R v H1
def Lq(tl:TE):TI:=λσ H R=>tl σ H λv H1=>xX R v H1
theorem YJ{l:Expr}{tl:TE}(hl:PE X l tl):PI X tg l (Lq tl):=by
 intro pins s σ H R I h;apply aS (hl pins s σ H _ I h) λv s1 ⟨y,H1,I1,r1,x,e,q⟩=>?_;subst e;let#[t,rfl]:=r1
 have fp:∀b∈[s1.heap.objs.size],dk X pins H1 b:=λb hb=>by
  obtain rfl:b=s1.heap.objs.size:=⇑hb
  exact I1.i0 (a9 _) (I1.aE.fresh (a9 _))
 cases ha:x.cps.all (· < 128)
 ·apply wpAny_pyIter_wide ha ?_;exact#[s1.heap.objs.size,[s1.heap.objs.size],_,_,H1,U,I1.kept (t':=s1.toks) λb o e=>bo _ e,hj_ _ x t,#[gN _,_,dj _ U,U,U],fp,q]
 apply wpAny_pyIter_ascii ha ?_;exact#[s1.heap.objs.size,[s1.heap.objs.size],_,_,H1,U,I1.kept (t':=s1.toks) λb o e=>bo _ e,g3_ _ x t,#[gN _,_,dj _ U,U,U],fp,q]
theorem Qu{f:Aa->Aa->Sem Aa}(r:ai->R2)(h:dU X f (r X.K))(hK:X.K=K:=by rfl):dU X f (r K):=by
 subst hK;exact h
theorem FY{f:Aa}(r:ai->af->Hp->VK->Prop)(h:gn X f (r X.K))(hK:X.K=K:=by rfl):gn X f (r K):=by
 subst hK;exact h
theorem B4(r:ai->R2)(h:CS X (r X.K))(hK:X.K=K:=by rfl):CS X (r K):=by
 subst hK;exact h
theorem CA{N:ag}{scope:Scope}{fp:aw}{es:List Expr}{k:Nat}{pos:Pos}{t:BH}(h:GM (ia X N scope fp s H) es t)(hc:X.calm=true:=by rfl)(hn:(assignEach es (ia X N scope fp s H).env).length=n:=by rfl)(Ay:(assignEach es (ia X N scope fp s H).env).findIdx? (·.1)=none:=by rfl):PG (ia X N scope fp s H) (.Tuple es k pos) (gi X.K n t):=ju (X:=ia X N scope fp s H) hc h hn Ay
end L2
abbrev Ba:PySem.Str:="ways_by_name"
abbrev yy:PySem.Str:="_law_script"
abbrev wu:PySem.Str:="_law_found"
abbrev Ct:PySem.Str:="greatest_divisor"
abbrev kj:PySem.Str:="multiple_of_strengths"
abbrev Cv:PySem.Str:="neighbours_by_hand"
abbrev tT:PySem.Str:="_law_digit"
abbrev mw:PySem.Str:="_law_pieces_here"
abbrev uV:PySem.Str:="ahead_by_hands"
abbrev uY:PySem.Str:="strength_by_hand"
abbrev p_:PySem.Str:="weight_by_name"
abbrev j4:PySem.Str:="_law_hands_here"
abbrev gK:PySem.Str:="_law_state"
abbrev j2:PySem.Str:="exits_by_place"
abbrev wH:List PySem.Str:=["_law_name_here","_law_strength"]
abbrev fM:List PySem.Str:=["thing"]
abbrev uW:List PySem.Str:=[gK,"_law_base"]
abbrev oz:List PySem.Str:=["goods","placed"]
abbrev mq:List PySem.Str:=["self","thing"]
abbrev mB:List PySem.Str:=["one","other"]
abbrev oJ:List PySem.Str:=[gK,j4,mw]
abbrev yB:List PySem.Str:=["thing","least","most"]
abbrev yC:List PySem.Str:=["name","weight","ways"]
abbrev uw:List PySem.Str:=["_law_parts","_law_first","_law_limit","_law_count","_law_shut"]
abbrev oI:List PySem.Str:=[mw,"_law_ties_here","_law_spot"]
abbrev uv:List PySem.Str:=[j4,mw,"_law_spot","_law_limit"]
abbrev ur:List PySem.Str:=[j4,mw,"_law_count","_law_shut"]
abbrev uq:List PySem.Str:=[gK,"_law_shut",j4,mw]
abbrev uo:List PySem.Str:=[mw,"_law_ties_here","_law_spot","_law_most"]
abbrev yS:List PySem.Str:=["_law_again","_law_count","_law_goods","_law_handed","_law_limit","_law_stand_here"]
abbrev oH:List PySem.Str:=["goods","stand","limit","count","shut"]
abbrev uk:List PySem.Str:=[j4,mw,"_law_spot"]
abbrev wI:List PySem.Str:=["self","hand"]
abbrev yq:List PySem.Str:=["goods","stand"]
abbrev uj:List PySem.Str:=[gK,"_law_ties_here","_law_most"]
abbrev oG:List PySem.Str:=["_law_piece","_law_stand_here"]
abbrev kg:List PySem.Str:=["self","one","other"]
abbrev ui:List PySem.Str:=["reach","hands","number_by_hands"]
abbrev oF:List PySem.Str:=["goods","hands","limit"]
abbrev oE:List PySem.Str:=["goods","count","thing"]
abbrev uh:List PySem.Str:=["goods","stand","limit","count"]
abbrev pf:List PySem.Str:=["self"]
namespace Ev
open PySem L2
def top(i:Nat):Stmt:=PySem.Challenge.pw_evenpieces_k83_shuts_spoilt.main.body.getD i (.Pass #[0,0,0,0])
abbrev vF:Stmt:=top 12
abbrev II:Stmt:=top 14
abbrev rH:Stmt:=top 15
abbrev NO:Stmt:=top 16
abbrev rF:Stmt:=top 17
abbrev Nv:Stmt:=top 18
abbrev rQ:Stmt:=top 49
abbrev zF:Stmt:=top 50
abbrev rq:Stmt:=top 51
abbrev rG:Stmt:=top 52
abbrev oQ:Stmt:=top 53
def Ai(a b:Str):Bool:=decide (a.cps.toList<b.cps.toList)
def aN(a b:Str):Str × Str:=if Ai a b=true then (a,b) else (b,a)
variable{f:Addr}{fd:Ae}
variable{X:Cx}{k:Nat}{ps:ag}{sp:Sp}{pos:Pos}{e:Expr}{es:List Expr}{t:TA}
section v
theorem bZ{N p:List Str}{c:Scope}(h:bQ N p c:=by exact#[U,U,U,by decide +kernel,U,by decide +kernel,by decide +kernel]):bQ N p c:=h
theorem qZ:bQ mB mB (a_ NO):=bZ
def Ju:Sp:=λvs H Q _=>∃a b,vs=[.str a,.str b]/\∀t,H t=none->Q (.ref t) (upd H t (.tup [.str (aN a b).1,.str (aN a b).2]))
theorem h5_(F:bu K "lesser_first" "lesser_first" NO f fd):!ak bc 1 f fd mB Ju:=by
 exists F.bW qZ;let#[a,b,rfl,k]:=h;apply#[_,aJ (bp (hO_ (eO gK_ (pv 0) (pv 1)) (dA %[0,1|0]) (dA %[1,0|0]))),?_];apply#[_,U,_,U,a,b,U,U,_,U,?_];apply bH (λc=>?_) (λc=>?_)
 ·apply#[_,U,_,U,zl,λt ht=>?_];have:=k t ht;rwa [show aN a b=(a,b) from aK c] at this
 apply#[_,U,_,U,zl,λt ht=>?_];have:=k t ht;rwa [show aN a b=(b,a) from aC c] at this
theorem nu:bQ yB yB (a_ II):=bZ
def I_:Sp:=λvs H Q _=>∃i a b:Int,vs=[.int i,.int a,.int b]/\Q (.bl (decide (a<=i)&&decide (i<=b))) H
structure Bi (mg:Str->Option Aa):Prop where
 gA:mg "isinstance"=none
 int:mg "int"=none
 bool:mg "bool"=none
 str:mg "str"=none
 tuple:mg "tuple"=none
 list:mg "list"=none
 dict:mg "dict"=none
 len:mg "len"=none
 all:mg "all"=none
 sorted:mg "sorted"=none
 max:mg "max"=none
 range:mg "range"=none
 any:mg "any"=none
 enum:mg "enumerate"=none
structure bz (P:Ad) (w:Af) (K:ai) (mg:Str->Option Aa) (base:Heap) (k:Nat) (x:Str) (ps:ag) (sp:Sp):Prop where
 ex:∃f fd,ak P w K mg base bc k f fd ps sp/\mg x\.ref f/\PySem.W.keepIn K (.ref f)=true/\p9 K fd ps []
theorem bj{n_:Nat}{x:Str}{p:Pos}(c:bz X.prog X.w X.K X.mg X.base k x ps sp)(hr:aY n_ X.A)(ha:PA X (e::es) t)(hg:Gl X x:=by rfl)(sZ:(x == ("__debug__":Str))=false:=by decide)(he:starEach (e::es) X.env=(false,eval e X.env)::starEach es X.env:=by rfl)(iY:(backTo pos (starEach es X.env)).any (·.1)=false:=by rfl)(hk:k<=n_:=by decide):PE X (.Call (.Name x p) (e::es) [] pos) (xt sp [] E0 t):=by
 let#[f,fd,F,m,kp,b]:=c.ex;exact Zs F (hr.mono hk) hg m kp b .nil nO ha sZ he iY
theorem xA:bQ fM fM (a_ vF):=bZ
def nj:Sp:=λvs H Q _=>∃i:Int,vs=[.int i]/\Q (.bl true) H
theorem Ye(F:bu K "is_whole" "is_whole" vF f fd)(B:Bi mg):!ak bc 1 f fd fM nj:=by
 exists F.bW xA;let#[i,rfl,k]:=h;apply#[_,aJ (bp (oq (bT gL (by rfl) B.gA gE %[0,gM (v:=.ty "int") (by rfl) B.int FK U|0]) (ph (Mw (bT gL (by rfl) B.gA gE %[0,gM (v:=.ty "bool") (by rfl) B.bool M7 U|0]))))),?_];exact#[_,U,_,_,_,_,U,.int i,U,_,U,bN #[_,U,_,_,_,_,U,.int i,U,_,U,k]]
theorem _A(F:bu K "is_whole_within" "is_whole_within" II f fd)(cI:!bz 1 "is_whole" fM nj):!ak bc 2 f fd yB I_:=by
 exists F.bW nu;let#[i,a,b,rfl,k]:=h;apply#[_,aJ (bp (oq (bj cI hr %[0|0]) (ph (NB tL tL (pv 1) (pv 0) (pv 2))))),?_];apply#[_,U,i,U,_,U,bN ?_];apply#[_,U,_,U,_,_,U,U,_,U,?_];apply bH (λc=>?_) (λc=>?_)
 ·apply#[_,U,_,_,U,U,?_];rw[c] at k;exact k
 rw[show decide (a<=i)=false by simpa using c] at k;exact k
def oW(c:Nat):Bool:=decide (97<=c)&&decide (c<=122)
def iC(x:Str):Bool:=decide (1<=x.length)&&decide (x.length<=8)&&x.cps.toList.all oW
theorem zw:bQ fM fM (a_ rH):=bZ
def IG:Sp:=λvs H Q _=>∃x:Str,vs=[.str x]/\x.length<=100000/\∀H',aa H H'->Q (.bl (iC x)) H'
theorem ZC{c:Nat}:(!decide ((⟨(List.toArray [c])⟩:Str).cps.toList<("a":Str).cps.toList))=decide (97<=c):=by
 have e:("a":Str).cps.toList=[97]:=by decide +kernel
 rw[e];show (!decide ([c] < [97]))=decide (97<=c);by_cases h:97<=c
 ·have:¬[c] < [97]:=by simp[List.cons_lt_cons_iff];omega
  simp[this,h]
 have:[c] < [97]:=by simp[List.cons_lt_cons_iff];omega
 simp[this,h]
theorem Zl{c:Nat}:(!decide (("z":Str).cps.toList<(⟨(List.toArray [c])⟩:Str).cps.toList))=decide (c<=122):=by
 have e:("z":Str).cps.toList=[122]:=by decide +kernel
 rw[e];show (!decide ([122] < [c]))=decide (c<=122);by_cases h:c<=122
 ·have:¬[122] < [c]:=by simp[List.cons_lt_cons_iff];omega
  simp[this,h]
 have:[122] < [c]:=by simp[List.cons_lt_cons_iff];omega
 simp[this,h]
theorem Zv(F:bu K "is_name" "is_name" rH f fd)(B:Bi mg){t8:Tok}(m8:mg "MOST_LETTERS"\.int 8 t8):!ak bc 1 f fd fM IG:=by
 exists F.bW zw;let#[x,rfl,hz,k]:=h;let sz:=cJ
 apply#[_,au (b_ (iK (eK (d0 (bT gL (by rfl) B.gA gE %[0,gM (v:=.ty "str") (by rfl) B.str Im U|0])))
   (jY (eK (NC tL tL av (bT ea_ (by rfl) B.len fN %[0|0]) (CB (v:=.int 8) (by rfl) m8 #[t8,U]))))).pt (aJ (bp jv)) cm)
  (aJ (bp (bT (SI U) (by rfl) B.all PyProof.Rows.Boot.«all» (d7
   (jb ["letter"] 1 [] (YJ (pv 0)) (λfp s H=>fu (i:=0) (show (["letter"]:ag).Nodup by decide +kernel) U (Or.inl U)) (λfp s H=>jx) (λfp s H=>NB TH TH jX (pv 0) jX)) bR)))),?_]
 apply#[_,U,_,_,_,_,U,.str x,U,_,U,?_];apply aF ?_;apply#[_,U,x,U,by omega,_,_,U,U,_,U,?_]
 have fin:(decide (1<=x.length)&&decide (x.length<=8))=false->∀H',aa H H'->Q (.bl false) H':=λe H' sm=>by
  have:=k H' sm;rwa [show iC x=false by unfold iC;rw[e];rfl] at this
 apply bH (λc=>?_) (λc=>?_)
 ·have c1:1<=x.length:=by
   have:(1:Int)<=(x.length:Int):=⇑c
   omega
  apply#[_,_,U,U,_,U,?_];apply bH (λc2=>?_) (λc2=>?_)
  ·-- too long
   have c3:¬x.length<=8:=by
    have:¬((x.length:Int)<=8):=⇑c2
    omega
   exact fin (by rw[fO c3,Bool.and_false]) H (aa.refl H)
  have c3:x.length<=8:=by
   have:(x.length:Int)<=8:=⇑c2
   omega
  apply#[_,U,x,U,λD hD=>?_];apply IX (own:=1) (fv:=[]) U fg x.cps.size (λi out H'=>H'=upd H D (.lst out)/\out=((x.cps.toList.take i).map oW).map V.bl) #[U,by simp] (λout H' ⟨e1,e2⟩=>?_) (λi out H' hi ⟨e1,e2⟩=>?_)
  ·apply#[a9 _,D,x.cps.toList.map oW,U,.of ?_,?_]
   ·rw[e1,ay,e2,u9 Y1]
   have:=k H' (by rw[e1];exact aa.new hD);rwa [show iC x=(x.cps.toList.map oW).all id by unfold iC;rw[c_ c1,c_ c3,List.all_map];rfl] at this
  apply#[hi,λv H2 y=>?_];let#[eH,c,hc,rfl]:=y;subst eH;apply#[_,U,U,λNx hN=>eP ?_]
  have lo:out.length<sizeLine:=by
   rw[e2];have hs:x.length=x.cps.size:=rfl;simp only[aq,dJ,ud];omega
  have nx:Nx (upd H2 D (.lst (out++[V.bl (oW c)]))):=hN (out++[V.bl (oW c)]) _ #[by rw[e1,Y5],by
   rw[e2,ua];simp[hc]]
  have Va:H2 D\.lst out:=by rw[e1,ay]
  apply#[_,U,_,_,U,U,_,U,?_];rw[ZC];apply bH (λc2=>?_) (λc2=>?_)
  ·apply#[_,_,U,U,out,Va,lo,?_];rw[Zl];rwa [show oW c=decide (c<=122) by unfold oW;rw[c2];rfl] at nx
  apply#[out,Va,lo,?_];rwa [show oW c=false by unfold oW;rw[show decide (97<=c)=false by simpa using c2];rfl] at nx
 have c1:¬1<=x.length:=by
  have:¬((1:Int)<=(x.length:Int)):=⇑c
  omega
 exact#[_,U,bN (fin (by rw[fO c1];rfl) H (aa.refl H))]
end
def kT(t:Str × Str):aD:=[.inr t.1,.inr t.2]
def wx(t:Str × Str):Prop:=iC t.1=true/\iC t.2=true/\t.1≠t.2
theorem JF{x:Str}(h:iC x=true):x.length<=8:=by
 unfold iC at h;simp only[yQ,uT] at h;exact h.1.2
theorem HV{H:Hp}{p:Addr}{t:Str × Str}(h:H p\.tup ((kT t).map kV)):H p\.tup [.str t.1,.str t.2]:=h
variable{ks:List aD}
variable{D:Addr}{o:HO}
section v
theorem zv:bQ fM fM (a_ rF):=bZ
def qN:Sp:=λvs H Q _=>∃(p:Addr) (a b:Str),vs=[.ref p]/\H p\.tup [.str a,.str b]/\a.length<=100000/\b.length<=100000/\∀H',aa H H'->Q (.bl (iC a&&iC b&&!decide (a=b))) H'
theorem YV(F:bu K "is_pair_of_names" "is_pair_of_names" rF f fd)(B:Bi mg)(cN:!bz 1 "is_name" fM IG):!ak bc 2 f fd fM qN:=by
 exists F.bW zv;let#[p,a,b,rfl,hp,la,lb,k]:=h
 apply#[_,au (b_ (iK (eK (d0 (bT gL (by rfl) B.gA gE %[0,gM (v:=.ty "tuple") (by rfl) B.tuple oA U|0])))
   (jY (eO om (bT gx (by rfl) B.len fN %[0|0]) av))).pt (aJ (bp jv)) cm)
  (aJ (bp (oq (bj cN hr %[bg cj (pv 0) av|0]) (oq (bj cN hr %[bg cj (pv 0) av|0])
   (ph (wN om (bg cj (pv 0) av) (bg cj (pv 0) av))))))),?_]
 apply#[_,U,_,_,_,_,U,.tup hp,U,_,U,aF ?_];apply#[_,U,p,_,U,.inr (.of hp),U,_,U,?_];apply A9 (show V.int ((2:Nat):Int)=V.int 2 from U) ?_;apply#[_,U,p,_,_,_,U,U,.of hp,U,a,U,la,λH1 s1=>#[_,U,?_]];let x5:=s1 _ _ hp;apply bH (λc=>?_) (λc=>?_)
 ·apply#[_,U,p,_,_,_,U,U,.of x5,U,b,U,lb,λH2 s2=>#[_,U,?_]];let kG:=s2 _ _ x5;let kk:=k H2 (s1.trans s2);apply bH (λc2=>?_) (λc2=>?_)
  ·apply#[_,U,p,_,_,_,U,U,.of kG,U,_,U,p,_,_,_,U,U,.of kG,U,U,?_];rw[c,c2] at kk
   have e:decide (V.str a=V.str b)=decide (a=b):=by
    by_cases z:a=b
    ·simp[z]
    simp[z]
   show Q (.bl (!decide (V.str a=V.str b))) H2;rw[e];exact kk
  rw[c,show iC b=false by simpa using c2] at kk;exact kk
 let kk:=k H1 s1;rw[show iC a=false by simpa using c] at kk;exact kk
theorem Jv:bQ ["ties","found","pair","tie"] ["ties"] (a_ Nv):=bZ
def Nc(K:ai):Sp:=λvs H Q _=>∃(l:Addr) (ys:af) (ts:Xb),vs=[.ref l]/\H l\.lst ys/\bS K H ys (ts.map kT)/\(∀t∈ts,wx t)/\(ts.map λt=>kT (aN t.1 t.2)).Nodup/\ts.length<64 /\
 ∀l' zs H',aa H H'->H l'=none->H' l'\.lst zs->bS K H' zs (bh (ts.map λt=>kT (aN t.1 t.2)))->Q (.ref l') H'
theorem uc{α β γ:Type}{F:α->γ->Prop}{g:β->γ}{ys:List α}{ts:List β}(t:Paired F ys (ts.map g)){i:Nat}{y:α}(h:ys[i]? = some y):∃x,ts[i]? = some x/\F y (g x):=by
 have hi:i<ys.length:=(cu.mp h).1;let hl:=bI t;rw[aq] at hl;have:=dO t i hi (by rw[aq];omega);rw[w6] at this;apply#[ts[i],aX Y0,?_];rw[(cu.mp h).2] at this;exact this
theorem u7{κ:Type}[DecidableEq κ]{kvs:List (κ × V)}{k:κ}(h:k∉kvs.map (·.1)):aZ kvs k=none:=by
 cases e:aZ kvs k with
 |none=>rfl
 |some v=>exact absurd (Zi e) h
theorem u_{α β:Type}(g:α->β){ts:List α}{i:Nat}{x:α}(h:ts[i]? = some x):(ts.take (i+1)).map g=(ts.take i).map g++[g x]:=by
 rw[ua,h,eJ];rfl
theorem Gw{α β:Type}{g:α->β}{ts:List α}{i:Nat}{x:α}(h:(ts.map g).Nodup)(hx:ts[i]? = some x):g x∉(ts.take i).map g:=by
 intro m;have hi:i<ts.length:=(cu.mp hx).1;let#[y,hy,e]:=bx.mp m;let#[j,hj,e2]:=gB hy;rw[dJ] at hj;rw[List.getElem_take] at e2;rw[mC,ub,List.pairwise_iff_getElem] at h;apply h j i Y0 hi Y0 ?_;rw[e2,e,(cu.mp hx).2]
theorem g6_(F:bu K "sorted_ties" "sorted_ties" Nv f fd)(B:Bi mg)(cP:!bz 2 "is_pair_of_names" fM qN)(cL:!bz 1 "lesser_first" mB Ju):!ak bc 3 f fd ["ties"] (Nc K):=by
 exists F.bW Jv;let#[l,ys,ts,rfl,hl,tu,good,nd,cQ,k]:=h;let hu:=fP hr;let sz:=cJ
 apply#[_,au (b_ (eK (d0 (bT gL (by rfl) B.gA gE %[0,gM (v:=.ty "list") (by rfl) B.list qe U|0]))) gC cm)
  (au (bw 1 Jv.nd S0)
  (au (d8 dS U (d4 (pv 0)) (bX 2 Jv.nd)
   (au (b_ (eK (d0 (bj cP hr %[2|0]))) gC cm)
   (au (bw 3 Jv.nd (bj cL hr %[bg cj (pv 2) av,bg cj (pv 2) av|0]))
   (au (b_ (qj (Bo hu (pv 3) (pv 1))) gC cm)
   (aJ (u4 hu (pv 1) (pv 3) jv U))))))
  (aJ (bp (bT (eG_ U) (by rfl) B.sorted Jz %[1|0]))))),?_]
 apply#[_,U,_,_,_,_,U,.lst hl,U,_,U,aF ?_];intro d hd;have s0:aa H (upd H d (.dT [])):=aa.new hd;apply#[_,U,l,U,#[_,.of (s0 _ _ hl)],ie (K:=K) (a:=l) (xs:=ys) (λi σ H2=>∃(v3 v4:aI),σ=[some (.ref l),some (.ref d),v3,v4]/\aa H H2/\H2 d\.dT ((ts.take i).map λt=>(kT (aN t.1 t.2),V.bl true))) #[none,none,U,s0,ay] (λi σ H2 _ ⟨_,_,_,s2,_⟩=>.of (s2 _ _ hl)) ?_ ?_]
 ·rintro i y σ H2 hy ⟨v3,v4,rfl,s2,hd2⟩;let#[t,ht,a,rfl,ha]:=uc tu hy;let#[g1,g2,g3]:=good t (cB ht);let tw:=s2 _ _ (HV ha);apply#[_,U,a,t.1,t.2,U,tw,by have:=JF g1;omega,by have:=JF g2;omega,λH3 s3=>#[_,U,?_]];let jR:=s3 _ _ tw;let l6:=s3 _ _ hd2;rw[g1,g2,fO g3];apply aF ?_;apply#[_,U,a,_,_,_,U,U,.of jR,U,_,U,a,_,_,_,U,U,.of jR,U,t.1,t.2,U,λb hb=>?_];have s4:aa H3 (upd H3 b (.tup [.str (aN t.1 t.2).1,.str (aN t.1 t.2).2])):=aa.new hb;let RZ:=s4 _ _ l6;have R5:upd H3 b (.tup [.str (aN t.1 t.2).1,.str (aN t.1 t.2).2]) b\.tup ((kT (aN t.1 t.2)).map kV):=ay
  have uE:aZ ((ts.take i).map λt=>(kT (aN t.1 t.2),V.bl true)) (kT (aN t.1 t.2))=none:=u7 (by
   rw[cy];exact Gw (g:=λt=>kT (aN t.1 t.2)) nd ht)
  apply#[_,U,_,U,d,_,U,.t (k:=kT (aN t.1 t.2)) RZ R5,_,U,?_];rw[uE];apply aF ?_;apply#[_,U,_,U,d,_,U,.t (k:=kT (aN t.1 t.2)) RZ R5 (by rw[aq,dJ];omega),?_];apply#[_,_,U,λc o e=>?_,?_]
  ·rw[aA (bG e hd)];exact s4 _ _ (s3 _ _ (s2 _ _ e))
  rw[ay,yK _ uE,u_ _ ht]
 rintro σ H2 ⟨v3,v4,rfl,s2,hd2⟩;let le:=bI tu;rw[aq] at le;rw[le,d9] at hd2;apply#[_,U,d,_,[true,true],U,hd2,#[by decide,λk hk=>?_],by rw[aq];exact cQ,λl' zs hn tz=>?_]
 ·rw[cy] at hk;let#[t,_,rfl]:=bx.mp hk;rfl
 rw[cy] at tz;exact k l' zs _ (s2.trans (aa.new hn)) (s2.free hn) ay (tz.same (aa.new hn))
theorem _Z{K:ai}{H:Hp}{ys:af}{a:Addr}{k:aD}(t:bS K H ys ks)(h:H a\.tup (k.map kV)):bS K H (ys++[.ref a]) (ks++[k]):=Paired.snoc t #[a,U,h]
theorem fF{H H1:Hp}(h:aa H H1)(hD:H D=none):aa H (upd H1 D o):=λb u e=>by rw[aA (bG e hD)];exact h b u e
theorem Jl{K:ai}{H:Hp}{ys:af}{xs:af}(t:bS K H ys ks)(hD:H D\.lst xs):bS K (upd H D o) ys ks:=Paired.aQ t λy k ⟨a,z,q⟩=>#[a,z,by rw[aA (bO q hD nofun)];exact q]
end
def kH(h:Str × Int):aD:=[.inr h.1,.inl h.2]
def oi(h:Str × Int):Prop:=iC h.1=true/\1<=h.2/\h.2<=1000
def Ao:aD->Key × V
 |[k,v]=>(k,kV v)
 |_=>(.inl 0,.non)
def du(hs:Xa):List (Key × V):=(bh (hs.map kH)).map Ao
theorem uJ{H:Hp}{p:Addr}{t:Str × Int}(h:H p\.tup ((kH t).map kV)):H p\.tup [.str t.1,.int t.2]:=h
theorem Uo:∀(more kvs:List (Key × V)),(kvs.map (·.1)++more.map (·.1)).Nodup->wV kvs more=kvs++more
 |[],kvs,_=>by
  show kvs=kvs++[];rw[List.append_nil]
 |p::more,kvs,h=>by
  show wV (putK kvs p.1 p.2) more=kvs++p::more
  have hn:aZ kvs p.1=none:=u7 λm=>by
   rw[fE,List.nodup_append] at h;exact h.2.2 p.1 m p.1 fY U
  rw[yK _ hn,Uo more (kvs++[(p.1,p.2)])]
  ·simp
  simpa using h
theorem yN{more:List (Key × V)}(h:(more.map (·.1)).Nodup):wV [] more=more:=by
 rw[Uo more [] ⇑h];rfl
theorem Uy(hs:Xa):((du hs).map (·.1)).Perm (hs.map λh=>Sum.inr h.1):=by
 unfold du;rw[cy];let p:=(ue (hs.map kH)).map λk=>(Ao k).1;rw[cy] at p;exact p
theorem UX{hs:Xa}(h:(hs.map (·.1)).Nodup):((du hs).map (·.1)).Nodup:=by
 apply (Uy hs).nodup_iff.mpr ?_;have:(hs.map λh=>(Sum.inr h.1:Key))=(hs.map (·.1)).map Sum.inr:=by rw[cy];rfl
 rw[this,mC,ub];exact h.imp λn e=>n (iB e)
theorem kR{A:Ag}(hr:aY k A)(n:Nat)(h:n+1<=64:=by decide):A.units+n+1<cLine:=by
 have:=hr.units;omega
variable{tk:Tok}
variable{ns:ag}
section v
theorem zC:bQ fM fM (a_ rQ):=bZ
def qQ:Sp:=λvs H Q _=>∃(p:Addr) (a:Str) (n:Int),vs=[.ref p]/\H p\.tup [.str a,.int n]/\a.length<=100000/\∀H',aa H H'->Q (.bl (iC a&&(decide (1<=n)&&decide (n<=1000)))) H'
theorem Zw(F:bu K "is_hand_with_strength" "is_hand_with_strength" rQ f fd)(B:Bi mg)(cN:!bz 1 "is_name" fM IG)(cW:!bz 2 "is_whole_within" yB I_)(mS:mg "MOST_STRENGTH"\.int 1000 tk) :
  ak P w K mg base bc 3 f fd fM qQ:=by
 exists F.bW zC;let#[p,a,n,rfl,hp,la,k]:=h
 apply#[_,au (b_ (iK (eK (d0 (bT gL (by rfl) B.gA gE %[0,gM (v:=.ty "tuple") (by rfl) B.tuple oA U|0])))
   (jY (eO om (bT gx (by rfl) B.len fN %[0|0]) av))).pt (aJ (bp jv)) cm)
  (aJ (bp (oq (bj cN hr %[bg cj (pv 0) av|0]) (ph (bj cW hr %[bg cj (pv 0) av,av,CB (v:=.int 1000) (by rfl) mS #[tk,U]|0]))))),?_]
 apply#[_,U,_,_,_,_,U,.tup hp,U,_,U,aF ?_];apply#[_,U,p,_,U,.inr (.of hp),U,_,U,?_];apply A9 (show V.int ((2:Nat):Int)=V.int 2 from U) ?_;apply#[_,U,p,_,_,_,U,U,.of hp,U,a,U,la,λH1 s1=>#[_,U,?_]];let x5:=s1 _ _ hp;let kk:=k H1 s1;apply bH (λc=>?_) (λc=>?_)
 ·apply#[_,U,p,_,_,_,U,U,.of x5,U,n,1,1000,U,?_];rw[c] at kk;exact kk
 rw[show iC a=false by simpa using c] at kk;exact kk
theorem qW:bQ ["hands","found","hand"] ["hands"] (a_ zF):=bZ
def xw(K:ai):Sp:=λvs H Q _=>∃(l:Addr) (ys:af) (hs:Xa),vs=[.ref l]/\H l\.lst ys/\bS K H ys (hs.map kH)/\(∀h∈hs,oi h)/\(hs.map (·.1)).Nodup/\1<=hs.length/\hs.length<=8 /\
 ∀d H',aa H H'->H d=none->H' d\.dK (du hs)->Q (.ref d) H'
theorem X3(F:bu K "checked_strengths" "checked_strengths" zF f fd)(B:Bi mg)(cH:!bz 3 "is_hand_with_strength" fM qQ)(mH:mg "MOST_HANDS"\.int 8 tk):!ak bc 4 f fd ["hands"] (xw K):=by
 exists F.bW qW;let#[l,ys,hs,rfl,hl,tu,good,nd,h1,h8,k]:=h;let hu:=fP hr;let sz:=cJ;let le:=bI tu;rw[aq] at le
 apply#[_,au (b_ (iK (eK (d0 (bT gL (by rfl) B.gA gE %[0,gM (v:=.ty "list") (by rfl) B.list qe U|0])))
   (jY (eK (NC tL tL av (bT gx (by rfl) B.len fN %[0|0]) (CB (v:=.int 8) (by rfl) mH #[tk,U]))))).pt gC cm)
  (au (bw 1 qW.nd Gu)
  (au (d8 dS U (d4 (pv 0)) (bX 2 qW.nd)
   (au (b_ (eK (d0 (bj cH hr %[2|0]))) gC cm)
   (au (b_ (qj (Bo hu (bg cj (pv 2) av) (pv 1))) gC cm)
   (aJ (u4 hu (pv 1) (bg cj (pv 2) av) (bg cj (pv 2) av) U)))))
  (aJ (bp (gS (BE U) (by rfl) B.dict qd %[bT (g5_ U) (by rfl) B.sorted Jz %[Jm (pv 1)|0]|0]))))),?_]
 apply#[_,U,_,_,_,_,U,.lst hl,U,_,U,aF ?_];apply#[_,U,l,_,U,.inl (.of hl),_,_,U,U,_,U,?_];rw[c_ (show (1:Int)<=(ys.length:Int) by omega)];apply bN #[_,_,U,U,_,U,?_];rw[c_ (show (ys.length:Int)<=8 by omega)];apply aF ?_;intro d hd;have s0:aa H (upd H d (.dK [])):=aa.new hd;apply#[_,U,l,U,#[_,.of (s0 _ _ hl)],ie (K:=K) (a:=l) (xs:=ys) (λi σ H2=>∃(v2:aI),σ=[some (.ref l),some (.ref d),v2]/\aa H H2/\H2 d\.dK ((hs.take i).map λh=>(Sum.inr h.1,V.int h.2))) #[none,U,s0,ay] (λi σ H2 _ ⟨_,_,s2,_⟩=>.of (s2 _ _ hl)) ?_ ?_]
 ·rintro i y σ H2 hy ⟨v2,rfl,s2,hd2⟩;let#[t,ht,a,rfl,ha]:=uc tu hy;let#[g1,g2,g3]:=good t (cB ht);let tw:=s2 _ _ (uJ ha);apply#[_,U,a,t.1,t.2,U,tw,by have:=JF g1;omega,λH3 s3=>#[_,U,?_]];let jR:=s3 _ _ tw;let l6:=s3 _ _ hd2;rw[g1,c_ g2,c_ g3];apply aF ?_
  have uE:aZ ((hs.take i).map λh=>((Sum.inr h.1:Key),V.int h.2)) (Sum.inr t.1)=none:=u7 (by
   rw[cy];let q:=Gw (g:=λh:Str × Int=>h.1) nd ht;intro m;let#[h,hh,e]:=bx.mp m;exact q (bx.mpr #[h,hh,iB e]))
  apply#[_,U,a,_,_,_,U,U,.of jR,U,_,U,d,_,U,.k (k:=Sum.inr t.1) l6,_,U,?_];rw[uE];apply aF ?_;apply#[_,U,a,_,_,_,U,U,.of jR,U,_,U,_,U,a,_,_,_,U,U,.of jR,U,d,_,U,.k (k:=Sum.inr t.1) l6 (by rw[aq,dJ];omega),?_];apply#[_,U,λc o e=>?_,?_]
  ·rw[aA (bG e hd)];exact s3 _ _ (s2 _ _ e)
  rw[ay,yK _ uE,u_ _ ht]
 rintro σ H2 ⟨v2,rfl,s2,hd2⟩;rw[le,d9] at hd2;apply#[_,U,d,_,U,hd2,λv hv=>?_];have s3:aa H2 (upd H2 v (tV v d)):=aa.new hv;apply#[v,d,_,hs.map λh=>(Sum.inr h.1,Sum.inl h.2),[true,false],U,ay,s3 _ _ hd2,by rw[cy];rfl,#[by decide,λq hq=>?_],by rw[aq];omega,λl' H4 zs s4 hn tz=>?_]
 ·rw[cy] at hq;let#[h,_,rfl]:=bx.mp hq;rfl
 have ez:((hs.map λh=>((Sum.inr h.1:Key),(Sum.inl h.2:Key))).map λk=>[k.1,k.2])=hs.map kH:=by rw[cy];rfl
 rw[ez] at tz
 have pz:kL K (upd H4 l' (.lst zs)) zs (du hs):=by
  have shape:∀k∈bh (hs.map kH),∃a b,k=[a,b]:=λk hk=>by
   let#[h,_,e]:=bx.mp ((ue _).mem_iff.mp hk);exact#[_,_,e.symm]
  have gen:∀(ks:List aD) (zs:af),(∀k∈ks,∃a b,k=[a,b])->bS K (upd H4 l' (.lst zs)) zs ks->kL K (upd H4 l' (.lst zs)) zs (ks.map Ao):=λks=>by
   intro zs;generalize upd H4 l' (.lst zs)=HH;intro sh t
   induction t with
   |nil=>exact .nil
   |cons h t ih=>
    let#[a,b,rfl]:=sh _ fY;exact .cons h (ih λk hk=>sh k (fo _ hk))
  exact gen _ _ shape (tz.same (aa.new hn))
 apply#[l',zs,_,U,ay,pz,?_,λd' g9=>?_]
 ·have:=(Uy hs).length_eq;simp only[aq] at this;omega
 rw[yN (UX nd)];have DI:aa H (upd H4 l' (.lst zs)):=(s2.trans (s3.trans s4)).trans (aa.new hn);exact k d' _ (DI.trans (aa.new g9)) (DI.free g9) ay
theorem IE:bQ ["ties","strengths","found","one","other"] ["ties","strengths"] (a_ rq):=bZ
inductive k6 (K:ai) (vs:af) (H:Hp) (Q:VK) (E:XK):Prop
 |mk:∀(l d:Addr) (ys:af) (ts:Xb) (kvs:List (Key × V)),vs=[.ref l,.ref d]->H l\.lst ys->bS K H ys (ts.map kT)->(∀t∈ts,wx t)->(ts.map λt=>kT (aN t.1 t.2)).Nodup->ts.length<64->H d\.dK kvs->(∀t∈ts,(aZ kvs (Sum.inr t.1)).isSome=true/\(aZ kvs (Sum.inr t.2)).isSome=true)->(∀l' zs H',aa H H'->H l'=none->H' l'\.lst zs->bS K H' zs (bh (ts.map λt=>kT (aN t.1 t.2)))->Q (.ref l') H')->k6 K vs H Q E
theorem IY(a b:Str):aN a b=(a,b)∨aN a b=(b,a):=by
 unfold aN;split
 ·exact .inl rfl
 exact .inr rfl
theorem ZF(F:bu K "checked_ties" "checked_ties" rq f fd)(B:Bi mg)(cS:!bz 3 "sorted_ties" ["ties"] (Nc K)):!ak bc 4 f fd ["ties","strengths"] (k6 K):=by
 exists F.bW IE;let#[l,d,ys,ts,kvs,rfl,hl,tu,good,nd,cQ,hd,there,k]:=h;let hu:=fP hr
 apply#[_,au (bw 2 IE.nd (bj cS hr %[0|0]))
  (au (b_ (qj (Iz (pv 2))) gC cm)
  (au (d8 dS U (d4 (pv 2)) (ju U (df (bX 3 IE.nd) (df (bX 4 IE.nd) hW)))
   (aJ (b_ (iK (qj (GE hu (pv 3) (pv 1))) (jY (qj (GE hu (pv 4) (pv 1))))).pt gC cm)))
  (aJ (bp (pv 2))))),?_]
 apply#[_,U,l,ys,ts,U,hl,tu,good,nd,cQ,λl' zs H1 s1 hf fZ tz=>?_];apply#[_,U,_,U,aF ?_];apply#[_,U,l',U,#[_,.of fZ],ie (K:=K) (a:=l') (xs:=zs) (λi σ H2=>∃(v3 v4:aI),σ=[some (.ref l),some (.ref d),some (.ref l'),v3,v4]/\H2=H1) #[none,none,U,U] (λi σ H2 _ ⟨_,_,_,e⟩=>by subst e;exact .of fZ) ?_ ?_]
 ·rintro i y σ H2 hy ⟨v3,v4,rfl,rfl⟩;let ez:=bI tz;have hi:i<zs.length:=(cu.mp hy).1;let#[a,e,ha]:=dO tz i hi Y0;rw[(cu.mp hy).2] at e;subst e;let#[t,ht,e]:=bx.mp ((ue _).mem_iff.mp (j_ (show i<(bh (ts.map λt=>kT (aN t.1 t.2))).length by omega)));rw[<- e] at ha;let#[t1,t2]:=there t ht
  have both:(aZ kvs (Sum.inr (aN t.1 t.2).1)).isSome=true/\(aZ kvs (Sum.inr (aN t.1 t.2).2)).isSome=true:=by
   rcases IY t.1 t.2 with q|q
   ·rw[q];exact#[t1,t2]
   rw[q];exact#[t2,t1]
  let pV:=s1 _ _ hd;apply#[a,_,U,.of (HV ha),U,_,_,U,_,_,U,U,?_];apply#[_,U,_,U,d,_,U,.k (k:=Sum.inr (aN t.1 t.2).1) pV,_,U,?_];rw[both.1];apply aF ?_;apply#[_,U,_,U,d,_,U,.k (k:=Sum.inr (aN t.1 t.2).2) pV,_,U,?_];rw[both.2];apply aF ?_;exact#[_,_,U,U]
 rintro σ H2 ⟨v3,v4,rfl,rfl⟩;exact#[_,U,k l' zs _ s1 hf fZ tz]
def near(ns:ag)(ts:Xb)(n:Str):ag:=ns.filter λo=>decide (aN n o∈ts)
theorem lF:bQ ["names","ties","found","hand"] ["names","ties"] (a_ rG):=bZ
def tZ(ns:ag)(as:aw):List (Key × V):=(ns.zip as).map λp=>(Sum.inr p.1,V.ref p.2)
inductive lr (K:ai) (vs:af) (H:Hp) (Q:VK) (E:XK):Prop
 |mk:∀(l1 l2:Addr) (ns:ag) (zs:af) (ts:Xb),vs=[.ref l1,.ref l2]->H l1\.lst (ns.map V.str)->H l2\.lst zs->bS K H zs (ts.map kT)->ns.Nodup->ns.length<=1000->l1≠l2->(∀d as H',aa H H'->H d=none->as.length=ns.length->H' d\.dK (tZ ns as)->(∀(i:Nat) n a,ns[i]? = some n->as[i]? = some a->H a=none/\H' a\.lst ((near ns ts n).map V.str))->Q (.ref d) H')->lr K vs H Q E
theorem MK{K:ai}{H:Hp}:∀{ts:Xb} {zs:af},bS K H zs (ts.map kT)->Paired (r2 K rS rS H) zs ts
 |[],_,.nil=>.nil
 |t::ts,_,.cons ⟨a,e,h⟩ r=>.cons #[a,_,_,e,.of (HV h),U,U] (MK r)
theorem qq{i:Nat}{x:V}(h:(ns.map V.str)[i]? = some x):∃n,ns[i]? = some n/\x=.str n:=by
 rw[de] at h;cases e:ns[i]? with
 |none=>rw[e] at h;cases h
 |some n=>rw[e] at h;exact#[n,U,(dN h).symm]
theorem JO{α:Type}(p:α->Bool){l:List α}{i:Nat}{x:α}(h:l[i]? = some x):(l.take (i+1)).filter p=(l.take i).filter p++(if p x then [x] else []):=PySem.take_succ_filter p l i x h
theorem ZO(F:bu K "neighbours_of_all" "neighbours_of_all" rG f fd)(cL:!bz 1 "lesser_first" mB Ju):!ak bc 2 f fd ["names","ties"] (lr K):=by
 exists F.bW lF;let#[l1,l2,ns,zs,ts,rfl,fZ,jq,tz,nd,h8,l5,k]:=h;let hu:=fP hr;let hu3:=hr.units;let sz:=cJ
 apply#[_,au (bw 2 lF.nd Gu)
  (au (d8 dS U (d4 (pv 0)) (bX 3 lF.nd)
   (aJ (u4 hu (pv 2) (pv 3) (jb ["other","hand","ties"] 1 [3,1] (d4 (pv 0)) (λfp s H=>fu (i:=0) (show (["other","hand","ties"]:ag).Nodup by decide +kernel) U (Or.inl U))
    (λfp s H=>Jh (eO (Qu (K:=K) (λK=>zP K (r2 K rS rS) false) (Iu (Bk gJ gJ) (kR hr _))) (bj cL hr %[1,0|0]) (pv 2) (by with_unfolding_all rfl))) (λfp s H=>pv 0)) U)))
  (aJ (bp (pv 2)))),?_]
 intro d hd;have s0:aa H (upd H d (.dK [])):=aa.new hd
 apply#[_,U,l1,U,#[_,.of (s0 _ _ fZ)],ie (K:=K) (a:=l1) (xs:=ns.map V.str) (λi σ H2=>∃(v3:aI) (as:aw),σ=[some (.ref l1),some (.ref l2),some (.ref d),v3]/\aa H H2/\as.length=i/\H2 d\.dK (tZ (ns.take i) as) /\
  ∀(j:Nat) n a,ns[j]? = some n->as[j]? = some a->H a=none/\a≠d/\H2 a\.lst ((near ns ts n).map V.str)) #[none,[],U,s0,U,ay,λj n a _ e=>by simp at e] (λi σ H2 _ ⟨_,_,_,s2,_⟩=>.of (s2 _ _ fZ)) ?_ ?_]
 ·rintro i y σ H2 hy ⟨v3,as,rfl,s2,la,hd2,lists⟩;let#[n,hn,rfl]:=qq hy;have hi:i<ns.length:=(cu.mp hn).1
  have lk:(tZ (ns.take i) as).length=i:=by
   unfold tZ;rw[aq,List.length_zip,dJ];omega
  apply#[_,U,l1,U,#[_,.of (s2 _ _ fZ)],λD hD=>?_];apply j9 (own:=1) (fv:=[some (.str n),some (.ref l2)]) (xs:=ns.map V.str) U fg (λj out H'=>aa H2 H'/\H' D\.lst out/\out=((ns.take j).filter λo=>decide (aN n o∈ts)).map V.str) #[aa.new hD,ay,U] (λj out H' _ ⟨sm,_,_⟩=>.of (sm _ _ (s2 _ _ fZ))) (λout H' ⟨sm,dq,eo⟩=>?_) (λj x out H' hx ⟨sm,dq,eo⟩=>?_)
  ·rw[aq,d9] at eo
   have uE:aZ (tZ (ns.take i) as) (Sum.inr n)=none:=u7 λm=>by
    unfold tZ at m;rw[cy] at m;let#[p,hp,e]:=bx.mp m;have e:p.1=n:=iB e;let q:=Gw (g:=id) (by rw[List.map_id];exact nd) hn;rw[List.map_id] at q;exact q (e▸(List.of_mem_zip hp).1)
   have QC:D≠d:=λz=>by subst z;rw[hD] at hd2;cases hd2
   apply#[_,U,_,U,d,_,U,.k (k:=Sum.inr n) (sm _ _ hd2) Y0,?_];apply#[_,as++[D],U,λc o e=>?_,by rw[dM,la];rfl,?_,λj n' a EO ha=>?_]
   ·rw[aA (bG e hd)];exact sm _ _ (s2 _ _ e)
   ·rw[ay,yK _ uE];congr 2;unfold tZ;rw[ua,hn,List.zip_append (by rw[dJ];omega),eJ];rfl
   by_cases hj:j<as.length
   ·rw[w4 hj] at ha;let#[q1,q2,q3]:=lists j n' a EO ha;apply#[q1,q2,?_];rw[aA q2];exact sm _ _ q3
   have hj2:j=i:=by
    have:=(cu.mp ha).1;rw[dM] at this;simp only[oC] at this;omega
   subst hj2;rw[yP Y0,la,Nat.sub_self] at ha;have ha:D=a:=⇑ha
   subst ha;rw[hn] at EO;cases EO;apply#[s2.free hD,QC,?_];rw[aA QC,dq,eo];rfl
  let#[o,ho,rfl]:=qq hx;apply#[_,U,U,λNx hN=>?_];apply#[_,U,_,U,n,o,U,λt ht=>?_];have s3:aa H' (upd H' t (.tup [.str (aN n o).1,.str (aN n o).2])):=aa.new ht;let VS:=((tz.same s2).same sm).same s3
  have lo:out.length<sizeLine:=by
   rw[eo,aq];have:=List.length_filter_le (λo=>decide (aN n o∈ts)) (ns.take j);rw[dJ] at this;omega
  apply#[_,U,aN n o,ts,#[t,_,_,U,.of ay,U,U],#[l2,zs,U,.of (s3 _ _ (sm _ _ (s2 _ _ jq))),MK VS],_,U,?_];apply bH (λc=>?_) (λc=>?_)
  ·apply#[_,U,out,s3 _ _ dq,lo,hN _ _ #[fF (sm.trans s3) hD,ay,?_]];have c:decide (aN n o∈ts)=true:=⇑c
   rw[JO _ ho,aK c,eJ,eo];rfl
  apply hN _ _ #[sm.trans s3,s3 _ _ dq,?_];have c:¬decide (aN n o∈ts)=true:=⇑c
  rw[JO _ ho,aC c,List.append_nil,eo]
 rintro σ H2 ⟨v3,as,rfl,s2,la,hd2,lists⟩;rw[aq] at la hd2;rw[d9] at hd2;exact#[_,U,k d as _ s2 hd la hd2 λj n a h1 h2=>#[(lists j n a h1 h2).1,(lists j n a h1 h2).2.2]]
end
abbrev rP:Stmt:=pA oQ 0
abbrev vG:Stmt:=pA oQ 1
abbrev lR:Stmt:=pA oQ 2
abbrev N8:Stmt:=pA oQ 3
abbrev lK:Stmt:=pA oQ 4
abbrev rB:Stmt:=pA oQ 5
def Ft:aD->Str
 |.inr a::_=>a
 |_=>⟨#[]⟩
def J_:aD->Str × Str
 |[.inr a,.inr b]=>(a,b)
 |_=>(⟨#[]⟩,⟨#[]⟩)
def aU(hs:Xa):ag:=(bh (hs.map kH)).map Ft
def bV(ts:Xb):Xb:=(bh (ts.map λt=>kT (aN t.1 t.2))).map J_
theorem OJ(ts:Xb):(bV ts).map kT=bh (ts.map λt=>kT (aN t.1 t.2)):=by
 unfold bV;rw[cy]
 have all:∀k∈bh (ts.map λt=>kT (aN t.1 t.2)),∃t:Str × Str,k=kT t:=λk hk=>by
  let#[t,_,e]:=bx.mp ((ue _).mem_iff.mp hk);exact#[_,e.symm]
 generalize bh (ts.map λt=>kT (aN t.1 t.2))=l at all
 induction l with
 |nil=>rfl
 |cons k l ih=>
  let#[t,rfl]:=all k fY;rw[fE,ih λk hk=>all k (fo _ hk)];rfl
theorem Uw(hs:Xa):∀k∈bh (hs.map kH),∃h:Str × Int,h∈hs/\k=kH h:=λk hk=>by
 let#[t,ht,e]:=bx.mp ((ue _).mem_iff.mp hk);exact#[t,ht,e.symm]
theorem SM(hs:Xa):((du hs).map λkv=>kV kv.1)=(aU hs).map V.str:=by
 unfold du aU;rw[cy,cy];apply u6 λk hk=>?_;let#[h,_,rfl]:=Uw hs k hk;rfl
theorem SZ(hs:Xa):(du hs).map (·.1)=(aU hs).map Sum.inr:=by
 unfold du aU;rw[cy,cy];apply u6 λk hk=>?_;let#[h,_,rfl]:=Uw hs k hk;rfl
theorem gv(hs:Xa):(aU hs).Perm (hs.map (·.1)):=by
 unfold aU;let p:=(ue (hs.map kH)).map Ft;rw[cy] at p;exact p
theorem OG{κ:Type}[DecidableEq κ]{kvs:List (κ × V)}{k:κ}(h:k∈kvs.map (·.1)):(aZ kvs k).isSome=true:=by
 rw[<- CK];let#[p,hp,e]:=bx.mp h;exact List.any_eq_true.mpr #[p,hp,c_ e]
theorem Jf{hs:Xa}{n:Str}:(aZ (du hs) (Sum.inr n)).isSome=decide (n∈hs.map (·.1)):=by
 by_cases h:n∈hs.map (·.1)
 ·rw[c_ h];apply OG ?_;rw[SZ];exact bx.mpr #[n,(gv hs).mem_iff.mpr h,U]
 rw[fO h,u7]
 ·rfl
 rw[SZ];intro m;let#[x,hx,e]:=bx.mp m;cases e;exact h ((gv hs).mem_iff.mp hx)
theorem zZ:¬((uY:Str)="sorted_pairs"):=by decide +kernel
theorem Xs:¬((uY:Str)=Cv):=by decide +kernel
def fi(d1 l2 d3:Addr):List (Str × V):=aP Cv (.ref d3) (aP "sorted_pairs" (.ref l2) (aP uY (.ref d1) []))
theorem IB(d1 l2 d3:Addr):(fi d1 l2 d3).lookup (uY:Str)\.ref d1:=by
 unfold fi;rw[gT,aC Xs,gT,aC zZ,gT,aK U]
theorem Q3(d1 l2 d3:Addr):(fi d1 l2 d3).lookup (Cv:Str)\.ref d3:=by
 unfold fi;rw[gT,aK U]
variable{m:Str}
theorem pB(d1 l2 d3:Addr)(h1:¬m=uY)(h2:¬m="sorted_pairs")(h3:¬m=Cv):(fi d1 l2 d3).lookup m=none:=by
 unfold fi;rw[gT,aC h3,gT,aC h2,gT,aC h1]
 all_goals rfl
structure hU (K:ai) (C:Addr) (H:Hp) (p:Addr) (hs:Xa) (ts:Xb) (fp:aw):Prop where
 ex:∃(dx d1 l2 d3:Addr) (zs:af) (as:aw),fp=p::d1::l2::d3::as/\H p\.ins C dx (fi d1 l2 d3)/\H d1\.dK (du hs)/\H l2\.lst zs/\bS K H zs ((bV ts).map kT)/\H d3\.dK (tZ (aU hs) as)/\as.length=(aU hs).length /\
  ∀(i:Nat) n a,(aU hs)[i]? = some n->as[i]? = some a->H a\.lst ((near (aU hs) (bV ts) n).map V.str)
variable{H':Hp}
theorem hU.keep{K:ai}{C:Addr}{H:Hp}{p:Addr}{hs:Xa}{ts:Xb}{fp:aw}(W:hU K C H p hs ts fp)(k:∀b∈fp,∀o,H b\o->H' b\o)(kt:∀b xs,H b\.tup xs->H' b\.tup xs):hU K C H' p hs ts fp:=by
 let#[dx,d1,l2,d3,zs,as,rfl,h1,h2,h3,h4,h5,h6,h7]:=W.ex;apply#[dx,d1,l2,d3,zs,as,U,k _ Y1 _ h1,k _ Y1 _ h2,k _ Y1 _ h3,Paired.aQ h4 λy q ⟨a,e,z⟩=>#[a,e,kt _ _ z],k _ Y1 _ h5,h6,λi n a e1 e2=>k _ ?_ _ (h7 i n a e1 e2)];have:=cB e2;simp[this]
theorem hU.same{K:ai}{C:Addr}{H:Hp}{p:Addr}{hs:Xa}{ts:Xb}{fp:aw}(W:hU K C H p hs ts fp)(s:aa H H'):hU K C H' p hs ts fp:=W.keep (λb _ o e=>s b o e) λb xs e=>s b _ e
structure Good (hs:Xa) (ts:Xb):Prop where
 aE:∀h∈hs,oi h
 pS:(hs.map (·.1)).Nodup
 h1:1<=hs.length
 h8:hs.length<=8
 tok:∀t∈ts,wx t
 G0:(ts.map λt=>kT (aN t.1 t.2)).Nodup
 xu:ts.length<64
 yZ:∀t∈ts,t.1∈hs.map (·.1)/\t.2∈hs.map (·.1)
theorem Good.iT{hs:Xa}{ts:Xb}(G:Good hs ts):(aU hs).Nodup:=(gv hs).nodup_iff.mpr G.pS
theorem Good.iU{hs:Xa}{ts:Xb}(G:Good hs ts):(aU hs).length=hs.length:=by
 rw[(gv hs).length_eq,aq]
structure Txt (K:ai) (mg:Str->Option Aa) (C:Addr):Prop where
 cl:mP K C
 nS:mh K C uY
 nP:mh K C "sorted_pairs"
 nN:mh K C Cv
section v
theorem lG:bQ ["self","hands","ties","strengths","checked"] ["self","hands","ties"] (a_ rP):=bZ
inductive IF (K:ai) (C:Addr) (vs:af) (H:Hp) (Q:VK) (E:XK):Prop
 |mk:∀(p dx lh lt:Addr) (ys zs:af) (hs:Xa) (ts:Xb),vs=[.ref p,.ref lh,.ref lt]->H p\.ins C dx []->H lh\.lst ys->bS K H ys (hs.map kH)->H lt\.lst zs->bS K H zs (ts.map kT)->Good hs ts->(∀fp H',(∀b o,H b\o->b≠p->H' b\o)->hU K C H' p hs ts fp->(∀b∈fp,b=p∨H b=none)->Q .non H')->IF K C vs H Q E
theorem Y_{C:Addr}(F:bu K "__init__" "Web.__init__" rP f fd)(T:Txt K mg C)(B:Bi mg)(cS:!bz 4 "checked_strengths" ["hands"] (xw K))(cT:!bz 4 "checked_ties" ["ties","strengths"] (k6 K))(cN:!bz 2 "neighbours_of_all" ["names","ties"] (lr K)) :
  ak P w K mg base bc 5 f fd ["self","hands","ties"] (IF K C):=by
 exists F.bW lG;let#[p,dx,lh,lt,ys,zs,hs,ts,rfl,hp,eZ,th,dQ,tt,G,k]:=h
 apply#[_,au (bw 3 lG.nd (bj cS hr %[1|0]))
  (au (bw 4 lG.nd (bj cT hr %[2,3|0]))
  (au (wC (pv 0) (pv 3) U) (au (wC (pv 0) (pv 4) U)
  (aJ (wC (pv 0) (bj cN hr %[gS (Oa U) (by rfl) B.list qe %[3|0],4|0]) U))))),?_]
 apply#[_,U,lh,ys,hs,U,eZ,th,G.aE,G.pS,G.h1,G.h8,λd1 H1 s1 f1 pV=>?_];apply#[_,U,_,U,lt,d1,zs,ts,_,U,s1 _ _ dQ,tt.same s1,G.tok,G.G0,G.xu,pV,λt ht=>?_,λl2 JY H2 s2 f2 jq tz=>?_]
 ·rw[Jf,Jf];exact#[c_ (G.yZ t ht).1,c_ (G.yZ t ht).2]
 let AO:=s2 _ _ pV;let kG:=s2 _ _ (s1 _ _ hp);have p1:p≠d1:=bO kG AO nofun;have p2:p≠l2:=bO kG jq nofun;apply#[_,U,_,U,p,C,dx,[],U,kG,T.cl,T.nS,by show 0<1000;decide,?_];apply#[_,U,_,U,p,C,dx,_,U,ay,T.cl,T.nP,by show 1<1000;decide,?_]
 let H3:Hp:=upd (upd H2 p (.ins C dx (aP uY (.ref d1) []))) p (.ins C dx (aP "sorted_pairs" (.ref l2) (aP uY (.ref d1) [])))
 have h3:∀{b o},H2 b\o->b≠p->H3 b\o:=λe ne=>by
  show upd (upd H2 p _) p _ _=_;rw[aA ne,aA ne];exact e
 have Mt:H3 p\.ins C dx (aP "sorted_pairs" (.ref l2) (aP uY (.ref d1) [])):=ay
 have DY:∀{b},H3 b=none->H2 b=none:=λ{b} e=>by
  by_cases z:b=p
  ·subst z;rw[Mt] at e;cases e
  have e:upd (upd H2 p _) p _ b=none:=e;rw[aA z,aA z] at e;exact e
 have P4:bS K H3 JY ((bV ts).map kT):=by
  rw[OJ];exact Paired.aQ tz λy q ⟨a,e,z⟩=>#[a,e,h3 z (bO z kG nofun)]
 apply#[_,U,d1,_,U,.inl (h3 AO p1.symm),λl1 fZ=>?_];rw[SM];have s4:aa H3 (upd H3 l1 (.lst ((aU hs).map V.str))):=aa.new fZ;have KZ:l1≠l2:=(bG (H:=H3) (h3 jq p2.symm) fZ).symm;apply#[_,U,l1,l2,aU hs,JY,bV ts,U,ay,s4 _ _ (h3 jq p2.symm),P4.same s4,G.iT,by rw[G.iU];have:=G.h8;omega,KZ,λd3 as H5 s5 f5 la l6 lists=>?_];let LD:=s5 _ _ (s4 _ _ Mt);apply#[_,U,p,C,dx,_,U,LD,T.cl,T.nN,by show 2<1000;decide,?_]
 have up:∀{b o},H2 b\o->b≠p->upd H5 p (.ins C dx (fi d1 l2 d3)) b\o:=λe ne=>by
  rw[aA ne];exact s5 _ _ (s4 _ _ (h3 e ne))
 have o_:∀{b},upd H3 l1 (.lst ((aU hs).map V.str)) b=none->H b=none:=λe=>s1.free (s2.free (DY (s4.free e)));have Mg:d3≠p:=(bG (s4 _ _ Mt) f5).symm;apply k (p::d1::l2::d3::as) _ (λb o e ne=>up (s2 _ _ (s1 _ _ e)) ne) #[dx,d1,l2,d3,JY,as,U,ay,up AO p1.symm,up jq p2.symm,?_,?_,la,λi n a e1 e2=>?_] λb hb=>?_
 ·exact Paired.aQ (P4.same (s4.trans s5)) λy q ⟨a,e,z⟩=>#[a,e,by rw[aA (bO z LD nofun)];exact z]
 ·rw[aA Mg];exact l6
 ·let#[q1,q2]:=lists i n a e1 e2;rw[aA (bO q2 LD nofun)];exact q2
 simp only[cg] at hb;rcases hb with rfl|rfl|rfl|rfl|hb
 ·exact .inl U
 ·exact .inr f1
 ·exact .inr (s1.free f2)
 ·exact .inr (o_ f5)
 let#[i,hi,e]:=gB hb;have e1:as[i]? = some b:=by rw[aX hi,e]
 have hn:i<(aU hs).length:=by omega
 exact .inr (o_ (lists i _ b (aX hn) e1).1)
end
structure bY (P:Ad) (w:Af) (K:ai) (mg:Str->Option Aa) (base:Heap) (C:Addr) (k:Nat) (m:Str) (ps:ag) (sp:Sp):Prop where
 ex:∃f fd,ak P w K mg base bc k f fd ps sp/\Meth K C m f/\p9 K fd ps []
variable{o:Expr}{apos:Pos}{ta:TE}{pl:Sem Bool}
theorem j1{C:Addr}(c:bY X.prog X.w X.K X.mg X.base C k m ps sp)(cl:mP X.K C)(hr:aY k X.A)(he:PE X o ta)(ha:PA X (e::es) t)(Ay:starEach (e::es) X.env=(false,eval e X.env)::starEach es X.env:=by rfl)(iY:(backTo pos (starEach es X.env)).any (·.1)=false:=by rfl)(ht:eval (.Call (.Attribute o m apos) (e::es) [] pos) X.env=(do
   let ov <- eval o X.env
   standAt apos.atName
   let (f,first) <- holding [ov] (getMethod ov m pl)
   callWith pos f first (backTo pos (starEach (e::es) X.env)) (backToKw pos (keywordEach [] X.env))):=by rfl) :
  PE X (.Call (.Attribute o m apos) (e::es) [] pos) (mV C m sp [] E0 ta t):=by
 let#[f,fd,F,hm,b]:=c.ex;exact Zc he cl hm F hr b .nil nO ha Ay iY ht
theorem Bp{C:Addr}(c:bY X.prog X.w X.K X.mg X.base C k m ps sp)(cl:mP X.K C)(hr:aY k X.A)(he:PE X o ta)(ht:eval (.Call (.Attribute o m apos) [] [] pos) X.env=(do
   let ov <- eval o X.env
   standAt apos.atName
   let (f,first) <- holding [ov] (getMethod ov m pl)
   callWith pos f first (backTo pos (starEach [] X.env)) (backToKw pos (keywordEach [] X.env))):=by rfl) :
  PE X (.Call (.Attribute o m apos) [] [] pos) (mV C m sp [] E0 ta gG):=by
 let#[f,fd,F,hm,b]:=c.ex;exact _D he cl hm F hr b .nil nO ht
theorem fK_{hs:Xa}(nd:(hs.map (·.1)).Nodup){x:Str}{n:Int}(h:(x,n)∈hs):aZ (du hs) (Sum.inr x)\.int n:=by
 have m:((Sum.inr x:Key),V.int n)∈du hs:=by
  unfold du;apply bx.mpr #[kH (x,n),(ue _).mem_iff.mpr (bx.mpr #[_,h,U]),U]
 let nk:=UX nd;generalize du hs=kvs at m nk
 induction kvs with
 |nil=>cases m
 |cons p r ih=>
  let#[n1,n2]:=kU.mp nk;rcases cg.mp m with e|m
  ·rw[<- e];exact yI U
  rw[yJ (λe:p.1=Sum.inr x=>n1 (bx.mpr #[_,m,e.symm]))];exact ih m n2
variable{as:aw}
theorem go_(nd:ns.Nodup)(la:as.length=ns.length){i:Nat}{n:Str}(hn:ns[i]? = some n):∃a,as[i]? = some a/\aZ (tZ ns as) (Sum.inr n)\.ref a:=by
 induction ns generalizing as i with
 |nil=>simp at hn
 |cons x ns ih=>
  cases as with
  |nil=>cases la
  |cons b as=>
   let#[n1,n2]:=kU.mp nd;cases i with
   |zero=>
    have e:x=n:=⇑hn
    subst e;exact#[b,U,yI U]
   |succ i=>
    have hn:ns[i]? = some n:=⇑hn
    let#[a,h1,h2]:=ih n2 ⇑la hn;apply#[a,by simpa using h1,?_];show aZ ((Sum.inr x,V.ref b)::tZ ns as) (Sum.inr n)=_;rw[yJ λe=>n1 (by rw[show x=n from iB e];exact cB hn)];exact h2
section v
theorem xB:bQ mq mq (a_ vG):=bZ
inductive jC (K:ai) (C:Addr) (vs:af) (H:Hp) (Q:VK) (E:XK):Prop
 |mk:∀(p:Addr) (x:Str) (hs:Xa) (ts:Xb) (fp:aw),vs=[.ref p,.str x]->hU K C H p hs ts fp->Q (.bl (decide (x∈hs.map (·.1)))) H->jC K C vs H Q E
theorem X0{C:Addr}(F:bu K "has_hand" "Web.has_hand" vG f fd)(T:Txt K mg C)(B:Bi mg):!ak bc 1 f fd mq (jC K C):=by
 exists F.bW xB;let#[p,x,hs,ts,fp,rfl,W,k]:=h;let hu:=fP hr;let#[dx,d1,l2,d3,zs,as,rfl,h1,h2,h3,h4,h5,h6,h7]:=W.ex;apply#[_,aJ (bp (oq (bT gL (by rfl) B.gA gE %[1,gM (v:=.ty "str") (by rfl) B.str Im U|0]) (ph (Ir (Bo hu (pv 1) (i_ (pv 0) U)))))),?_];apply#[_,U,_,_,_,_,U,.str x,U,_,U,bN ?_];apply#[_,U,_,U,p,C,dx,_,_,U,h1,T.cl,T.nS,IB _ _ _,d1,_,U,.k (k:=Sum.inr x) h2,?_];rw[Jf];exact k
theorem vE:bQ pf pf (a_ lR):=bZ
inductive Gn (K:ai) (C:Addr) (vs:af) (H:Hp) (Q:VK) (E:XK):Prop
 |mk:∀(p:Addr) (hs:Xa) (ts:Xb) (fp:aw),vs=[.ref p]->hU K C H p hs ts fp->(∀l,H l=none->Q (.ref l) (upd H l (.lst ((aU hs).map V.str))))->Gn K C vs H Q E
theorem hR_{C:Addr}(F:bu K "hands" "Web.hands" lR f fd)(T:Txt K mg C)(B:Bi mg):!ak bc 1 f fd pf (Gn K C):=by
 exists F.bW vE;let#[p,hs,ts,fp,rfl,W,k]:=h;let#[dx,d1,l2,d3,zs,as,rfl,h1,h2,h3,h4,h5,h6,h7]:=W.ex;apply#[_,aJ (bp (gS (Oa U) (by rfl) B.list qe %[i_ (pv 0) U|0])),?_];apply#[_,U,p,C,dx,_,_,U,h1,T.cl,T.nS,IB _ _ _,d1,_,U,.inl h2,λl hl=>?_];rw[SM];exact k l hl
theorem eC':bQ wI wI (a_ N8):=bZ
inductive JM (K:ai) (C:Addr) (vs:af) (H:Hp) (Q:VK) (E:XK):Prop
 |mk:∀(p:Addr) (x:Str) (n:Int) (hs:Xa) (ts:Xb) (fp:aw),vs=[.ref p,.str x]->hU K C H p hs ts fp->(hs.map (·.1)).Nodup->(x,n)∈hs->Q (.int n) H->JM K C vs H Q E
theorem eC_{C:Addr}(F:bu K "strength" "Web.strength" N8 f fd)(T:Txt K mg C)(cH:!bY C 1 "has_hand" mq (jC K C)):!ak bc 2 f fd wI (JM K C):=by
 apply F.bW eC' λaO A outer s H vs Q E hr h=>?_;let#[p,x,n,hs,ts,fp,rfl,W,nd,hx,k]:=h;let hu:=fP hr;let#[dx,d1,l2,d3,zs,as,rfl,h1,h2,h3,h4,h5,h6,h7]:=id W.ex;apply#[_,au (b_ (eK (d0 (j1 cH T.cl hr (pv 0) %[1|0]))) gC cm) (aJ (bp (j7 hu (i_ (pv 0) U) (pv 1)))),?_];apply#[_,U,p,dx,_,U,h1,pB _ _ _ Z0 Z0 Z0,_,U,p,x,hs,ts,_,U,W,_,U,?_];rw[c_ (bx.mpr #[_,hx,U])];apply aF ?_;apply#[_,U,p,C,dx,_,_,U,h1,T.cl,T.nS,IB _ _ _,_,U,d1,_,U,?_,k];rw[<- fK_ nd hx];exact .k (k:=Sum.inr x) h2
theorem vC:bQ wI wI (a_ lK):=bZ
inductive Np (K:ai) (C:Addr) (vs:af) (H:Hp) (Q:VK) (E:XK):Prop
 |mk:∀(p:Addr) (x:Str) (hs:Xa) (ts:Xb) (fp:aw),vs=[.ref p,.str x]->hU K C H p hs ts fp->(aU hs).Nodup->x∈hs.map (·.1)->(∀l,H l=none->Q (.ref l) (upd H l (.lst ((near (aU hs) (bV ts) x).map V.str))))->Np K C vs H Q E
theorem Ra{H:Hp}{hs:Xa}{ts:Xb}{x:Str}(nd:(aU hs).Nodup)(hx:x∈hs.map (·.1))(la:as.length=(aU hs).length)(h7:∀(i:Nat) n a,(aU hs)[i]? = some n->as[i]? = some a->H a\.lst ((near (aU hs) (bV ts) n).map V.str)):∃a,aZ (tZ (aU hs) as) (Sum.inr x)\.ref a/\H a\.lst ((near (aU hs) (bV ts) x).map V.str):=by
 let#[i,hi,e]:=gB ((gv hs).mem_iff.mpr hx);have hn:(aU hs)[i]? = some x:=by rw[aX hi,e]
 let#[a,h1,h2]:=go_ nd la hn;exact⟨a,h2,h7 i x a hn h1⟩
theorem ZU{C:Addr}(F:bu K "neighbours" "Web.neighbours" lK f fd)(T:Txt K mg C)(B:Bi mg)(cH:!bY C 1 "has_hand" mq (jC K C)):!ak bc 2 f fd wI (Np K C):=by
 exists F.bW vC;let#[p,x,hs,ts,fp,rfl,W,nd,hx,k]:=h;let hu:=fP hr;let#[dx,d1,l2,d3,zs,as,rfl,h1,h2,h3,h4,h5,h6,h7]:=id W.ex;let#[a,e1,ha]:=Ra nd hx h6 h7;apply#[_,au (b_ (eK (d0 (j1 cH T.cl hr (pv 0) %[1|0]))) gC cm) (aJ (bp (gS Pd (by rfl) B.list qe %[j7 hu (i_ (pv 0) U) (pv 1)|0]))),?_];apply#[_,U,p,dx,_,U,h1,pB _ _ _ Z0 Z0 Z0,_,U,p,x,hs,ts,_,U,W,_,U,?_];rw[c_ hx];apply aF ?_;apply#[_,U,p,C,dx,_,_,U,h1,T.cl,T.nN,Q3 _ _ _,_,U,d3,.ref a,U,?_,a,_,U,.inl (.of ha),k];rw[<- e1];exact .k (k:=Sum.inr x) h5
theorem zr:bQ kg kg (a_ rB):=bZ
theorem NN{H:Hp}:∀ns:ag,Paired (rS H) (ns.map V.str) ns
 |[]=>.nil
 |_::ns=>.cons U (NN ns)
end
end Ev
namespace L2
open PySem PySem.Spec PyProof.Rows PySem.W
def GP(K:ai)(a:Addr):It:=
 #[λi H=>∃xs x,d5 K H a xs/\xs[i]? = some x,λi H y H'=>∃t x,y=.ref t/\H t=none/\(∀xs,d5 K H a xs->xs[i]? = some x)/\H'=upd H t (.tup [.int i,x]),λi H=>∃xs,d5 K H a xs/\xs.length=i]
variable{X:Cx}{pins:List (Addr × Obj)}{σ:St}{s:Ab}{h':Heap}{t':Nat}{fp:aw}
theorem Inv.iL{H:Hp}{T:Addr}{xs:af}{its:aj}(I:Inv X pins σ H s)(k:∀b o,b∉fp->s.heap.get? b\o->h'.get? b\o)(hf:∀b∈fp,dk X pins H b)(hT:s.heap.objs.size<=T)(hz:xs.length<=sizeLine)(r:Vals xs its)(ht:IsTup h' T its.toArray/\∃o,h'.get? T\o/\o.dict=none):Inv X pins σ (upd H T (.tup xs)) { s with heap:=h',toks:=t' }:=by
 have fT:H T=none:=I.aE.fresh hT;have nf:∀b u,H b\u->b∉fp:=λb u e hb=>by rw[(hf b hb).1] at e;cases e
 have old:∀{b u},H b\u->upd H T (.tup xs) b\u:=λe=>by rw[aA (bG e fT)];exact e
 apply I.step (g':=s.gens) (d':=s.drawn) (ch:=fp) (λb hb=>?_) (λb o _ _ hc e _=>k b o hc e) (λb o _ _ hc e _=>#[o.slots,k b o hc e]) (λb o _ e n=>?_)
  (λb o hc e=>#[o,k b o hc e]) (λb ys e=>old e) (λb o u e=>old e) (λb ps e=>#[#[],by rw[Array.append_empty];exact old e]) (λm hm=>?_) (λb u e=>?_) I.bare
 ·let#[f0,f1,f2,f3,f4,f5]:=hf b hb;exact#[f3,f1,f4,f5]
 ·rw[aA (λz=>by subst z;exact absurd (bK e) (Nat.not_lt.mpr hT))];exact n
 ·let#[o,es,ep,ho,r]:=hm;exact#[o,es,ep,k _ o (λhb=>(hf _ hb).2.1 U) ho,r]
 by_cases z:b=T
 ·subst z;rw[ay] at e;cases e;exact#[hz,its,r,ht]
 rw[aA z] at e;apply (I.aE b u e).cA (λc v hc q=>k c v ?_ q) (λ_ q=>old q) λ_ _ q=>old q;rcases hc with z|z
 ·rw[z];exact nf b u e
 exact nf c _ z
theorem Inv.gO{H:Hp}(I:Inv X pins σ H s)(k:∀b o,b∉fp->s.heap.get? b\o->h'.get? b\o)(hf:∀b∈fp,dk X pins H b):Inv X pins σ H { s with heap:=h',toks:=t' }:=by
 have nf:∀b u,H b\u->b∉fp:=λb u e hb=>by rw[(hf b hb).1] at e;cases e
 apply I.step (g':=s.gens) (d':=s.drawn) (ch:=fp) (λb hb=>?_) (λb o _ _ hc e _=>k b o hc e) (λb o _ _ hc e _=>#[o.slots,k b o hc e]) (λb o _ e n=>n)
  (λb o hc e=>#[o,k b o hc e]) (λb ys e=>e) (λb o u e=>e) (λb ps e=>#[#[],by rw[Array.append_empty];exact e]) (λm hm=>?_) (λb u e=>?_) I.bare
 ·let#[f0,f1,f2,f3,f4,f5]:=hf b hb;exact#[f3,f1,f4,f5]
 ·let#[o,es,ep,ho,r]:=hm;exact#[o,es,ep,k _ o (λhb=>(hf _ hb).2.1 U) ho,r]
 apply (I.aE b u e).cA (λc v hc q=>k c v ?_ q) (λ_ q=>q) λ_ _ q=>q;rcases hc with z|z
 ·rw[z];exact nf b u e
 exact nf c _ z
variable{elts:List Expr}{pos:Pos}
theorem hK_{P:Ad}{w:Af}{K:ai}{k:Nat}(a e it:Addr)(h1:e≠it)(h2:a≠e)(h3:a≠it):Turn P w K (.Tuple elts k pos) (GP K a) [e,it] e (λi h=>(∃old,IsEnum h e it i old)/\h.IsListIter it a i) where
 mem:=by simp
 obj:=λi h st b hb=>by
  let#[#[old,q],o,e2,c,d]:=st;rcases cg.mp hb with rfl|hb
  ·exact#[_,q,λv z=>by cases z]
  obtain rfl:b=it:=⇑hb
  exact#[o,e2,λv z=>by rw[d] at z;cases z]
 keep:=λi h h' st kk=>by
  let#[#[old,q],cO]:=st;exact#[#[old,kk e Y1 _ q],cO.at λo q2=>kk it Y1 o q2]
 item:=by
  intro X hP hw hK hc i pins s σ H E I hf st hg;subst hP hw hK;let#[xs,x,hq,hx]:=hg;let#[its,rv,p,hz]:=I.list hq;let#[u,hu,ru]:=rv.get hx;let W:=WalksT.enumerate (prog:=X.prog) (w:=X.w) (A:=X.A) (I.ok.hd hc) e it a h1 h2 h3 its.toArray
  have hi:i<its.toArray.size:=by
   simp only[cY];exact (cu.mp hu).1
  let#[old,he]:=st.1;let hit:=st.2;apply wpAny_pyNext_enum_item he hit p.isList (x:=u) (by rw[List.getElem?_toArray];exact hu) h1 λh' ho AJ yc hsz hk=>?_;have AM:e<s.heap.objs.size:=bK he;have AK:it<s.heap.objs.size:=by let#[_,x,_]:=hit;exact bK x
  have mid:(∃x,IsEnumOut h' e it ((i:Int)+1) x s.heap.objs.size)/\h'.IsListIter it a (i+1)/\h'.IsList a its.toArray/\s.heap.objs.size≠e/\s.heap.objs.size≠it:=#[#[_,ho],AJ,p.isList.at λo x=>hk a o h2 h3 x,je AM,je AK];have kk:∀b o,b∉[e,it]->s.heap.get? b\o->h'.get? b\o:=λb o hb x=>hk b o (λe'=>hb (by simp[e'])) (λe'=>hb (by simp[e'])) x;have B5:h'.IsTuple s.heap.objs.size (List.toArray [.int i s.toks,u]):=#[_,yc,U,_,U];obtain⟨T,eT⟩:∃T,T=s.heap.objs.size:=#[_,U];obtain⟨t,et⟩:∃t,t=s.toks:=#[_,U];obtain⟨tk,B7⟩:∃tk,tk=s.toks+1:=#[_,U];rw[<- eT] at B5 mid yc ⊢;have hT:s.heap.objs.size<=T:=Nat.le_of_eq eT.symm;rw[<- et] at B5 yc;rw[<- B7];apply#[_,U,W.go elts k pos i T { s with heap:=h',toks:=tk } _ _ mid λg_ dX Ar=>?_];have nT:T∉[e,it]:=W.apart i T h' mid
  have As:g_.IsTuple T (List.toArray [.int i t,u]):=by
   let#[o,q,r]:=B5;exact#[o,Ar T o nT q,r]
  have I1:Inv X pins σ (upd H T (.tup [.int i,x])) { s with heap:=g_,toks:=tk }:=I.iL (t':=tk) (fp:=[e,it]) (its:=[.int i t,u]) (λb o hb q=>Ar b o hb (kk b o hb q)) hf hT (zl) (.cons #[t,U] (.cons ru .nil)) #[As,_,Ar T _ nT yc,U];apply#[.ref T,_,I1,U,#[T,x,U,I.aE.fresh hT,λys hy=>by rw[I.jI hy hq];exact hx,U],#[?_,dX.2.1],λb hb=>?_]
  ·let#[old,q]:=dX.1;exact#[old,by simpa using q]
  rw[aA (λz:b=T=>nT (by rw[<- z];exact hb))];exact (hf b hb).1
 done:=by
  intro X hP hw hK hc i pins s σ H E I hf st hg;subst hP hw hK;let#[xs,hq,hx]:=hg;let#[its,rv,p,hz]:=I.list hq;let W:=WalksT.enumerate (prog:=X.prog) (w:=X.w) (A:=X.A) (I.ok.hd hc) e it a h1 h2 h3 its.toArray
  have hn:its.toArray.size=i:=by
   have:=rv.length;simp only[cY];omega
  apply W.done s _ _ (by rw[hn];exact#[st.1,st.2,p.isList]) λh' tk kk=>#[U,I.gO (t':=tk) (fp:=[e,it]) kk hf]
 self:=λA i s Q E st h=>by
  let#[old,q]:=st.1;exact wpAny_pyIter_enum q h
inductive sT (K:ai) (R:It->Hp->Prop) (vs:af) (H1:Hp):Prop
 |mk:∀a,vs=[.ref a]->(∃xs,d5 K H1 a xs)->R (GP K a) H1->sT K R vs H1
def Eu(K:ai)(ta:TA):TI:=λσ H R=>ta σ H λvs H1=>sT K R vs H1
theorem Sw{kk:Nat}{p2:Pos}{a:Expr}{ta:TA}{p:Pos}(hg:Gl X "enumerate")(hm:X.mg "enumerate"=none)(ha:PA X [a] ta)(hs:starEach [a] X.env=[(false,eval a X.env)]:=by rfl):PI X (.Tuple elts kk p2) (.Call (.Name "enumerate" p) [a] [] pos) (Eu X.K ta):=by
 intro pins s σ H R I h;apply Call_ (wA I hg hm boot_enumerate (CF (aS (ha pos pins s σ H _ I h) λus s1 ⟨vs,H1,I1,r1,q1⟩=>?_) hs U));let#[l,e,#[xs,hq],q]:=q1;subst e;cases r1 with
 |cons r rr=>
  cases rr;cases r;let#[its,rv,pl,hz]:=I1.list hq;have ll:l<s1.heap.objs.size:=by let#[_,e,_]:=pl.isList;exact bK e
  apply call_enumerate_list pl.isList λh' he hi hn kp=>?_;apply wpAny_pyIter_enum he ?_;apply#[s1.heap.objs.size+1,[s1.heap.objs.size+1,s1.heap.objs.size],_,_,H1,U,I1.kept (t':=s1.toks) kp,hK_ l _ _ (Nat.succ_ne_self _) (dE (Nat.lt_succ_of_lt ll)) (dE ll),#[#[_,he],hi],λb hb=>?_,q]
  have e:s1.heap.objs.size<=b:=by
   rcases cg.mp hb with rfl|hb
   ·exact Nat.le_succ _
   obtain rfl:b=s1.heap.objs.size:=⇑hb
   exact a9 _
  exact I1.i0 e (I1.aE.fresh e)
theorem Th{K:ai}{a:Addr}{xs:af}{g:TG}{tb:TS}{D:Ends}{H:Hp}(Pv:dD)(h0:Pv 0 σ H)(hl:∀i σ H,i<=xs.length->Pv i σ H->d5 K H a xs)(hs:∀i x σ H,xs[i]? = some x->Pv i σ H->∀t,H t=none->g (.ref t) σ (upd H t (.tup [.int i,x])) λgc H2=>tb { D with nx:=Pv (i+1),ct:=Pv (i+1),bk:=D.nx } gc H2)(hd:∀σ H,Pv xs.length σ H->D.nx σ H) :
  ∃W:Nat->Nat->St->Hp->Prop,(∃m,W 0 m σ H)/\∀i m σ H,W i m σ H->
   ((GP K a).stop i H/\D.nx σ H)∨((GP K a).go i H/\∃N:St->Hp->Prop,(∀bf H',N bf H'->∃m',m'<m/\W (i+1) m' bf H')/\∀x H',(GP K a).vo i H x H'->g x σ H' λgc H2=>tb { D with nx:=N,ct:=N,bk:=D.nx } gc H2):=by
 apply#[λi m σ H=>m=xs.length - i/\i<=xs.length/\Pv i σ H,#[xs.length,by simp,gN _,h0],?_];rintro i m σ H ⟨rfl,hi,p⟩;let q:=hl i σ H hi p;by_cases dQ:i<xs.length
 ·apply .inr #[#[xs,xs[i],q,by simp[dQ]],Pv (i+1),λbf H' p'=>#[xs.length - (i+1),by omega,U,dQ,p'],λx H' y=>?_];let#[t,x,rfl,ht,y,rfl]:=y;exact hs i x σ H (y xs q) p t ht
 have e:i=xs.length:=by omega
 subst e;exact .inl #[#[xs,q,U],hd σ H p]
section
variable{M:Model}{A:Ag}{E:Aa->Ab->Prop}{s:Ab}{base:Heap}{env:Env}{outer:List Env}{L e:Addr}{cls cx fl:Aa}{Q:Unit->Ab->Prop}
end
section
variable{P:Ad}{w:Af}{H H':Hp}{B h0 h h1:Heap}{l:List Env}
end
section
variable{X:Cx}{pins:List (Addr × Obj)}{σ:St}{H H':Hp}{s s1:Ab}{B h:Heap}{a:Addr}{cls a0:Aa}{E:XK}
end
section
variable{P:Ad}{w:Af}{K:ai}{mg:Str->Option Aa}{base:Heap}{N:ag}{qual:Str}{scope:Scope}{f:Addr}{cd:Aa}{A:Ag}{outer:List Env}{s:Ab}{H:Hp}{E:XK}
end
section v
end
open PySem.Calls Builtin Builtin.ObjectAttr Builtin.Getset_descriptor
structure PP (K:ai) (C:Addr):Prop where
 cl:(clsIn K C).isSome=true
 ga:findIn K (.ref C) "__getattribute__"\some (.builtin "BaseException.__getattribute__")
 ha:findIn K (.ref C) "__getattr__"\none
 ca:findIn K (.ref C) "__class__"\some (.builtin "object.__class__")
 gt:specialIn K (.builtin "object.__class__") "__get__"\some (.builtin "getset_descriptor.__get__")
 tk:takesIn K (.builtin "object.__class__")\true
 mo:mroIn K C (.type "object")\true
 mb:mroIn K C (.type "BaseException")\true
section
variable{prog:Ad}{w:Af}{A:Ag}{E:Aa->Ab->Prop}{s:Ab}{K:ai}{x C:Addr}
end
inductive xK (K:ai) (xs:af) (H:Hp) (Q:VK):Prop
 |mk:∀x C t b,xs=[x,.ref C]->dC K H x t->PySem.W.kitOne K t (.ref C)\b->Q (.bl b) H->xK K xs H Q
theorem gV_:gn X (.builtin "isinstance") (xK X.K):=by
 intro pins s σ H xs us Q I r h;let#[x,C,t,b,rfl,ty,e,q]:=h;let#[u,w',rfl,ru,iR]:=vals2 r;cases (show w'=Value.ref C from iR);exact Ui I ru ty e λtk=>#[.bl b,H,I.tok tk,U,q]
end L2
namespace Ev
open PySem L2
abbrev lW:Stmt:=top 56
abbrev MU:Stmt:=top 57
abbrev OF:Stmt:=top 58
abbrev FT:Stmt:=top 59
abbrev lV:Stmt:=top 62
abbrev Kw:Stmt:=top 20
abbrev Kv:Stmt:=top 21
abbrev rV:Stmt:=top 22
abbrev rM:Stmt:=top 23
abbrev rK:Stmt:=top 24
abbrev Nu:Stmt:=top 13
abbrev NX:Stmt:=top 26
abbrev Ng:Stmt:=top 27
abbrev rJ:Stmt:=top 28
abbrev N7:Stmt:=top 29
abbrev rC:Stmt:=top 30
abbrev OR:Stmt:=top 31
abbrev MS:Stmt:=top 32
abbrev r_:Stmt:=top 34
abbrev lU:Stmt:=top 35
abbrev rE:Stmt:=top 36
abbrev Nt:Stmt:=top 37
abbrev rD:Stmt:=top 38
abbrev lP:Stmt:=top 63
abbrev NH:Stmt:=top 64
abbrev lO:Stmt:=top 65
abbrev Nm:Stmt:=top 66
abbrev NK:Stmt:=top 67
abbrev NY:Stmt:=top 68
abbrev lQ:Stmt:=top 69
abbrev NG:Stmt:=top 70
abbrev NA:Stmt:=top 71
abbrev rX:Stmt:=top 73
abbrev zH:Stmt:=top 41
abbrev Nj:Stmt:=top 42
abbrev zG:Stmt:=top 43
abbrev lM:Stmt:=top 44
abbrev lH:Stmt:=top 45
abbrev rW:Stmt:=top 72
abbrev Oy:Stmt:=top 74
abbrev fe:Stmt:=top 75
def aM(l:Addr)(H H':Hp):Prop:=∀b o,H b\o->b≠l->H' b\o
theorem aM.refl(l:Addr)(H:Hp):aM l H H:=λ_ _ e _=>e
variable{H1:Hp}
theorem aM.trans{l:Addr}{H H2:Hp}(h:aM l H H1)(h2:aM l H1 H2):aM l H H2:=λb o e n=>h2 b o (h b o e n) n
theorem aM.of{l:Addr}{H:Hp}(h:aa H H1):aM l H H1:=λb o e _=>h b o e
theorem aM.upd{l:Addr}{H:Hp}{o:HO}:aM l H (upd H l o):=λb u e n=>by rw[aA n];exact e
def bJ(H:Hp)(l:Addr):Prop:=(∃n:Int,H l\.lst [.int n])∨∃n m c:Int,H l\.lst [.int n,.int m,.int c]
theorem bJ.some{H:Hp}{l:Addr}(h:bJ H l):∃xs,H l\.lst xs:=by
 rcases h with⟨n,e⟩|⟨n,m,c,e⟩
 ·exact#[_,e]
 exact#[_,e]
theorem aM.free{l b:Addr}{H H':Hp}(h:aM l H H')(s:bJ H' l)(e:H' b=none):H b=none:=by
 cases z:H b with
 |none=>rfl
 |some o=>
  by_cases q:b=l
  ·subst q;let#[xs,e2]:=s.some;rw[e] at e2;cases e2
  rw[h b o z q] at e;cases e
theorem cZ{α:Type}{xs:List α}{i:Int}(h0:0<=i)(h1:i<xs.length):ib xs i=xs[i.toNat]?:=by
 unfold ib vR;rw[aK h0,aK h1];rfl
section v
def wO:Sp:=λvs H Q _=>∃(l:Addr) (b:Int),vs=[.ref l,.int b]/\0<b/\b<1073741824/\bJ H l/\∀r H',0<=r->r<b->aM l H H'->bJ H' l->Q (.int r) H'
theorem small(x:Int):-(2 ^ 64)<x % 2147483647/\x % 2147483647<2 ^ 64:=by
 let h1:=Int.emod_nonneg x (b:=2147483647) (by decide);let h2:=Int.emod_lt_of_pos x (b:=2147483647) (by decide);exact#[by omega,by omega]
end
theorem _C:("abcdefghijklmnopqrstuvwxyz":Str).cps.toList=[97,98,99,100,101,102,103,104,105,106,107,108,109,110,111,112,113,114,115,116,117,118,119,120,121,122]:=by decide +kernel
variable{r:Int}
theorem YC(h0:0<=r)(h1:r<26):∃c,ib ("abcdefghijklmnopqrstuvwxyz":Str).cps.toList r\c/\oW c=true:=by
 rw[_C,cZ h0 ⇑h1];have hn:r.toNat<26:=by omega
 apply#[_,aX ⇑hn,?_];have all:∀c∈[97,98,99,100,101,102,103,104,105,106,107,108,109,110,111,112,113,114,115,116,117,118,119,120,121,122],oW c=true:=by decide +kernel
 exact all _ (j_ _)
def j5{α:Type}(l:List α)(k:Nat)(x:α):List α:=l.take k++x::l.drop k
theorem CJ{α:Type}(l:List α)(k:Nat)(x:α):(j5 l k x).Perm (x::l):=by
 unfold j5;apply List.perm_middle.trans ?_;rw[List.take_append_drop]
theorem Tz{α β:Type}(g:α->β)(l:List α)(k:Nat)(x:α):(j5 l k x).map g=j5 (l.map g) k (g x):=by
 unfold j5;rw[eJ,fE,List.map_take,List.map_drop]
theorem JJ{α β:Type}{F:α->β->Prop}:∀{ys:List α} {ks:List β} (k:Nat) {y:α} {q:β},Paired F ys ks->F y q->Paired F (j5 ys k y) (j5 ks k q)
 |[],_,k,_,_,.nil,h=>by
  unfold j5;simp only[List.take_nil,List.drop_nil,List.nil_append];exact .cons h .nil
 |y::ys,_,0,_,_,.cons a t,h=>.cons h (.cons a t)
 |y::ys,_,k+1,_,_,.cons a t,h=>.cons a (JJ k t h)
theorem OM{α:Type}(l:List α)(k:Nat)(x:α):(j5 l k x).length=l.length+1:=(CJ l k x).length_eq
theorem sW{α:Type}{a b:α}(h0:0<=r)(h1:r<2):ib [a,b] r\a∨ib [a,b] r\b:=by
 have:r=0∨r=1:=by omega
 rcases this with rfl|rfl
 ·exact .inl U
 exact .inr U
theorem LZ{α:Type}{p:α->Prop}{a b c d:α}(h0:0<=r)(h1:r<4)(ha:p a)(hb:p b)(hc:p c)(hd:p d):∃x,ib [a,b,c,d] r\x/\p x:=by
 have:r=0∨r=1∨r=2∨r=3:=by omega
 rcases this with rfl|rfl|rfl|rfl
 ·exact#[_,U,ha]
 ·exact#[_,U,hb]
 ·exact#[_,U,hc]
 exact#[_,U,hd]
theorem ja{K:ai}{H H':Hp}{l:Addr}{ys:af}{ks:List aD}(t:bS K H ys ks)(b:aM l H H'){xs:af}(hl:H l\.lst xs):bS K H' ys ks:=Paired.aQ t λy k ⟨a,z,q⟩=>#[a,z,b _ _ q (bO q hl nofun)]
variable{D:Addr}{ns:ag}
theorem Ue{K:ai}{H:Hp}(h:H D\.lst (ns.map V.str)):rL K rS H (.ref D) ns:=#[D,_,U,.of h,NN ns]
theorem fN_{K:ai}{a:Addr}{ys:af}{hs:Xa}{H:Hp}{Q:VK}{jk:St}(oZ:jk=[none,none])(ha:H a\.lst ys)(tu:bS K H ys (hs.map kH))(h8:hs.length<=1000)(hD:H D=none)(q:∀H',aa H H'->H' D\.lst ((hs.map (·.1)).map V.str)->Q (.ref D) H'):yA (yT K a) (gi K 2 (pZ (jw 0) (pZ (jw 1) tH))) qx (dh 0) jk D H Q:=by
 let sz:=cJ;let le:=bI tu;rw[aq] at le;apply j9 (own:=2) (fv:=[]) (xs:=ys) oZ wc (λi out H'=>aa H H'/\H' D\.lst out/\out=((hs.take i).map (·.1)).map V.str) #[aa.new hD,ay,U] (λi out H' _ ⟨sm,_,_⟩=>.of (sm _ _ ha)) (λout H4 ⟨sm,tE,eo⟩=>?_) (λj y out H' hy ⟨sm,dq,eo⟩=>?_)
 ·rw[le,d9] at eo;subst eo;exact q _ sm tE
 let#[h,hh,p,rfl,hp]:=uc tu hy;apply#[_,#[p,_,_,U,.of (sm _ _ (uJ hp)),U],U,λNx hN=>eP ?_];apply#[_,U,out,dq,?_,hN _ _ #[fF sm hD,ay,?_]]
 ·rw[eo,aq,aq,dJ];omega
 rw[u_ _ hh,eJ,eo];rfl
def kO(t:Str × Str):aD:=kT (aN t.1 t.2)
structure TI (ns:ag) (k j:Nat) (ts:Xb):Prop where
 at':∀t∈ts,∃(a b:Nat) (x y:Str),b<a/\(a<k∨(a=k/\b<j))/\ns[a]? = some x/\ns[b]? = some y/\(t=(x,y)∨t=(y,x))
 nd:(ts.map kO).Nodup
 len:ts.length<=7 * k+j
variable{j k:Nat}
theorem TI.skip{ts:Xb}(h:TI ns k j ts):TI ns k (j+1) ts:=
 #[λt ht=>let #[a,b,x,y,h1,h2,h3,h4,h5]:=h.at' t ht;#[a,b,x,y,h1,by omega,h3,h4,h5],h.nd,by have:=h.len;omega]
theorem TI.next{ts:Xb}(h:TI ns k k ts)(h7:k<=7):TI ns (k+1) 0 ts:=
 #[λt ht=>let #[a,b,x,y,h1,h2,h3,h4,h5]:=h.at' t ht;#[a,b,x,y,h1,by omega,h3,h4,h5],h.nd,by have:=h.len;omega]
theorem IT{a b:Str × Str}(h:kT a=kT b):a=b:=by
 unfold kT at h;let#[h1,h2]:=List.cons.inj h;let#[h2,_]:=List.cons.inj h2;exact Prod.ext (iB h1) (iB h2)
variable{x:Str}
theorem FV(nd:ns.Nodup){i:Nat}(h:ns[i]? = some x)(h2:ns[j]? = some x):i=j:=by
 let#[hi,e1]:=cu.mp h;let#[hj,e2]:=cu.mp h2;exact (List.getElem_inj nd).mp (e1.trans e2.symm)
variable{b:Str}
theorem QY{a c d:Str}(h:kO (a,b)=kO (c,d)):(a=c/\b=d)∨(a=d/\b=c):=by
 let h:=IT h;dsimp only at h;rcases IY a b with e|e<;>rcases IY c d with e2|e2<;>rw[e,e2] at h<;>let h1:=(Prod.mk.inj h).1<;>let h2:=(Prod.mk.inj h).2
 ·exact .inl #[h1,h2]
 ·exact .inr #[h1,h2]
 ·exact .inr #[h2,h1]
 exact .inl #[h2,h1]
theorem TI.add{ts:Xb}(h:TI ns k j ts)(nd:ns.Nodup){y:Str}{t:Str × Str}(hj:j<k)(hx:ns[k]? = some x)(hy:ns[j]? = some y)(ht:t=(x,y)∨t=(y,x))(q:Nat):TI ns k (j+1) (j5 ts q t):=by
 apply#[λu hu=>?_,?_,by have:=h.len;rw[OM];omega]
 ·rcases cg.mp ((CJ _ _ _).mem_iff.mp hu) with rfl|hu
  ·exact#[k,j,x,y,hj,.inr #[U,by omega],hx,hy,ht]
  exact h.skip.at' u hu
 apply ((CJ ts q t).map kO).nodup_iff.mpr ?_;rw[fE];apply kU.mpr #[λm=>?_,h.nd];let#[u,hu,e]:=bx.mp m;let#[a,b,c,d,h1,h2,h3,h4,h5]:=h.at' u hu
 have key:(c=x/\d=y)∨(c=y/\d=x):=by
  rcases h5 with rfl|rfl<;>rcases ht with rfl|rfl<;>rcases QY e with⟨q1,q2⟩|⟨q1,q2⟩<;>simp_all
 rcases key with⟨rfl,rfl⟩|⟨rfl,rfl⟩
 ·have:=FV nd h3 hx;have:=FV nd h4 hy;omega
 have:=FV nd h3 hy;have:=FV nd h4 hx;omega
theorem TI.good{ts:Xb}(h:TI ns k j ts)(nd:ns.Nodup)(ok:∀n∈ns,iC n=true):∀t∈ts,wx t/\t.1∈ns/\t.2∈ns:=λt ht=>by
 let#[a,b,x,y,h1,h2,h3,h4,h5]:=h.at' t ht;let mx:=cB h3;let my:=cB h4
 have ne:x≠y:=λe=>by
  subst e;have:=FV nd h3 h4;omega
 rcases h5 with rfl|rfl
 ·exact#[#[ok _ mx,ok _ my,ne],mx,my]
 exact#[#[ok _ my,ok _ mx,ne.symm],my,mx]
theorem hV_(ns:ag)(k:Nat):cq (ns.map V.str) none (some (k:Int))=(ns.take k).map V.str:=by
 unfold cq;rw[HT.eS,HT.d6,List.drop_zero,Nat.sub_zero,List.map_take,aq];by_cases h:k<=ns.length
 ·rw[Nat.min_eq_left h]
 rw[Nat.min_eq_right Y0,u9 (by rw[aq];omega),u9 (by rw[aq];omega)]
theorem bJ.same{H H':Hp}{l:Addr}(h:bJ H l)(s:aa H H'):bJ H' l:=by
 rcases h with⟨n,e⟩|⟨n,m,c,e⟩
 ·exact .inl #[n,s _ _ e]
 exact .inr #[n,m,c,s _ _ e]
theorem gW_{a:Str}(h:Ai a b=true):Ai b a=false:=TJ (a:=Sum.inr a) (b:=Sum.inr b) h
theorem Yo{a:Str}(h:Ai a b=false)(h2:Ai b a=false):a=b:=iB (Sh (a:=Sum.inr a) (b:=Sum.inr b) h h2)
theorem OI(a b:Str):aN a b=aN b a:=by
 unfold aN;by_cases h:Ai a b=true
 ·rw[aK h,aC (by rw[gW_ h];decide)]
 by_cases h2:Ai b a=true
 ·rw[aC h,aK h2]
 have:=Yo ⇑h ⇑h2;subst this;rw[aC h]
theorem O0{ts:Xb}{x:Str × Str}:x∈bV ts ↔ ∃t∈ts,aN t.1 t.2=x:=by
 have e:kT x∈(bV ts).map kT ↔ x∈bV ts:=#[λh=>by
  let#[y,hy,e]:=bx.mp h;rw[<- IT e];exact hy,λh=>bx.mpr #[x,h,U]]
 rw[<- e,OJ,(ue _).mem_iff,bx];exact#[λ⟨t,ht,q⟩=>#[t,ht,IT q],λ⟨t,ht,q⟩=>#[t,ht,by rw[q]]]
theorem YU(a b:Str):kO (a,b)=kO (b,a):=by
 show kT (aN a b)=kT (aN b a);rw[OI]
variable{f:Addr}{fd:Ae}
section v
theorem Jb:bQ [gK,"_law_base",wu,"_law_number"] uW (a_ lV):=bZ
theorem _Q(F:bu K tT tT lV f fd)(B:Bi mg):!ak bc 1 f fd uW wO:=by
 exists F.bW Jb;let#[l,b,rfl,h0,h1,st,k]:=h
 apply#[_,au (b_ (eO Lm (bT gx (by rfl) B.len fN %[0|0]) av)
   (aJ (j8 (kQ kM PySem.F.slot_list_extend PySem.F.type_list_extend h6_ (pv 0) %[eI %[br Bv (bg fX (pv 0) av) av,av|0]|0]))) cm)
  (au (b_ (eO EM (bg fX (pv 0) av) av)
   (au (bw 2 Jb.nd (br Bv (bg fX (pv 0) av) (pv 1)))
   (au (Br (br FU (bg fX (pv 0) av) (pv 1)) (Ri (pv 0) av Tj))
   (aJ (bp (pv 2))))) cm)
  (au (Br (br fG (bg fX (pv 0) av) av) (Ri (pv 0) av Tj))
  (au (bw 3 Jb.nd (br Bv (br tX (br fG (br fG (bg fX (pv 0) av) (br tX av (bg fX (pv 0) av))) av) av) av))
  (au (bw 3 Jb.nd (br Bv (br tX (pv 3) (br fG (br FU (pv 3) av) av)) av))
  (aJ (bp (br Bv (br Bv (br tX (pv 3) (br fG (br FU (pv 3) av) av)) av) (pv 1)))))))),?_]
 rcases st with⟨n,o8⟩|⟨n,m,c,hl⟩
 case' inl=>
  apply#[_,U,l,_,U,.inl (.of o8),U,_,U,bN ?_];apply#[_,U,.inl #[U,_,.of o8],_,U,l,_,_,_,U,U,.of o8,U,_,_,U,U,by show (0:Int)<2147483647;decide,zl,λq hq=>?_];apply#[l,q,_,_,U,U,aa.new hq _ _ o8,ay,by show 1+2<=sizeLine;decide,?_];have bt:aM l H (upd (upd H q (.lst [.int (n % 2147483647),.int 0])) l (.lst ([.int n]++[.int (n % 2147483647),.int 0]))):=(aM.of (aa.new hq)).trans aM.upd;have hl:(upd (upd H q (.lst [.int (n % 2147483647),.int 0])) l (.lst ([.int n]++[.int (n % 2147483647),.int 0]))) l\.lst [.int n,.int (n % 2147483647),.int 0]:=ay;generalize (upd (upd H q (.lst [.int (n % 2147483647),.int 0])) l (.lst ([.int n]++[.int (n % 2147483647),.int 0])))=H1 at bt hl ⊢
 case' inr=>
  apply#[_,U,l,_,U,.inl (.of hl),U,_,U,aF ?_];let bt:=aM.refl l H
 all_goals
  apply#[_,U,l,_,_,_,U,U,.of hl,U,_,_,U,U,_,U,?_];apply bH (λc=>?_) (λc=>?_)
  ·apply#[_,U,l,_,_,_,U,U,.of hl,U,_,U,_,_,U,U,h0,?_];apply#[_,U,l,_,_,_,U,U,.of hl,U,_,U,_,_,U,U,#[h0,h1],_,U,l,_,_,0,U,U,hl,U,?_];exact#[_,U,k _ _ (Int.emod_nonneg _ Y0) (Int.emod_lt_of_pos _ h0) (bt.trans aM.upd) (.inr #[_,_,_,ay])]
  apply#[_,U,l,_,_,_,U,U,.of hl,U,_,_,U,U,_,U,l,_,_,2,U,U,hl,U,?_];apply#[_,U,l,_,_,_,U,U,.of ay,U,_,U,l,_,_,_,U,U,.of ay,U,_,_,U,U,.inl #[by decide,by decide],_,_,U,U,_,_,U,U,_,_,U,U,.inr #[by decide,by decide],_,_,U,U,by show (0:Int)<2147483647;decide,?_];apply#[_,U,_,U,_,_,U,U,#[by decide,by decide],_,_,U,U,_,_,U,U,.inl (small _),_,_,U,U,by show (0:Int)<2147483647;decide,?_];apply#[_,U,_,U,_,_,U,U,#[by decide,by decide],_,_,U,U,_,_,U,U,.inl (small _),_,_,U,U,by show (0:Int)<2147483399;decide,_,U,_,_,U,U,h0,?_];exact k _ _ (Int.emod_nonneg _ Y0) (Int.emod_lt_of_pos _ h0) (bt.trans aM.upd) (.inr #[_,_,_,ay])
theorem Jd:bQ [gK,wu,"_law_k"] [gK] (a_ lP):=bZ
def N1:Sp:=λvs H Q _=>∃(l:Addr),vs=[.ref l]/\bJ H l/\∀x H',iC x=true->aM l H H'->bJ H' l->Q (.str x) H'
theorem hN_(F:bu K "_law_name" "_law_name" lP f fd)(B:Bi mg)(cD:!bz 1 tT uW wO):!ak bc 2 f fd [gK] N1:=by
 exists F.bW Jd;let#[l,rfl,st,k]:=h;let sz:=cJ
 apply#[_,au (bw 1 Jd.nd jX)
  (au (d8 dS U (ql (by rfl) B.range %[br fG av (bj cD hr %[0,av|0])|0]) (bX 2 Jd.nd)
   (aJ (bw 1 Jd.nd (br g4_ (pv 1) (bg YL jX (bj cD hr %[0,av|0]))))))
  (aJ (bp (pv 1)))),?_]
 apply#[_,U,l,8,U,by decide,by decide,st,λr H1 r0 r8 b1 oK=>?_];apply#[_,_,U,U,_,U,by show (-(2 ^ 62):Int)<=1+r;omega,by show 1+r<(2 ^ 62:Int);omega,?_];apply t7 (lo:=0) (n:=(1+r).toNat) (λi σ H2=>∃(x:Str) (v:aI),σ=[some (.ref l),some (.str x),v]/\x.length=i/\x.cps.toList.all oW=true/\aM l H H2/\bJ H2 l) #["",none,U,U,U,b1,oK] ?_ ?_
 ·rintro i σ H2 hi ⟨x,v,rfl,hx,ho,b2,cO⟩;apply#[_,U,_,U,l,26,U,by decide,by decide,cO,λq H3 q0 WL b3 dW=>?_];let#[c,hc,oc]:=YC q0 WL;apply#[_,_,_,U,U,by decide +kernel,hc,_,_,U,U,?_,_,_,U,?_,?_,b2.trans b3,dW]
  ·have:(⟨(List.toArray [c])⟩:Str).length=1:=rfl;omega
  ·have e:(x++(⟨(List.toArray [c])⟩:Str)).cps.toList=x.cps.toList++[c]:=PySem.W.KT.app_list _ _;have:(x++(⟨(List.toArray [c])⟩:Str)).length=(x++(⟨(List.toArray [c])⟩:Str)).cps.toList.length:=by rw[ud];rfl
   rw[this,e,dM,ud];show x.length+1=i+1;omega
  have e:(x++(⟨(List.toArray [c])⟩:Str)).cps.toList=x.cps.toList++[c]:=PySem.W.KT.app_list _ _;rw[e,List.all_append,ho];simp[oc]
 rintro σ H2 ⟨x,v,rfl,hx,ho,b2,cO⟩;apply#[_,U,k x H2 ?_ b2 cO];unfold iC;rw[ho,c_ (show 1<=x.length by omega),c_ (show x.length<=8 by omega)];rfl
theorem GG:bQ [gK,"_law_most",wu,"_law_k","_law_name_here","_law_strength"] [gK,"_law_most"] (a_ NH):=bZ
def Ts(K:ai):Sp:=λvs H Q _=>∃(l:Addr) (m:Nat),vs=[.ref l,.int m]/\1<=m/\m<=8/\bJ H l/\∀(a:Addr) (ys:af) (hs:Xa) (H':Hp),aM l H H'->bJ H' l->H a=none->H' a\.lst ys->bS K H' ys (hs.map kH)->(∀h∈hs,oi h)->(hs.map (·.1)).Nodup->1<=hs.length->hs.length<=m->Q (.ref a) H'
theorem gG_(F:bu K "_law_hands" "_law_hands" NH f fd)(B:Bi mg)(cD:!bz 1 tT uW wO)(cN:!bz 2 "_law_name" [gK] N1):!ak bc 3 f fd [gK,"_law_most"] (Ts K):=by
 exists F.bW GG;let#[l,m,rfl,m1,m8,st,k]:=h;let sz:=cJ
 apply#[_,au (bw 2 GG.nd (eI bR))
  (au (d8 dS U (ql (by rfl) B.range %[br fG av (bj cD hr %[0,1|0])|0]) (bX 3 GG.nd)
   (au (bw 4 GG.nd (bj cN hr %[0|0]))
   (aJ (b_ (eO (Tu gJ (kR hr 0)) (pv 4) (jb ["_law_one","_law_strength"] 2 [] (d4 (pv 2)) (λfp s H=>CA (n:=2) (df (fu (i:=0) (show (["_law_one","_law_strength"]:ag).Nodup by decide +kernel) U (Or.inl U)) (df (fu (i:=1) (show (["_law_one","_law_strength"]:ag).Nodup by decide +kernel) U (Or.inl U)) hW)))
     (λfp s H=>jx) (λfp s H=>pv 0)) (by with_unfolding_all rfl))
    (au (bw 5 GG.nd (bg fX (eI %[av,br fG av (bj cD hr %[0,av|0]),br fG av (bj cD hr %[0,av|0]),av|0]) (bj cD hr %[0,av|0])))
    (aJ (j8 (kQ kM PySem.F.slot_list_insert PySem.F.type_list_insert Oz (pv 2) %[bj cD hr %[0,br fG (bT gx (by rfl) B.len fN %[2|0]) av|0],dA %[4,5|0]|0]))))
    cm))))
  (aJ (bp (pv 2)))),?_]
 apply#[zl,λa ha=>?_];let#[P1,o8]:=st.some;have fL:l≠a:=bG o8 ha
 have zh:bJ (upd H a (.lst [])) l:=by
  unfold bJ;rw[aA fL];exact st
 apply#[_,U,_,U,l,m,U,by omega,by omega,zh,λr H1 r0 r8 b1 oK=>?_];apply#[_,_,U,U,_,U,by show (-(2 ^ 62):Int)<=1+r;omega,by show 1+r<(2 ^ 62:Int);omega,?_]
 apply t7 (lo:=0) (n:=(1+r).toNat) (λi σ H2=>∃(v3 v4 v5:aI) (ys:af) (hs:Xa),σ=[some (.ref l),some (.int m),some (.ref a),v3,v4,v5]/\aM l H H2/\bJ H2 l/\H2 a\.lst ys/\bS K H2 ys (hs.map kH)/\(∀h∈hs,oi h)/\(hs.map (·.1)).Nodup/\hs.length<=i/\(1<=i->1<=hs.length))
  #[none,none,none,[],[],U,(aM.of (aa.new ha)).trans b1,oK,b1 _ _ ay fL.symm,.nil,by simp,.nil,a9 _,by omega] ?_ ?_
 ·rintro i σ H2 hi ⟨v3,v4,v5,ys,hs,rfl,b2,cO,tw,tu,good,nd,le,ge⟩;have i8:i<8:=by omega
  apply#[_,U,l,U,cO,λx H3 nx b3 dW=>?_];let jR:=b3 _ _ tw fL.symm;let#[Vw,jq]:=cO.some;let P7:=ja tu b3 jq;apply#[_,U,_,U,a,U,#[_,.of jR],λD hD=>?_];let QN:=bI tu;rw[aq] at QN;apply j9 (own:=2) (fv:=[]) (xs:=ys) U wc (λi out H'=>aa H3 H'/\H' D\.lst out/\out=((hs.take i).map (·.1)).map V.str) #[aa.new hD,ay,U] (λi out H' _ ⟨sm,_,_⟩=>.of (sm _ _ jR)) (λout H4 ⟨sm,tE,eo⟩=>?_) (λj y out H' hy ⟨sm,dq,eo⟩=>?_)
  ·rw[QN,d9] at eo;subst eo;let wb:=sm _ _ jR;have b4:aM l H H4:=(b2.trans b3).trans (aM.of sm)
   have gU:bJ H4 l:=by
    rcases dW with⟨n,e⟩|⟨n,m,c,e⟩
    ·exact .inl #[n,sm _ _ e]
    exact .inr #[n,m,c,sm _ _ e]
   let yX:=P7.same sm;apply#[x,_,U,Ue tE,_,U,?_];apply bH (λc=>?_) (λc=>?_)
   ·have BX:x∉hs.map (·.1):=⇑c
    apply#[_,U,l,9,U,by decide,by decide,gU,λr1 H5 q0 q1 b5 iO=>#[_,_,U,U,?_]];apply#[_,U,l,1000,U,by decide,by decide,iO,λr2 H6 q2 q3 b6 iN=>#[_,_,U,U,?_]];apply#[zl,λp hp=>?_];let#[P0,AF]:=iN.some;have lp:l≠p:=bG AF hp
    have gz:bJ (upd H6 p (.lst [.int 1,.int (1+r1),.int (1+r2),.int 1000])) l:=by
     unfold bJ;rw[aA lp];exact iN
    apply#[_,U,l,4,U,by decide,by decide,gz,λr3 H8 q4 q5 b8 m_=>?_];let hp8:=b8 _ _ (show upd H6 p (.lst [.int 1,.int (1+r1),.int (1+r2),.int 1000]) p=_ from ay) lp.symm;let#[y,hy,n,en,n1,n2]:=LZ (p:=λy:V=>∃n:Int,y=.int n/\1<=n/\n<=1000) (a:=V.int 1) (b:=.int (1+r1)) (c:=.int (1+r2)) (d:=.int 1000) q4 q5 #[1,U,by decide,by decide] #[_,U,by omega,by omega] #[_,U,by omega,by omega] #[1000,U,by decide,by decide];subst en;apply#[p,_,_,_,U,U,.of hp8,hy,?_];have Pm:aM l H4 H8:=((b5.trans b6).trans (aM.of (aa.new hp))).trans b8;let#[Vu,EX]:=gU.some;let Mm:=Pm _ _ wb fL.symm;let GX:=ja yX Pm EX;apply#[_,U,.inl #[U,_,.of Mm],_,U,_,U,a,_,U,.inl (.of Mm),_,_,U,U,l,_,U,by show (0:Int)<(ys.length:Int)+1;omega,by show (ys.length:Int)+1<1073741824;omega,m_,λr4 H9 q6 q7 b9 il=>?_];have q7:r4<(ys.length:Int)+1:=q7;let#[xs8,hl8]:=m_.some;let Ml:=b9 _ _ Mm fL.symm;let BO:=ja GX b9 hl8;apply#[_,U,_,U,zl,λt ht=>?_];let jB:=aa.new (o:=.tup [.str x,.int n]) ht;apply#[a,r4.toNat,ys,.ref t,U,by rw[Int.toNat_of_nonneg q6],jB _ _ Ml,by omega,by omega,?_]
    have hl9:∃xs,upd H9 t (.tup [.str x,.int n]) l\.lst xs:=by
     let#[xs,e]:=il.some;exact#[xs,jB _ _ e]
    have tt:upd H9 t (.tup [.str x,.int n]) t\.tup ((kH (x,n)).map kV):=ay;have ta:t≠a:=(bG Ml ht).symm;apply#[_,_,_,_,j5 hs r4.toNat (x,n),U,?_,?_,ay,?_,?_,?_,?_,?_]
    ·intro b o e ne;rw[aA (bG e ha)];exact jB _ _ (b9 _ _ (Pm _ _ (b4 _ _ e ne) ne) ne)
    ·unfold bJ;rw[aA fL,aA (bG (il.some.choose_spec) ht)];exact il
    ·rw[Tz];exact Jl (JJ _ (BO.same jB) #[t,U,tt]) (jB _ _ Ml)
    ·intro h hh;rcases cg.mp ((CJ _ _ _).mem_iff.mp hh) with rfl|hh
     ·exact#[nx,n1,n2]
     exact good h hh
    ·apply ((CJ hs _ _).map _).nodup_iff.mpr ?_;rw[fE];exact kU.mpr #[BX,nd]
    ·rw[OM];omega
    intro _;rw[OM];omega
   apply#[_,_,_,_,hs,U,b4,gU,wb,yX,good,nd,by omega,λ_=>?_];have Vq:x∈hs.map (·.1):=⇑c
   have:=List.length_pos_of_mem Vq;rw[aq] at this;omega
  let#[h,hh,p,rfl,hp]:=uc P7 hy;apply#[_,#[p,_,_,U,.of (sm _ _ (uJ hp)),U],U,λNx hN=>eP ?_];apply#[_,U,out,dq,?_,hN _ _ #[fF sm hD,ay,?_]]
  ·rw[eo,aq,aq,dJ];omega
  rw[u_ _ hh,eJ,eo];rfl
 rintro σ H2 ⟨v3,v4,v5,ys,hs,rfl,b2,cO,tw,tu,good,nd,le,ge⟩;exact#[_,U,k a ys hs H2 b2 cO ha tw tu good nd (ge Y0) Y0]
theorem BB:bQ [gK,j4,"_law_names","_law_few",wu,"_law_k","_law_other","_law_tie"] [gK,j4] (a_ lO):=bZ
inductive NM (K:ai) (vs:af) (H:Hp) (Q:VK) (E:XK):Prop
 |mk:∀(l lh:Addr) (ys:af) (hs:Xa),vs=[.ref l,.ref lh]->bJ H l->H lh\.lst ys->bS K H ys (hs.map kH)->(∀n∈hs.map (·.1),iC n=true)->(hs.map (·.1)).Nodup->hs.length<=8->lh≠l->(∀(a:Addr) (zs:af) (ts:Xb) (H':Hp),aM l H H'->bJ H' l->H a=none->H' a\.lst zs->bS K H' zs (ts.map kT)->(∀t∈ts,wx t/\t.1∈hs.map (·.1)/\t.2∈hs.map (·.1))->(ts.map kO).Nodup->ts.length<64->Q (.ref a) H')->NM K vs H Q E
theorem _N(F:bu K "_law_ties" "_law_ties" lO f fd)(B:Bi mg)(cD:!bz 1 tT uW wO):!ak bc 2 f fd [gK,j4] (NM K):=by
 exists F.bW BB;let#[l,lh,ys,hs,rfl,st,eZ,tu,WX,nd,h8,l5,k]:=h;let sz:=cJ
 apply#[_,au (M4 (i:=2) wH 2 [] BB.nd U (Or.inl U) (d4 (pv 1)) (λfp s H=>CA (n:=2) (df (fu (i:=0) (show (wH:ag).Nodup by decide +kernel) U (Or.inl U)) (df (fu (i:=1) (show (wH:ag).Nodup by decide +kernel) U (Or.inl U)) hW)))
     (λfp s H=>jx) (λfp s H=>pv 0))
  (au (bw 3 BB.nd (br fG av (bj cD hr %[0,av|0])))
  (au (bw 4 BB.nd (eI bR))
  (au (d8 dS U (ql (by rfl) B.range %[bT gx (by rfl) B.len fN %[2|0]|0]) (bX 5 BB.nd)
   (aJ (d8 dS U (d4 (jf tW (pv 2) jd (jc (pv 5)))) (bX 6 BB.nd)
    (aJ (b_ (eO Fs (bj cD hr %[0,av|0]) (pv 3))
     (au (bw 7 BB.nd (bg fX (eI %[dA %[bg fX (pv 2) (pv 5),6|0],dA %[6,bg fX (pv 2) (pv 5)|0]|0]) (bj cD hr %[0,av|0])))
     (aJ (j8 (kQ kM PySem.F.slot_list_insert PySem.F.type_list_insert Oz (pv 4) %[bj cD hr %[0,br fG (bT gx (by rfl) B.len fN %[4|0]) av|0],7|0]))))
     cm)))))
  (aJ (bp (pv 4)))))),?_]
 apply#[_,U,lh,U,#[_,.of eZ],λln x8=>?_];apply fN_ U eZ tu Y0 x8 λH1 s1 hn1=>?_
 let ns:ag:=hs.map (·.1)
 have n8:ns.length<=8:=by show (hs.map (·.1)).length<=8;rw[aq];exact h8
 let oK:=st.same s1;apply#[_,U,l,3,U,by decide,by decide,oK,λr H2 r0 r3 b2 cO=>#[_,_,U,U,?_]];let#[Vz,fZ]:=oK.some
 have Hv:ln≠l:=λe=>by
  subst e;let#[xs,e2]:=st.some;rw[x8] at e2;cases e2
 let x6:=b2 _ _ hn1 Hv;apply#[zl,λa ha=>?_];let#[Vw,jq]:=cO.some;have fL:l≠a:=bG jq ha;have XE:ln≠a:=bG x6 ha;have s3:aa H2 (upd H2 a (.lst [])):=aa.new ha
 have Fj:H a=none:=by
  cases z:H a with
  |none=>rfl
  |some o=>
   have:=b2 _ _ (s1 _ _ z) fL.symm;rw[ha] at this;cases this
 apply#[_,U,ln,_,U,.inl (.of (s3 _ _ x6)),_,U,by show (-(2 ^ 62):Int)<=((ns.map V.str).length:Int);omega,by show (((hs.map (·.1)).map V.str).length:Int)<2 ^ 62;rw[aq,aq];omega,?_]
 let Iv:Nat->Nat->Hp->Prop:=λkk j H'=>∃zs ts,aM l H H'/\bJ H' l/\H' ln\.lst (ns.map V.str)/\H' a\.lst zs/\bS K H' zs (ts.map kT)/\TI ns kk j ts
 have le:(ns.map V.str).length=ns.length:=aq _
 apply t7 (lo:=0) (n:=((ns.map V.str).length:Int).toNat) (λi σ H'=>∃(v5 v6 v7:aI),σ=[some (.ref l),some (.ref lh),some (.ref ln),some (.int (1+r)),some (.ref a),v5,v6,v7]/\Iv i 0 H')
  #[none,none,none,U,[],[],((aM.of s1).trans b2).trans (aM.of s3),cO.same s3,s3 _ _ x6,ay,.nil,#[by simp,.nil,gN _]] ?_ ?_
 ·rintro i σ H4 hi ⟨v5,v6,v7,rfl,PY,VZ,b4,gU,LP,wb,yX,V0⟩;rw[Int.zero_add];have hi:i<ns.length:=by omega
  apply#[_,U,_,U,_,U,ln,_,U,.of LP,λp hp=>?_];rw[hV_];have s5:aa H4 (upd H4 p (.lst ((ns.take i).map V.str))):=aa.new hp
  have lp:l≠p:=by
   let#[xs,e]:=gU.some;exact bG e hp
  have pln:ln≠p:=bG LP hp;have pa:p≠a:=(bG wb hp).symm
  apply#[p,U,#[_,.of ay],ie (K:=K) (a:=p) (xs:=(ns.take i).map V.str) (λj σ H'=>∃(v6 v7:aI),σ=[some (.ref l),some (.ref lh),some (.ref ln),some (.int (1+r)),some (.ref a),some (.int i),v6,v7]/\H' p\.lst ((ns.take i).map V.str)/\Iv i j H')
   #[_,_,U,ay,PY,VZ,b4.trans (aM.of s5),gU.same s5,s5 _ _ LP,s5 _ _ wb,yX.same s5,V0] (λj σ H' _ ⟨_,_,_,q,_⟩=>.of q) ?_ ?_]
  ·rintro j y σ H6 hy ⟨v6,v7,rfl,RJ,vm,BP,b6,iN,HZ,wa,uB,uC⟩;let#[o,ho,rfl]:=qq hy
   have hj:j<i:=by
    have:=(cu.mp ho).1;rw[dJ] at this;omega
   have ho:ns[j]? = some o:=by
    rw[List.getElem?_take_of_lt hj] at ho;exact ho
   have hx:ns[i]? = some ns[i]:=aX hi
   have Fc:ib (ns.map V.str) (i:Int)\.str ns[i]:=by
    rw[cZ Y0 (by rw[aq];omega),yR,de,hx];rfl
   apply#[_,U,l,4,U,by decide,by decide,iN,λr2 H7 q0 q1 b7 gz=>#[_,U,_,_,U,U,_,U,?_]];let#[P0,AF]:=iN.some;let HY:=b7 _ _ HZ Hv;let R9:=b7 _ _ wa fL.symm;let RI:=b7 _ _ RJ lp.symm;let Ka:=ja uB b7 AF;apply bH (λc=>?_) (λc=>?_)
   ·apply#[_,U,_,U,ln,_,_,_,U,U,.of HY,Fc,_,U,zl,λt1 pQ=>?_];let s8:=aa.new (o:=.tup [.str ns[i],.str o]) pQ;apply#[_,U,_,U,_,U,ln,_,_,_,U,U,.of (s8 _ _ HY),Fc,zl,λt2 B8=>?_];let s9:=aa.new (o:=.tup [.str o,.str ns[i]]) B8;apply#[zl,λlx jN=>?_];let DM:=aa.new (o:=.lst [.ref t1,.ref t2]) jN;let s7:=(s8.trans s9).trans DM;let jB:=gz.same s7;apply#[_,U,l,2,U,by decide,by decide,jB,λr3 PM q2 q3 JS Dw=>?_]
    have Ah:lx≠l:=by
     let#[xs,e]:=(gz.same (s8.trans s9)).some;exact (bG e jN).symm
    let ES:=JS _ _ (show upd (upd (upd H7 t1 (.tup [.str ns[i],.str o])) t2 (.tup [.str o,.str ns[i]])) lx (.lst [.ref t1,.ref t2]) lx=_ from ay) Ah;let#[Vy,EZ]:=jB.some;let ED:=DM _ _ (s9 _ _ (show upd H7 t1 (.tup [.str ns[i],.str o]) t1=_ from ay));let EB:=DM _ _ (show upd (upd H7 t1 (.tup [.str ns[i],.str o])) t2 (.tup [.str o,.str ns[i]]) t2=_ from ay);let EC:=JS _ _ ED (bO ED EZ nofun);let EA:=JS _ _ EB (bO EB EZ nofun)
    have pick:∃(t:Addr) (tt:Str × Str),ib [V.ref t1,V.ref t2] r3\.ref t/\PM t\.tup ((kT tt).map kV)/\(tt=(ns[i],o)∨tt=(o,ns[i])):=by
     rcases sW (a:=V.ref t1) (b:=V.ref t2) q2 q3 with e|e
     ·exact#[t1,(ns[i],o),e,EC,.inl U]
     exact#[t2,(o,ns[i]),e,EA,.inr U]
    let#[t,tt,et,ht,etc]:=pick;apply#[lx,_,_,_,U,U,.of ES,et,?_];have t6:aM l H7 PM:=(aM.of s7).trans JS;let#[xs7,hl7]:=gz.some;let AW:=t6 _ _ R9 fL.symm;let LR:=t6 _ _ HY Hv;let LG:=t6 _ _ RI lp.symm;let Kc:=ja Ka t6 hl7;let lz:=bI uB;rw[aq] at lz;let tl:=uC.len;apply#[_,U,.inl #[U,_,.of AW],_,U,_,U,a,_,U,.inl (.of AW),_,_,U,U,l,_,U,by show (0:Int)<(vm.length:Int)+1;omega,by show (vm.length:Int)+1<1073741824;omega,Dw,λr4 H12 q4 q5 CN Kt=>?_];have q5:r4<(vm.length:Int)+1:=q5;let#[Vx,EY]:=Dw.some;let Fi:=CN _ _ AW fL.symm;let LQ:=CN _ _ LR Hv;let LF:=CN _ _ LG lp.symm;let LA:=CN _ _ ht (bO ht EY nofun);let Kb:=ja Kc CN EY;apply#[_,U,a,r4.toNat,vm,.ref t,U,by rw[Int.toNat_of_nonneg q4],Fi,by omega,by omega,?_];apply#[_,_,U,by rw[aA pa];exact LF,_,j5 BP r4.toNat tt,?_,?_,by rw[aA XE];exact LQ,ay,?_,uC.add nd hj hx ho etc _]
    ·intro b o e ne;rw[aA (bG e Fj)];exact CN _ _ (t6 _ _ (b7 _ _ (b6 _ _ e ne) ne) ne) ne
    ·unfold bJ;rw[aA fL];exact Kt
    rw[Tz];exact Jl (JJ _ Kb #[t,U,LA]) Fi
   exact#[_,_,U,RI,vm,BP,b6.trans b7,gz,HY,R9,Ka,uC.skip]
  rintro σ H6 ⟨v6,v7,rfl,RJ,vm,BP,b6,iN,HZ,wa,uB,uC⟩;rw[aq,dJ,Nat.min_eq_left Y0] at uC;exact#[_,_,_,U,vm,BP,b6,iN,HZ,wa,uB,uC.next Y0]
 rintro σ H6 ⟨v5,v6,v7,rfl,vm,BP,b6,iN,HZ,wa,uB,uC⟩;have:=uC.len;exact#[_,U,k a vm BP H6 b6 iN Fj wa uB (uC.good nd WX) uC.nd Y0]
end
end Ev
namespace HT
open PySem PySem.Spec PyProof.Rows
end HT
namespace L2
open PySem PySem.Spec PyProof.Rows
end L2
namespace Ev
open PySem L2
theorem Tx(ys:af)(k:Nat):cq ys none (some (k:Int))=ys.take k:=by
 unfold cq;rw[HT.eS,HT.d6,List.drop_zero,Nat.sub_zero];by_cases h:k<=ys.length
 ·rw[Nat.min_eq_left h]
 rw[Nat.min_eq_right Y0,u9 (a9 _),u9 Y0]
theorem Tw(ys:af)(k:Nat):cq ys (some (k:Int)) none=ys.drop k:=by
 unfold cq;rw[HT.d6,HT.eS];by_cases h:k<=ys.length
 ·rw[Nat.min_eq_left h,u9 (by rw[wX];omega)]
 rw[Nat.min_eq_right Y0,List.drop_eq_nil_of_le (a9 _),List.drop_eq_nil_of_le Y0,List.take_nil]
theorem mE{α β:Type}{F:α->β->Prop}:∀{ys PZ:List α} {ks iW:List β},Paired F ys ks->Paired F PZ iW->Paired F (ys++PZ) (ks++iW)
 |_,_,_,_,.nil,h=>h
 |_,_,_,_,.cons a t,h=>.cons a (mE t h)
theorem E5{α:Type}{p:α->Prop}{a b c:α}{r:Int}(h0:0<=r)(h1:r<3)(ha:p a)(hb:p b)(hc:p c):∃x,ib [a,b,c] r\x/\p x:=by
 have:r=0∨r=1∨r=2:=by omega
 rcases this with rfl|rfl|rfl
 ·exact#[_,U,ha]
 ·exact#[_,U,hb]
 exact#[_,U,hc]
structure FS (ts ws:Xb):Prop where
 good:∀w∈ws,wx w
 nd:(ws.map kO).Nodup
 hZ:∀w∈ws,kO w∈ts.map kO
 len:ws.length<=ts.length
theorem YX{ts us ws:Xb}(good:∀t∈ts,wx t)(nd:(ts.map kO).Nodup)(sub:us.Sublist ts)(p:Paired (λw u=>w=u∨w=(u.2,u.1)) ws us):FS ts ws:=by
 have e:ws.map kO=us.map kO:=by
  clear sub
  induction p with
  |nil=>rfl
  |cons h _ ih=>
   rw[fE,fE,ih];rcases h with rfl|rfl
   ·rfl
   exact eW (·::_) (YU _ _)
 apply#[λw hw=>?_,?_,λw hw=>?_,?_]
 ·let#[i,hi,ew]:=gB hw;let hl:=bI p;let q:=dO p i hi Y0;rw[ew] at q;let g:=good _ (sub.subset (j_ (show i<us.length by omega)));rcases q with q|q
  ·rw[q];exact g
  rw[q];exact#[g.2.1,g.1,g.2.2.symm]
 ·rw[e];exact (sub.map kO).nodup nd
 ·have:kO w∈ws.map kO:=bx.mpr #[w,hw,U];rw[e] at this;exact (sub.map kO).subset this
 rw[bI p];exact sub.length_le
def cw(K:ai)(H:Hp)(v:V):Option (Xb)->Prop
 |none=>v=.non
 |some ws=>∃a ys,v=.ref a/\H a\.lst ys/\bS K H ys (ws.map kT)
variable{K:ai}{H H':Hp}{v:V}{o:Option (Xb)}
theorem cw.same(h:cw K H v o)(s:aa H H'):cw K H' v o:=by
 cases o with
 |none=>exact h
 |some ws=>
  let#[a,ys,e,ha,t]:=h;exact#[a,ys,e,s _ _ ha,t.same s]
abbrev Pc:=Str × Int × Option (Xb)
def iG(K:ai)(H:Hp)(y:V)(p:Pc):Prop:=∃t v,y=.ref t/\H t\.tup [.str p.1,.int p.2.1,v]/\cw K H v p.2.2
abbrev j3(K:ai)(H:Hp)(ys:af)(ps:List Pc):Prop:=Paired (iG K H) ys ps
structure kr (ts:Xb) (p:Pc):Prop where
 nm:iC p.1=true
 w1:1<=p.2.1
 w2:p.2.1<=1000000000
 ws:∀ws,p.2.2\ws->FS ts ws
variable{l:Addr}
theorem ZL{a:Addr}{ys:af}{ks:List aD}(t:bS K H ys ks)(ha:H a\.lst ys)(st:bJ H l):a≠l:=λe=>by
 subst e;rcases st with⟨n,e⟩|⟨n,m,c,e⟩
 all_goals
  rw[ha] at e;have e:ys=_:=HO.lst.inj (dN e);subst e;cases t with
  |cons h _=>
   let#[b,z,_]:=h;cases z
theorem cw.but(h:cw K H v o)(b:aM l H H')(st:bJ H l):cw K H' v o:=by
 cases o with
 |none=>exact h
 |some ws=>
  let#[a,ys,e,ha,t]:=h;let#[xs,hl]:=st.some;exact#[a,ys,e,b _ _ ha (ZL t ha st),ja t b hl]
variable{y:V}{p:Pc}
theorem iG.but(h:iG K H y p)(b:aM l H H')(st:bJ H l):iG K H' y p:=by
 let#[t,v,e,ht,hv]:=h;let#[xs,hl]:=st.some;exact#[t,v,e,b _ _ ht (bO ht hl nofun),hv.but b st]
theorem iG.same(h:iG K H y p)(s:aa H H'):iG K H' y p:=by
 let#[t,v,e,ht,hv]:=h;exact#[t,v,e,s _ _ ht,hv.same s]
theorem cw.put{D:Addr}{xs:af}{u:HO}(h:cw K H v o)(hD:H D\.lst xs)(ne:v≠.ref D):cw K (upd H D u) v o:=by
 cases o with
 |none=>exact h
 |some ws=>
  let#[a,ys,e,ha,t]:=h;subst e;exact#[a,ys,U,by rw[aA λz=>ne (by rw[z])];exact ha,Jl t hD]
end Ev
abbrev aV:=List Ev.Pc
namespace Ev
open PySem L2
def jg(K:ai)(H:Hp)(v:V):Option Str->Prop
 |some x=>v=.str x
 |none=>∃t,dC K H v t/\PySem.W.kitOne K t (.type "str")\false
def xV(ns:ag):Option Str->Bool
 |some x=>decide (x∈ns)
 |none=>false
def Cu(hs:Xa)(ts:Xb):Option Str->Option Str->Bool
 |some x,some y=>decide (x∈hs.map (·.1))&&(decide (y∈hs.map (·.1))&&decide (y∈near (aU hs) (bV ts) x))
 |_,_=>false
theorem Oo(hs:Xa)(ts:Xb)(x y:Str):Cu hs ts (some x) (some y)=(decide (x∈hs.map (·.1))&&(decide (y∈hs.map (·.1))&&decide (y∈near (aU hs) (bV ts) x))):=rfl
variable{f:Addr}{fd:Ae}
variable{H' H0:Hp}
variable{D:Addr}{u:HO}{v:V}{o:Option (Xb)}
section v
inductive IL (K:ai) (C:Addr) (vs:af) (H:Hp) (Q:VK) (E:XK):Prop
 |mk:∀(p:Addr) (v:V) (x:Option Str) (hs:Xa) (ts:Xb) (fp:aw),vs=[.ref p,v]->hU K C H p hs ts fp->jg K H v x->Q (.bl (xV (hs.map (·.1)) x)) H->IL K C vs H Q E
theorem YZ{C:Addr}(F:bu K "has_hand" "Web.has_hand" vG f fd)(T:Txt K mg C)(B:Bi mg):!ak bc 1 f fd mq (IL K C):=by
 exists F.bW xB;let#[p,v,x,hs,ts,fp,rfl,W,sv,k]:=h;let hu:=fP hr;let#[dx,d1,l2,d3,zs,as,rfl,h1,h2,h3,h4,h5,h6,h7]:=W.ex;apply#[_,aJ (bp (oq (bT gL (by rfl) B.gA gE %[1,gM (v:=.ty "str") (by rfl) B.str Im U|0]) (ph (Ir (Bo hu (pv 1) (i_ (pv 0) U)))))),?_];cases x with
 |some x=>
  cases (show v=.str x from sv);apply#[_,U,_,_,_,_,U,.str x,U,_,U,bN ?_];apply#[_,U,_,U,p,C,dx,_,_,U,h1,T.cl,T.nS,IB _ _ _,d1,_,U,.k (k:=Sum.inr x) h2,?_];rw[Jf];exact k
 |none=>
  let#[t,ty,e]:=sv;exact#[_,U,_,_,_,_,U,ty,e,_,U,aF k]
inductive I0 (K:ai) (C:Addr) (vs:af) (H:Hp) (Q:VK) (E:XK):Prop
 |mk:∀(p:Addr) (v u:V) (x y:Option Str) (hs:Xa) (ts:Xb) (fp:aw),vs=[.ref p,v,u]->hU K C H p hs ts fp->(aU hs).Nodup->jg K H v x->jg K H u y->Q (.bl (Cu hs ts x y)) H->I0 K C vs H Q E
theorem _R{C:Addr}(F:bu K "are_tied" "Web.are_tied" rB f fd)(T:Txt K mg C)(cH:!bY C 1 "has_hand" mq (IL K C)):!ak bc 2 f fd kg (I0 K C):=by
 exists F.bW zr;let#[p,v,u,x,y,hs,ts,fp,rfl,W,nd,sv,su,k]:=h;let hu:=fP hr;let#[dx,d1,l2,d3,zs,as,rfl,h1,h2,h3,h4,h5,h6,h7]:=id W.ex;have kI:(fi d1 l2 d3).lookup ("has_hand":Str)=none:=pB _ _ _ Z0 Z0 Z0;apply#[_,aJ (bp (oq (j1 cH T.cl hr (pv 0) %[1|0]) (oq (j1 cH T.cl hr (pv 0) %[2|0]) (ph (wN (Iu gJ (kR hr 0)) (pv 2) (j7 hu (i_ (pv 0) U) (pv 1)) (by with_unfolding_all rfl)))))),?_];apply#[_,U,p,dx,_,U,h1,kI,_,U,p,v,x,hs,ts,_,U,W,sv,_,U,?_];cases x with
 |none=>exact aF k
 |some x=>
  cases (show v=.str x from sv);apply bH (λc=>?_) (λc=>?_)
  ·have hx:x∈hs.map (·.1):=tP c;let#[a,e1,ha]:=Ra nd hx h6 h7;apply#[_,U,p,dx,_,U,h1,kI,_,U,p,u,y,hs,ts,_,U,W,su,_,U,?_];cases y with
   |none=>exact aF k
   |some y=>
    cases (show u=.str y from su);rw[Oo,c_ hx,Bool.true_and] at k;apply bH (λc2=>?_) (λc2=>?_)
    ·have hy:y∈hs.map (·.1):=tP c2;rw[c_ hy,Bool.true_and] at k;apply#[_,U,_,U,p,C,dx,_,_,U,h1,T.cl,T.nN,Q3 _ _ _,_,U,d3,.ref a,U,?_,y,_,U,#[a,_,U,.of ha,NN _],k];rw[<- e1];exact .k (k:=Sum.inr x) h5
    have hy:¬y∈hs.map (·.1):=λz=>c2 (c_ z);rw[fO hy,Bool.false_and] at k;exact k
  have hx:¬x∈hs.map (·.1):=λz=>c (c_ z);cases y with
  |none=>exact k
  |some y=>
   rw[Oo,fO hx,Bool.false_and] at k;exact k
theorem _w{hs:Xa}{ts ws:Xb}(G:Good hs ts)(W:FS ts ws){t:Str × Str}(ht:t∈bV ws):Cu hs ts (some t.1) (some t.2)=true:=by
 let#[x,hx,ex]:=O0.mp ht;let#[u,hu,eu]:=bx.mp (W.hZ x hx);have eo:aN u.1 u.2=t:=(IT eu).trans ex
 have both:t.1∈hs.map (·.1)/\t.2∈hs.map (·.1)/\aN t.1 t.2=t:=by
  let#[g1,g2]:=G.yZ u hu;rcases IY u.1 u.2 with e|e
  ·rw[<- eo,e];exact#[g1,g2,e]
  rw[<- eo,e];exact#[g2,g1,(OI _ _).trans e]
 let#[m1,m2,m3]:=both;have m4:t.2∈near (aU hs) (bV ts) t.1:=t_.mpr #[(gv hs).mem_iff.mpr m2,c_ (by rw[m3];exact O0.mpr #[u,hu,eo])];rw[Oo,c_ m1,c_ m2,c_ m4];rfl
theorem Ja:bQ ["web","ways","found","one","other"] ["web","ways"] (a_ lW):=bZ
inductive NJ (K:ai) (C:Addr) (vs:af) (H:Hp) (Q:VK) (E:XK):Prop
 |mk:∀(p:Addr) (v:V) (o:Option (Xb)) (hs:Xa) (ts:Xb) (fp:aw),vs=[.ref p,v]->hU K C H p hs ts fp->Good hs ts->cw K H v o->(∀ws,o\ws->FS ts ws)->(∀v' H',aa H H'->cw K H' v' (o.map bV)->(∀a,v'=.ref a->H a=none)->Q v' H')->NJ K C vs H Q E
theorem hZ_{C:Addr}(F:bu K "checked_ways" "checked_ways" lW f fd)(T:Txt K mg C)(cS:!bz 3 "sorted_ties" ["ties"] (Nc K))(cT:!bY C 2 "are_tied" kg (I0 K C)):!ak bc 4 f fd ["web","ways"] (NJ K C):=by
 exists F.bW Ja;let#[p,v,o,hs,ts,fp,rfl,W,G,wy,gw,k]:=h;let hu:=fP hr;have B_:aY 2 _:=hr.mono (by decide)
 apply#[_,au (b_ (qj (Iz (pv 1))) (aJ (bp ou)) cm)
  (au (bw 2 Ja.nd (bj cS hr %[1|0]))
  (au (b_ (qj (Iz (pv 2))) gC cm)
  (au (d8 dS U (d4 (pv 2)) (ju U (df (bX 3 Ja.nd) (df (bX 4 Ja.nd) hW)))
   (aJ (b_ (eK (d0 (j1 cT T.cl B_ (pv 0) %[3,4|0]))) gC cm)))
  (aJ (bp (pv 2)))))),?_]
 cases o with
 |none=>
  cases (show v=.non from wy);exact#[_,U,_,U,bN (k .non H (aa.refl H) U (λa z=>by cases z))]
 |some ws=>
  let#[a,ys,rfl,ha,tu]:=wy;let Wo:=gw ws U;apply#[_,U,_,U,aF ?_];apply#[_,U,a,ys,ws,U,ha,tu,Wo.good,Wo.nd,by have:=Wo.len;have:=G.xu;omega,λl' zs H1 s1 hf fZ tz=>?_];apply#[_,U,_,U,aF ?_];let W1:=W.same s1;let#[dx,d1,l2,d3,xc,as,rfl,h1,h2,h3,h4,h5,h6,h7]:=id W1.ex;have kI:(fi d1 l2 d3).lookup ("are_tied":Str)=none:=pB _ _ _ Z0 Z0 Z0;rw[<- OJ] at tz;apply#[_,U,l',U,#[_,.of fZ],ie (K:=K) (a:=l') (xs:=zs) (λi σ H2=>∃(v3 v4:aI),σ=[some (.ref p),some (.ref a),some (.ref l'),v3,v4]/\H2=H1) #[none,none,U,U] (λi σ H2 _ ⟨_,_,_,e⟩=>by subst e;exact .of fZ) ?_ ?_]
  ·rintro i y σ H2 hy ⟨v3,v4,rfl,rfl⟩;let#[t,ht,q,rfl,hq]:=uc tz hy;apply#[q,_,U,.of (HV hq),U,_,_,U,_,_,U,U,?_];apply#[_,U,p,dx,_,U,h1,kI,_,U,_,U,p,_,_,some t.1,some t.2,hs,ts,_,U,W1,G.iT,U,U,_,U,?_];rw[_w G Wo (cB ht)];apply aF ?_;exact#[_,_,U,U]
  rintro σ H2 ⟨v3,v4,rfl,rfl⟩;exact#[_,U,k (.ref l') _ s1 #[l',zs,U,fZ,tz] (λc z=>by cases z;exact hf)]
def pM(p:Pc):Pc:=(p.1,p.2.1,p.2.2.map bV)
def pY(K:ai)(H0 H:Hp)(y:V)(p:Pc):Prop:=∃t v,y=.ref t/\H t\.tup [.str p.1,.int p.2.1,v]/\cw K H v p.2.2/\∀a,v=.ref a->H0 a=none
theorem pY.same{K:ai}{H:Hp}{y:V}{p:Pc}(h:pY K H0 H y p)(s:aa H H'):pY K H0 H' y p:=by
 let#[t,v,e,ht,hv,hn]:=h;exact#[t,v,e,s _ _ ht,hv.same s,hn]
theorem cw.up{K:ai}{H:Hp}(h:cw K H v o)(n1:∀xs,H D≠some (.lst xs))(n2:∀xs,H D≠some (.tup xs)):cw K (upd H D u) v o:=by
 cases o with
 |none=>exact h
 |some ws=>
  let#[a,ys,e,ha,t]:=h;exact#[a,ys,e,by rw[aA (λz:a=D=>n1 ys (z▸ha))];exact ha,Paired.aQ t λy k ⟨b,z,q⟩=>#[b,z,by rw[aA (λz:b=D=>n2 _ (z▸q))];exact q]]
theorem pY.up{K:ai}{H:Hp}{y:V}{p:Pc}(h:pY K H0 H y p)(n1:∀xs,H D≠some (.lst xs))(n2:∀xs,H D≠some (.tup xs)):pY K H0 (upd H D u) y p:=by
 let#[t,v,e,ht,hv,hn]:=h;exact#[t,v,e,by rw[aA (λz:t=D=>n2 _ (z▸ht))];exact ht,hv.up n1 n2,hn]
theorem M8{ps:aV}{cs:af}(nd:(ps.map (·.1)).Nodup)(hl:cs.length=ps.length):∀{j:Nat} {q:Pc} {c:V},ps[j]? = some q->cs[j]? = some c->aZ ((ps.zip cs).map λq=>((Sum.inr q.1.1:Key),q.2)) (Sum.inr q.1)\c:=by
 induction ps generalizing cs with
 |nil=>
  intro j q c h;simp at h
 |cons p ps ih=>
  intro j q c h1 h2;cases cs with
  |nil=>cases hl
  |cons b cs=>
   rw[fE] at nd;let#[n1,n2]:=kU.mp nd;cases j with
   |zero=>
    have e1:p=q:=⇑h1
    have e2:b=c:=⇑h2
    subst e1 e2;exact yI U
   |succ j=>
    have h1:ps[j]? = some q:=⇑h1
    have h2:cs[j]? = some c:=⇑h2
    show aZ ((Sum.inr p.1,b)::((ps.zip cs).map λq=>((Sum.inr q.1.1:Key),q.2))) (Sum.inr q.1)=_;rw[yJ λe=>n1 (by rw[show p.1=q.1 from iB e];exact bx.mpr #[q,cB h1,U])];exact ih n2 ⇑hl h1 h2
theorem rp:bQ ["web","piece"] ["web","piece"] (a_ MU):=bZ
inductive Nh (K:ai) (C:Addr) (vs:af) (H:Hp) (Q:VK) (E:XK):Prop
 |mk:∀(p:Addr) (y:V) (q:Pc) (hs:Xa) (ts:Xb) (fp:aw),vs=[.ref p,y]->hU K C H p hs ts fp->Good hs ts->iG K H y q->kr ts q->(∀y' H',aa H H'->pY K H H' y' (pM q)->Q y' H')->Nh K C vs H Q E
theorem gC_{C:Addr}(F:bu K "checked_piece" "checked_piece" MU f fd)(B:Bi mg)(cN:!bz 1 "is_name" fM IG)(cW:!bz 2 "is_whole_within" yB I_)(cC:!bz 4 "checked_ways" ["web","ways"] (NJ K C)){tk:Tok}(mW:mg "MOST_WEIGHT"\.int 1000000000 tk) :
  ak P w K mg base bc 5 f fd ["web","piece"] (Nh K C):=by
 exists F.bW rp;let#[p,y,q,hs,ts,fp,rfl,W,G,#[t,v,rfl,ht,wy],gp,k]:=h
 apply#[_,au (b_ (iK (eK (d0 (bT gL (by rfl) B.gA gE %[1,gM (v:=.ty "tuple") (by rfl) B.tuple oA U|0])))
   (jY (eO om (bT gx (by rfl) B.len fN %[1|0]) av))).pt gC cm)
  (au (b_ (eK (d0 (bj cN hr %[bg cj (pv 1) av|0]))) gC cm)
  (au (b_ (eK (d0 (bj cW hr %[bg cj (pv 1) av,av,CB (v:=.int 1000000000) (by rfl) mW #[tk,U]|0]))) gC cm)
  (aJ (bp (dA %[bg cj (pv 1) av,bg cj (pv 1) av,bj cC hr %[0,bg cj (pv 1) av|0]|0]))))),?_]
 apply#[_,U,_,_,_,_,U,.tup ht,U,_,U,aF ?_];apply#[_,U,t,_,U,.inr (.of ht),U,_,U,?_];apply A9 (show V.int ((3:Nat):Int)=V.int 3 from U) ?_;apply#[_,U,t,_,_,_,U,U,.of ht,U,q.1,U,by have:=JF gp.nm;omega,λH1 s1=>#[_,U,?_]];rw[gp.nm];apply aF ?_;let pQ:=s1 _ _ ht;apply#[_,U,t,_,_,_,U,U,.of pQ,U,q.2.1,1,1000000000,U,_,U,?_];rw[c_ gp.w1,c_ gp.w2];apply aF ?_;apply#[_,U,t,_,_,_,U,U,.of pQ,U,_,U,t,_,_,_,U,U,.of pQ,U,_,U,_,U,t,_,_,_,U,U,.of pQ,U,p,v,q.2.2,hs,ts,fp,U,W.same s1,G,wy.same s1,gp.ws,λv' H2 s2 VB hf=>?_];apply#[zl,λt' h_=>?_];exact k (.ref t') _ (s1.trans (s2.trans (aa.new h_))) #[t',v',U,ay,VB.same (aa.new h_),λa z=>s1.free (hf a z)]
theorem JR:bQ ["web","pieces","found","piece","checked"] ["web","pieces"] (a_ OF):=bZ
structure Qs (ps qs:aV):Prop where
 vM:qs.map (·.1)=iE (ps.map (·.1))
 mem:∀q∈qs,∃p∈ps,q=pM p
inductive OW (K:ai) (C:Addr) (vs:af) (H:Hp) (Q:VK) (E:XK):Prop
 |mk:∀(p l:Addr) (ys:af) (ps:aV) (hs:Xa) (ts:Xb) (fp:aw),vs=[.ref p,.ref l]->hU K C H p hs ts fp->Good hs ts->H l\.lst ys->j3 K H ys ps->(∀q∈ps,kr ts q)->(ps.map (·.1)).Nodup->ps.length<64->(∀l' zs qs H',aa H H'->H' l'\.lst zs->Paired (pY K H H') zs qs->Qs ps qs->Q (.ref l') H')->OW K C vs H Q E
theorem aB{H:Hp}{a:Addr}{o:HO}(n:H a=none):aa H (upd H a o)/\upd H a o a\o:=⟨aa.new n,ay⟩
theorem fM_{C:Addr}(F:bu K "checked_pieces" "checked_pieces" OF f fd)(B:Bi mg)(cP:!bz 5 "checked_piece" ["web","piece"] (Nh K C)):!ak bc 6 f fd ["web","pieces"] (OW K C):=by
 exists F.bW JR;let#[p,l,ys,ps,hs,ts,fp,rfl,W,G,hl,pc,gp,nd,cQ,k]:=h;let hu:=fP hr;let sz:=cJ;let le:=bI pc
 apply#[_,au (b_ (eK (d0 (bT gL (by rfl) B.gA gE %[1,gM (v:=.ty "list") (by rfl) B.list qe U|0]))) gC cm)
  (au (bw 2 JR.nd Gu)
  (au (d8 dS U (d4 (pv 1)) (bX 3 JR.nd)
   (au (bw 4 JR.nd (bj cP hr %[0,3|0]))
   (au (b_ (qj (Bo hu (bg cj (pv 4) av) (pv 2))) gC cm)
   (aJ (u4 hu (pv 2) (bg cj (pv 4) av) (pv 4) U)))))
  (aJ (bp (jb ["name","found"] 1 [2] (d4 (bT (eB_ U) (by rfl) B.sorted Jz %[2|0])) (λfp s H=>fu (i:=0) (show (["name","found"]:ag).Nodup by decide +kernel) U (Or.inl U)) (λfp s H=>jx)
   (λfp s H=>j7 hu (pv 1) (pv 0))))))),?_]
 apply#[_,U,_,_,_,_,U,.lst hl,U,_,U,aF ?_];intro d hd;have s0:aa H (upd H d (.dK [])):=aa.new hd;apply#[_,U,l,U,#[_,.of (s0 _ _ hl)],ie (K:=K) (a:=l) (xs:=ys) (λi σ H2=>∃(v3 v4:aI) (cs:af),σ=[some (.ref p),some (.ref l),some (.ref d),v3,v4]/\aa H H2/\Paired (pY K H H2) cs ((ps.take i).map pM)/\H2 d\.dK (((ps.take i).zip cs).map λq=>(Sum.inr q.1.1,q.2))) #[none,none,[],U,s0,.nil,ay] (λi σ H2 _ ⟨_,_,_,_,s2,_⟩=>.of (s2 _ _ hl)) ?_ ?_]
 ·rintro i y σ H2 hy ⟨v3,v4,cs,rfl,s2,pn,hd2⟩;have hi:i<ys.length:=(cu.mp hy).1;have hq:ps[i]? = some (ps[i]' Y0):=aX Y0;let py:=dO pc i hi Y0;rw[(cu.mp hy).2] at py;generalize ps[i]' Y0=q at hq py;apply#[_,U,_,U,p,y,q,hs,ts,fp,U,W.same s2,G,py.same s2,gp q (cB hq),λy' H3 s3 pw=>?_];let#[t,v,rfl,ht,wy,hf]:=pw;let l6:=s3 _ _ hd2;let lc:=bI pn;rw[aq,dJ] at lc
  have keys:((((ps.take i).zip cs).map λq=>((Sum.inr q.1.1:Key),q.2)).map (·.1))=((ps.take i).map (·.1)).map Sum.inr:=by
   rw[cy];have:((λx:Key × V=>x.1) ∘ λq:Pc × V=>((Sum.inr q.1.1:Key),q.2))=(λp:Pc=>(Sum.inr p.1:Key)) ∘ Prod.fst:=rfl;rw[this,<- cy,List.map_fst_zip (by rw[dJ];omega),cy];rfl
  have uE:aZ (((ps.take i).zip cs).map λq=>((Sum.inr q.1.1:Key),q.2)) (Sum.inr q.1)=none:=u7 (by
   rw[keys];intro m;let#[x,hx,e]:=bx.mp m;cases e;exact Gw (g:=λp:Pc=>p.1) nd hq hx)
  apply#[_,U,t,_,_,_,U,U,.of ht,U,_,U,d,_,U,.k (k:=Sum.inr q.1) l6,_,U,?_];rw[uE];apply aF ?_;apply#[_,U,_,U,_,U,t,_,_,_,U,U,.of ht,U,d,_,U,.k (k:=Sum.inr q.1) l6 (by rw[aq,List.length_zip,dJ];omega),?_];let Wn:=s2.trans s3;have n1:∀xs,H3 d≠some (.lst xs):=λxs z=>by rw[l6] at z;cases z
  have n2:∀xs,H3 d≠some (.tup xs):=λxs z=>by rw[l6] at z;cases z
  apply#[_,_,cs++[.ref t],U,λc o e=>?_,?_,?_]
  ·rw[aA (bG e hd)];exact Wn _ _ e
  ·rw[ua,hq,eJ];exact mE (Paired.aQ pn λy q h=>(h.same s3).up n1 n2) (.cons (pY.up #[t,v,U,ht,wy,λa z=>s2.free (hf a z)] n1 n2) .nil)
  rw[ay,yK _ uE,ua,hq,List.zip_append (by rw[dJ];omega),eJ];rfl
 rintro σ H2 ⟨v3,v4,cs,rfl,s2,pn,hd2⟩;rw[le,d9] at pn hd2;let lc:=bI pn;rw[aq] at lc
 have keys:(((ps.zip cs).map λq=>((Sum.inr q.1.1:Key),q.2)).map (·.1))=(ps.map (·.1)).map Sum.inr:=by
  rw[cy];have:((λx:Key × V=>x.1) ∘ λq:Pc × V=>((Sum.inr q.1.1:Key),q.2))=(λp:Pc=>(Sum.inr p.1:Key)) ∘ Prod.fst:=rfl;rw[this,<- cy,List.map_fst_zip Y0,cy];rfl
 apply#[_,U,d,_,ps.map (·.1),U,hd2,keys,by rw[aq];exact cQ,λls LS=>?_];let#[s3,AG]:=aB (o:=.lst ((iE (ps.map (·.1))).map V.str)) LS;apply#[ls,U,#[_,.of AG],λD hD=>?_];generalize upd H2 ls (.lst ((iE (ps.map (·.1))).map V.str))=H3 at s3 AG hD ⊢;have XB:(iE (ps.map (·.1))).length=ps.length:=by rw[(Gx _).length_eq,aq]
 apply j9 (own:=1) (fv:=[some (.ref d)]) (xs:=(iE (ps.map (·.1))).map V.str) U fg (λi out H'=>∃qs:aV,aa H3 H'/\H' D\.lst out/\Paired (pY K H H2) out qs/\qs.map (·.1)=(iE (ps.map (·.1))).take i/\∀q∈qs,∃p∈ps,q=pM p) #[[],aa.new hD,ay,.nil,U,by simp] (λi out H' _ ⟨_,sm,_⟩=>.of (sm _ _ AG)) (λzs H4 ⟨qs,s4,tE,pq,en,mem⟩=>?_) (λi x out H' hx ⟨qs,sm,dq,pq,en,mem⟩=>?_)
 ·rw[aq,d9] at en;exact k D zs qs H4 (s2.trans (s3.trans s4)) tE (Paired.aQ pq λy q h=>h.same (s3.trans s4)) #[en,mem]
 let#[n,hn,rfl]:=qq hx;have hm:n∈ps.map (·.1):=(Gx _).mem_iff.mp (cB hn);let#[q,hq,eq]:=bx.mp hm;let#[j,hj,ej]:=gB hq;have hqj:ps[j]? = some q:=by rw[aX hj,ej]
 have R0:cs[j]? = some (cs[j]' Y0):=aX Y0;let hv:=M8 nd lc hqj R0;let pj:=dO pn j Y0 (by rw[aq];omega);rw[w6,ej] at pj;generalize cs[j]' Y0=c at R0 hv pj;rw[eq] at hv;let lo:=bI pq;let lq:=eW List.length en;rw[aq,dJ] at lq;have hi:i<(iE (ps.map (·.1))).length:=(cu.mp hn).1;apply#[_,U,U,λNx hN=>eP ?_];apply#[_,U,_,U,d,c,U,?_,out,dq,by omega,hN _ _ #[qs++[pM q],fF sm hD,ay,?_,?_,?_]]
 ·rw[<- hv];exact .k (k:=Sum.inr n) (sm _ _ (s3 _ _ hd2))
 ·exact mE pq (.cons pj .nil)
 ·rw[eJ,en,ua,hn,<- eq];rfl
 intro q' hq';rcases dB.mp hq' with hq'|hq'
 ·exact mem q' hq'
 obtain rfl:q'=pM q:=⇑hq'
 exact#[q,hq,U]
end
abbrev lT:Stmt:=pA FT 0
abbrev rT:Stmt:=pA FT 1
abbrev MT:Stmt:=pA FT 2
abbrev Nb:Stmt:=pA FT 3
abbrev rR:Stmt:=pA FT 5
def dc(p dw dy:Addr):List (Str × V):=aP Ba (.ref dy) (aP p_ (.ref dw) (aP "web" (.ref p) []))
theorem g12:¬(("web":Str)=p_):=by decide +kernel
theorem g13:¬(("web":Str)=Ba):=by decide +kernel
theorem g23:¬((p_:Str)=Ba):=by decide +kernel
theorem yM(p dw dy:Addr):(dc p dw dy).lookup ("web":Str)\.ref p:=by
 unfold dc;rw[gT,aC g13,gT,aC g12,gT,aK U]
theorem M3(p dw dy:Addr):(dc p dw dy).lookup (p_:Str)\.ref dw:=by
 unfold dc;rw[gT,aC g23,gT,aK U]
theorem Y7(p dw dy:Addr):(dc p dw dy).lookup (Ba:Str)\.ref dy:=by
 unfold dc;rw[gT,aK U]
theorem wL(p dw dy:Addr){m:Str}(h1:¬m="web")(h2:¬m=p_)(h3:¬m=Ba):(dc p dw dy).lookup m=none:=by
 unfold dc;rw[gT,aC h3,gT,aC h2,gT,aC h1]
 all_goals rfl
def kX(qs:aV):List (Key × V):=qs.map λq=>(Sum.inr q.1,V.int q.2.1)
def vq(qs:aV)(vs:af):List (Key × V):=(qs.zip vs).map λx=>(Sum.inr x.1.1,x.2)
theorem S3(qs:aV):(kX qs).map (·.1)=(qs.map (·.1)).map Sum.inr:=by
 unfold kX;rw[cy,cy];rfl
variable{qs:aV}
theorem _s{vs:af}(h:vs.length=qs.length):(vq qs vs).map (·.1)=(qs.map (·.1)).map Sum.inr:=by
 unfold vq;rw[cy];have:((λx:Key × V=>x.1) ∘ λq:Pc × V=>((Sum.inr q.1.1:Key),q.2))=(λp:Pc=>(Sum.inr p.1:Key)) ∘ Prod.fst:=rfl;rw[this,<- cy,List.map_fst_zip Y0,cy];rfl
structure gq (K:ai) (CG CW:Addr) (H:Hp) (g p:Addr) (hs:Xa) (ts:Xb) (qs:aV) (fp:aw):Prop where
 ex:∃(dx dw dy:Addr) (vs:af) (dz:aw),H g\.ins CG dx (dc p dw dy)/\hU K CW H p hs ts dz/\H dw\.dK (kX qs)/\H dy\.dK (vq qs vs)/\Paired (λv (q:Pc)=>cw K H v q.2.2) vs qs /\
  g∈fp/\dw∈fp/\dy∈fp/\(∀b∈dz,b∈fp)/\∀v∈vs,∀a,v=.ref a->a∈fp
theorem O4{α β:Type}{F G:α->β->Prop}:∀{l:List α} {m:List β},Paired F l m->(∀a∈l,∀b,F a b->G a b)->Paired G l m
 |_,_,.nil,_=>.nil
 |_,_,.cons h t,f=>.cons (f _ fY _ h) (O4 t λa ha=>f a (fo _ ha))
theorem cw.keep{K:ai}{H:Hp}(h:cw K H v o)(k:∀a,v=.ref a->∀u,H a\u->H' a\u)(kt:∀b xs,H b\.tup xs->H' b\.tup xs):cw K H' v o:=by
 cases o with
 |none=>exact h
 |some ws=>
  let#[a,ys,e,ha,t]:=h;exact#[a,ys,e,k a e _ ha,Paired.aQ t λy q ⟨b,z,hb⟩=>#[b,z,kt _ _ hb]]
variable{fp:aw}
theorem gq.keep{K:ai}{CG CW:Addr}{H:Hp}{g p:Addr}{hs:Xa}{ts:Xb}(G:gq K CG CW H g p hs ts qs fp)(k:∀b∈fp,∀o,H b\o->H' b\o)(kt:∀b xs,H b\.tup xs->H' b\.tup xs):gq K CG CW H' g p hs ts qs fp:=by
 let#[dx,dw,dy,vs,dz,h1,h2,h3,h4,h5,m1,m2,m3,m4,m5]:=G.ex;exact#[dx,dw,dy,vs,dz,k _ m1 _ h1,h2.keep (λb hb o e=>k b (m4 b hb) o e) kt,k _ m2 _ h3,k _ m3 _ h4,O4 h5 λv hv q h=>h.keep (λa z u e=>k a (m5 v hv a z) u e) kt,m1,m2,m3,m4,m5]
theorem gq.same{K:ai}{CG CW:Addr}{H:Hp}{g p:Addr}{hs:Xa}{ts:Xb}(G:gq K CG CW H g p hs ts qs fp)(s:aa H H'):gq K CG CW H' g p hs ts qs fp:=G.keep (λb _ o e=>s b o e) λb xs e=>s b _ e
structure gy (K:ai) (CG:Addr):Prop where
 cl:mP K CG
 nW:mh K CG "web"
 nG:mh K CG p_
 nY:mh K CG Ba
structure GQ (K:ai) (C:Addr):Prop where
 ha:PySem.W.findIn K (.ref C) "__class__"\some (.builtin "object.__class__")
 hn:PySem.W.specialIn K (.builtin "object.__class__") "__get__"\some (.builtin "getset_descriptor.__get__")
 tk:PySem.W.takesIn K (.builtin "object.__class__")\true
 mo:PySem.W.mroIn K C (.type "object")\true
theorem _T(K:ai)(c:Aa):PySem.W.kitOne K c c\true:=by
 unfold PySem.W.kitOne;rw[aK (beq_self_eq_true c)]
theorem SK{K:ai}{H0 H:Hp}:∀{zs:af} {qs:aV},Paired (pY K H0 H) zs qs->∃vs:af,vs.length=qs.length/\Paired (λz (x:Pc × V)=>∃t,z=.ref t/\H t\.tup [.str x.1.1,.int x.1.2.1,x.2]) zs (qs.zip vs)/\Paired (λv (q:Pc)=>cw K H v q.2.2) vs qs/\∀v∈vs,∀a,v=.ref a->H0 a=none
 |_,_,.nil=>#[[],U,.nil,.nil,by simp]
 |_,_,.cons ⟨t,v,e,ht,wy,hn⟩ r=>by
  let#[vs,h1,h2,h3,h4]:=SK r;apply#[v::vs,by simp[h1],.cons #[t,e,ht] h2,.cons wy h3,λu hu=>?_];rcases cg.mp hu with rfl|hu
  ·exact hn
  exact h4 u hu
theorem S8{K:ai}{l:Addr}{zs:af}{xs:List (Pc × V)}{H:Hp}{Q:VK}{jk:St}{j:Nat}(sel:Pc × V->V)(hj:∀x:Pc × V,[some (V.str x.1.1),some (V.int x.1.2.1),some x.2][j]? = some (some (sel x)))(oZ:jk=[none,none,none])(hl:H l\.lst zs)(pz:Paired (λz (x:Pc × V)=>∃t,z=.ref t/\H t\.tup [.str x.1.1,.int x.1.2.1,x.2]) zs xs)(oh:xs.length<=1000)(hD:H D=none)(q:∀H' out,aa H H'->H' D\.lst out->kL K H' out (xs.map λx=>(Sum.inr x.1.1,sel x))->Q (.ref D) H') :
  yA (yT K l) (gi K 3 (pZ (jw 0) (pZ (jw 1) (pZ (jw 2) tH)))) qx (qA (qa (dh 0) (qa (dh j) gG))) jk D H Q:=by
 let sz:=cJ;let le:=bI pz;apply j9 (own:=3) (fv:=[]) (xs:=zs) oZ Mx (λi out H'=>aa H H'/\H' D\.lst out/\kL K H' out ((xs.take i).map λx=>(Sum.inr x.1.1,sel x))) #[aa.new hD,ay,.nil] (λi out H' _ ⟨sm,_,_⟩=>.of (sm _ _ hl)) (λout H4 ⟨sm,tE,eo⟩=>?_) (λi y out H' hy ⟨sm,dq,eo⟩=>?_)
 ·rw[le,d9] at eo;exact q _ _ sm tE eo
 have hi:i<zs.length:=(cu.mp hy).1;have hx:xs[i]? = some (xs[i]' Y0):=aX Y0;let#[t,et,ht]:=dO pz i hi Y0;rw[(cu.mp hy).2] at et;subst et;generalize xs[i]' Y0=x at hx ht;let lo:=bI eo;rw[aq,dJ] at lo;apply#[_,#[t,_,_,_,U,.of (sm _ _ ht),U],U,λNx hN=>eP ?_];apply#[_,U,_,hj x,zl,λp hp=>?_];let s2:=aa.new (o:=.tup [.str x.1.1,sel x]) hp;apply#[out,s2 _ _ dq,by omega,hN _ _ #[fF (sm.trans s2) hD,ay,?_]];rw[u_ _ hx];have pD:∀{b:Addr} {ys:af},upd H' p (.tup [.str x.1.1,sel x]) b\.tup ys->b≠D:=λhb=>bO hb (s2 _ _ dq) nofun;apply mE (Paired.aQ eo λy kv ⟨b,z,hb⟩=>#[b,z,by rw[aA (pD (s2 _ _ hb))];exact s2 _ _ hb]) (.cons #[p,U,?_] .nil);have kG:upd H' p (.tup [.str x.1.1,sel x]) p\.tup [.str x.1.1,sel x]:=ay;rw[aA (pD kG)];exact kG
section v
theorem nD:bQ ["self","web","pieces","checked"] ["self","web","pieces"] (a_ lT):=bZ
inductive JG (K:ai) (CG CW:Addr) (vs:af) (H:Hp) (Q:VK) (E:XK):Prop
 |mk:∀(g dx p l:Addr) (ys:af) (ps:aV) (hs:Xa) (ts:Xb) (dz:aw),vs=[.ref g,.ref p,.ref l]->H g\.ins CG dx []->hU K CW H p hs ts dz->g∉dz->Good hs ts->H l\.lst ys->j3 K H ys ps->(∀q∈ps,kr ts q)->(ps.map (·.1)).Nodup->ps.length<64->(∀qs fp H',(∀b o,H b\o->b≠g->H' b\o)->gq K CG CW H' g p hs ts qs fp->Qs ps qs->(∀b∈fp,b=g∨b∈dz∨H b=none)->Q .non H')->JG K CG CW vs H Q E
theorem ZQ{CG CW:Addr}(F:bu K "__init__" "Goods.__init__" lT f fd)(T:gy K CG)(TW:Txt K mg CW)(IW:GQ K CW)(B:Bi mg)(K3:mg "Web"\.ref CW)(cP:!bz 6 "checked_pieces" ["web","pieces"] (OW K CW)):!ak bc 7 f fd ["self","web","pieces"] (JG K CG CW):=by
 exists F.bW nD;let#[g,dx,p,l,ys,ps,hs,ts,dz,rfl,hg,W,gw,G,hl,pc,gp,nd,cQ,k]:=h
 apply#[_,au (b_ (eK (d0 (bT gV_ (by rfl) B.gA gE %[1,CB (v:=.ref CW) (by rfl) K3 U|0]))) gC cm)
  (au (bw 3 nD.nd (bj cP hr %[1,2|0]))
  (au (wC (pv 0) (pv 1) U)
  (au (wC (pv 0) (gS (BE U) (by rfl) B.dict qd %[jb yC 3 [] (d4 (pv 3)) (λfp s H=>CA (n:=3) (df (fu (i:=0) (show (yC:ag).Nodup by decide +kernel) U (Or.inl U)) (df (fu (i:=1) (show (yC:ag).Nodup by decide +kernel) U (Or.inl U)) (df (fu (i:=2) (show (yC:ag).Nodup by decide +kernel) U (Or.inl U)) hW)))) (λfp s H=>jx) (λfp s H=>dA %[0,1|0])|0]) U)
  (aJ (wC (pv 0) (gS (BE U) (by rfl) B.dict qd %[jb yC 3 [] (d4 (pv 3)) (λfp s H=>CA (n:=3) (df (fu (i:=0) (show (yC:ag).Nodup by decide +kernel) U (Or.inl U)) (df (fu (i:=1) (show (yC:ag).Nodup by decide +kernel) U (Or.inl U)) (df (fu (i:=2) (show (yC:ag).Nodup by decide +kernel) U (Or.inl U)) hW)))) (λfp s H=>jx) (λfp s H=>dA %[0,2|0])|0]) U))))),?_]
 let#[jT,d1,l2,d3,xc,as,ef,w1,_]:=id W.ex;apply#[_,U,_,_,_,_,U,.ins w1 TW.cl IW.ha IW.hn IW.tk IW.mo,_T _ _,_,U,aF ?_];apply#[_,U,_,U,p,l,ys,ps,hs,ts,dz,U,W,G,hl,pc,gp,nd,cQ,λlc zs qs H1 s1 vX pn Qq=>?_];let#[vs,lv,pz,VA,C_]:=SK pn;let E6:=s1 _ _ hg
 have lq:qs.length=ps.length:=by
  have:=eW List.length Qq.vM;rw[aq,(Gx _).length_eq,aq] at this;exact this
 have WK:(qs.map (·.1)).Nodup:=by
  rw[Qq.vM];exact (Gx _).nodup_iff.mpr nd
 apply#[_,U,_,U,g,CG,dx,[],U,E6,T.cl,T.nW,by show 0<1000;decide,?_];have up1:∀{b o},H1 b\o->b≠g->upd H1 g (.ins CG dx (aP "web" (.ref p) [])) b\o:=λe ne=>by rw[aA ne];exact e
 have L6:upd H1 g (.ins CG dx (aP "web" (.ref p) [])) g\.ins CG dx (aP "web" (.ref p) []):=ay
 have MG:∀{b},upd H1 g (.ins CG dx (aP "web" (.ref p) [])) b=none->H1 b=none:=λ{b} e=>by
  by_cases z:b=g
  ·rw[z,ay] at e;cases e
  rw[aA z] at e;exact e
 generalize upd H1 g (.ins CG dx (aP "web" (.ref p) []))=H2 at up1 L6 MG ⊢;have Hx:lc≠g:=bO vX E6 nofun;have WQ:Paired (λz (x:Pc × V)=>∃t,z=.ref t/\H2 t\.tup [.str x.1.1,.int x.1.2.1,x.2]) zs (qs.zip vs):=Paired.aQ pz λz x ⟨t,e,ht⟩=>#[t,e,up1 ht (bO ht E6 nofun)];have mT:(qs.zip vs).length<=1000:=by rw[List.length_zip];omega
 apply#[_,U,lc,U,#[_,.of (up1 vX Hx)],λD hD=>?_];apply S8 (λx=>.int x.1.2.1) (λx=>rfl) U (up1 vX Hx) WQ mT hD λH3 out s3 yd WV=>?_;apply#[D,out,_,U,yd,WV,by rw[aq];exact mT,λdw Mb=>?_]
 have MR:((qs.zip vs).map λx:Pc × V=>((Sum.inr x.1.1:Key),V.int x.1.2.1))=kX qs:=by
  unfold kX;have:(λx:Pc × V=>((Sum.inr x.1.1:Key),V.int x.1.2.1))=(λq:Pc=>((Sum.inr q.1:Key),V.int q.2.1)) ∘ Prod.fst:=rfl;rw[this,<- cy,List.map_fst_zip Y0]
 have jm:(qs.map (·.1)).map (Sum.inr:Str->Key) |>.Nodup:=by
  rw[mC,ub];exact WK.imp λn e=>n (iB e)
 rw[MR,yN (by rw[S3];exact jm)];let s4:=aa.new (o:=.dK (kX qs)) Mb;let RW:=s4 _ _ (s3 _ _ L6);apply#[_,U,g,CG,dx,_,U,RW,T.cl,T.nG,by show 1<1000;decide,?_];let Hd:=s3.trans s4;have E9:upd H3 dw (.dK (kX qs)) dw\.dK (kX qs):=ay;have Uk:dw≠g:=(bG (s3 _ _ L6) Mb).symm;have pW:∀{b},upd H3 dw (.dK (kX qs)) b=none->H2 b=none:=λe=>Hd.free e;have dwn:H2 dw=none:=s3.free Mb;generalize upd H3 dw (.dK (kX qs))=H4 at s4 RW Hd E9 pW ⊢;have J9:∀{b o},H4 b\o->b≠g->upd H4 g (.ins CG dx (aP p_ (.ref dw) (aP "web" (.ref p) []))) b\o:=λe ne=>by rw[aA ne];exact e
 have L5:upd H4 g (.ins CG dx (aP p_ (.ref dw) (aP "web" (.ref p) []))) g\.ins CG dx (aP p_ (.ref dw) (aP "web" (.ref p) [])):=ay
 have o_:∀{b},upd H4 g (.ins CG dx (aP p_ (.ref dw) (aP "web" (.ref p) []))) b=none->H4 b=none:=λ{b} e=>by
  by_cases z:b=g
  ·rw[z,ay] at e;cases e
  rw[aA z] at e;exact e
 generalize upd H4 g (.ins CG dx (aP p_ (.ref dw) (aP "web" (.ref p) [])))=H5 at J9 L5 o_ ⊢;have vt:∀{b o},H1 b\o->b≠g->H5 b\o:=λe ne=>J9 (Hd _ _ (up1 e ne)) ne;have WO:Paired (λz (x:Pc × V)=>∃t,z=.ref t/\H5 t\.tup [.str x.1.1,.int x.1.2.1,x.2]) zs (qs.zip vs):=Paired.aQ pz λz x ⟨t,e,ht⟩=>#[t,e,vt ht (bO ht E6 nofun)];apply#[_,U,lc,U,#[_,.of (vt vX Hx)],λD2 oa=>?_];apply S8 (λx=>x.2) (λx=>rfl) U (vt vX Hx) WO mT oa λH6 eU s6 Il WU=>?_;apply#[D2,eU,_,U,Il,WU,by rw[aq];exact mT,λdy Ma=>?_];rw[show ((qs.zip vs).map λx:Pc × V=>((Sum.inr x.1.1:Key),x.2))=vq qs vs from U,yN (by rw[_s lv];exact jm)];let s7:=aa.new (o:=.dK (vq qs vs)) Ma;let zI:=s6.trans s7;let RV:=zI _ _ L5;apply#[_,U,g,CG,dx,_,U,RV,T.cl,T.nY,by show 2<1000;decide,?_];have E7:upd H6 dy (.dK (vq qs vs)) dy\.dK (vq qs vs):=ay;have dyg:dy≠g:=(bG (s6 _ _ L5) Ma).symm;have dyn:H5 dy=none:=s6.free Ma;generalize upd H6 dy (.dK (vq qs vs))=H7 at s7 zI RV E7 ⊢
 have fin:∀{b o},H1 b\o->b≠g->upd H7 g (.ins CG dx (dc p dw dy)) b\o:=λe ne=>by
  rw[aA ne];exact zI _ _ (vt e ne)
 have Da:∀b xs,H1 b\.tup xs->upd H7 g (.ins CG dx (dc p dw dy)) b\.tup xs:=λb xs e=>fin e (bO e E6 nofun);have nH:∀{b},H1 b=none->H b=none:=λe=>s1.free e;apply k qs (g::dw::dy::(dz++vs.filterMap λv=>match v with | .ref a=>some a|_=>none)) _ (λb o e ne=>fin (s1 _ _ e) ne) #[dx,dw,dy,vs,dz,ay,?_,?_,?_,?_,by simp,by simp,by simp,λb hb=>by simp[hb],λv hv a z=>?_] Qq λb hb=>?_
 ·exact W.keep (λb hb o e=>fin (s1 _ _ e) (λz=>gw (z▸hb))) λb xs e=>Da b xs (s1 _ _ e)
 ·rw[aA Uk];exact zI _ _ (J9 E9 Uk)
 ·rw[aA dyg];exact E7
 ·exact O4 VA λv hv q h=>h.keep (λa z u e=>fin e (λzz=>by
   subst zz;have:=C_ v hv _ z;rw[hg] at this;cases this)) λb xs e=>Da b xs e
 ·apply fo _ (fo _ (fo _ (kb _ (yO.mpr #[v,hv,?_]))));rw[z]
 simp only[cg,dB,yO] at hb;rcases hb with rfl|rfl|rfl|hb|⟨v,hv,e⟩
 ·exact .inl U
 ·exact .inr (.inr (nH (MG dwn)))
 ·exact .inr (.inr (nH (MG (Hd.free (o_ dyn)))))
 ·exact .inr (.inl hb)
 cases v with
 |ref a=>
  cases e;exact .inr (.inr (C_ _ hv _ U))
 |_=>cases e
end
end Ev
namespace L2
open PySem
end L2
namespace Ev
open PySem L2
theorem eD_{kvs:List (Key × V)}{ns:ag}(h:kvs.map (·.1)=ns.map Sum.inr)(x:Str):(aZ kvs (Sum.inr x)).isSome=decide (x∈ns):=by
 by_cases hx:x∈ns
 ·rw[c_ hx];apply OG ?_;rw[h];exact bx.mpr #[x,hx,U]
 rw[fO hx,u7]
 ·rfl
 rw[h];intro m;let#[y,hy,e]:=bx.mp m;cases e;exact hx hy
variable{q:Pc}
theorem YH{qs:aV}(nd:(qs.map (·.1)).Nodup)(hq:q∈qs):aZ (kX qs) (Sum.inr q.1)\.int q.2.1:=by
 let#[j,hj,e]:=gB hq;have:=M8 (ps:=qs) (cs:=qs.map λq=>V.int q.2.1) nd (by rw[aq]) (j:=j) (q:=q) (c:=.int q.2.1) (by rw[aX hj,e]) (by rw[de,aX hj,e];rfl)
 have e2:((qs.zip (qs.map λq=>V.int q.2.1)).map λq=>((Sum.inr q.1.1:Key),q.2))=kX qs:=by
  unfold kX;rw[List.zip_map_right,cy]
  have:qs.zip qs=qs.map λq=>(q,q):=by
   clear nd hq this hj e j
   induction qs with
   |nil=>rfl
   |cons a l ih=>rw[List.zip_cons_cons,ih,fE]
  rw[this,cy];rfl
 rwa [e2] at this
theorem X1{qs:aV}{vs:af}(nd:(qs.map (·.1)).Nodup){K:ai}{H:Hp}(h:Paired (λv (q:Pc)=>cw K H v q.2.2) vs qs)(hq:q∈qs):∃v∈vs,aZ (vq qs vs) (Sum.inr q.1)\v/\cw K H v q.2.2:=by
 let#[j,hj,e]:=gB hq;let hl:=bI h;have hv:j<vs.length:=by omega
 let p:=dO h j hv hj;rw[e] at p;exact#[vs[j],j_ hv,M8 nd Y0 (by rw[aX hj,e]) (aX hv),p]
def Co(hs:Xa)(ts:Xb)(o:Option (Xb))(x y:Option Str):Bool:=
 Cu hs ts x y&&match o,x,y with
  |none,_,_=>true
  |some ws,some a,some b=>decide (aN a b∈ws)
  |_,_,_=>false
variable{f:Addr}{fd:Ae}
section v
theorem zD:bQ mq mq (a_ rT):=bZ
inductive FO (K:ai) (CG CW:Addr) (vs:af) (H:Hp) (Q:VK) (E:XK):Prop
 |mk:∀(g p:Addr) (v:V) (x:Option Str) (hs:Xa) (ts:Xb) (qs:aV) (fp:aw),vs=[.ref g,v]->gq K CG CW H g p hs ts qs fp->jg K H v x->Q (.bl (xV (qs.map (·.1)) x)) H->FO K CG CW vs H Q E
theorem YO{CG CW:Addr}(F:bu K "has_piece" "Goods.has_piece" rT f fd)(T:gy K CG)(B:Bi mg):!ak bc 1 f fd mq (FO K CG CW):=by
 exists F.bW zD;let#[g,p,v,x,hs,ts,qs,fp,rfl,G,sv,k]:=h;let hu:=fP hr;let#[dx,dw,dy,vs,dz,h1,h2,h3,h4,h5,m1,m2,m3,m4,m5]:=G.ex;apply#[_,aJ (bp (oq (bT gL (by rfl) B.gA gE %[1,gM (v:=.ty "str") (by rfl) B.str Im U|0]) (ph (Ir (Bo hu (pv 1) (i_ (pv 0) U)))))),?_];cases x with
 |some x=>
  cases (show v=.str x from sv);apply#[_,U,_,_,_,_,U,.str x,U,_,U,bN ?_];apply#[_,U,_,U,g,CG,dx,_,_,U,h1,T.cl,T.nG,M3 _ _ _,dw,_,U,.k (k:=Sum.inr x) h3,?_];rw[eD_ (S3 qs)];exact k
 |none=>
  let#[t,ty,e]:=sv;exact#[_,U,_,_,_,_,U,ty,e,_,U,aF k]
theorem rh:bQ pf pf (a_ MT):=bZ
inductive CM (K:ai) (CG CW:Addr) (vs:af) (H:Hp) (Q:VK) (E:XK):Prop
 |mk:∀(g p:Addr) (hs:Xa) (ts:Xb) (qs:aV) (fp:aw),vs=[.ref g]->gq K CG CW H g p hs ts qs fp->(∀l,H l=none->Q (.ref l) (upd H l (.lst ((qs.map (·.1)).map V.str))))->CM K CG CW vs H Q E
theorem hu_{CG CW:Addr}(F:bu K "names" "Goods.names" MT f fd)(T:gy K CG)(B:Bi mg):!ak bc 1 f fd pf (CM K CG CW):=by
 exists F.bW rh;let#[g,p,hs,ts,qs,fp,rfl,G,k]:=h;let#[dx,dw,dy,vs,dz,h1,h2,h3,h4,h5,m1,m2,m3,m4,m5]:=G.ex;apply#[_,aJ (bp (gS (Oa U) (by rfl) B.list qe %[i_ (pv 0) U|0])),?_];apply#[_,U,g,CG,dx,_,_,U,h1,T.cl,T.nG,M3 _ _ _,dw,_,U,.inl h3,λl hl=>?_]
 have e:((kX qs).map λkv=>kV kv.1)=(qs.map (·.1)).map V.str:=by
  unfold kX;rw[cy,cy];rfl
 rw[e];exact k l hl
structure Ref (K:ai) (mg:Str->Option Aa) (x:Str) (C:Addr):Prop where
 mg:mg x\.ref C
 ex:PySem.W.excIn K C [.type "ValueError",.type "Exception",.type "BaseException",.type "object"] "ValueError.__new__"=true
theorem oP:bQ ["self","piece"] ["self","piece"] (a_ Nb):=bZ
inductive OS (K:ai) (CG CW CP:Addr) (vs:af) (H:Hp) (Q:VK) (E:XK):Prop
 |mk:∀(g p:Addr) (v:V) (x:Option Str) (hs:Xa) (ts:Xb) (qs:aV) (fp:aw),vs=[.ref g,v]->gq K CG CW H g p hs ts qs fp->(qs.map (·.1)).Nodup->jg K H v x->((∃q∈qs,x\q.1/\Q (.int q.2.1) H)∨False)->OS K CG CW CP vs H Q E
theorem fP_{CG CW CP:Addr}(F:bu K "weight" "Goods.weight" Nb f fd)(T:gy K CG)(cH:!bY CG 1 "has_piece" mq (FO K CG CW)):!ak bc 2 f fd ["self","piece"] (OS K CG CW CP):=by
 exists F.bW oP;let#[g,p,v,x,hs,ts,qs,fp,rfl,G,nd,sv,k]:=h;let hu:=fP hr;let#[dx,dw,dy,vs,dz,h1,h2,h3,h4,h5,m1,m2,m3,m4,m5]:=id G.ex;have kI:(dc p dw dy).lookup ("has_piece":Str)=none:=wL _ _ _ Z0 Z0 Z0;apply#[_,au (b_ (eK (d0 (j1 cH T.cl hr (pv 0) %[1|0]))) gC cm) (aJ (bp (j7 hu (i_ (pv 0) U) (pv 1)))),?_];apply#[_,U,g,dx,_,U,h1,kI,_,U,g,p,v,x,hs,ts,qs,fp,U,G,sv,_,U,?_];rcases k with⟨q,hq,rfl,k⟩|k
 ·cases (show v=.str q.1 from sv);rw[show xV (qs.map (·.1)) (some q.1)=true from c_ (bx.mpr #[q,hq,U])];apply aF ?_;apply#[_,U,g,CG,dx,_,_,U,h1,T.cl,T.nG,M3 _ _ _,_,U,dw,_,U,?_,k];rw[<- YH nd hq];exact .k (k:=Sum.inr q.1) h3
 exact k.elim
theorem rj:bQ ["self","piece","one","other","ties"] ["self","piece","one","other"] (a_ rR):=bZ
inductive lC (K:ai) (CG CW CP:Addr) (vs:af) (H:Hp) (Q:VK) (E:XK):Prop
 |mk:∀(g p:Addr) (v u1 u2:V) (x y1 y2:Option Str) (hs:Xa) (ts:Xb) (qs:aV) (fp:aw),vs=[.ref g,v,u1,u2]->gq K CG CW H g p hs ts qs fp->(qs.map (·.1)).Nodup->(aU hs).Nodup->jg K H v x->((∃q∈qs,x\q.1/\jg K H u1 y1/\jg K H u2 y2/\∀H',aa H H'->Q (.bl (Co hs ts q.2.2 y1 y2)) H')∨False)->lC K CG CW CP vs H Q E
theorem ZJ{CG CW CP:Addr}(F:bu K "may_go" "Goods.may_go" rR f fd)(T:gy K CG)(TW:Txt K mg CW)(cH:!bY CG 1 "has_piece" mq (FO K CG CW))(cT:!bY CW 2 "are_tied" kg (I0 K CW))(cL:!bz 1 "lesser_first" mB Ju) :
  ak P w K mg base bc 3 f fd ["self","piece","one","other"] (lC K CG CW CP):=by
 exists F.bW rj;let#[g,p,v,u1,u2,x,y1,y2,hs,ts,qs,fp,rfl,G,nd,iT,sv,k]:=h;let hu:=fP hr;have jM:aY 1 _:=hr.mono (by decide);let#[dx,dw,dy,vs,dz,h1,h2,h3,h4,h5,m1,m2,m3,m4,m5]:=id G.ex;have kI:(dc p dw dy).lookup ("has_piece":Str)=none:=wL _ _ _ Z0 Z0 Z0;let#[jT,d1,l2,d3,xc,as,ef,w1,_]:=id h2.ex;have AC:(fi d1 l2 d3).lookup ("are_tied":Str)=none:=pB _ _ _ Z0 Z0 Z0
 apply#[_,au (b_ (eK (d0 (j1 cH T.cl jM (pv 0) %[1|0]))) gC cm)
  (au (b_ (eK (d0 (j1 cT TW.cl hr (i_ (pv 0) U) %[2,3|0]))) (aJ (bp jv)) cm)
  (au (bw 4 rj.nd (j7 hu (i_ (pv 0) U) (pv 1)))
  (aJ (bp (XU (Ir (Iz (pv 4))) (ph (wN (Iu (Bk gJ gJ) (kR hr _)) (bj cL hr %[2,3|0]) (pv 4) (by with_unfolding_all rfl)))))))),?_]
 apply#[_,U,g,dx,_,U,h1,kI,_,U,g,p,v,x,hs,ts,qs,fp,U,G,sv,_,U,?_];rcases k with⟨q,hq,rfl,s1,s2,k⟩|k
 ·cases (show v=.str q.1 from sv);rw[show xV (qs.map (·.1)) (some q.1)=true from c_ (bx.mpr #[q,hq,U])];apply aF ?_;apply#[_,U,g,CG,dx,_,_,U,h1,T.cl,T.nW,yM _ _ _,p,jT,_,U,w1,AC,_,U,_,U,p,u1,u2,y1,y2,hs,ts,dz,U,h2,iT,s1,s2,_,U,?_];cases tb:Cu hs ts y1 y2 with
  |false=>
   apply bN ?_;have:=k H (aa.refl H);unfold Co at this;rw[tb,Bool.false_and] at this;exact this
  |true=>
   apply aF ?_;let#[u,Ex,eu,wy]:=X1 nd h5 hq;apply#[_,U,g,CG,dx,_,_,U,h1,T.cl,T.nY,Y7 _ _ _,_,U,dy,u,U,?_,?_]
   ·rw[<- eu];exact .k (k:=Sum.inr q.1) h4
   apply#[_,U,_,U,?_];unfold Co at k;rw[tb] at k;cases e:q.2.2 with
   |none=>
    rw[e] at wy k;cases (show u=.non from wy);exact bN (k H (aa.refl H))
   |some ws=>
    rw[e] at wy k;let#[a,ys,rfl,ha,tu]:=wy;cases y1 with
    |none=>cases tb
    |some a1=>
     cases y2 with
     |none=>cases tb
     |some a2=>
      cases (show u1=.str a1 from s1);cases (show u2=.str a2 from s2);apply aF #[_,U,_,U,a1,a2,U,λt ht=>?_];have s3:aa H (upd H t (.tup [.str (aN a1 a2).1,.str (aN a1 a2).2])):=aa.new ht;apply#[_,U,aN a1 a2,ws,#[t,_,_,U,.of ay,U,U],#[a,ys,U,.of (s3 _ _ ha),MK (tu.same s3)],?_];let z:=k _ s3;rw[Bool.true_and] at z;rw[aC gr];show Q (.bl _) _;have z:Q (.bl (decide (aN a1 a2∈ws))) (upd H t (.tup [.str (aN a1 a2).1,.str (aN a1 a2).2])):=z;generalize upd H t (.tup [.str (aN a1 a2).1,.str (aN a1 a2).2])=Hz at z ⊢;by_cases hm:aN a1 a2∈ws
      ·simpa [hm] using z
      simpa [hm] using z
 exact k.elim
end
end Ev
namespace L2
open PySem PySem.Spec PyProof.Rows PySem.W
variable{P:Ad}{w:Af}
theorem Zh{k:Key}{key:Aa}(h:(dZ P w).is k key=true):RelV (kV k) key:=by
 have e2:wJ k key=true:=h;rcases qr e2 with⟨i,t,rfl,rfl⟩|⟨x,t,rfl,rfl⟩
 ·exact#[t,U]
 exact#[t,U]
def Itm(d:Addr)(o:Obj)(kvs:List (Key × V)):It:=#[λi H=>H d\.frz o (.dK kvs)/\i<kvs.length,λi H y H'=>∃t k x,y=.ref t/\H t=none/\kvs[i]? = some (k,x)/\H'=upd H t (.tup [kV k,x]),λi H=>H d\.frz o (.dK kvs)/\kvs.length<=i]
variable{elts:List Expr}{kk:Nat}
theorem fF_{K:ai}{pos:Pos}(d it:Addr)(o:Obj)(kvs:List (Key × V)){es:Array DictEntry}{ep:Nat}(ho:o.data=.dict es ep):Turn P w K (.Tuple elts kk pos) (Itm d o kvs) [it] it (λi h=>∃ok ov,IsItemIter h it d i kvs.length ep ok ov) where
 mem:=by simp
 obj:=λi h st b hb=>by
  obtain rfl:b=it:=⇑hb
  let#[ok,ov,q]:=st;exact#[_,q,λv z=>by cases z]
 keep:=λi h h' st k=>by
  let#[ok,ov,q]:=st;exact#[ok,ov,k it Y1 _ q]
 item:=by
  intro X hP hw hK hc i pins s σ H E I hf st hg;subst hP hw hK;let#[hd,hi]:=hg;let#[vs,rel,dat]:=Ut I hd ho;obtain⟨⟨k,x⟩,hx⟩:∃p,kvs[i]? = some p:=#[kvs[i],by simp[hi]];let#[u,hu,ru]:=Ms rel i hx;let#[ok,ov,st]:=st;have ZV:it<s.heap.objs.size:=bK st;rw[rel.length] at st;apply wpAny_pyNext_items_item st dat hu λkey h' hk out ht sz kp=>?_;apply#[_,U,wpAny_letOwnedTupleGo_items (s:={ s with heap:=h' }) out λh2 cO sb=>?_];have nT:s.heap.objs.size≠it:=je ZV;have I1:Inv X pins σ (upd H s.heap.objs.size (.tup [kV k,x])) { s with heap:=h2 }:=I.iL (t':=s.toks) (fp:=[it]) (its:=[key,u]) (λb o hb q=>(sb.2 b ⇑hb).trans (kp b o ⇑hb q)) hf (a9 _) (zl) (.cons (Zh hk) (.cons ru .nil)) #[#[_,(sb.2 _ nT).trans ht,U,_,U],_,(sb.2 _ nT).trans ht,U];apply#[.ref _,_,I1,U,#[_,k,x,U,I.aE.fresh (a9 _),hx,U],#[_,_,by rw[rel.length];exact cO],λb hb=>?_];have e:b=it:=⇑hb
  rw[aA (λz=>nT (z.symm.trans e))];exact (hf b hb).1
 done:=by
  intro X hP hw hK hc i pins s σ H E I hf st hg;subst hP hw hK;let#[hd,hi]:=hg;let#[vs,rel,dat]:=Ut I hd ho;let#[f0,f1,f2,f3,f4,f5]:=hf it Y1;let#[ok,ov,st]:=st;rw[rel.length] at st hi;exact wpAny_pyNext_items_end (I.ok.hd hc) st dat (by simp;omega) λh' eb=>#[U,I.turned (t':=s.toks) (λb o hb e=>eb b o hb e) f0 f1 f3 f4 f5]
 self:=λA i s Q E st h=>by
  let#[ok,ov,q]:=st;exact kcp_self q h
inductive nV (R:It->Hp->Prop) (x:V) (H1:Hp):Prop
 |mk:∀v d kvs,x=.ref v->H1 v\tV v d->H1 d\.dK kvs->(∀o,R (Itm d o kvs) (upd H1 d (.frz o (.dK kvs))))->nV R x H1
def Av(tv:TE):TI:=λσ H R=>tv σ H λx H1=>nV R x H1
variable{X:Cx}
theorem NU{p2:Pos}{e:Expr}{tv:TE}(he:PE X e tv):PI X (.Tuple elts kk p2) e (Av tv):=by
 intro pins s σ H R I h;apply aS (he pins s σ H _ I h) λu s1 ⟨x,H1,I1,r1,v,d,kvs,ex,hv,hd,q⟩=>?_;subst ex;cases r1;let#[iv,_,_]:=I1.aE v _ hv;let#[o,ho,I2]:=I1.freeze hd;let#[z,_,vs,rel,o',es,ep,n5,c',dt,r]:=Fq I1.aE hd;rw[ho] at n5;cases n5;apply wpAny_pyIter_items (knd:=dZ X.prog X.w) (kvs:=vs) (ep:=ep) iv #[o,es,ho,c',dt,r] ?_;apply#[s1.heap.objs.size,[s1.heap.objs.size],_,_,_,U,I2.kept (t':=s1.toks) λb o e=>bo _ e,fF_ d _ o kvs dt,?_,λb hb=>?_,q o]
 ·rw[rel.length];exact#[.none,.none,dj _ U]
 obtain rfl:b=s1.heap.objs.size:=⇑hb
 exact I2.i0 (a9 _) (I2.aE.fresh (a9 _))
theorem Ox{d:Addr}{o:Obj}{kvs:List (Key × V)}{g:TG}{tb:TS}{D:Ends}{σ:St}{H:Hp}(Pv:dD)(h0:Pv 0 σ H)(hl:∀i σ H,i<=kvs.length->Pv i σ H->H d\.frz o (.dK kvs))
  (hs:∀i k x σ H,kvs[i]? = some (k,x)->Pv i σ H->∀t,H t=none->g (.ref t) σ (upd H t (.tup [kV k,x])) λgc H2=>tb { D with nx:=Pv (i+1),ct:=Pv (i+1),bk:=D.nx } gc H2) (hd:∀σ H,Pv kvs.length σ H->D.nx σ H) :
  ∃W:Nat->Nat->St->Hp->Prop,(∃m,W 0 m σ H)/\∀i m σ H,W i m σ H->
   ((Itm d o kvs).stop i H/\D.nx σ H)∨((Itm d o kvs).go i H/\∃N:St->Hp->Prop,(∀bf H',N bf H'->∃m',m'<m/\W (i+1) m' bf H')/\∀x H',(Itm d o kvs).vo i H x H'->g x σ H' λgc H2=>tb { D with nx:=N,ct:=N,bk:=D.nx } gc H2):=by
 apply#[λi m σ H=>m=kvs.length - i/\i<=kvs.length/\Pv i σ H,#[kvs.length,by simp,gN _,h0],?_];rintro i m σ H ⟨rfl,hi,p⟩;let q:=hl i σ H hi p;by_cases dQ:i<kvs.length
 ·apply .inr #[#[q,dQ],Pv (i+1),λbf H' p'=>#[kvs.length - (i+1),by omega,U,dQ,p'],λx H' y=>?_];let#[t,k,x,rfl,ht,hx,rfl]:=y;exact hs i k x σ H hx p t ht
 have e:i=kvs.length:=by omega
 subst e;exact .inl #[#[q,a9 _],hd σ H p]
inductive qB (t:TS) (D:Ends) (σ:St) (H:Hp):Prop
 |mk:∀d kvs,H d\.dK kvs->t { nx:=λmR H1=>∃o,H1 d\.frz o (.dK kvs)/\D.nx mR (upd H1 d (.dK kvs)),rt:=λv H1=>∃o,H1 d\.frz o (.dK kvs)/\D.rt v (upd H1 d (.dK kvs)) } σ H->qB t D σ H
theorem R6{st:Stmt}{t:TS}(h:PS X st t):PS X st (qB t):=by
 intro pins s σ H D I q;let#[d,kvs,hd,q]:=q
 have nf:∀o u,X.kq d≠some (.frz o u):=λo u z=>by
  have:=I.base.hG _ _ _ z;rw[hd] at this;cases this
 apply aS (h pins s σ H _ I q) λf s' p=>?_;cases f with
 |next=>
  let#[mR,H1,I1,o,hf,q1]:=p;exact#[mR,_,I1.qw hf nf,q1]
 |brk=>
  let#[mR,H1,I1,q1]:=p;exact False.elim q1
 |cont=>
  let#[mR,H1,I1,q1]:=p;exact False.elim q1
 |ret u=>
  let#[v,mR,H1,I1,r,o,hf,q1]:=p;exact#[v,mR,_,I1.qw hf nf,r,q1]
end L2
namespace Ev
open PySem L2
structure Fz (d:Addr) (o:Obj) (kvs:List (Key × V)) (H H':Hp):Prop where
 at_:H' d\.frz o (.dK kvs)
 sm:∀b u,b≠d->H b\u->H' b\u
section
variable{d:Addr}{o:Obj}{kvs:List (Key × V)}{H H' H2:Hp}
theorem Fz.start:Fz d o kvs H (upd H d (.frz o (.dK kvs))):=#[ay,λb u ne e=>by rw[aA ne];exact e]
theorem Fz.step(f:Fz d o kvs H H')(s:aa H' H2):Fz d o kvs H H2:=#[s _ _ f.at_,λb u ne e=>s _ _ (f.sm b u ne e)]
theorem Fz.qw(f:Fz d o kvs H H')(hd:H d\.dK kvs):aa H (upd H' d (.dK kvs)):=λb u e=>by
 by_cases z:b=d
 ·subst z;rw[hd] at e;cases e;exact ay
 rw[aA z];exact f.sm b u z e
theorem Fz.ye{K:ai}{CG CW g p:Addr}{hs:Xa}{ts:Xb}{qs:aV}{fp:aw}(f:Fz d o kvs H H')(hd:H d\.dK kvs)(G:gq K CG CW H g p hs ts qs fp)(nd:d∉fp):gq K CG CW H' g p hs ts qs fp:=
 G.keep (λb hb u e=>f.sm b u (λz=>nd (z▸hb)) e) λb xs e=>f.sm b _ (bO e hd nofun) e
end
def dY(ns:ag)(g:Str->V):List (Key × V):=ns.map λn=>(Sum.inr n,g n)
theorem CL(ns:ag)(g:Str->V):(dY ns g).map (·.1)=ns.map Sum.inr:=by
 unfold dY;rw[cy];rfl
theorem oy(ns:ag)(g:Str->V):(dY ns g).length=ns.length:=aq _
variable{n:Str}
theorem Bw{ns:ag}{g:Str->V}(h:n∈ns):aZ (dY ns g) (Sum.inr n)\g n:=by
 induction ns with
 |nil=>cases h
 |cons m ns ih=>
  by_cases e:m=n
  ·subst e;exact yI U
  have:aZ (dY (m::ns) g) (Sum.inr n)=aZ (dY ns g) (Sum.inr n):=yJ λz=>e (iB z);rw[this];rcases cg.mp h with z|z
  ·exact absurd z.symm e
  exact ih z
theorem JA{ns:ag}{g k:Str->V}(h:∀n∈ns,g n=k n):dY ns g=dY ns k:=u6 λn hn=>by rw[h n hn]
variable{v:V}
theorem SC{ns:ag}{g:Str->V}(h:n∈ns):putK (dY ns g) (Sum.inr n) v=dY ns λm=>if m=n then v else g m:=by
 unfold putK;rw[aK]
 ·unfold dY;rw[cy];apply u6 λm _=>?_;by_cases e:m=n
  ·subst e;simp
  have:¬((Sum.inr m:Key)=Sum.inr n):=λz=>e (iB z);simp[e]
 apply List.any_eq_true.mpr #[(Sum.inr n,g n),bx.mpr #[n,h,U],by simp]
theorem Sj{ns:ag}{g:Str->V}(h:n∉ns):putK (dY ns g) (Sum.inr n) v=dY (ns++[n]) λm=>if m=n then v else g m:=by
 rw[yK _ (u7 (by
  rw[CL];intro m;let#[x,hx,e]:=bx.mp m;exact h (iB e▸hx)))]
 unfold dY;rw[eJ];congr 1
 ·apply u6 λm hm=>?_;have e:¬m=n:=λz=>h (z▸hm);simp[e]
 simp
variable{i:Nat}
theorem MA{ns:ag}{g:Str->V}{k:Key}{x:V}(h:(dY ns g)[i]? = some (k,x)):∃n,ns[i]? = some n/\k=Sum.inr n/\x=g n:=by
 unfold dY at h;rw[de] at h;cases e:ns[i]? with
 |none=>rw[e] at h;cases h
 |some n=>
  rw[e] at h;let h:=dN h;exact#[n,U,(eW Prod.fst h).symm,(eW Prod.snd h).symm]
theorem Td{ns:ag}(nd:ns.Nodup)(h:ns[i]? = some n):n∉ns.take i:=by
 let q:=Gw (g:=id) (ts:=ns) (by rw[List.map_id];exact nd) h;rwa [List.map_id] at q
theorem u3{ns:ag}(h:ns[i]? = some n):ns.take (i+1)=ns.take i++[n]:=by
 rw[ua,h];rfl
abbrev gd(ns:ag)(f:bF):List (Key × V):=dY ns λn=>.str (f n)
def e_(q:Pc):Str × Int:=(q.1,q.2.1)
def ld(f:bF)(ws:Xa)(h:Str):Int:=((ws.filter λx=>decide (f x.1=h)).map (·.2)).sum
theorem Sx(f:bF)(ws:Xa)(x:Str × Int)(h:Str):ld f (ws++[x]) h=if h=f x.1 then ld f ws h+x.2 else ld f ws h:=by
 unfold ld;rw[List.filter_append];by_cases e:f x.1=h
 ·rw[aK e.symm,eJ,List.sum_append];simp[e]
 rw[aC λz=>e z.symm];simp[e]
theorem Rv:∀{l:List Int},(∀x∈l,0<=x)->0<=l.sum
 |[],_=>by simp
 |x::l,h=>by
  rw[List.sum_cons];have:=h x fY;have:=Rv (l:=l) λy hy=>h y (fo _ hy);omega
theorem Ya{f:bF}{ws:Xa}{h:Str}(p:∀x∈ws,0<=x.2):0<=ld f ws h:=Rv λx hx=>by
 let#[y,hy,rfl]:=bx.mp hx;exact p y (t_.mp hy).1
theorem h3_{α:Type}{ps:List (Str × α)}(nd:(ps.map (·.1)).Nodup){a b:Str × α}(ha:a∈ps)(hb:b∈ps)(e:a.1=b.1):a=b:=by
 induction ps with
 |nil=>cases ha
 |cons p ps ih=>
  rw[fE,kU] at nd;rcases cg.mp ha with za|ha
  ·rcases cg.mp hb with zb|hb
   ·rw[za,zb]
   rw[za] at e;exact absurd (show p.1∈ps.map (·.1) from bx.mpr #[b,hb,e.symm]) nd.1
  rcases cg.mp hb with zb|hb
  ·rw[zb] at e;exact absurd (show p.1∈ps.map (·.1) from bx.mpr #[a,ha,e]) nd.1
  exact ih nd.2 ha hb
def strOf(hs:Xa)(n:Str):Int:=((hs.find? λh=>decide (h.1=n)).map (·.2)).getD 0
theorem JH{hs:Xa}(h:n∈hs.map (·.1)):(n,strOf hs n)∈hs:=by
 unfold strOf;let#[x,hx,e]:=bx.mp h;cases q:hs.find? λh=>decide (h.1=n) with
 |none=>
  have:=List.find?_eq_none.mp q x hx;simp[e] at this
 |some y=>
  let m:=List.mem_of_find?_eq_some q;have:=List.find?_some q;have e2:y.1=n:=⇑this
  show (n,y.2)∈hs;rw[<- e2];exact m
theorem Tc{hs:Xa}(nd:(hs.map (·.1)).Nodup){s:Int}(h:(n,s)∈hs):strOf hs n=s:=by
 let m:=JH (bx.mpr #[_,h,U]:n∈hs.map (·.1));exact eW Prod.snd (h3_ nd m h U)
def fr(a b:Int):Int × Int:=(a / (Int.gcd a b:Int),b / (Int.gcd a b:Int))
variable{a b:Int}
theorem _o(ha:0<=a)(h:0<b):Int.gcd b (a % b)=Int.gcd a b:=by
 let#[m,rfl]:=wZ ha;let#[n,rfl]:=wZ (iF h);rw[<- Int.natCast_emod];show Nat.gcd n (m % n)=Nat.gcd m n;rw[Nat.gcd_comm n,<- Nat.gcd_rec,Nat.gcd_comm]
variable{fd:Ae}
section v
theorem oO:bQ ["one","other","rest","divisor","left"] mB (a_ Kw):=bZ
def vz:Sp:=λvs H Q _=>∃a b:Int,vs=[.int a,.int b]/\0<=a/\0<b/\Q (.int (Int.gcd a b)) H
theorem XZ{f:Addr}(F:bu K Ct Ct Kw f fd):!ak bc 1 f fd mB vz:=by
 exists F.bW oO;let#[a,b,rfl,ha,hb,k]:=h;refine' #[_,au ?s1 (au ?s2 (au ?s3 ?s4)),?kk]
 case s1=>exact bw 2 oO.nd (pv 0)
 case s2=>exact bw 3 oO.nd (pv 1)
 case s3=>exact SL dS (eO om (pv 2) av) (au (bw 4 oO.nd (br Bv (pv 3) (pv 2))) (au (bw 3 oO.nd (pv 2)) (aJ (bw 2 oO.nd (pv 4)))))
 case s4=>exact aJ (bp (pv 3))
 apply#[_,U,_,U,?_];apply _y (λσ H'=>H'=H/\∃(r d:Int) (v4:aI),σ=[some (.int a),some (.int b),some (.int r),some (.int d),v4]/\0<=r/\0<d/\Int.gcd r d=Int.gcd a b) (λσ _=>match σ with | [_,_,some (.int r),_,_]=>r.toNat|_=>0) #[U,a,b,none,U,ha,hb,U] ?_ ?_
 ·rintro σ H' ⟨rfl,r,d,v4,rfl,Ca,hd,e⟩;apply#[_,U,U,_,U,?_];apply bH (λc=>?_) (λc=>?_)
  ·have jM:0<r:=by
    have:r≠0:=by
     intro z;subst z;simp at c
    omega
   apply#[_,U,_,U,_,_,U,U,jM,_,U,_,U,?_];let h1:=Int.emod_nonneg d (Int.ne_of_gt jM);let h2:=Int.emod_lt_of_pos d jM;apply#[#[U,_,_,_,U,h1,jM,?_],?_]
   ·rw[<- e,Int.gcd_comm (d % r) r,_o (iF hd) jM,Int.gcd_comm]
   show (d % r).toNat<r.toNat;omega
  have jM:r=0:=⇑c
  subst jM;apply#[_,U,?_]
  have e2:(Int.gcd a b:Int)=d:=by
   rw[<- e,Int.gcd_zero_left];omega
  rw[<- e2];exact k
 intro σ H' Q1 Q2 hq h;let#[x,e,h1,c,h2,h3]:=h;exact#[x,e,h1,c,h2,hq _ _ h3]
end
theorem Yu(hb:0<b)(l8:b<=1000):0<(Int.gcd a b:Int)/\(Int.gcd a b:Int)<1073741824:=by
 have h1:0<Int.gcd a b:=Int.gcd_pos_of_ne_zero_right a Y0;have h2:(Int.gcd a b:Int) ∣ b:=Int.gcd_dvd_right a b;let h3:=Int.le_of_dvd hb h2;omega
section v
structure MW (hs:Xa) (qs:aV) (ns:ag) (f:bF):Prop where
 perm:ns.Perm (qs.map (·.1))
 at_:∀n∈ns,f n∈hs.map (·.1)
theorem Jo:bQ ["goods","stand","piece","hand","names"] yq (a_ NX):=bZ
inductive Jp (K:ai) (CG CW:Addr) (vs:af) (H:Hp) (Q:VK) (E:XK):Prop
 |mk:∀(g p d:Addr) (hs:Xa) (ts:Xb) (qs:aV) (fp:aw) (ns:ag) (f:bF),vs=[.ref g,.ref d]->gq K CG CW H g p hs ts qs fp->d∉fp->H d\.dK (gd ns f)->MW hs qs ns f->(qs.map (·.1)).Nodup->qs.length<64->(∀d' H',aa H H'->H d'=none->H' d'\.dK (gd (qs.map (·.1)) f)->Q (.ref d') H')->Jp K CG CW vs H Q E
theorem hp_{f CG CW:Addr}(F:bu K "checked_stand" "checked_stand" NX f fd)(B:Bi mg)(T:gy K CG)(TW:Txt K mg CW)(cH:!bY CG 1 "has_piece" mq (FO K CG CW))(cW:!bY CW 1 "has_hand" mq (jC K CW))(cN:!bY CG 1 "names" pf (CM K CG CW)) :
  ak P w K mg base bc 2 f fd yq (Jp K CG CW):=by
 exists F.bW Jo;let#[g,p,d,hs,ts,qs,fp,ns,f,rfl,G,pX,hd,so,nd,cQ,k]:=h;let hu:=fP hr;let sz:=cJ;refine' #[_,?r0,?kk]
 case' r0=>refine' au ?s1 ?r1
 case s1=>exact b_ (eK (d0 (bT gL (by rfl) B.gA gE %[1,gM (v:=.ty "dict") (by rfl) B.dict qd U|0]))) gC cm
 case' r1=>refine' au ?s2 ?r2
 case' s2=>refine' R6 (d8 dS U ?i2 ?g2 ?b2)
 case i2=>exact NU (Jm (pv 1))
 case g2=>exact ju U (df (bX 2 Jo.nd) (df (bX 3 Jo.nd) hW))
 case b2=>exact au (b_ (eK (d0 (j1 cH T.cl hr (pv 0) %[2|0]))) gC cm) (aJ (b_ (eK (d0 (j1 cW TW.cl hr (i_ (pv 0) U) %[3|0]))) gC cm))
 case' r2=>refine' au ?s3 ?r3
 case s3=>exact bw 4 Jo.nd (Bp cN T.cl hr (pv 0))
 case' r3=>refine' au ?s4 (aJ ?s5)
 case s4=>exact b_ (eO om (bT hM_ (by rfl) B.len fN %[1|0]) (bT gx (by rfl) B.len fN %[4|0])) gC cm
 case s5=>exact bp (gS (BE U) (by rfl) B.dict qd %[jb ["piece","stand"] 1 [1] (d4 (pv 4)) (λfp s H=>fu (i:=0) (show (["piece","stand"]:ag).Nodup by decide +kernel) U (Or.inl U)) (λfp s H=>jx) (λfp s H=>dA %[0,j7 hu (pv 1) (pv 0)|0])|0])
 have XC:ns.length=qs.length:=by rw[so.perm.length_eq,aq]
 apply#[_,U,_,_,_,_,U,.dK hd,U,_,U,aF ?_];apply#[d,_,hd,?_];apply#[_,U,d,_,U,hd,λv hv=>?_];let#[s1,xY]:=aB (o:=tV v d) hv;let G1:=G.same s1;let pV:=s1 _ _ hd;generalize upd H v (tV v d)=H1 at s1 xY G1 pV ⊢;apply#[v,d,_,U,xY,pV,λo=>?_];apply Ox (λi σ H'=>∃(v2 v3:aI),σ=[some (.ref g),some (.ref d),v2,v3,none]/\Fz d o (gd ns f) H1 H') #[none,none,U,Fz.start] (λi σ H' _ ⟨_,_,_,z⟩=>z.at_) ?_ ?_
 ·rintro i ky x σ H2 hx ⟨v2,v3,rfl,fz⟩ t ht;let#[n,hn,rfl,rfl]:=MA hx;let nm:=cB hn;let s2:=aa.new (o:=.tup [.str n,.str (f n)]) ht;let A0:=fz.step s2;have e2:upd H2 t (.tup [.str n,.str (f n)]) t\.tup [.str n,.str (f n)]:=ay;show gi _ _ _ _ _ (upd H2 t (.tup [.str n,.str (f n)])) _;generalize upd H2 t (.tup [.str n,.str (f n)])=H3 at s2 A0 e2 ⊢;apply#[t,_,U,.of e2,U,_,_,U,_,_,U,U,?_];let G3:=A0.ye pV G1 pX;let#[dx,dw,dy,vs,dz,h1,h2,h3,h4,h5,m1,m2,m3,m4,m5]:=id G3.ex;let#[jT,d1,l2,d3,xc,as,ef,w1,_]:=id h2.ex;have kI:(dc p dw dy).lookup ("has_piece":Str)=none:=wL _ _ _ Z0 Z0 Z0;have AC:(fi d1 l2 d3).lookup ("has_hand":Str)=none:=pB _ _ _ Z0 Z0 Z0;apply#[_,U,g,dx,_,U,h1,kI,_,U,g,p,.str n,some n,hs,ts,qs,fp,U,G3,U,_,U,?_];rw[show xV (qs.map (·.1)) (some n)=true from c_ (so.perm.mem_iff.mp nm)];apply aF ?_;apply#[_,U,g,CG,dx,_,_,U,h1,T.cl,T.nW,yM _ _ _,p,jT,_,U,w1,AC,_,U,p,f n,hs,ts,dz,U,h2,_,U,?_];rw[c_ (so.at_ n nm)];exact aF #[_,_,U,A0]
 rintro σ H2 ⟨v2,v3,rfl,fz⟩;apply#[o,fz.at_,?_];let s2:=s1.trans (fz.qw pV);have hd2:upd H2 d (.dK (gd ns f)) d\.dK (gd ns f):=ay;generalize upd H2 d (.dK (gd ns f))=H3 at s2 hd2 ⊢;let G3:=G.same s2;let#[dx,dw,dy,vs,dz,h1,h2,h3,h4,h5,m1,m2,m3,m4,m5]:=id G3.ex;apply#[_,U,g,dx,_,U,h1,wL _ _ _ Z0 Z0 Z0,g,p,hs,ts,qs,fp,U,G3,λln x8=>?_];let#[s3,e3]:=aB (o:=.lst ((qs.map (·.1)).map V.str)) x8;let l6:=s3 _ _ hd2;generalize upd H3 ln (.lst ((qs.map (·.1)).map V.str))=H4 at s3 e3 l6 ⊢;apply#[_,U,d,_,U,l6,_,U,ln,_,U,.inl (.of e3),U,_,U,?_];rw[oy,aq,aq,XC];simp only[bne_self_eq_false,decide_true,Bool.not_true];apply aF ?_;let fI:=s2.trans s3;apply#[_,U,ln,U,#[_,.of e3],λD hD=>?_];apply j9 (own:=1) (fv:=[some (.ref d)]) (xs:=(qs.map (·.1)).map V.str) U fg (λi out H'=>aa H4 H'/\H' D\.lst out/\kL K H' out (gd ((qs.map (·.1)).take i) f)) #[aa.new hD,ay,.nil] (λi out H' _ ⟨sm,_,_⟩=>.of (sm _ _ e3)) (λout H5 ⟨sm,jt,pa⟩=>?_) (λi y out H' hy ⟨sm,dq,pa⟩=>?_)
 ·rw[aq,d9] at pa;apply#[D,out,_,U,jt,pa,by rw[oy,aq];omega,λd' g9=>?_]
  have jm:((gd (qs.map (·.1)) f).map (·.1)).Nodup:=by
   rw[CL,mC,ub];exact nd.imp λn e=>n (iB e)
  rw[yN jm];exact k d' _ ((fI.trans sm).trans (aa.new g9)) (fI.free (sm.free g9)) ay
 let#[n,hn,rfl]:=qq hy;have hi:i<(qs.map (·.1)).length:=(cu.mp hn).1;rw[aq] at hi;have nm:n∈ns:=so.perm.mem_iff.mpr (cB hn);apply#[_,U,U,λNx hN=>eP ?_];apply#[_,U,_,U,_,U,d,.str (f n),U,?_,zl,λt ht=>?_]
 ·rw[<- Bw (g:=λn=>V.str (f n)) nm];exact .k (k:=Sum.inr n) (sm _ _ l6)
 let s5:=aa.new (o:=.tup [.str n,.str (f n)]) ht;let lo:=bI pa;rw[oy,dJ,aq] at lo;apply#[out,s5 _ _ dq,by omega,hN _ _ #[fF (sm.trans s5) hD,ay,?_]];have Ez:upd H' t (.tup [.str n,.str (f n)]) t\.tup [.str n,.str (f n)]:=ay;have pD:∀{b:Addr} {ys:af},upd H' t (.tup [.str n,.str (f n)]) b\.tup ys->b≠D:=λhb=>bO hb (s5 _ _ dq) nofun;rw[u3 hn];show kL K _ _ (((qs.map (·.1)).take i++[n]).map _);rw[eJ];exact mE (Paired.aQ pa λy kv ⟨b,z,hb⟩=>#[b,z,by rw[aA (pD (s5 _ _ hb))];exact s5 _ _ hb]) (.cons #[t,U,by rw[aA (pD Ez)];exact Ez] .nil)
end
variable{C:Addr}
theorem hU.has{K:ai}{H:Hp}{p:Addr}{hs:Xa}{ts:Xb}{fp:aw}(W:hU K C H p hs ts fp){b:Addr}(hb:b∈fp):∃o,H b\o:=by
 let#[dx,d1,l2,d3,zs,as,rfl,h1,h2,h3,h4,h5,h6,h7]:=W.ex;simp only[cg] at hb;rcases hb with rfl|rfl|rfl|rfl|hb
 ·exact#[_,h1]
 ·exact#[_,h2]
 ·exact#[_,h3]
 ·exact#[_,h5]
 let#[i,hi,e]:=gB hb;exact#[_,h7 i ((aU hs)[i]' Y0) b (aX Y0) (by rw[<- e];exact aX hi)]
theorem gq.slim{K:ai}{CG CW:Addr}{H:Hp}{g p:Addr}{hs:Xa}{ts:Xb}{qs:aV}{fp:aw}(G:gq K CG CW H g p hs ts qs fp):∃kJ,gq K CG CW H g p hs ts qs kJ/\∀b∈kJ,∃o,H b\o:=by
 let#[dx,dw,dy,vs,dz,h1,h2,h3,h4,h5,m1,m2,m3,m4,m5]:=G.ex;apply#[g::dw::dy::(dz++vs.filterMap λv=>match v with | .ref a=>some a|_=>none),#[dx,dw,dy,vs,dz,h1,h2,h3,h4,h5,by simp,by simp,by simp,λb hb=>by simp[hb],λv hv a z=>?_],λb hb=>?_]
 ·have:a∈vs.filterMap λv=>match v with | .ref a=>some a|_=>none:=yO.mpr #[v,hv,by rw[z]];simp only[cg,dB];exact .inr (.inr (.inr (.inr this)))
 simp only[cg,dB] at hb;rcases hb with rfl|rfl|rfl|hb|hb
 ·exact#[_,h1]
 ·exact#[_,h3]
 ·exact#[_,h4]
 ·exact h2.has hb
 let#[v,hv,e]:=yO.mp hb;let#[i,hi,ev]:=gB hv;let le:=bI h5;let w:=dO h5 i hi Y0;rw[ev] at w;cases o:(qs[i]' Y0).2.2 with
 |none=>
  rw[o] at w;rw[show v=.non from w] at e;cases e
 |some ws=>
  rw[o] at w;let#[a,ys,ea,ha,_]:=w;rw[ea] at e;cases e;exact#[_,ha]
section
variable{d d2:Addr}{o:Obj}{kvs:List (Key × V)}{H H' H1:Hp}{u:HO}
theorem Fz.zg(s:aa H H1):Fz d o kvs H (upd H1 d (.frz o (.dK kvs))):=#[ay,λb u ne e=>by rw[aA ne];exact s _ _ e]
theorem Fz.put(f:Fz d o kvs H H')(hn:H d2=none)(ne:d2≠d):Fz d o kvs H (upd H' d2 u):=#[by rw[aA ne.symm];exact f.at_,λb u nb e=>by rw[aA (bG e hn)];exact f.sm b u nb e]
end
variable{CG CW:Addr}
section v
theorem JQ:bQ ["goods","placed","hand","found","piece"] oz (a_ Ng):=bZ
structure Bu (K:ai) (CG CW:Addr) (H:Hp) (g p d:Addr) (hs:Xa) (ts:Xb) (qs:aV) (fp:aw) (f:bF):Prop where
 G:gq K CG CW H g p hs ts qs fp
 Gd:Good hs ts
 pX:d∉fp
 hd:H d\.dK (gd (qs.map (·.1)) f)
 at_:∀n∈qs.map (·.1),f n∈hs.map (·.1)
 nd:(qs.map (·.1)).Nodup
 cQ:qs.length<64
abbrev QP(hs:Xa)(qs:aV)(f:bF):List (Key × V):=dY (aU hs) λh=>.int (ld f (qs.map e_) h)
inductive N9 (K:ai) (CG CW:Addr) (vs:af) (H:Hp) (Q:VK) (E:XK):Prop
 |mk:∀(g p d:Addr) (hs:Xa) (ts:Xb) (qs:aV) (fp:aw) (f:bF),vs=[.ref g,.ref d]->Bu K CG CW H g p d hs ts qs fp f->(∀d' H',aa H H'->H d'=none->H' d'\.dK (QP hs qs f)->Q (.ref d') H')->N9 K CG CW vs H Q E
theorem fV_{f CP:Addr}(F:bu K "loads_at" "loads_at" Ng f fd)(B:Bi mg)(T:gy K CG)(TW:Txt K mg CW)(cH:!bY CW 1 "hands" pf (Gn K CW))(cW:!bY CG 2 "weight" ["self","piece"] (OS K CG CW CP)) :
  ak P w K mg base bc 3 f fd oz (N9 K CG CW):=by
 exists F.bW JQ;let#[g,p,d,hs,ts,qs,fp,f,rfl,Pl,k]:=h;let hu:=fP hr;let sz:=cJ;have jM:aY 1 _:=hr.mono (by decide);refine' #[_,?r0,?kk]
 case' r0=>refine' au ?s1 ?r1
 case s1=>exact bw 3 JQ.nd (gS (BE U) (by rfl) B.dict qd %[jb ["hand"] 1 [] (d4 (Bp cH TW.cl jM (i_ (pv 0) U))) (λfp s H=>fu (i:=0) (show (["hand"]:ag).Nodup by decide +kernel) U (Or.inl U)) (λfp s H=>jx) (λfp s H=>dA %[0,av|0])|0])
 case' r1=>refine' au ?s2 ?r2
 case' s2=>refine' R6 (d8 dS U ?i2 ?g2 (aJ ?b2))
 case i2=>exact NU (Jm (pv 1))
 case g2=>exact ju U (df (bX 4 JQ.nd) (df (bX 2 JQ.nd) hW))
 case b2=>exact u4 hu (pv 3) (pv 2) (br fG (j7 hu (pv 3) (pv 2)) (j1 cW T.cl hr (pv 0) %[4|0])) U
 case r2=>exact aJ (bp (pv 3))
 let nl:=Pl.Gd.iU;let h8:=Pl.Gd.h8;let#[dx,dw,dy,vs,dz,h1,h2,h3,h4,h5,m1,m2,m3,m4,m5]:=id Pl.G.ex;let#[jT,d1,l2,d3,xc,as,ef,w1,_]:=id h2.ex;have AC:(fi d1 l2 d3).lookup ("hands":Str)=none:=pB _ _ _ Z0 Z0 Z0;apply#[_,U,g,CG,dx,_,_,U,h1,T.cl,T.nW,yM _ _ _,p,jT,_,U,w1,AC,p,hs,ts,dz,U,h2,λlh eZ=>?_];let#[s1,e1]:=aB (o:=.lst ((aU hs).map V.str)) eZ;generalize upd H lh (.lst ((aU hs).map V.str))=H1 at s1 e1 ⊢;apply#[lh,U,#[_,.of e1],λD hD=>?_];apply j9 (own:=1) (fv:=[]) (xs:=(aU hs).map V.str) U fg (λi out H'=>aa H1 H'/\H' D\.lst out/\kL K H' out (dY ((aU hs).take i) λ_=>.int 0)) #[aa.new hD,ay,.nil] (λi out H' _ ⟨sm,_,_⟩=>.of (sm _ _ e1)) (λout H5 ⟨sm,jt,pa⟩=>?_) (λi y out H' hy ⟨sm,dq,pa⟩=>?_);rotate_left 1
 ·let#[n,hn,rfl]:=qq hy;have hi:i<(aU hs).length:=(cu.mp hn).1;apply#[_,U,U,λNx hN=>eP ?_];apply#[_,U,zl,λt ht=>?_];let s5:=aa.new (o:=.tup [.str n,.int 0]) ht;let lo:=bI pa;rw[oy,dJ] at lo;apply#[out,s5 _ _ dq,by omega,hN _ _ #[fF (sm.trans s5) hD,ay,?_]];have Ez:upd H' t (.tup [.str n,.int 0]) t\.tup [.str n,.int 0]:=ay;have pD:∀{b:Addr} {ys:af},upd H' t (.tup [.str n,.int 0]) b\.tup ys->b≠D:=λhb=>bO hb (s5 _ _ dq) nofun;rw[u3 hn];show kL K _ _ (((aU hs).take i++[n]).map _);rw[eJ];exact mE (Paired.aQ pa λy kv ⟨b,z,hb⟩=>#[b,z,by rw[aA (pD (s5 _ _ hb))];exact s5 _ _ hb]) (.cons #[t,U,by rw[aA (pD Ez)];exact Ez] .nil)
 rw[aq,d9] at pa;apply#[D,out,_,U,jt,pa,by rw[oy];omega,λd2 hd2=>?_]
 have jm:((dY (aU hs) λ_=>V.int 0).map (·.1)).Nodup:=by
  rw[CL,mC,ub];exact Pl.Gd.iT.imp λn e=>n (iB e)
 rw[yN jm];let s2:=(s1.trans sm).trans (aa.new (o:=.dK (dY (aU hs) λ_=>V.int 0)) hd2);have e2:upd H5 d2 (.dK (dY (aU hs) λ_=>V.int 0)) d2\.dK (dY (aU hs) λ_=>V.int 0):=ay;have n2:H d2=none:=s1.free (sm.free hd2);show qD _ _ _ _ (upd H5 d2 (.dK (dY (aU hs) λ_=>V.int 0)));generalize upd H5 d2 (.dK (dY (aU hs) λ_=>V.int 0))=H6 at s2 e2 ⊢;have N4:d2≠d:=(bG Pl.hd n2).symm;apply#[d,_,s2 _ _ Pl.hd,?_];apply#[_,U,d,_,U,s2 _ _ Pl.hd,λv hv=>?_];let#[s3,xY]:=aB (o:=tV v d) hv;let e3:=s3 _ _ e2;let dH:=s2.trans s3;generalize upd H6 v (tV v d)=H7 at s3 xY e3 dH ⊢;apply#[v,d,_,U,xY,dH _ _ Pl.hd,λo=>?_];apply Ox (λi σ H'=>∃(v2 v4:aI),σ=[some (.ref g),some (.ref d),v2,some (.ref d2),v4]/\Fz d o (gd (qs.map (·.1)) f) H H'/\H' d2\.dK (dY (aU hs) λh=>.int (ld f ((qs.take i).map e_) h))) #[none,none,U,Fz.zg dH,by rw[aA N4];exact e3] (λi σ H' _ ⟨_,_,_,z,_⟩=>z.at_) ?_ ?_
 ·rintro i ky x σ H8 hx ⟨v2,v4,rfl,fz,e8⟩ t ht;let#[n,hn,rfl,rfl]:=MA hx
  have hi:i<qs.length:=by
   have:=(cu.mp hn).1;rwa [aq] at this
  have hq:qs[i]? = some (qs[i]'hi):=aX hi
  have en:n=(qs[i]'hi).1:=by
   rw[de,hq] at hn;exact (dN hn).symm
  have fm:f n∈aU hs:=(gv hs).mem_iff.mpr (Pl.at_ n (cB hn));generalize qs[i]'hi=q at hq en;let s8:=aa.new (o:=.tup [.str n,.str (f n)]) ht;let A0:=fz.step s8;let e9:=s8 _ _ e8;have et:upd H8 t (.tup [.str n,.str (f n)]) t\.tup [.str n,.str (f n)]:=ay;show gi _ _ _ _ _ (upd H8 t (.tup [.str n,.str (f n)])) _;generalize upd H8 t (.tup [.str n,.str (f n)])=H9 at s8 A0 e9 et ⊢;apply#[t,_,U,.of et,U,_,_,U,_,_,U,U,?_];let G9:=A0.ye Pl.hd Pl.G Pl.pX;let#[dx,dw,dy,vs,dz,h1,h2,h3,h4,h5,m1,m2,m3,m4,m5]:=id G9.ex;have kI:(dc p dw dy).lookup ("weight":Str)=none:=wL _ _ _ Z0 Z0 Z0;apply#[_,U,_,U,d2,.int (ld f ((qs.take i).map e_) (f n)),U,?_,_,U,g,dx,_,U,h1,kI,_,U,g,p,.str n,some n,hs,ts,qs,fp,U,G9,Pl.nd,U,.inl #[q,cB hq,eW some en,?_]]
  ·rw[<- Bw (g:=λh=>V.int (ld f ((qs.take i).map e_) h)) fm];exact .k (k:=Sum.inr (f n)) e9
  apply#[_,_,U,U,_,U,_,U,d2,_,U,.k (k:=Sum.inr (f n)) e9 (by rw[oy];omega),?_];apply#[_,_,U,A0.put n2 N4,?_];rw[ay,SC fm];congr 2;apply JA λm _=>?_
  have e5:(qs.take (i+1)).map e_=(qs.take i).map e_++[e_ q]:=by
   rw[ua,hq,eJ];rfl
  rw[e5,Sx];show (if m=f n then V.int (ld f ((qs.take i).map e_) (f n)+q.2.1) else V.int (ld f ((qs.take i).map e_) m))=V.int (if m=f q.1 then _ else _);rw[<- en];by_cases z:m=f n
  ·rw[aK z,aK z,z];rfl
  rw[aC z,aC z]
 rintro σ H8 ⟨v2,v4,rfl,fz,e8⟩;apply#[o,fz.at_,?_];rw[oy,aq,d9] at e8;exact#[_,U,k d2 _ (fz.qw Pl.hd) n2 (by rw[aA N4];exact e8)]
end
structure Std (K:ai) (CG CW:Addr) (H:Hp) (g p d:Addr) (hs:Xa) (ts:Xb) (qs:aV) (fp:aw) (ns:ag) (f:bF):Prop where
 G:gq K CG CW H g p hs ts qs fp
 Gd:Good hs ts
 pX:d∉fp
 hd:H d\.dK (gd ns f)
 ok:MW hs qs ns f
 nd:(qs.map (·.1)).Nodup
 cQ:qs.length<64
 wp:∀q∈qs,0<=q.2.1
variable{H:Hp}
theorem Std.placed{K:ai}{H':Hp}{g p d d':Addr}{hs:Xa}{ts:Xb}{qs:aV}{fp:aw}{ns:ag}{f:bF}(S:Std K CG CW H g p d hs ts qs fp ns f)(s:aa H H')(hn:H d'=none)(hd:H' d'\.dK (gd (qs.map (·.1)) f)):∃kJ,Bu K CG CW H' g p d' hs ts qs kJ f:=by
 let#[kJ,G',has]:=S.G.slim;apply#[kJ,G'.same s,S.Gd,λm=>?_,hd,λn hn=>S.ok.at_ n (S.ok.perm.mem_iff.mpr hn),S.nd,S.cQ];let#[o,e]:=has d' m;rw[hn] at e;cases e
variable{σ:St}
theorem oM{t u:TS}{D:Ends}(R:km)(later:∀σ H,R σ H->u D σ H)(now:∀N:St->Hp->Prop,(∀σ H,R σ H->N σ H)->t { D with nx:=N } σ H):qD t u D σ H:=now (u D) later
theorem setG{N:km}(h:N (σ.set i (some v)) H):jw i v σ H N:=h
structure mQ (P:Ad) (w:Af) (K:ai) (mg:Str->Option Aa) (base:Heap) (C:Addr) (k:Nat) (x:Str) (ps:ag) (sp:Sp):Prop where
 ex:∃f fd,ak P w K mg base bc k f fd ps sp/\Mk K C f/\mg x\.ref C/\p9 K fd ps []
theorem Ll{n_:Nat}{X:Cx}{k:Nat}{x:Str}{ps:ag}{sp:Sp}{p pos:Pos}{e:Expr}{es:List Expr}{t:TA}(c:mQ X.prog X.w X.K X.mg X.base C k x ps sp)(hr:aY n_ X.A)(ha:PA X (e::es) t)(hg:Gl X x:=by rfl)(sZ:(x == ("__debug__":Str))=false:=by decide)(he:starEach (e::es) X.env=(false,eval e X.env)::starEach es X.env:=by rfl)(iY:(backTo pos (starEach es X.env)).any (·.1)=false:=by rfl)(hk:(k+1)<=n_:=by decide):PE X (.Call (.Name x p) (e::es) [] pos) (xm C sp [] E0 t):=by
 let#[f,fd,F,M,m,b]:=c.ex;exact ZI M F (hr.mono hk) hg m b .nil nO ha sZ he iY
end Ev
local macro_rules|`(tactic|lk)=>`(tactic|(refine Ev.setG ?_;dsimp only))
namespace L2
open PySem PySem.Spec PyProof.Rows PySem.W
inductive sf (K:ai) (x:V) (y:V) (H:Hp) (Q:VK):Prop
 |mk:∀a b xs,x=.ref a->y=.ref b->d5 K H a xs->d5 K H b []->Q (.bl (!xs.isEmpty)) H->sf K x y H Q
variable{X:Cx}
theorem Nz(hu:X.A.units+0+1<cLine):dU X (compareOp .NotEq) (sf X.K):=by
 intro pins s σ H x y v u Q I rx ry h;let#[a,b,xs,rfl,rfl,t,t',hq]:=h;cases xs with
 |nil=>exact YA gJ hu pins s σ H (.ref a) (.ref b) v u Q I rx ry #[[],[],#[a,[],U,t,.nil],#[b,[],U,t',.nil],hq]
 |cons z zs=>
  cases rx;cases ry;let#[us,r,pl,_]:=I.list t;let#[vs,r',uD,_]:=I.list t';let l1:=r.length;let l2:=r'.length;exact GS.gX pl.isList uD.isList (by simp only[cY,bne_iff_ne];simp at l1 l2;omega) Y0 #[.bl true,H,I,U,hq]
end L2
namespace Ev
open PySem L2
def gH(a n:Int):Int:=a / (Int.gcd a n:Int) * n
variable{n:Int}
theorem Yn{a:Int}(ha:0<a)(hn:0<n):gH a n=(Int.lcm a n:Int):=by
 let#[p,rfl]:=wZ (iF ha);let#[q,rfl]:=wZ (iF hn);show ((p:Int) / ((Nat.gcd p q:Nat):Int)) * (q:Int)=((Nat.lcm p q:Nat):Int);rw[<- Int.natCast_ediv,<- Int.natCast_mul,Nat.div_mul_right_comm (Nat.gcd_dvd_left p q)];rfl
def jK(ns:List Int):Int:=ns.foldl gH 1
theorem JC:∀(ns:List Int) (a:Int),0<a->(∀n∈ns,0<n)->0<ns.foldl gH a/\∀x:Int,0<=x->(ns.foldl gH a ∣ x ↔ a ∣ x/\∀n∈ns,n ∣ x)
 |[],a,ha,_=>#[ha,λx _=>by simp]
 |n::ns,a,ha,h=>by
  let hn:=h n fY;let e:=Yn ha hn
  have p:0<gH a n:=by
   rw[e];have:=Nat.lcm_pos (m:=a.natAbs) (n:=n.natAbs) Y0 Y0;have:0<Int.lcm a n:=this;omega
  let#[h1,h2]:=JC ns (gH a n) p λm hm=>h m (fo _ hm);apply#[h1,λx hx=>(h2 x hx).trans ?_];let#[z,rfl]:=wZ hx;rw[e,Int.natCast_dvd_natCast,Int.lcm_dvd_iff];constructor
  ·rintro⟨⟨q1,q2⟩,q3⟩
   exact#[q1,λm hm=>by
    rcases cg.mp hm with rfl|hm
    ·exact q2
    exact q3 m hm]
  rintro⟨q1,q2⟩;exact#[#[q1,q2 n fY],λm hm=>q2 m (fo _ hm)]
variable{ns:List Int}
theorem NF(h:∀n∈ns,0<n):0<jK ns:=(JC ns 1 (by decide) h).1
theorem hT_(h:∀n∈ns,0<n)(hn:n∈ns):n ∣ jK ns:=
 (((JC ns 1 (by decide) h).2 _ (iF (NF h))).mp (Int.dvd_refl _)).2 n hn
theorem YN(f:bF)(x:Str × Int)(ws:Xa)(h:Str):ld f (x::ws) h=(if f x.1=h then x.2 else 0)+ld f ws h:=by
 unfold ld;by_cases e:f x.1=h
 ·simp[e]
 simp[e]
theorem QV{f:bF}{h:Str}:∀{ws:Xa},(∀x∈ws,0<=x.2/\x.2<=1000000000)->ld f ws h<=1000000000 * ws.length
 |[],_=>by
  unfold ld;simp
 |x::ws,p=>by
  let h1:=p x fY;let h2:=QV (f:=f) (h:=h) (ws:=ws) λy hy=>p y (fo _ hy);rw[YN,jy];by_cases z:f x.1=h
  ·rw[aK z];omega
  rw[aC z];omega
def fD(hs:Xa):Int:=jK ((aU hs).map (strOf hs))
theorem Bh{hs:Xa}{ts:Xb}(G:Good hs ts){n:Str}(h:n∈aU hs):1<=strOf hs n/\strOf hs n<=1000:=(G.aE _ (JH ((gv hs).mem_iff.mp h))).2
variable{i:Nat}
variable{fd:Ae}
section v
theorem vD:bQ ["numbers","found","number"] ["numbers"] (a_ Kv):=bZ
def Dy(K:ai):Sp:=λvs H Q _=>∃(l:Addr) (ns:List Int),vs=[.ref l]/\d5 K H l (ns.map V.int)/\(∀n∈ns,1<=n/\n<=1000)/\Q (.int (jK ns)) H
theorem _z(h:ns[i]? = some n):jK (ns.take (i+1))=gH (jK (ns.take i)) n:=by
 unfold jK;rw[ua,h,List.foldl_append];rfl
theorem eP_{y:V}(h:(ns.map V.int)[i]? = some y):∃n,ns[i]? = some n/\y=.int n:=by
 rw[de] at h;cases e:ns[i]? with
 |none=>rw[e] at h;cases h
 |some n=>rw[e] at h;exact#[n,U,(dN h).symm]
theorem XX{f:Addr}(F:bu K "least_multiple" "least_multiple" Kv f fd)(cG:!bz 1 Ct mB vz):!ak bc 2 f fd ["numbers"] (Dy K):=by
 exists F.bW vD;let#[l,ns,rfl,hl,b,k]:=h;refine' #[_,au ?s1 (au ?s2 (aJ ?s3)),?kk]
 case s1=>exact bw 1 vD.nd av
 case s2=>exact d8 dS U (d4 (pv 0)) (bX 2 vD.nd) (aJ (bw 1 vD.nd (br tX (br FU (pv 1) (bj cG hr %[1,2|0])) (pv 2))))
 case s3=>exact bp (pv 1)
 apply#[_,U,l,U,#[_,hl],ie (K:=K) (a:=l) (xs:=ns.map V.int) (λi σ H'=>H'=H/\∃(v2:aI),σ=[some (.ref l),some (.int (jK (ns.take i))),v2]) #[U,none,U] (λi σ H' _ ⟨e,_⟩=>by rw[e];exact hl) ?_ ?_]
 ·rintro i y σ H' hy ⟨rfl,v2,rfl⟩;let#[n,hn,rfl]:=eP_ hy;let bn:=b n (cB hn)
  let p:=NF (ns:=ns.take i) λm hm=>by
   have:=b m (List.take_subset _ _ hm);omega
  apply#[_,U,_,U,_,U,_,_,U,iF p,by omega,_,_,U,U,Yu Y0 bn.2,_,U,_,_,U,U,.inr #[by omega,by omega],U,some (.int n),?_];rw[_z hn];rfl
 rintro σ H' ⟨rfl,v2,rfl⟩;apply#[_,U,?_];rw[aq,d9];exact k
theorem zx:bQ ["web"] ["web"] (a_ rJ):=bZ
inductive IP (K:ai) (C:Addr) (vs:af) (H:Hp) (Q:VK) (E:XK):Prop
 |mk:∀(p:Addr) (hs:Xa) (ts:Xb) (fp:aw),vs=[.ref p]->hU K C H p hs ts fp->Good hs ts->(∀H',aa H H'->Q (.int (fD hs)) H')->IP K C vs H Q E
theorem Zo{f CW:Addr}(F:bu K kj kj rJ f fd)(TW:Txt K mg CW)(cL:!bz 2 "least_multiple" ["numbers"] (Dy K))(cH:!bY CW 1 "hands" pf (Gn K CW))(cS:!bY CW 2 "strength" wI (JM K CW)):!ak bc 3 f fd ["web"] (IP K CW):=by
 exists F.bW zx;let#[p,hs,ts,fp,rfl,W,G,k]:=h;let sz:=cJ;let nl:=G.iU;let h8:=G.h8;refine' #[_,aJ (bp (bj cL hr %[jb ["hand","web"] 1 [0] (d4 (Bp cH TW.cl (hr.mono (by decide)) (pv 0))) (λfp s H=>fu (i:=0) (show (["hand","web"]:ag).Nodup by decide +kernel) U (Or.inl U)) (λfp s H=>jx) (λfp s H=>?e1)|0])),?kk]
 case e1=>exact j1 cS TW.cl hr (pv 1) %[0|0]
 let#[jT,d1,l2,d3,xc,as,ef,w1,_]:=id W.ex;apply#[_,U,p,jT,_,U,w1,pB _ _ _ Z0 Z0 Z0,p,hs,ts,fp,U,W,λlh eZ=>?_];let#[s1,e1]:=aB (o:=.lst ((aU hs).map V.str)) eZ;generalize upd H lh (.lst ((aU hs).map V.str))=H1 at s1 e1 ⊢;apply#[lh,U,#[_,.of e1],λD hD=>?_];apply j9 (own:=1) (fv:=[some (.ref p)]) (xs:=(aU hs).map V.str) U fg (λi out H'=>aa H1 H'/\H' D\.lst out/\out=(((aU hs).take i).map (strOf hs)).map V.int) #[aa.new hD,ay,U] (λi out H' _ ⟨sm,_,_⟩=>.of (sm _ _ e1)) (λout H5 ⟨sm,jt,eo⟩=>?_) (λi y out H' hy ⟨sm,dq,eo⟩=>?_)
 ·rw[aq,d9] at eo;rw[eo] at jt;apply#[D,_,U,.of jt,λn hn=>?_,k H5 (s1.trans sm)];let#[m,hm,rfl]:=bx.mp hn;exact Bh G hm
 let#[n,hn,rfl]:=qq hy;have hi:i<(aU hs).length:=(cu.mp hn).1;apply#[_,U,U,λNx hN=>eP ?_];let W':=(W.same s1).same sm;let#[jT,d1,l2,d3,xc,as,ef,w1,_]:=id W'.ex;apply#[_,U,p,jT,_,U,w1,pB _ _ _ Z0 Z0 Z0,_,U,p,n,strOf hs n,hs,ts,fp,U,W',G.pS,JH ((gv hs).mem_iff.mp (cB hn)),?_];apply#[out,dq,by rw[eo,aq,aq,dJ];omega,hN _ _ #[fF sm hD,ay,?_]];rw[u3 hn,eJ,eJ,eo];rfl
theorem F3:bQ ["goods","placed","multiple","found","hand","load"] oz (a_ N7):=bZ
def fJ(hs:Xa)(qs:aV)(f:bF)(h:Str):Int:=ld f (qs.map e_) h * (fD hs / strOf hs h)
inductive Ni (K:ai) (CG CW:Addr) (vs:af) (H:Hp) (Q:VK) (E:XK):Prop
 |mk:∀(g p d:Addr) (hs:Xa) (ts:Xb) (qs:aV) (fp:aw) (f:bF),vs=[.ref g,.ref d]->Bu K CG CW H g p d hs ts qs fp f->(∀q∈qs,0<=q.2.1/\q.2.1<=1000000000)->(∀d' H',aa H H'->H d'=none->H' d'\.dK (dY (aU hs) λh=>.int (fJ hs qs f h))->Q (.ref d') H')->Ni K CG CW vs H Q E
theorem HM{qs:aV}(wp:∀q∈qs,0<=q.2.1/\q.2.1<=1000000000)(cQ:qs.length<64)(f:bF)(h:Str):0<=ld f (qs.map e_) h/\ld f (qs.map e_) h<=64000000000:=by
 have p:∀x∈qs.map e_,0<=x.2/\x.2<=1000000000:=λx hx=>by
  let#[q,hq,rfl]:=bx.mp hx;exact wp q hq
 let h1:=QV (f:=f) (h:=h) p;rw[aq] at h1;exact#[Ya λx hx=>(p x hx).1,by omega]
theorem gf_{f CG CW:Addr}(F:bu K "levels_at" "levels_at" N7 f fd)(T:gy K CG)(TW:Txt K mg CW)(cL:!bz 3 "loads_at" oz (N9 K CG CW))(cM:!bz 3 kj ["web"] (IP K CW))(cS:!bY CW 2 "strength" wI (JM K CW)) :
  ak P w K mg base bc 4 f fd oz (Ni K CG CW):=by
 exists F.bW F3;let#[g,p,d,hs,ts,qs,fp,f,rfl,Pl,wp,k]:=h;let hu:=fP hr;let sz:=cJ;have B_:aY 2 _:=hr.mono (by decide);refine' #[_,?r0,?kk]
 case' r0=>refine' au ?s0 (au ?s1 (au ?s2 ?r2))
 case s0=>exact bw 2 F3.nd (bj cM hr %[i_ (pv 0) U|0])
 case s1=>exact bw 3 F3.nd Gu
 case' s2=>refine' d8 dS U ?i2 ?g2 (aJ ?b2)
 case i2=>exact NU (Jm (bj cL hr %[0,1|0]))
 case g2=>exact ju U (df (bX 4 F3.nd) (df (bX 5 F3.nd) hW))
 case b2=>exact u4 hu (pv 3) (pv 4) (br tX (pv 5) (br FU (pv 2) (j1 cS TW.cl B_ (i_ (pv 0) U) %[4|0]))) U
 case r2=>exact aJ (bp (pv 3))
 let nl:=Pl.Gd.iU;let h8:=Pl.Gd.h8;let#[dx,dw,dy,vs,dz,h1,h2,_]:=id Pl.G.ex;apply#[_,U,g,CG,dx,_,_,U,h1,T.cl,T.nW,yM _ _ _,p,hs,ts,dz,U,h2,Pl.Gd,λH0 s0=>?_];intro d2 hd2;let s1:=s0.trans (aa.new (o:=.dK []) hd2);have e1:upd H0 d2 (.dK []) d2\.dK []:=ay;have n2:H d2=none:=s0.free hd2;show qD _ _ _ _ (upd H0 d2 (.dK []));generalize upd H0 d2 (.dK [])=H1 at s1 e1 ⊢;have Pl1:Bu K CG CW H1 g p d hs ts qs fp f:=#[Pl.G.same s1,Pl.Gd,Pl.pX,s1 _ _ Pl.hd,Pl.at_,Pl.nd,Pl.cQ];apply#[_,U,_,U,g,p,d,hs,ts,qs,fp,f,U,Pl1,λdl H2 s2 Cg e2=>?_];apply#[dl,_,U,e2,λv hv=>?_];let#[s3,xY]:=aB (o:=tV v dl) hv;let e3:=s3 _ _ e2;let KG:=s2.trans s3;generalize upd H2 v (tV v dl)=H3 at s3 xY e3 KG ⊢;have K0:H dl=none:=s1.free Cg;have UF:d2≠dl:=bG e1 Cg;apply#[v,dl,_,U,xY,e3,λo=>?_];apply Ox (λi σ H'=>∃(v4 v5:aI),σ=[some (.ref g),some (.ref d),some (.int (fD hs)),some (.ref d2),v4,v5]/\aa H H'/\H' dl\.frz o (.dK (QP hs qs f))/\H' d2\.dK (dY ((aU hs).take i) λh=>.int (fJ hs qs f h))) #[none,none,U,fF (s1.trans KG) K0,ay,by rw[aA UF];exact KG _ _ e1] (λi σ H' _ ⟨_,_,_,_,z,_⟩=>z) ?_ ?_
 ·rintro i ky x σ H8 hx ⟨v4,v5,rfl,s8,f8,e8⟩ t ht;let#[n,hn,rfl,rfl]:=MA hx;have hi:i<(aU hs).length:=(cu.mp hn).1;have nm:n∈hs.map (·.1):=(gv hs).mem_iff.mp (cB hn);let sm:=JH nm;let sg:=Bh Pl.Gd (cB hn);let lo:=HM wp Pl.cQ f n;let ss:=aa.new (o:=.tup [.str n,.int (ld f (qs.map e_) n)]) ht;let s9:=s8.trans ss;let e9:=ss _ _ e8;let f9:=ss _ _ f8;have et:upd H8 t (.tup [.str n,.int (ld f (qs.map e_) n)]) t\.tup [.str n,.int (ld f (qs.map e_) n)]:=ay;show gi _ _ _ _ _ (upd H8 t (.tup [.str n,.int (ld f (qs.map e_) n)])) _;generalize upd H8 t (.tup [.str n,.int (ld f (qs.map e_) n)])=H9 at ss s9 e9 f9 et ⊢;apply#[t,_,U,.of et,U,_,_,U,_,_,U,U,?_];let G9:=Pl.G.same s9;let#[dx,dw,dy,vs,dz,h1,h2,h3,h4,h5,m1,m2,m3,m4,m5]:=id G9.ex;let#[jT,d1,l2,d3,xc,as,ef,w1,_]:=id h2.ex;have AC:(fi d1 l2 d3).lookup ("strength":Str)=none:=pB _ _ _ Z0 Z0 Z0;apply#[_,U,_,U,_,U,g,CG,dx,_,_,U,h1,T.cl,T.nW,yM _ _ _,p,jT,_,U,w1,AC,_,U,p,n,strOf hs n,hs,ts,dz,U,h2,Pl.Gd.pS,sm,?_];apply#[_,_,U,U,#[by omega,by omega],_,_,U,U,.inl #[by omega,by omega],_,U,_,U,d2,_,U,.k (k:=Sum.inr n) e9 (by rw[oy,dJ];omega),?_];apply#[_,_,U,fF s9 n2,by rw[aA UF.symm];exact f9,?_];rw[ay,u3 hn,Sj (Td Pl.Gd.iT hn)];congr 2;apply JA λm _=>?_;by_cases z:m=n
  ·subst z;simp[fJ]
  simp[z]
 rintro σ H8 ⟨v4,v5,rfl,s8,f8,e8⟩;rw[oy,d9] at e8;exact#[_,U,k d2 H8 s8 n2 e8]
end
end Ev
namespace L2
open PySem PySem.Spec PyProof.Rows PySem.W
variable{vs:List (Key × Aa)}{prog:Ad}{w:Af}{A:Ag}
theorem Uq{d it:Addr}{ep:Nat}(hh:A.handled=none)(l5:d≠it):Walks prog w A it [it,d] [it] vs.length (λi v=>∃k,vs[i]? = some (k,v)) (λi h=>h.IsValIter it d i vs.length ep/\h.DictAt (dZ prog w) d vs ep) where
 sub:=λb hb=>by simp at hb;simp[hb]
 frame:=λi h h' st k=>#[st.1.at λo e=>k it Y1 o e,by
  let#[o,es,ho,r]:=st.2;exact#[o,es,k d Y1 o ho,r]]
 item:=by
  intro i s Q E hi st h;obtain⟨⟨k,v⟩,hx⟩:∃p,vs[i]? = some p:=#[vs[i],by simp[hi]];apply wpAny_pyNext_values_item st.1 st.2 hx λh' dX sb=>?_;apply h v h' s.toks #[k,hx] #[dX,?_] λb o hb e=>(sb.2 b ⇑hb).trans e;let#[o,es,ho,r]:=st.2;exact#[o,es,(sb.2 d l5).trans ho,r]
 done:=by
  intro s Q E st h;exact wpAny_pyNext_values_end hh st.1 st.2 Y1 λh' eb=>h h' s.toks λb o hb e=>eb b o ⇑hb e
 self:=λ_ _ _ _ st h=>wpAny_pyIter_valiter st.1 h
theorem Ji{ns:List (Key × Int)}(r:KV (ns.map λx=>(x.1,V.int x.2)) vs){i:Nat}{k:Key}{v:Aa}(h:vs[i]? = some (k,v)):∃n t,(ns.map (·.2))[i]? = some n/\v=.int n t:=by
 let hl:=r.length;rw[aq] at hl
 have hi:i<ns.length:=by
  have:=(cu.mp h).1;omega
 let#[u,hu,ru]:=Ms r i (k:=(ns[i]'hi).1) (x:=V.int (ns[i]'hi).2) (by rw[de,aX hi];rfl);rw[h] at hu;let e:=eW Prod.snd (dN hu);let#[t,rfl]:=(show ∃t,u=Value.int (ns[i]'hi).2 t from ru);exact#[_,t,by rw[de,aX hi];rfl,e]
inductive xJ (xs:af) (H:Hp) (Q:VK):Prop
 |mk:∀(v d:Addr) (ns:List (Key × Int)),xs=[.ref v]->H v\qc v d->Rd H d (.dK (ns.map λx=>(x.1,V.int x.2)))->0<ns.length->(∀m,m∈ns.map (·.2)->(∀a∈ns.map (·.2),a<=m)->Q (.int m) H)->xJ xs H Q
inductive xI (xs:af) (H:Hp) (Q:VK):Prop
 |mk:∀(v d:Addr) (ns:List (Key × Int)),xs=[.ref v]->H v\qc v d->Rd H d (.dK (ns.map λx=>(x.1,V.int x.2)))->0<ns.length->(∀m,m∈ns.map (·.2)->(∀a∈ns.map (·.2),m<=a)->Q (.int m) H)->xI xs H Q
variable{X:Cx}
theorem h9_(hc:X.calm=true):gn X (.builtin "max") xJ:=by
 intro pins s σ H xs us Q I r h;let#[v,d,ns,rfl,hv,hd,h0,q]:=h;let#[u,rfl,ru]:=vals1 r;cases ru;let#[z,l5,vs,rel,dd]:=kP I.aE hd;let#[ep,dat]:=dd.dictAt;let#[iv,_,_]:=I.aE v _ hv;let hl:=rel.length;rw[aq] at hl
 have FP:d<s.heap.objs.size:=by
  let#[o,es,ho,_]:=dat;exact bK ho
 apply call_max_walk (wpAny_pyIter_values (knd:=dZ X.prog X.w) (kvs:=vs) (ep:=ep) iv dat ?_);apply⟨s.heap.objs.size,[s.heap.objs.size,d],[s.heap.objs.size],vs.length,λi v=>∃k,vs[i]? = some (k,v),_,_,rfl,Uq (ep:=ep) (I.ok.hd hc) (dE FP),⟨⟨_,dj _ rfl,rfl,rfl⟩,?_⟩,λb hb=>?_,by omega,CmpOf.ints_gt (λi=>((ns.map (·.2))[i]?).getD 0) (λi v ⟨k,hv⟩=>?_),λv' h' tk hP k=>?_⟩
 ·let#[o,es,ho,r]:=dat;exact⟨o,es,bo _ ho,r⟩
 ·have hb:b=s.heap.objs.size∨b=d:=⇑hb
  show b<(s.heap.objs.push _).size;rw[Array.size_push];rcases hb with e|e
  ·rw[e];exact Nat.lt_succ_self _
  rw[e];exact Nat.lt_succ_of_lt FP
 ·let#[n,t,e1,e2]:=Ji rel hv;apply⟨t,?_⟩;rw[e1];exact e2
 let#[k',Ew]:=hP;let#[n,t,e1,rfl]:=Ji rel Ew;let#[b1,b2]:=argBest_gt (λi=>((ns.map (·.2))[i]?).getD 0) (vs.length - 1);rw[e1] at b2;apply⟨.int n,H,I.kept (t':=tk) (λb o e=>k b o (λm=>?_) (bo _ e)),⟨t,rfl⟩,q n (cB e1) λa ha=>?_⟩
 ·have m:b=s.heap.objs.size:=⇑m
  exact absurd m (dE (bK e))
 let#[j,hj,ej]:=gB ha;have:=b2 j (by rw[aq] at hj;omega);rw[aX hj,ej] at this;exact this
theorem gk_(hc:X.calm=true):gn X (.builtin "min") xI:=by
 intro pins s σ H xs us Q I r h;let#[v,d,ns,rfl,hv,hd,h0,q]:=h;let#[u,rfl,ru]:=vals1 r;cases ru;let#[z,l5,vs,rel,dd]:=kP I.aE hd;let#[ep,dat]:=dd.dictAt;let#[iv,_,_]:=I.aE v _ hv;let hl:=rel.length;rw[aq] at hl
 have FP:d<s.heap.objs.size:=by
  let#[o,es,ho,_]:=dat;exact bK ho
 apply call_min_walk (wpAny_pyIter_values (knd:=dZ X.prog X.w) (kvs:=vs) (ep:=ep) iv dat ?_);apply⟨s.heap.objs.size,[s.heap.objs.size,d],[s.heap.objs.size],vs.length,λi v=>∃k,vs[i]? = some (k,v),_,_,rfl,Uq (ep:=ep) (I.ok.hd hc) (dE FP),⟨⟨_,dj _ rfl,rfl,rfl⟩,?_⟩,λb hb=>?_,by omega,CmpOf.ints_lt (λi=>((ns.map (·.2))[i]?).getD 0) (λi v ⟨k,hv⟩=>?_),λv' h' tk hP k=>?_⟩
 ·let#[o,es,ho,r]:=dat;exact⟨o,es,bo _ ho,r⟩
 ·have hb:b=s.heap.objs.size∨b=d:=⇑hb
  show b<(s.heap.objs.push _).size;rw[Array.size_push];rcases hb with e|e
  ·rw[e];exact Nat.lt_succ_self _
  rw[e];exact Nat.lt_succ_of_lt FP
 ·let#[n,t,e1,e2]:=Ji rel hv;apply⟨t,?_⟩;rw[e1];exact e2
 let#[k',Ew]:=hP;let#[n,t,e1,rfl]:=Ji rel Ew;let#[b1,b2]:=argBest_lt (λi=>((ns.map (·.2))[i]?).getD 0) (vs.length - 1);rw[e1] at b2;apply⟨.int n,H,I.kept (t':=tk) (λb o e=>k b o (λm=>?_) (bo _ e)),⟨t,rfl⟩,q n (cB e1) λa ha=>?_⟩
 ·have m:b=s.heap.objs.size:=⇑m
  exact absurd m (dE (bK e))
 let#[j,hj,ej]:=gB ha;have:=b2 j (by rw[aq] at hj;omega);rw[aX hj,ej] at this;exact this
end L2
namespace EvM
open PySem PySem.Spec PyProof.Rows PySem.W
end EvM
namespace L2
open PySem PySem.Spec PyProof.Rows PySem.W
theorem SW{X:Cx}:dU X (binaryOp .FloorDiv) (rI (λ_ j=>0<j/\j<2 ^ 100) λi j=>.int (i / j)):=BU λi j _ _ _ _ _ hc q=>by
 have h1:(0:Int)<j:=hc.1;have h2:j<2 ^ 100:=hc.2;apply floordiv_int Y0 (by rw[Int.fdiv_eq_ediv_of_nonneg i Y0];exact q) (.inl (PyProof.noPylong_of_log2 ?_));have:j.natAbs.log2<100:=(Nat.log2_lt Y0).mpr Y0;omega
end L2
namespace Ev
open PySem L2
theorem Yd{La Lb Sa Sb ca cb M:Int}(h1:ca * Sa=M)(h2:cb * Sb=M):(La * Sb - Lb * Sa) * M=Sa * Sb * (La * ca - Lb * cb):=by
 have e1:La * Sb * M=Sa * Sb * (La * ca):=by rw[<- h1];grind
 have e2:Lb * Sa * M=Sa * Sb * (Lb * cb):=by rw[<- h2];grind
 rw[Int.sub_mul,Int.mul_sub,e1,e2]
theorem Zq{a n:Int}(ha:0<a)(hn:0<n)(h2:n<=1000):gH a n<=a * 1000:=by
 unfold gH
 have g:0<(Int.gcd a n:Int):=by
  have:=Int.gcd_pos_of_ne_zero_right a (show n≠0 by omega);omega
 have k1:a / (Int.gcd a n:Int)<=a:=Int.ediv_le_self _ (iF ha);have k0:0<=a / (Int.gcd a n:Int):=Int.ediv_nonneg (iF ha) (iF g);exact Int.mul_le_mul k1 h2 (iF hn) (iF ha)
theorem Ro:∀(ns:List Int) (a:Int),0<a->(∀n∈ns,0<n/\n<=1000)->ns.foldl gH a<=a * 1000 ^ ns.length
 |[],a,_,_=>by simp
 |n::ns,a,ha,h=>by
  let hn:=h n fY
  have p:0<gH a n:=by
   have:=(JC [n] a ha ⇑(hn.1)).1;exact this
  let k1:=Ro ns (gH a n) p λm hm=>h m (fo _ hm);let k2:=Zq ha hn.1 hn.2;have e:(0:Int)<=1000 ^ ns.length:=Int.pow_nonneg (by decide);rw[List.foldl_cons,jy,Int.pow_succ];apply Int.le_trans k1 ?_;have:=Int.mul_le_mul_of_nonneg_right k2 e;have e2:a * 1000 * 1000 ^ ns.length=a * (1000 ^ ns.length * 1000):=by grind
  rw[e2] at this;exact this
theorem Bn{hs:Xa}{ts:Xb}(G:Good hs ts):0<fD hs/\fD hs<2 ^ 100/\∀n∈aU hs,fD hs / strOf hs n * strOf hs n=fD hs:=by
 have pos:∀m∈(aU hs).map (strOf hs),0<m/\m<=1000:=λm hm=>by
  let#[x,hx,rfl]:=bx.mp hm;have:=Bh G hx;omega
 have oU:∀m∈(aU hs).map (strOf hs),0<m:=λm hm=>(pos m hm).1;apply#[NF oU,?_,λn hn=>Int.ediv_mul_cancel (hT_ oU (bx.mpr #[_,hn,U]))];let k:=Ro _ 1 (by decide) pos;rw[aq,G.iU,Int.one_mul] at k;let h8:=G.h8
 have k2:(1000:Int) ^ hs.length<=1000 ^ 8:=by
  have:(1000:Nat) ^ hs.length<=1000 ^ 8:=Nat.pow_le_pow_right (by decide) h8
  exact_mod_cast this
 have:fD hs<=1000 ^ 8:=Int.le_trans k k2;have e:(1000:Int) ^ 8<2 ^ 100:=by decide
 omega
theorem XW{hs:Xa}{ts:Xb}(G:Good hs ts){qs:aV}(wp:∀q∈qs,0<=q.2.1/\q.2.1<=1000000000)(cQ:qs.length<64){f:bF}{n:Str}(hn:n∈aU hs):0<=fJ hs qs f n:=
 Int.mul_nonneg (HM wp cQ f n).1 (Int.ediv_nonneg (iF (Bn G).1) (by have:=Bh G hn;omega))
def CH(hs:Xa)(qs:aV)(f:bF)(r:Int):Prop:=∃x∈aU hs,∃y∈aU hs,r=fJ hs qs f x - fJ hs qs f y/\∀z∈aU hs,fJ hs qs f z<=fJ hs qs f x/\fJ hs qs f y<=fJ hs qs f z
variable{fd:Ae}
section v
theorem rn:bQ ["top","below","divisor"] ["top","below"] (a_ rV):=bZ
def qR:Sp:=λvs H Q _=>∃a b:Int,vs=[.int a,.int b]/\0<=a/\0<b/\b<2 ^ 100/\∀t,H t=none->Q (.ref t) (upd H t (.tup [.int (fr a b).1,.int (fr a b).2]))
theorem ZH{f:Addr}(F:bu K "fraction_of" "fraction_of" rV f fd)(cG:!bz 1 Ct mB vz):!ak bc 2 f fd ["top","below"] qR:=by
 exists F.bW rn;let#[a,b,rfl,ha,hb,l8,k]:=h
 have g:0<(Int.gcd a b:Int)/\(Int.gcd a b:Int)<2 ^ 100:=by
  have h1:0<Int.gcd a b:=Int.gcd_pos_of_ne_zero_right a Y0;let h3:=Int.le_of_dvd hb (Int.gcd_dvd_right a b);omega
 apply#[_,au (bw 2 rn.nd (bj cG hr %[0,1|0])) (aJ (bp (dA %[br SW (pv 0) (pv 2),br SW (pv 1) (pv 2)|0]))),?_];apply#[_,U,_,U,a,b,U,ha,hb,?_];exact#[_,U,_,U,_,_,U,U,g,_,U,_,U,_,_,U,U,g,zl,k]
theorem qY:bQ ["goods","placed","levels"] oz (a_ rC):=bZ
inductive k_ (K:ai) (CG CW:Addr) (vs:af) (H:Hp) (Q:VK) (E:XK):Prop
 |mk:∀(g p d:Addr) (hs:Xa) (ts:Xb) (qs:aV) (fp:aw) (f:bF),vs=[.ref g,.ref d]->Bu K CG CW H g p d hs ts qs fp f->(∀q∈qs,0<=q.2.1/\q.2.1<=1000000000)->(∀r H',aa H H'->CH hs qs f r->Q (.int r) H')->k_ K CG CW vs H Q E
theorem ZA{f CG CW:Addr}(F:bu K "rise_at" "rise_at" rC f fd)(B:Bi mg)(sP:mg "min"=none)(cV:!bz 4 "levels_at" oz (Ni K CG CW)):!ak bc 5 f fd oz (k_ K CG CW):=by
 exists F.bW qY;let#[g,p,d,hs,ts,qs,fp,f,rfl,Pl,wp,k]:=h;let nl:=Pl.Gd.iU;let h1:=Pl.Gd.h1;refine' #[_,au ?s1 (aJ ?s2),?kk]
 case s1=>exact bw 2 qY.nd (bj cV hr %[0,1|0])
 case s2=>exact bp (br Cw (bT (h9_ U) (by rfl) B.max PyProof.Rows.Boot.«max» %[Jx (pv 2)|0]) (bT (gk_ U) (by rfl) sP PyProof.Rows.Boot.«min» %[Jx (pv 2)|0]))
 apply#[_,U,_,U,g,p,d,hs,ts,qs,fp,f,U,Pl,wp,λdv H1 s1 n1 e1=>?_]
 have em:((aU hs).map λh=>((Sum.inr h:Key),fJ hs qs f h)).map (·.2)=(aU hs).map (fJ hs qs f):=by
  rw[cy];rfl
 have MR:dY (aU hs) (λh=>V.int (fJ hs qs f h))=((aU hs).map λh=>((Sum.inr h:Key),fJ hs qs f h)).map λx=>(x.1,V.int x.2):=by
  rw[cy];rfl
 rw[MR] at e1;apply#[_,U,dv,_,U,e1,λv hv=>?_];let#[s2,ev]:=aB (o:=qc v dv) hv;generalize upd H1 v (qc v dv)=H2 at s2 ev ⊢;apply#[v,dv,(aU hs).map λh=>((Sum.inr h:Key),fJ hs qs f h),U,ev,.of (s2 _ _ e1),by rw[aq];omega,λm hm mx=>?_];rw[em] at hm mx;apply#[_,U,dv,_,U,s2 _ _ e1,λv2 hv2=>?_];let#[s3,Tp]:=aB (o:=qc v2 dv) hv2;generalize upd H2 v2 (qc v2 dv)=H3 at s3 Tp ⊢;apply#[v2,dv,(aU hs).map λh=>((Sum.inr h:Key),fJ hs qs f h),U,Tp,.of (s3 _ _ (s2 _ _ e1)),by rw[aq];omega,λm2 RL mn=>?_];rw[em] at RL mn;let#[x,hx,rfl]:=bx.mp hm;let#[y,hy,rfl]:=bx.mp RL;exact#[_,_,U,U,k _ H3 (s1.trans (s2.trans s3)) #[x,hx,y,hy,U,λz hz=>#[mx _ (bx.mpr #[z,hz,U]),mn _ (bx.mpr #[z,hz,U])]]]
theorem eD':bQ oz oz (a_ OR):=bZ
inductive JN (K:ai) (CG CW:Addr) (vs:af) (H:Hp) (Q:VK) (E:XK):Prop
 |mk:∀(g p d:Addr) (hs:Xa) (ts:Xb) (qs:aV) (fp:aw) (f:bF),vs=[.ref g,.ref d]->Bu K CG CW H g p d hs ts qs fp f->(∀q∈qs,0<=q.2.1/\q.2.1<=1000000000)->(∀t r H',aa H H'->CH hs qs f r->H' t\.tup [.int (fr r (fD hs)).1,.int (fr r (fD hs)).2]->Q (.ref t) H')->JN K CG CW vs H Q E
theorem ez_{f CG CW:Addr}(F:bu K "spread_at" "spread_at" OR f fd)(T:gy K CG)(cR:!bz 5 "rise_at" oz (k_ K CG CW))(cM:!bz 3 kj ["web"] (IP K CW))(cF:!bz 2 "fraction_of" ["top","below"] qR):!ak bc 6 f fd oz (JN K CG CW):=by
 apply F.bW eD' λaO A outer s H vs Q E hr h=>?_;let#[g,p,d,hs,ts,qs,fp,f,rfl,Pl,wp,k]:=h;let mo:=Bn Pl.Gd;apply#[_,aJ (bp (bj cF hr %[bj cR hr %[0,1|0],bj cM hr %[i_ (pv 0) U|0]|0])),?_];apply#[_,U,_,U,g,p,d,hs,ts,qs,fp,f,U,Pl,wp,λr H1 s1 ir=>?_];let G1:=Pl.G.same s1;let#[dx,dw,dy,vs,dz,h1,h2,_]:=id G1.ex;apply#[_,U,g,CG,dx,_,_,U,h1,T.cl,T.nW,yM _ _ _,p,hs,ts,dz,U,h2,Pl.Gd,λH2 s2=>?_]
 have r0:0<=r:=by
  let#[x,hx,y,hy,rfl,b]:=ir;have:=(b y hy).1;omega
 exact#[r,fD hs,U,r0,mo.1,mo.2.1,λt ht=>k t r _ ((s1.trans s2).trans (aa.new ht)) ir ay]
theorem qX:bQ yq yq (a_ MS):=bZ
inductive Nk (K:ai) (CG CW:Addr) (vs:af) (H:Hp) (Q:VK) (E:XK):Prop
 |mk:∀(g p d:Addr) (hs:Xa) (ts:Xb) (qs:aV) (fp:aw) (ns:ag) (f:bF),vs=[.ref g,.ref d]->Std K CG CW H g p d hs ts qs fp ns f->(∀q∈qs,0<=q.2.1/\q.2.1<=1000000000)->(∀t r H',aa H H'->CH hs qs f r->H' t\.tup [.int (fr r (fD hs)).1,.int (fr r (fD hs)).2]->Q (.ref t) H')->Nk K CG CW vs H Q E
theorem h0_{f CG CW:Addr}(F:bu K "spread" "spread" MS f fd)(cC:!bz 2 "checked_stand" yq (Jp K CG CW))(cL:!bz 6 "spread_at" oz (JN K CG CW)):!ak bc 7 f fd yq (Nk K CG CW):=by
 exists F.bW qX;let#[g,p,d,hs,ts,qs,fp,ns,f,rfl,S,wp,k]:=h;apply#[_,aJ (bp (bj cL hr %[0,bj cC hr %[0,1|0]|0])),?_];apply#[_,U,_,U,_,U,g,p,d,hs,ts,qs,fp,ns,f,U,S.G,S.pX,S.hd,S.ok,S.nd,S.cQ,λd1 H1 s1 n1 e1=>?_];let#[kJ,Pl]:=S.placed s1 n1 e1;exact#[g,p,d1,hs,ts,qs,kJ,f,U,Pl,wp,λt r H2 s2 ir e=>k t r H2 (s1.trans s2) ir e]
end
end Ev
namespace eY
open PySem PySem.W PyProof.Rows
inductive Src (h:Heap) (it l:Addr) (i:Nat) (xs:Array Aa):Prop
 |lst (a:h.IsListIter it l i) (b:h.IsList l xs):Src h it l i xs
 |tup (a:h.IsTupleIter it l i) (b:h.IsTuple l xs):Src h it l i xs
variable{h:Heap}{it l:Addr}{i:Nat}{xs:Array Aa}
theorem Src.keep{h':Heap}(x:Src h it l i xs)(k1:∀o,h.get? it\o->h'.get? it\o)(k2:∀o,h.get? l\o->h'.get? l\o):Src h' it l i xs:=by
 cases x with
 |lst a b=>exact .lst (a.at k1) (b.at k2)
 |tup a b=>exact .tup (a.at k1) (by let#[o,e,r]:=b;exact#[o,k2 o e,r])
variable{ys:Array Aa}
theorem wW(a:h.IsList l xs)(b:h.IsTuple l ys):False:=by
 let#[o,e,c,_]:=a;let#[u,f,d,_]:=b;rw[e] at f;cases f;rw[c] at d;simp at d
theorem Src._a(x:Src h it l i xs)(b:h.IsList l ys):h.IsListIter it l i:=by
 cases x with
 |lst a _=>exact a
 |tup _ c=>exact (wW b c).elim
theorem Src.lt(x:Src h it l i xs):it<h.objs.size/\l<h.objs.size:=by
 cases x with
 |lst a b=>let#[o,e,_]:=a;let#[u,f,_]:=b;exact#[bK e,bK f]
 |tup a b=>let#[o,e,_]:=a;let#[u,f,_]:=b;exact#[bK e,bK f]
variable{x:Aa}{E Q:Aa->Ab->Prop}{prog:Ad}{w:Af}{A:Ag}{s:Ab}
theorem nextT{t:Addr}(hit:s.heap.IsTupleIter it t i)(ht:s.heap.IsTuple t xs)(hx:xs[i]? = some x)(hQ:∀h',h'.IsTupleIter it t (i+1)->Heap.SameBut it s.heap h'->Q x { s with heap:=h' }):wpAny (model prog w) A (Builtin.SmallTypes.nextOf (.ref it)) Q E s:=by
 let#[o,ho,hc,hd]:=id hit;let#[u,hu,_,n,hv]:=ht;unfold Builtin.SmallTypes.nextOf;apply ae (wG (name:=Str.ofString "__next__") hit.typeIs F.slot_tuple_iterator_next (tQ F.slot_tuple_iterator_next hit.typeIs F.entry_tuple_iterator_next ?_ (F.args_tuple_iterator_next_1 _)));apply (show wpAny _ _ (field (.ref it) 0 >>= _) _ _ s from ae (hJ ho hd (x:=.ref t) U ?_));apply (show wpAny _ _ (if (Value.ref t == Value.none)=true then _ else _) _ _ s from ?_);rw[aC (show ¬((Value.ref t == Value.none)=true) from gr)];apply (show wpAny _ _ (field (.ref it) 1 >>= _) _ _ s from ae (hJ ho hd (x:=.int i 0) U ?_));apply (show wpAny _ _ (seqItems? (.ref t) >>= _) _ _ s from ae (wpAny_seqItems hu hv ?_));simp only[yR,hx];apply ae (wpAny_setField ho hd Y1 (aH #[x,U,aH (hQ _ #[_,Heap.get?_update_self _ ho (Obj.isFreed_of_fields (Obj.data_mapFields hd _)),(Obj.cls_mapFields ..).trans hc,?_] (Heap.SameBut.update ..))]));rw[Obj.data_mapFields hd];simp[rawInt]
theorem Src.next(z:Src s.heap it l i xs)(ne:l≠it)(hx:xs[i]? = some x)(hQ:∀h',Src h' it l (i+1) xs->Heap.SameBut it s.heap h'->Q x { s with heap:=h' }):wpAny (model prog w) A (Builtin.SmallTypes.nextOf (.ref it)) Q E s:=by
 cases z with
 |lst a b=>exact wpAny_nextOf_list_item a b hx λh' a' sb=>hQ h' (.lst a' (b.extBut sb.extBut ne)) sb
 |tup a b=>exact nextT a b hx λh' a' sb=>hQ h' (.tup a' (b.extBut sb.extBut ne)) sb
abbrev Zp(h:Heap)(z TI TO:Addr)(f0:Aa)(f1:Bool):Prop:=h.get? z=some { cls:=.type "zip",dict:=none,data:=.fields (List.toArray [f0,.bool f1,.bool false,.ref TI,.ref TO]),slots:=#[] }
abbrev kW(h:Heap)(T:Addr)(xs:Array Aa):Prop:=h.get? T=some { cls:=.type "tuple",data:=.seq xs }
theorem RK{T:Addr}{k:Nat}{Q:Unit->Ab->Prop}(hT:kW s.heap T xs)(h3:xs.size<=3)(h:∀h',kW h' T (xs.setIfInBounds k x)->Heap.SameBut T s.heap h'->Q () { s with heap:=h' }):wpAny (model prog w) A (updateSeq T (·.setIfInBounds k x)) Q E s:=by
 apply wpAny_updateSeq hT U (h _ ?_ (Heap.SameBut.update ..)) (hz:=ic h3 (by decide)) (_hz':=by rw[Array.size_setIfInBounds];exact ic h3 (by decide));show Heap.get? _ _=_;rw[Heap.get?_update_self _ hT U];simp[Obj.mapSeq]
structure Vc (h:Heap) (z TI TO i1 i2 i3 l1 l2 l3:Addr) (k:Nat) (xs ys zs:Array Aa):Prop where
 nd:[z,TO,i1,i2,i3].Nodup
 ti:TI∉[z,TO,i1,i2,i3]
 ls:∀l∈[l1,l2,l3],l∉[z,TO,i1,i2,i3]
 hI:kW h TI (List.toArray [.ref i1,.ref i2,.ref i3])
 hO:∃a b c,kW h TO (List.toArray [a,b,c])
 s1:Src h i1 l1 k xs
 s2:Src h i2 l2 k ys
 s3:Src h i3 l3 k zs
theorem ended(hh:A.handled=none)(a:s.heap.IsListIter it l i)(b:s.heap.IsList l xs)(hx:xs[i]? = none)(hE:∀h' e,Heap.ExtBut it s.heap h'->(∃o,h'.get? e\o/\o.cls=.type "StopIteration")->E (.ref e) { s with heap:=h' }):wpAny (model prog w) A (Builtin.SmallTypes.nextOf (.ref it)) Q E s:=wpAny_nextOf_list_end hh a b hx hE
abbrev C1(h:Heap)(l:Addr):Heap:=h.push { cls:=.type "list_iterator",data:=.fields (List.toArray [.ref l,.int 0 0]) }
abbrev yW(h:Heap)(l:Addr):Heap:=h.push { cls:=.type "tuple_iterator",data:=.fields (List.toArray [.ref l,.int 0 0]) }
end eY
namespace L2
open PySem PySem.Spec PyProof.Rows PySem.W eY
end L2
namespace eY
open PySem PySem.W PyProof.Rows
variable{a:Addr}{prog:Ad}{w:Af}{A:Ag}{E:Aa->Ab->Prop}{s:Ab}
theorem alive{o:Obj}{Q:Option Obj->Ab->Prop}(ho:s.heap.get? a\o)(h:Q (some o) s):wpAny (model prog w) A (loadIfAlive a) Q E s:=fun Γ p _=>by
 unfold loadIfAlive;rw[Sem.wp_loadIfAlive,ho];exact (aH (M:=model prog w) (A:=A) h) Γ p (by assumption)
structure mF (h:Heap) (z TI TO i1 i2 l1 l2:Addr) (k:Nat) (xs ys:Array Aa):Prop where
 nd:[z,TO,i1,i2].Nodup
 ti:TI∉[z,TO,i1,i2]
 ls:∀l∈[l1,l2],l∉[z,TO,i1,i2]
 hI:kW h TI (List.toArray [.ref i1,.ref i2])
 hO:∃a b,kW h TO (List.toArray [a,b])
 s1:Src h i1 l1 k xs
 s2:Src h i2 l2 k ys
 hz:Zp h z TI TO .none false∨∃T o f1,T∉[z,TO,i1,i2]/\h.get? T\o/\Zp h z TI TO (rawInt T) f1
variable{i1 i2 l1 l2 z:Addr}{k:Nat}{xs ys:Array Aa}{x y:Aa}
theorem hk_{TI TO:Addr}{Q:Aa->Ab->Prop}(D:mF s.heap z TI TO i1 i2 l1 l2 k xs ys)(hx:xs[k]? = some x)(hy:ys[k]? = some y)(hQ:∀h',mF h' z TI TO i1 i2 l1 l2 (k+1) xs ys->kW h' s.heap.objs.size (List.toArray [x,y])->(∀c o,c∉[z,TO,i1,i2]->s.heap.get? c\o->h'.get? c\o)->Q (.ref s.heap.objs.size) { s with heap:=h' }) :
  wpAny (model prog w) A (Builtin.«zip.__next__» #[[.ref z],[]]) (λfin s'=>∃v,fin=.done (.ret v)/\Q v s') E s:=by
 let#[K2,Ke,K_,hI,#[a,b,hO],s1,s2,hz]:=D;let nd:=K2;let ti:=Ke;let ls:=K_;simp only[kU,cg,ig,or_false,not_or,not_false_eq_true,List.nodup_nil,and_true] at nd ti ls;let#[#[zO,z1,z2],#[O1,O2],zZ]:=nd;let L1:=ls l1 (.inl U);let L2:=ls l2 (.inr U);have new:∀{c o},s.heap.get? c\o->s.heap.objs.size≠c:=λe=>je (bK e)
 have nT:s.heap.objs.size∉[z,TO,i1,i2]:=by
  simp only[cg,ig,or_false,not_or];apply#[?_,new hO,je s1.lt.1,je s2.lt.1];rcases hz with hz|⟨T,o,f1,hT,e,hz⟩
  ·exact new hz
  exact new hz
 rcases hz with hz|⟨T,o,f1,hT,eT,hz⟩
 ·apply (show wpAny _ _ (field (.ref z) 2 >>= _) _ _ _ from ae (hJ hz U (x:=.bool false) U ?_));apply (show wpAny _ _ (field (.ref z) 3 >>= _) _ _ _ from ae (hJ hz U (x:=.ref TI) U ?_));apply ae (wpAny_seqItems hI U ?_);apply (show wpAny _ _ (Builtin.SmallTypes.ownedTupleIsFree (.ref z) >>= _) _ _ _ from ae ?_);unfold Builtin.SmallTypes.ownedTupleIsFree;apply ae (hJ hz U (x:=.none) U (aH ?_));simp only[if_true];apply ae (wpAny_rule (ae (hJ hz U (x:=.ref TO) U (ae (wpAny_setField_rec hz Y1 λh1 pP e1=>ae ?_)))));replace pP:Zp h1 z TI TO .ellipsis false:=pP;have hO1:kW h1 TO (List.toArray [a,b]):=e1.extBut _ _ (dI zO) hO;let s1:=s1.keep (e1.extBut _ · (dI z1)) (e1.extBut _ · L1.1);let s2:=s2.keep (e1.extBut _ · (dI z2)) (e1.extBut _ · L2.1);simp only[List.zipIdx_cons,List.zipIdx_nil,List.forIn_cons,List.forIn_nil];apply ae (ae (wpAny_onRaise (show wpAny _ _ (Builtin.SmallTypes.nextOf (.ref i1) >>= _) _ _ _ from ae (s1.next L1.2.2.1 hx λh2 s1 e2=>aH ?_))));have Sf:kW h2 TO (List.toArray [a,b]):=e2.extBut _ _ O1 hO1;let s2:=s2.keep (e2.extBut _ · (dI zZ)) (e2.extBut _ · L2.2.2.1);apply ae (wpAny_seqItems Sf U (ae (RK Sf (Nat.le_succ 2) λh3 Mo e3=>ae (wpAny_letGo (aH ?_)))));replace Mo:kW h3 TO (List.toArray [x,b]):=Mo;let s1:=s1.keep (e3.extBut _ · (dI O1)) (e3.extBut _ · L1.2.1);let s2:=s2.keep (e3.extBut _ · (dI O2)) (e3.extBut _ · L2.2.1);apply ae (ae (wpAny_onRaise (show wpAny _ _ (Builtin.SmallTypes.nextOf (.ref i2) >>= _) _ _ _ from ae (s2.next L2.2.2.2 hy λh4 s2 e4=>aH ?_))));have Se:kW h4 TO (List.toArray [x,b]):=e4.extBut _ _ O2 Mo;let s1:=s1.keep (e4.extBut _ · zZ) (e4.extBut _ · L1.2.2.2);apply ae (wpAny_seqItems Se U (ae (RK Se (Nat.le_succ 2) λh7 Ii e7=>ae (wpAny_letGo (aH (aH ?_))))));replace Ii:kW h7 TO (List.toArray [x,y]):=Ii;let s1:=s1.keep (e7.extBut _ · (dI O1)) (e7.extBut _ · L1.2.1);let s2:=s2.keep (e7.extBut _ · (dI O2)) (e7.extBut _ · L2.2.1);have all:∀{c o},c≠TO->c≠i1->c≠i2->h1.get? c\o->h7.get? c\o:=λc2 c3 c4 q=>e7.extBut _ _ c2 (e4.extBut _ _ c4 (e3.extBut _ _ c2 (e2.extBut _ _ c3 q)));have Lv:Zp h7 z TI TO .ellipsis false:=all zO z1 z2 pP;have hI7:kW h7 TI (List.toArray [.ref i1,.ref i2]):=all ti.2.1 ti.2.2.1 ti.2.2.2 (e1.extBut _ _ ti.1 hI);have sz:h7.objs.size=s.heap.objs.size:=by rw[e7.1,e4.1,e3.1,e2.1,e1.1]
  apply ae (wpAny_seqItems Ii U (ae (wpAny_newTuple ?_)));apply (show wpAny _ _ (Builtin.SmallTypes.ownedTupleHandOut (.ref z) (.ref h7.objs.size) >>= _) _ _ _ from ae ?_);unfold Builtin.SmallTypes.ownedTupleHandOut;have _X:Zp (h7.push { cls:=.type "tuple",data:=.seq (List.toArray [x,y]) }) z TI TO .ellipsis false:=bo _ Lv;apply ae (wpAny_setField_rec _X Y1 λh9 _W e9=>wpAny_setField_rec (show Zp h9 z TI TO (rawInt h7.objs.size) false from _W) Y1 λhA HP eA=>aH #[_,U,?_]);have up:∀{c o},c≠z->h7.get? c\o->hA.get? c\o:=λc1 q=>eA.extBut _ _ c1 (e9.extBut _ _ c1 (bo _ q));have hT:kW hA h7.objs.size (List.toArray [x,y]):=eA.extBut _ _ (je (bK Lv)) (e9.extBut _ _ (je (bK Lv)) (dj _ U));show Q (.ref h7.objs.size) _;have HP:Zp hA z TI TO (rawInt h7.objs.size) false:=HP;rw[sz] at hT HP ⊢;apply hQ hA #[K2,Ke,K_,up ti.1 hI7,#[_,_,up (dI zO) Ii],s1.keep (λ_=>up (dI z1)) (λ_=>up L1.1),s2.keep (λ_=>up (dI z2)) (λ_=>up L2.1),.inr #[_,_,_,nT,hT,HP]] hT λc o hc q=>?_;simp only[cg,ig,or_false,not_or] at hc;exact up hc.1 (all hc.2.1 hc.2.2.1 hc.2.2.2 (e1.extBut _ _ hc.1 q))
 apply (show wpAny _ _ (field (.ref z) 2 >>= _) _ _ _ from ae (hJ hz U (x:=.bool false) U ?_));apply (show wpAny _ _ (field (.ref z) 3 >>= _) _ _ _ from ae (hJ hz U (x:=.ref TI) U ?_));apply ae (wpAny_seqItems hI U ?_);apply (show wpAny _ _ (Builtin.SmallTypes.ownedTupleIsFree (.ref z) >>= _) _ _ _ from ae ?_)
 have free:∀{Q:Bool->Ab->Prop},(∀h',Zp h' z TI TO (rawInt T) true->(∀c o,c≠z->s.heap.get? c\o->h'.get? c\o)->h'.objs.size=s.heap.objs.size->Q false { s with heap:=h' })->wpAny (model prog w) A (Builtin.SmallTypes.ownedTupleIsFree (.ref z)) Q E s:=λ{Q} h=>by
  unfold Builtin.SmallTypes.ownedTupleIsFree;apply ae (hJ hz U (x:=rawInt T) U ?_);apply (show wpAny _ _ (loadIfAlive (((T:Nat):Int)).toNat >>= _) _ _ _ from ?_);rw[yR];apply ae (alive eT ?_);simp only[Option.isNone_some,pH,if_false];apply ae (hJ hz U (x:=.bool f1) U ?_);cases f1 with
  |true=>
   apply wpAny_ite_false (by decide) (aH ?_);exact h _ hz (λc o _ q=>q) U
  |false=>
   apply wpAny_ite_true (by decide) ?_;apply ae (wpAny_setField_rec hz Y1 λh1 pP e1=>aH ?_);exact h h1 pP (λc o hc q=>e1.extBut _ _ hc q) e1.1
 apply free λh1 pP k1 V8=>?_;simp only[pH,if_false];let s1:=s1.keep (k1 _ · (dI z1)) (k1 _ · L1.1);let s2:=s2.keep (k1 _ · (dI z2)) (k1 _ · L2.1);apply ae ?_;simp only[List.forIn_toArray,List.forIn_cons,List.forIn_nil];apply ae (ae (gR (show wpAny _ _ (Builtin.SmallTypes.nextOf (.ref i1) >>= _) _ _ _ from ae (s1.next L1.2.2.1 hx λh2 s1 e2=>aH (aH ?_)))));let s2:=s2.keep (e2.extBut _ · (dI zZ)) (e2.extBut _ · L2.2.2.1);apply ae (ae (gR (show wpAny _ _ (Builtin.SmallTypes.nextOf (.ref i2) >>= _) _ _ _ from ae (s2.next L2.2.2.2 hy λh4 s2 e4=>aH (aH (aH ?_))))));let s1:=s1.keep (e4.extBut _ · zZ) (e4.extBut _ · L1.2.2.2);have sz:h4.objs.size=s.heap.objs.size:=by rw[e4.1,e2.1,V8]
 apply (show wpAny _ _ (newTuple [x,y] >>= _) _ _ _ from ae (wpAny_newTuple (aH #[_,U,?_])));have all:∀{c o},c≠i1->c≠i2->h1.get? c\o->h4.get? c\o:=λc3 c4 q=>e4.extBut _ _ c4 (e2.extBut _ _ c3 q);have up:∀{c o},h4.get? c\o->(h4.push { cls:=.type "tuple",data:=.seq (List.toArray [x,y]) }).get? c\o:=λq=>bo _ q;have AX:kW (h4.push { cls:=.type "tuple",data:=.seq (List.toArray [x,y]) }) h4.objs.size (List.toArray [x,y]):=dj _ U;show Q (.ref h4.objs.size) _;rw[sz] at AX ⊢;simp only[cg,ig,or_false,not_or] at hT;apply hQ _ #[K2,Ke,K_,up (all ti.2.2.1 ti.2.2.2 (k1 _ _ ti.1 hI)),#[_,_,up (all O1 O2 (k1 _ _ (dI zO) hO))],s1.keep (λ_=>up) (λ_=>up),s2.keep (λ_=>up) (λ_=>up),.inr #[T,_,true,by simp[hT],up (all hT.2.2.1 hT.2.2.2 (k1 _ _ hT.1 eT)),up (all z1 z2 pP)]] AX λc o hc q=>?_;simp only[cg,ig,or_false,not_or] at hc;exact up (all hc.2.2.1 hc.2.2.2 (k1 _ _ hc.1 q))
theorem _I{TI TO:Addr}{Q:Fin->Ab->Prop}(hh:A.handled=none)(D:mF s.heap z TI TO i1 i2 l1 l2 k xs ys)(b0:s.heap.IsList l1 xs)(hx:xs[k]? = none)(hE:∀h' e,(∀c o,c∉[z,TO,i1,i2]->s.heap.get? c\o->h'.get? c\o)->(∃o,h'.get? e\o/\o.cls=.type "StopIteration")->E (.ref e) { s with heap:=h' }):wpAny (model prog w) A (Builtin.«zip.__next__» #[[.ref z],[]]) Q E s:=by
 let#[nd,ti,ls,hI,#[a,b,hO],s1,s2,hz]:=D;let a0:=s1._a b0;simp only[kU,cg,ig,or_false,not_or,not_false_eq_true,List.nodup_nil,and_true] at nd ti ls;let#[#[zO,z1,z2],#[O1,O2],zZ]:=nd;let L1:=ls l1 (.inl U);have go:∀(h1:Heap),(∀c o,c≠z->s.heap.get? c\o->h1.get? c\o)->∀(E':Aa->Ab->Prop) (Q':Aa->Ab->Prop),(∀h' e,Heap.ExtBut i1 h1 h'->(∃o,h'.get? e\o/\o.cls=.type "StopIteration")->E' (.ref e) { s with heap:=h' })->wpAny (model prog w) A (Builtin.SmallTypes.nextOf (.ref i1)) Q' E' { s with heap:=h1 }:=λh1 k1 E' Q' h=>ended hh (s:={ s with heap:=h1 }) (a0.at λo q=>k1 _ o (dI z1) q) (b0.at λo q=>k1 _ o L1.1 q) hx h;rcases hz with hz|⟨T,o,f1,hT,eT,hz⟩
 ·apply (show wpAny _ _ (field (.ref z) 2 >>= _) _ _ _ from ae (hJ hz U (x:=.bool false) U ?_));apply (show wpAny _ _ (field (.ref z) 3 >>= _) _ _ _ from ae (hJ hz U (x:=.ref TI) U ?_));apply ae (wpAny_seqItems hI U ?_);apply (show wpAny _ _ (Builtin.SmallTypes.ownedTupleIsFree (.ref z) >>= _) _ _ _ from ae ?_);unfold Builtin.SmallTypes.ownedTupleIsFree;apply ae (hJ hz U (x:=.none) U (aH ?_));simp only[if_true];apply ae (wpAny_rule (ae (hJ hz U (x:=.ref TO) U (ae (wpAny_setField_rec hz Y1 λh1 pP e1=>ae ?_)))));replace pP:Zp h1 z TI TO .ellipsis false:=pP;simp only[List.zipIdx_cons,List.zipIdx_nil,List.forIn_cons,List.forIn_nil];apply ae (ae (wpAny_onRaise (show wpAny _ _ (Builtin.SmallTypes.nextOf (.ref i1) >>= _) _ _ _ from ae (go h1 (λc o hc q=>e1.extBut _ _ hc q) _ _ λh2 e e2 he=>?_))));let#[oe,LJ,R3]:=he;have Rt:Zp h2 z TI TO .ellipsis false:=e2 _ _ z1 pP;have hez:e≠z:=λx=>by subst x;rw[Rt] at LJ;cases LJ;simp at R3
  exact wpAny_setField_rec Rt Y1 λh3 _ e3=>hE h3 e (λc o hc x=>by
   simp only[cg,ig,or_false,not_or] at hc;exact e3.extBut _ _ hc.1 (e2 _ _ hc.2.2.1 (e1.extBut _ _ hc.1 x))) #[oe,e3.extBut _ _ hez LJ,R3]
 apply (show wpAny _ _ (field (.ref z) 2 >>= _) _ _ _ from ae (hJ hz U (x:=.bool false) U ?_));apply (show wpAny _ _ (field (.ref z) 3 >>= _) _ _ _ from ae (hJ hz U (x:=.ref TI) U ?_));apply ae (wpAny_seqItems hI U ?_);apply (show wpAny _ _ (Builtin.SmallTypes.ownedTupleIsFree (.ref z) >>= _) _ _ _ from ae ?_)
 have free:∀{Q:Bool->Ab->Prop},(∀h',(∀c o,c≠z->s.heap.get? c\o->h'.get? c\o)->Q false { s with heap:=h' })->wpAny (model prog w) A (Builtin.SmallTypes.ownedTupleIsFree (.ref z)) Q E s:=λ{Q} h=>by
  unfold Builtin.SmallTypes.ownedTupleIsFree;apply ae (hJ hz U (x:=rawInt T) U ?_);apply (show wpAny _ _ (loadIfAlive (((T:Nat):Int)).toNat >>= _) _ _ _ from ?_);rw[yR];apply ae (alive eT ?_);simp only[Option.isNone_some,pH,if_false];apply ae (hJ hz U (x:=.bool f1) U ?_);cases f1 with
  |true=>exact wpAny_ite_false (by decide) (aH (h _ λc o _ q=>q))
  |false=>exact wpAny_ite_true (by decide) (ae (wpAny_setField_rec hz Y1 λh1 pP e1=>aH (h h1 λc o hc q=>e1.extBut _ _ hc q)))
 apply free λh1 k1=>?_;simp only[pH,if_false];apply ae ?_;simp only[List.forIn_toArray,List.forIn_cons,List.forIn_nil];apply ae (ae (gR (show wpAny _ _ (Builtin.SmallTypes.nextOf (.ref i1) >>= _) _ _ _ from ae (go h1 k1 _ _ λh2 e e2 he=>hE h2 e (λc o hc x=>?_) he))));simp only[cg,ig,or_false,not_or] at hc;exact e2 _ _ hc.2.2.1 (k1 _ _ hc.1 x)
theorem mF.ty{TI TO:Addr}(D:mF s.heap z TI TO i1 i2 l1 l2 k xs ys):s.TypeIs (.ref z) "zip":=by
 rcases D.hz with hz|⟨T,o,f1,hT,eT,hz⟩
 ·exact#[_,hz,U]
 exact#[_,hz,U]
variable{Q:Option Aa->Ab->Prop}
theorem gq_{TI TO:Addr}(D:mF s.heap z TI TO i1 i2 l1 l2 k xs ys)(hx:xs[k]? = some x)(hy:ys[k]? = some y)(hQ:∀h',mF h' z TI TO i1 i2 l1 l2 (k+1) xs ys->kW h' s.heap.objs.size (List.toArray [x,y])->(∀c o,c∉[z,TO,i1,i2]->s.heap.get? c\o->h'.get? c\o)->Q (some (.ref s.heap.objs.size)) { s with heap:=h' }):wpAny (model prog w) A (pyNext (.ref z)) Q E s:=by
 unfold pyNext;exact ae (wpAny_attempt (wG (name:=Str.ofString "__next__") D.ty F.slot_zip_next (tQ F.slot_zip_next D.ty F.entry_zip_next (hk_ D hx hy λh' a2 a3 a4=>aH (hQ h' a2 a3 a4)) (F.args_zip_next_1 _))))
theorem e0_{TI TO:Addr}(hh:A.handled=none)(D:mF s.heap z TI TO i1 i2 l1 l2 k xs ys)(b0:s.heap.IsList l1 xs)(hx:xs[k]? = none)(hQ:∀h',(∀c o,c∉[z,TO,i1,i2]->s.heap.get? c\o->h'.get? c\o)->Q none { s with heap:=h' }):wpAny (model prog w) A (pyNext (.ref z)) Q E s:=by
 unfold pyNext;apply ae (wpAny_attempt (wG (name:=Str.ofString "__next__") D.ty F.slot_zip_next (tQ F.slot_zip_next D.ty F.entry_zip_next (_I hh D b0 hx λh' e hk he=>?_) (F.args_zip_next_1 _))));let#[o,ho,hc]:=he;exact ae (wpAny_isInstance (T:="StopIteration") (b:=true) #[o,ho,hc] isSubtype_stop (aH (hQ _ hk)))
abbrev C0(h:Heap)(l1 l2:Addr):Heap:=yW (C1 h l1) l2
abbrev CZ(h:Heap)(l1 l2:Addr):Heap:=(C0 h l1 l2).push { cls:=.type "tuple",data:=.seq (List.toArray [.ref h.objs.size,.ref (C1 h l1).objs.size]) }
abbrev CY(h:Heap)(l1 l2:Addr):Heap:=(CZ h l1 l2).push { cls:=.type "tuple",data:=.seq (List.toArray [.none,.none]) }
abbrev yV(h:Heap)(l1 l2:Addr):Heap:=(CY h l1 l2).push { cls:=.type "zip",data:=.fields (List.toArray [.none,.bool false,.bool false,.ref (C0 h l1 l2).objs.size,.ref (CZ h l1 l2).objs.size]) }
theorem g2_(l1 l2:Addr)(xs ys:Array Aa):Meets (Builtin.«zip.__new__» #[[.type "zip",.ref l1,.ref l2],[]]) (λ_ R s=>s.heap.IsList l1 xs/\s.heap.IsTuple l2 ys/\R (.ok (.ret (.ref (CY s.heap l1 l2).objs.size))) { s with heap:=yV s.heap l1 l2 }):=
 .of_wp λprog w A R s h=>by
  let#[hp,g,d,tk,os]:=s;let#[a1,a2,h]:=h;let EE:=sub_zip;have b1:Heap.IsList (Shared.heap #[hp,g,d,tk,os]) l1 xs:=a1;have b2:Heap.IsTuple (Shared.heap #[hp.push { cls:=.type "list_iterator",data:=.fields (List.toArray [.ref l1,.int 0 0]) },g,d,tk,os]) l2 ys:=Heap.IsTuple.push a2 _
  wp_walk using wpAny_pyIter_list b1,wpAny_pyIter_tuple b2
  exact#[_,U,h]
theorem mF.zR{h:Heap}{TI TO:Addr}(D:mF h z TI TO i1 i2 l1 l2 k xs ys){h':Heap}(up:∀c o,h.get? c\o->h'.get? c\o):mF h' z TI TO i1 i2 l1 l2 k xs ys:=by
 let#[nd,ti,ls,hI,#[a,b,hO],s1,s2,hz]:=D;apply#[nd,ti,ls,up _ _ hI,#[a,b,up _ _ hO],s1.keep (up _) (up _),s2.keep (up _) (up _),?_];rcases hz with hz|⟨T,o,f1,hT,eT,hz⟩
 ·exact .inl (up _ _ hz)
 exact .inr #[T,o,f1,hT,up _ _ eT,up _ _ hz]
theorem gc_{Q:Aa->Ab->Prop}(a1:s.heap.IsList l1 xs)(a2:s.heap.IsTuple l2 ys)(h:∀h' z TI TO i1 i2,mF h' z TI TO i1 i2 l1 l2 0 xs ys->Zp h' z TI TO .none false->(∀b∈[z,TO,i1,i2],s.heap.objs.size<=b)->(∀c o,s.heap.get? c\o->h'.get? c\o)->Q (.ref z) { s with heap:=h' }):wpAny (model prog w) A (call (.type "zip") [.ref l1,.ref l2]) Q E s:=by
 apply callType_new F.called_zip (by decide) (F.typeCall_zip_2 _ _) (F.newCall_zip_2 _ _) (λobj=>F.args_object_init_3 obj _ _) F.entry_zip_new (g2_ l1 l2 xs ys) #[a1,a2,?_];have z1:(C1 s.heap l1).objs.size=s.heap.objs.size+1:=Heap.size_push ..;have z2:(C0 s.heap l1 l2).objs.size=s.heap.objs.size+2:=by rw[Heap.size_push,z1]
 have z3:(CZ s.heap l1 l2).objs.size=s.heap.objs.size+3:=by rw[Heap.size_push,z2]
 have z4:(CY s.heap l1 l2).objs.size=s.heap.objs.size+4:=by rw[Heap.size_push,z3]
 have g5:(yV s.heap l1 l2).get? (CY s.heap l1 l2).objs.size\_:=dj _ U;have g4:(yV s.heap l1 l2).get? (CZ s.heap l1 l2).objs.size\_:=bo _ (dj _ U);have g3:(yV s.heap l1 l2).get? (C0 s.heap l1 l2).objs.size\_:=bo _ (bo _ (dj _ U));have g2:(yV s.heap l1 l2).get? (C1 s.heap l1).objs.size\_:=bo _ (bo _ (bo _ (dj _ U)));have g1:(yV s.heap l1 l2).get? s.heap.objs.size\_:=bo _ (bo _ (bo _ (bo _ (dj _ U))));have up:∀c o,s.heap.get? c\o->(yV s.heap l1 l2).get? c\o:=λc o x=>bo _ (bo _ (bo _ (bo _ (bo _ x))));have XA:l1<s.heap.objs.size:=by let#[_,e,_]:=a1;exact bK e
 have Xz:l2<s.heap.objs.size:=by let#[_,e,_]:=a2;exact bK e
 show _/\_;apply#[#[_,g5,U],h _ (CY s.heap l1 l2).objs.size (C0 s.heap l1 l2).objs.size (CZ s.heap l1 l2).objs.size s.heap.objs.size (C1 s.heap l1).objs.size #[?_,?_,?_,g3,#[_,_,g4],.lst #[_,g1,U,U] (a1.at λo e=>up _ o e),.tup #[_,g2,U,U] (by let#[o,e,r]:=a2;exact#[o,up _ o e,r]),.inl g5] g5 ?_ up]
 ·rw[z1,z3,z4];generalize s.heap.objs.size=n;simp
 ·rw[z1,z2,z3,z4];generalize s.heap.objs.size=n;simp
 ·intro l hl hm
  have lt:l<s.heap.objs.size:=by
   simp only[cg,ig,or_false] at hl;rcases hl with rfl|rfl
   ·exact XA
   exact Xz
  simp only[cg,ig,or_false] at hm;rcases hm with rfl|rfl|rfl|rfl
  ·rw[z4] at lt;exact absurd lt (Nat.not_lt.mpr (Nat.le_add_right _ _))
  ·rw[z3] at lt;exact absurd lt (Nat.not_lt.mpr (Nat.le_add_right _ _))
  ·exact uf _ lt
  rw[z1] at lt;exact absurd lt (Nat.not_lt.mpr (Nat.le_add_right _ _))
 intro b hb;simp only[cg,ig,or_false] at hb;rcases hb with rfl|rfl|rfl|rfl
 ·rw[z4];exact Nat.le_add_right _ _
 ·rw[z3];exact Nat.le_add_right _ _
 ·exact a9 _
 rw[z1];exact Nat.le_add_right _ _
theorem dO_:typeLookup (.type "zip") "keys"=pure none:=by rw[typeLookup_type,builtinLookup_eq_fast];kernel_rfl
theorem cv_:typeLookup (.type "zip") "__getattr__"=pure none:=by rw[typeLookup_type,builtinLookup_eq_fast];kernel_rfl
theorem e7_:entryFor table "zip.__getattribute__"\Builtin.«object.__getattribute__»:=entryFor_alias (id':="object.__getattribute__") (by kernel_rfl) Z0 Z0 (by kernel_rfl)
theorem db_(a:Addr)(fs:Array Aa)(u:Tok):Meets (Builtin.«object.__getattribute__» #[[.ref a,.str "keys" u],[]]) (λA R s=>s.heap.get? a=some { cls:=.type "zip",dict:=none,data:=.fields fs,slots:=#[] }/\raisesAttr (.ref a) "keys" A R s):=
 Meets.of_wp λprog w A R s hs=>by
  let#[hp,g,d,tk,os]:=s;let#[hx,hs]:=hs;have hT:(#[hp,g,d,tk,os]:Ab).TypeIs (.ref a) "zip":=#[_,hx,U];let hm:=dO_;unfold Builtin.«object.__getattribute__»
  repeat (any_goals (first|assumption|wp_step))
  repeat (any_goals (first|assumption|wp_step))
  exact wpAny_raiseAttrError hs.1 hs.2 (attrMsg_fits Z0 (by size_fits))
variable{fs:Array Aa}
theorem fG_{tk:Tok}{R:Result->Ab->Prop}(hx:s.heap.get? a=some { cls:=.type "zip",dict:=none,data:=.fields fs,slots:=#[] })(h:raisesAttr (.ref a) "keys" A R s) :
  codeAny (model prog w) A (.call (.builtin "zip.__getattribute__") #[[.ref a,.str "keys" tk],[]]) R s:=by
 apply codeAny_call_builtin F.slot_zip_getattribute.plain e7_ (F.slot_zip_getattribute.check _ _ _ _ _ _ _ _ #[_,hx,U] (F.args_zip_getattribute_2 _ _) ?_);exact db_ a fs tk prog w A R s #[hx,h]
theorem vK(hx:s.heap.get? a=some { cls:=.type "zip",dict:=none,data:=.fields fs,slots:=#[] })(hA:A.handled=none)(h:∀h' tk,(∀b o,s.heap.get? b\o->h'.get? b\o)->Q none { s with heap:=h',toks:=tk }):wpAny (model prog w) A (getAttr? (.ref a) "keys") Q E s:=by
 let#[hp,g,d,tk,os]:=s;have ty:∀fR,(#[hp,g,d,fR,os]:Ab).TypeIs (.ref a) "zip":=λ_=>#[_,hx,U];let f1:=sub_AttributeError;let f2:=F.slot_zip_getattribute.lookup;let f3:=F.slot_zip_getattribute.bind (.ref a);let f4:=cv_;unfold getAttr? getAttrBy? getAttrBy
 repeat (any_goals (first|assumption|exact ty _|wp_step))
 apply fG_ hx #[hA,λh' fR e vT=>?_];let#[t',u',he]:=vT.there;apply (show wpAny _ _ (getattributeRaised _ _ _ _ _ _ _) _ _ _ from ?_);unfold getattributeRaised
 repeat (any_goals (first|assumption|wp_step))
 exact h _ _ vT.keeps
variable{xs ys:aj}
section
variable{prog:Ad}{w:Af}{K:Type}[DecidableEq K]{knd:PySem.KeyKind prog w K}{A:Ag}
theorem Zj{TI TO d:Addr}(hd:d∉[z,TO,i1,i2])(hh:A.handled=none)(rest:List K):∀(i:Nat) (kvs:List (K × Aa)) (s:Ab) (R:Result->Ab->Prop) (tk:Tok),i+rest.length=xs.length->i+rest.length=ys.length->
  (∀(j:Nat) k,rest[j]? = some k->∃v,xs[i+j]? = some v/\knd.is k v=true)->mF s.heap z TI TO i1 i2 l1 l2 i xs.toArray ys.toArray->s.heap.IsList l1 xs.toArray->s.heap.DictOf knd d kvs->kvs.length+rest.length<=1000->
  (∀h' fR,h'.DictOf knd d (eV kvs (rest.zip (ys.drop i)))->(∀b o,b≠d->b∉[z,TO,i1,i2]->s.heap.get? b\o->h'.get? b\o)->R (.ok (.ret .none)) { s with heap:=h',toks:=fR })->
  codeAny (model prog w) A (.builtin "dict.update.loop" #[[.ref d,.ref z,.int i tk,.none],[]]) R s:=by
 induction rest with
 |nil=>
  intro i kvs s R tk e1 e2 hk D b0 pU hz hR;apply codeAny_builtin CI ?_;rw[yw qo _,Cy];apply ae (e0_ hh D b0 (by simp at e1 ⊢;omega) λh' kp=>?_);exact ae (m:=Builtin.Dict.addKeywords d []) (aH (aH (hR h' s.toks (GD pU λo q=>kp _ _ hd q) λb o _ hb q=>kp b o hb q)))
 |cons k rest ih=>
  intro i kvs s R tk e1 e2 hk D b0 pU hz hR;simp only[jy] at e1 e2 hz;let#[v,hv,kv]:=hk 0 k U;have hy:ys[i]? = some ys[i]:=aX Y0;apply codeAny_builtin CI ?_;rw[yw qo _,Cy];apply ae (gq_ D (x:=v) (y:=ys[i]) ⇑hv ⇑hy λh1 D1 hT kp=>?_);apply ae (gR (ae (wpAny_tryCatch ?_)));unfold Builtin.Dict.pairItems;apply ae (wpAny_typeOf (T:="tuple") #[_,hT,U] ?_);rw[aK (by decide)];unfold seqItems?;apply ae (ae (wpAny_load hT (aH (aH ?_))));apply (show wpAny _ _ (holding [v,ys[i]] (dictSet d v ys[i])) _ _ _ from gR (wpAny_dictSet_pairs kv (GD pU λo q=>kp _ _ hd q) (λh2 hd2 pR=>?_) (by have:=cJ;omega)));have c1:((i:Int)+1)=((i+1:Nat):Int):=by omega
  have ndT:s.heap.objs.size≠d:=by
   let#[o,es,ep,ho,_]:=pU;exact je (bK ho)
  apply aH #[plainId_quiet qo _,?_];have ed:∀{c o},c≠d->h1.get? c\o->h2.get? c\o:=λhc q=>pR.extBut _ _ hc q;let#[nd,ti,ls,hI,#[a,b,hO],s1,s2,Rq]:=D1;have dn:∀{c},c∈[z,TO,i1,i2]->c≠d:=λhc e=>hd (by rw[<- e];exact hc)
  have sN:∀{c xs},h1.IsTuple c xs->c≠d:=λ{c xs} q e=>by
   let#[o,ho,hc,_]:=q;let#[o2,es,ep,fK,js,_]:=pU;let fK:=kp _ _ hd fK;subst e;rw[ho] at fK;cases fK;let tj:=js.1;rw[hc] at tj;exact absurd tj (by decide)
  have sO:∀{c xs},h1.IsList c xs->c≠d:=λ{c xs} q e=>by
   let#[o,ho,hc,_]:=q;let#[o2,es,ep,fK,js,_]:=pU;let fK:=kp _ _ hd fK;subst e;rw[ho] at fK;cases fK;let tj:=js.1;rw[hc] at tj;exact absurd tj (by decide)
  have ld:∀{it l k zs},Src h1 it l k zs->l≠d:=λq=>by
   cases q with
   |lst _ b=>exact sO b
   |tup _ b=>exact sN b
  have D2:mF h2 z TI TO i1 i2 l1 l2 (i+1) xs.toArray ys.toArray:=by
   apply#[nd,ti,ls,ed (sN #[_,hI,U,_,U]) hI,#[a,b,ed (dn Y1) hO],s1.keep (λ_=>ed (dn Y1)) (λ_=>ed (ld s1)),s2.keep (λ_=>ed (dn Y1)) (λ_=>ed (ld s2)),?_];rcases Rq with hz|⟨T,o,f1,AX,eT,hz⟩
   ·exact .inl (ed (dn Y1) hz)
   by_cases c:T=d
   ·let#[o2,es,ep,fK,_]:=hd2;exact .inr #[T,o2,f1,AX,by rw[c];exact fK,ed (dn Y1) hz]
   exact .inr #[T,o,f1,AX,ed c eT,ed (dn Y1) hz]
  rw[c1]
  apply ih (i+1) (stored kvs k ys[i]) _ R 0 Y0 Y0 (λj k' hj=>?_) D2 (b0.at λo q=>ed (sO (b0.at λo q=>kp _ _ (ls _ Y1) q)) (kp _ _ (ls _ Y1) q)) hd2 (by have:=Ul kvs k ys[i];omega) λh' fR g9 Em=>hR h' fR (by
   have e:ys.drop i=ys[i]::ys.drop (i+1):=List.drop_eq_getElem_cons Y0;rw[e];exact g9) λb o h3 h4 q=>Em b o h3 h4 (ed h3 (kp b o h4 q))
  let#[v,e,r]:=hk (j+1) k' hj;exact#[v,by rw[<- e];congr 1;omega,r]
theorem fT_{TI TO:Addr}{ks:List K}{Q:Aa->Ab->Prop}(hh:A.handled=none)(D:mF s.heap z TI TO i1 i2 l1 l2 0 xs.toArray ys.toArray)(hz:Zp s.heap z TI TO .none false)(b0:s.heap.IsList l1 xs.toArray)(e1:ks.length=xs.length)(e2:ks.length=ys.length)(hk:∀(j:Nat) k,ks[j]? = some k->∃v,xs[j]? = some v/\knd.is k v=true)(oh:ks.length<=1000)(h:∀h' fR,h'.DictOf knd s.heap.objs.size (eV [] (ks.zip ys))->(∀b o,b∉[z,TO,i1,i2]->s.heap.get? b\o->h'.get? b\o)->Q (.ref s.heap.objs.size) { s with heap:=h',toks:=fR }) :
  wpAny (model prog w) A (call (.type "dict") [.ref z]) Q E s:=by
 apply callType_codes (Q₁:=λobj aL=>obj=.ref s.heap.objs.size/\aL={ s with heap:=s.heap.push { cls:=.type "dict",data:=.dict #[] } }) F.kt_called_dict (F.kt_typeCall_dict_1 _) F.entry_dict_init (kt_code_dict_new _ #[U,U]) ?_;rintro obj aL ⟨rfl,rfl⟩;have gh:(s.heap.push { cls:=.type "dict",data:=.dict #[] }).DictOf knd s.heap.objs.size []:=Heap.DictOf.new s.heap;have z1:Zp (s.heap.push { cls:=.type "dict",data:=.dict #[] }) z TI TO .none false:=bo _ hz;apply#[gh.typeIs,F.args_dict_init_2 _ _,?_];unfold Builtin.«dict.__init__» Builtin.Dict.selfAndRest;apply ae (ae (wpAny_notOrdered_dict gh.typeIs ?_));apply (show wpAny _ _ (pure (s.heap.objs.size,[Value.ref z])) _ _ _ from aH ?_);apply (show wpAny _ _ (Builtin.Dict.updateFrom "dict.__init__" s.heap.objs.size (.ref z) [] .none) _ _ _ from ?_);unfold Builtin.Dict.updateFrom;apply ae (wpAny_typeOf (T:="zip") #[_,z1,U] ?_);rw[aK (by decide)];apply ae (vK z1 hh λh2 P8 k2=>?_);simp only[Option.isNone_none,if_true];have z2:IsZip h2 z TI TO .none:=k2 _ _ z1;apply ae (wpAny_rule (ae (wpAny_pyIter_zip z2 ?_)));apply aH #[plainId_quiet qo _,?_];have all:∀c o,s.heap.get? c\o->h2.get? c\o:=λc o q=>k2 _ _ (bo _ q)
 have lt:∀{b},b∈[z,TO,i1,i2]->b<s.heap.objs.size:=λ{b} hb=>by
  let#[nd,ti,ls,hI,#[a,b,hO],s1,s2,Rq]:=D;simp only[cg,ig,or_false] at hb;rcases hb with rfl|rfl|rfl|rfl
  ·exact bK hz
  ·exact bK hO
  ·exact s1.lt.1
  exact s2.lt.1
 apply Zj (A:=A.in1) (knd:=knd) (d:=s.heap.objs.size) (xs:=xs) (ys:=ys) (λhm=>uf _ (lt hm)) hh ks 0 [] _ _ 0 Y0 Y0 (λj k hj=>by simpa using hk j k hj) (D.zR all) (b0.at λo q=>all _ _ q) (GD gh λo q=>k2 _ _ q) ⇑oh λh' fR g9 kp=>#[U,h h' fR ⇑g9 λb o hb q=>kp b o (dE (bK q)) hb (all _ _ q)]
end
end eY
namespace L2
open PySem PySem.Spec PySem.Calls PyProof.Rows PySem.W eY
inductive UB (K:ai) (Q:VK) (vs:af) (H1:Hp):Prop
 |mk:∀(l t:Addr) (ns:ag) (ys:af),vs=[.ref l,.ref t]->d5 K H1 l (ns.map V.str)->fH K H1 t ys->ys.length=ns.length->ns.length<=1000->(∀d,H1 d=none->Q (.ref d) (upd H1 d (.dK (wV [] ((ns.zip ys).map λp=>(Sum.inr p.1,p.2))))))->UB K Q vs H1
def qH(K:ai)(ta:TA):TE:=λσ H Q=>ta σ H λvs H1=>UB K Q vs H1
theorem Q0:∀{ns:ag} {ys:af} {us:aj},Vals ys us->KV ((ns.zip ys).map λp=>((Sum.inr p.1:Key),p.2)) ((ns.map Sum.inr).zip us)
 |[],_,_,_=>by simp only[List.zip_nil_left,List.map_nil];exact Paired.nil
 |_::_,_,_,.nil=>by simp only[List.zip_nil_right,List.map_nil];exact Paired.nil
 |n::ns,y::ys,u::us,.cons r t=>.cons #[U,r] (Q0 t)
theorem fW_{X:Cx}{a:Expr}{es:List Expr}{ta:TA}{p1 p2 oU oT:Pos}(gD:Gl X "dict")(mD:X.mg "dict"=none)(gZ:Gl X "zip")(mZ:X.mg "zip"=none)(ha:PA X (a::es) ta)(hc:X.calm=true:=by rfl)
  (h1:starEach (a::es) X.env=(false,eval a X.env)::starEach es X.env:=by rfl) (h2:starEach [.Call (.Name "zip" p2) (a::es) [] oT] X.env=(false,eval (.Call (.Name "zip" p2) (a::es) [] oT) X.env)::starEach [] X.env:=by rfl)
  (h3:(backTo oU (starEach [] X.env)).any (·.1)=false:=by rfl) (h4:(backTo oT (starEach es X.env)).any (·.1)=false:=by rfl):PE X (.Call (.Name "dict" p1) [.Call (.Name "zip" p2) (a::es) [] oT] [] oU) (qH X.K ta):=by
 intro pins s σ H Q I h;apply wpAny_Call_Name_kw (wA I gD mD qd ?_ (by decide) (by decide));apply CF ?_ h2 h3;rw[h2];apply (show wpAny _ _ (spliced ((false,eval (.Call (.Name "zip" p2) (a::es) [] oT) X.env)::backTo oU (starEach [] X.env))) _ _ s from Calls.spliced_cons ?_);apply wpAny_Call_Name_kw (wA I gZ mZ boot_zip ?_ (by decide) (by decide));apply CF (aS (ha oT pins s σ H _ I h) λus s1 ⟨vs,H1,I1,r1,q1⟩=>?_) h1 h4;let#[l,t,ns,ys,e,sq,V_,ly,oh,q]:=q1;subst e;cases r1 with
 |cons ra rr=>
 cases rr with
 |cons rb rr=>
 cases rr;cases ra;cases rb;let#[u1,v1,p1,_]:=I1.list sq;let#[u2,v2,p2,_]:=I1.tuple V_;let e1:=v1.length;let e2:=v2.length;rw[aq] at e1;apply gc_ p1.isList p2 λh' z TI TO i1 i2 D hz new kp=>?_;have I2:Inv X pins σ H1 { s1 with heap:=h' }:=I1.kept (t':=s1.toks) kp;apply Calls.spliced_nil ?_;apply fT_ (knd:=dZ X.prog X.w) (s:={ s1 with heap:=h' }) (ks:=ns.map Sum.inr) (I1.ok.hd hc) D hz (p1.isList.at λo e=>kp _ _ e) (by rw[aq];omega) (by rw[aq];omega) (λj k hj=>?_) (by rw[aq];exact oh) λg_ tk hd Yb=>?_
 ·rw[de,wY] at hj;let#[n,hn,rfl]:=hj;let#[u,hu,ru]:=v1.get (i:=j) (x:=V.str n) (by rw[de,hn];rfl);exact#[u,hu,wz (k:=Sum.inr n) ru]
 have hk:∀b o,s1.heap.get? b\o->g_.get? b\o:=λb o e=>Yb b o (λhm=>Nat.not_lt.mpr (new b hm) (bK e)) (kp _ _ e);have fresh:s1.heap.objs.size<=h'.objs.size:=Nat.le_of_lt (Nat.lt_of_le_of_lt (new z Y1) (bK hz));let big:=I2.big;apply#[.ref h'.objs.size,_,I1.laid (t':=tk) hk fresh (Mp ?_ (beq_eq_false_iff_ne.mpr (dI (dE big))) (KV.eV (Q0 v2) .nil) hd),U,q _ (I1.aE.fresh fresh)];show (wV [] ((ns.zip ys).map λp=>((Sum.inr p.1:Key),p.2))).length<=sizeLine;have:=Ph ((ns.zip ys).map λp=>((Sum.inr p.1:Key),p.2)) [];rw[aq,List.length_zip] at this;have:=cJ;simp only[List.length_nil] at *;omega
end L2
namespace eY
open PySem PySem.W PyProof.Rows
variable{prog:Ad}{w:Af}{A:Ag}
theorem N5(hh:A.handled=none)(it l:Addr)(ne:l≠it)(xs:Array Aa):Draws prog w A it [it,l] xs.size (λi v=>xs[i]? = some v) λi h=>h.IsTupleIter it l i/\h.IsTuple l xs where
 live:=λi h ⟨⟨o,e,_⟩,_⟩=>#[o,e]
 frame:=λi h h' ⟨a,b⟩ k=>#[a.at λo e=>k it Y1 o e,by let#[o,e,r]:=b;exact#[o,k l Y1 o e,r]]
 item:=λi s Q E hi ⟨a,b⟩ h=>nextT a b (Array.getElem?_eq_getElem hi) λh' a' sb=>h _ h' s.toks (Array.getElem?_eq_getElem hi) #[a',b.extBut sb.extBut ne] sb
 done:=λs Q E ⟨a,b⟩ hE=>by
  let#[o,ho,hc,hd]:=id a;let#[u,hu,_,n,hv]:=b;have hx:xs[xs.size]? = none:=Array.getElem?_eq_none (a9 _);unfold Builtin.SmallTypes.nextOf;apply ae (wG (name:=Str.ofString "__next__") a.typeIs F.slot_tuple_iterator_next (tQ F.slot_tuple_iterator_next a.typeIs F.entry_tuple_iterator_next ?_ (F.args_tuple_iterator_next_1 _)));apply (show wpAny _ _ (field (.ref it) 0 >>= _) _ _ s from ae (hJ ho hd (x:=.ref l) U ?_));apply (show wpAny _ _ (if (Value.ref l == Value.none)=true then _ else _) _ _ s from ?_);rw[aC (show ¬((Value.ref l == Value.none)=true) from gr)];apply (show wpAny _ _ (field (.ref it) 1 >>= _) _ _ s from ae (hJ ho hd (x:=.int xs.size 0) U ?_));apply (show wpAny _ _ (seqItems? (.ref l) >>= _) _ _ s from ae (wpAny_seqItems hu hv ?_));simp only[yR,hx];apply ae (wpAny_rule (ae (wpAny_setField ho hd Y1 ?_)));apply (show wpAny _ _ (newExc (.type "StopIteration") [] >>= _) _ _ _ from ae ?_);simp only[newExc,newTuple];apply ae (qb ?_ (by size_fits));apply ae (m:=firstArgMember _ _) (wpAny_of_eq (a:=Value.none) (by first|rfl|(simp only[firstArgMember];rfl)) ?_);apply qb ?_ (by size_fits);simp only[raiseNew];apply ae (wpAny_handled ?_)
  first|rw[show A.in1.handled=none from hh]|rw[hh]
  apply ae (aH (wpAny_throw ?_));exact hE _ _ (((Heap.SameBut.update ..).extBut.push _).push _) #[_,dj _ U,U]
variable{s:Ab}
theorem eI_(l:Addr)(xs:Array Aa):Meets (Builtin.«enumerate.__new__» #[[.type "enumerate",.ref l],[]]) (λ_ R s=>s.heap.IsTuple l xs /\
   R (.ok (.ret (.ref (yW s.heap l).objs.size))) { s with heap:=(yW s.heap l).push { cls:=.type "enumerate",data:=.fields (List.toArray [.none,.bool false,.ref s.heap.objs.size,rawInt 0,.none,.none]) } }):=
 .of_wp λprog w A R s h=>by
  let#[hp,g,d,tk,os]:=s;let#[a,h]:=h;let EE:=sub_enumerate;let#[o,ho,hc,n,hd]:=id a;have hL:Heap.IsTuple (Shared.heap #[hp,g,d,tk,os]) l xs:=a
  wp_walk using AutoSeq1.wpAny_loadPart' ho
  apply wpAny_stack_any λst=>aH ?_;split
  ·rename_i c _ _ _ _ _
   cases (c == Value.type "enumerate")
   ·wp_walk using AutoSeq1.wpAny_loadPart' ho,wpAny_pyIter_tuple hL
    exact#[_,U,h]
   wp_walk using AutoSeq1.wpAny_loadPart' ho,wpAny_pyIter_tuple hL
   exact#[_,U,h]
  wp_walk using AutoSeq1.wpAny_loadPart' ho,wpAny_pyIter_tuple hL
  exact#[_,U,h]
variable{E:Aa->Ab->Prop}
theorem fX_{l:Addr}{xs:Array Aa}{Q:Aa->Ab->Prop}(hL:s.heap.IsTuple l xs)
  (h:∀h',IsEnum h' (s.heap.objs.size+1) s.heap.objs.size 0 .none->h'.IsTupleIter s.heap.objs.size l 0->(∀b o,s.heap.get? b\o->h'.get? b\o)->Q (.ref (s.heap.objs.size+1)) { s with heap:=h' }) :
  wpAny (model prog w) A (call (.type "enumerate") [.ref l]) Q E s:=by
 apply callType_new F.called_enumerate (by decide) (F.typeCall_enumerate_1 _) (F.newCall_enumerate_1 _) (λobj=>F.args_object_init_2 obj _) F.entry_enumerate_new (eI_ l xs) #[hL,?_];have hz:(yW s.heap l).objs.size=s.heap.objs.size+1:=Heap.size_push ..;have g2:((yW s.heap l).push { cls:=.type "enumerate",data:=.fields (List.toArray [.none,.bool false,.ref s.heap.objs.size,rawInt 0,.none,.none]) }).get? (yW s.heap l).objs.size\_:=dj _ U;have g1:((yW s.heap l).push { cls:=.type "enumerate",data:=.fields (List.toArray [.none,.bool false,.ref s.heap.objs.size,rawInt 0,.none,.none]) }).get? s.heap.objs.size\_:=bo _ (dj _ U);show _/\_;rw[hz] at g2 ⊢;exact#[#[_,g2,U],h _ g2 #[_,g1,U,U] λb o x=>bo _ (bo _ x)]
end eY
namespace L2
open PySem PySem.Spec PyProof.Rows PySem.W eY
def uy(K:ai)(a:Addr):It:=
 #[λi H=>∃xs x,fH K H a xs/\xs[i]? = some x,λi H y H'=>∃t x,y=.ref t/\H t=none/\(∀xs,fH K H a xs->xs[i]? = some x)/\H'=upd H t (.tup [.int i,x]),λi H=>∃xs,fH K H a xs/\xs.length=i]
variable{elts:List Expr}{pos:Pos}
theorem g0_{P:Ad}{w:Af}{K:ai}{k:Nat}(a e it:Addr)(h1:e≠it)(h2:a≠e)(h3:a≠it):Turn P w K (.Tuple elts k pos) (uy K a) [e,it] e (λi h=>(∃old,IsEnum h e it i old)/\h.IsTupleIter it a i) where
 mem:=by simp
 obj:=λi h st b hb=>by
  let#[#[old,q],o,e2,c,d]:=st;rcases cg.mp hb with rfl|hb
  ·exact#[_,q,λv z=>by cases z]
  obtain rfl:b=it:=⇑hb
  exact#[o,e2,λv z=>by rw[d] at z;cases z]
 keep:=λi h h' st kk=>by
  let#[#[old,q],cO]:=st;exact#[#[old,kk e Y1 _ q],cO.at λo q2=>kk it Y1 o q2]
 item:=by
  intro X hP hw hK hc i pins s σ H E I hf st hg;subst hP hw hK;let#[xs,x,hq,hx]:=hg;let#[its,rv,p,hz]:=I.tuple hq;let#[u,hu,ru]:=rv.get hx;have p:s.heap.IsTuple a its.toArray:=p;let W:=WalksT.enumerateD (A:=X.A) (N5 (prog:=X.prog) (w:=X.w) (A:=X.A.in1) (I.ok.hd hc) it a h3 its.toArray) e h1 (by simp[h1,dI h2]) Y1
  have hi:i<its.toArray.size:=by
   simp only[cY];exact (cu.mp hu).1
  let#[old,he]:=st.1;apply wpAny_pyNext_enum_itemD (N5 (prog:=X.prog) (w:=X.w) (A:=X.A.in1) (I.ok.hd hc) it a h3 its.toArray) he #[st.2,p] hi h1 (by simp[h1,dI h2]) λx' h' t vT ho dX yc hsz hk=>?_
  have ex:x'=u:=by
   rw[List.getElem?_toArray,hu] at vT;exact (dN vT).symm
  subst ex;have AM:e<s.heap.objs.size:=bK he;have AK:it<s.heap.objs.size:=by let#[_,x,_]:=st.2;exact bK x
  have mid:(∃x,IsEnumOut h' e it ((i:Int)+1) x s.heap.objs.size)/\(h'.IsTupleIter it a (i+1)/\h'.IsTuple a its.toArray)/\s.heap.objs.size≠e/\s.heap.objs.size≠it:=#[#[_,ho],dX,je AM,je AK];have kk:∀b o,b∉[e,it]->s.heap.get? b\o->h'.get? b\o:=λb o hb x=>hk b o (λe'=>hb (by simp[e'])) (λe'=>hb (by simp[e'])) x;have B5:h'.IsTuple s.heap.objs.size (List.toArray [.int i t,x']):=#[_,yc,U,_,U];obtain⟨T,eT⟩:∃T,T=s.heap.objs.size:=#[_,U];obtain⟨tk,B7⟩:∃tk,tk=t+1:=#[_,U];rw[<- eT] at B5 mid yc ⊢;have hT:s.heap.objs.size<=T:=Nat.le_of_eq eT.symm;rw[<- B7];apply#[_,U,W.go elts k pos i T { s with heap:=h',toks:=tk } _ _ mid λg_ dX Ar=>?_];have nT:T∉[e,it]:=W.apart i T h' mid
  have As:g_.IsTuple T (List.toArray [.int i t,x']):=by
   let#[o,q,r]:=B5;exact#[o,Ar T o nT q,r]
  have I1:Inv X pins σ (upd H T (.tup [.int i,x])) { s with heap:=g_,toks:=tk }:=I.iL (t':=tk) (fp:=[e,it]) (its:=[.int i t,x']) (λb o hb q=>Ar b o hb (kk b o hb q)) hf hT (zl) (.cons #[t,U] (.cons ru .nil)) #[As,_,Ar T _ nT yc,U];apply#[.ref T,_,I1,U,#[T,x,U,I.aE.fresh hT,λys hy=>by rw[I.dm hy hq];exact hx,U],#[?_,dX.2.1],λb hb=>?_]
  ·let#[old,q]:=dX.1;exact#[old,by simpa using q]
  rw[aA (λz:b=T=>nT (by rw[<- z];exact hb))];exact (hf b hb).1
 done:=by
  intro X hP hw hK hc i pins s σ H E I hf st hg;subst hP hw hK;let#[xs,hq,hx]:=hg;let#[its,rv,p,hz]:=I.tuple hq;have p:s.heap.IsTuple a its.toArray:=p;let W:=WalksT.enumerateD (A:=X.A) (N5 (prog:=X.prog) (w:=X.w) (A:=X.A.in1) (I.ok.hd hc) it a h3 its.toArray) e h1 (by simp[h1,dI h2]) Y1
  have hn:its.toArray.size=i:=by
   have:=rv.length;simp only[cY];omega
  apply W.done s _ _ (by rw[hn];exact#[st.1,st.2,p]) λh' tk kk=>#[U,I.gO (t':=tk) (fp:=[e,it]) kk hf]
 self:=λA i s Q E st h=>by
  let#[old,q]:=st.1;exact wpAny_pyIter_enum q h
inductive nZ (K:ai) (R:It->Hp->Prop) (vs:af) (H1:Hp):Prop
 |mk:∀a,vs=[.ref a]->(∃xs,fH K H1 a xs)->R (uy K a) H1->nZ K R vs H1
def Aw(K:ai)(ta:TA):TI:=λσ H R=>ta σ H λvs H1=>nZ K R vs H1
variable{X:Cx}
theorem _e{kk:Nat}{p2:Pos}{a:Expr}{ta:TA}{p:Pos}(hg:Gl X "enumerate")(hm:X.mg "enumerate"=none)(ha:PA X [a] ta)(hs:starEach [a] X.env=[(false,eval a X.env)]:=by rfl):PI X (.Tuple elts kk p2) (.Call (.Name "enumerate" p) [a] [] pos) (Aw X.K ta):=by
 intro pins s σ H R I h;apply Call_ (wA I hg hm boot_enumerate (CF (aS (ha pos pins s σ H _ I h) λus s1 ⟨vs,H1,I1,r1,q1⟩=>?_) hs U));let#[l,e,#[xs,hq],q]:=q1;subst e;cases r1 with
 |cons r rr=>
  cases rr;cases r;let#[its,rv,pl,hz]:=I1.tuple hq;have pl:s1.heap.IsTuple l its.toArray:=pl;have ll:l<s1.heap.objs.size:=by let#[_,e,_]:=pl;exact bK e
  apply fX_ pl λh' he hi kp=>?_;apply wpAny_pyIter_enum he ?_;apply#[s1.heap.objs.size+1,[s1.heap.objs.size+1,s1.heap.objs.size],_,_,H1,U,I1.kept (t':=s1.toks) kp,g0_ l _ _ (Nat.succ_ne_self _) (dE (Nat.lt_succ_of_lt ll)) (dE ll),#[#[_,he],hi],λb hb=>?_,q]
  have e:s1.heap.objs.size<=b:=by
   rcases cg.mp hb with rfl|hb
   ·exact Nat.le_succ _
   obtain rfl:b=s1.heap.objs.size:=⇑hb
   exact a9 _
  exact I1.i0 e (I1.aE.fresh e)
theorem gg_{K:ai}{a:Addr}{xs:af}{g:TG}{tb:TS}{D:Ends}{σ:St}{H:Hp}(Pv:dD)(h0:Pv 0 σ H)(hl:∀i σ H,i<=xs.length->Pv i σ H->fH K H a xs)
  (hs:∀i x σ H,xs[i]? = some x->Pv i σ H->∀t,H t=none->g (.ref t) σ (upd H t (.tup [.int i,x])) λgc H2=>tb { D with nx:=Pv (i+1),ct:=Pv (i+1),bk:=D.nx } gc H2) (hd:∀σ H,Pv xs.length σ H->D.nx σ H) :
  ∃W:Nat->Nat->St->Hp->Prop,(∃m,W 0 m σ H)/\∀i m σ H,W i m σ H->
   ((uy K a).stop i H/\D.nx σ H)∨((uy K a).go i H/\∃N:St->Hp->Prop,(∀bf H',N bf H'->∃m',m'<m/\W (i+1) m' bf H')/\∀x H',(uy K a).vo i H x H'->g x σ H' λgc H2=>tb { D with nx:=N,ct:=N,bk:=D.nx } gc H2):=by
 apply#[λi m σ H=>m=xs.length - i/\i<=xs.length/\Pv i σ H,#[xs.length,by simp,gN _,h0],?_];rintro i m σ H ⟨rfl,hi,p⟩;let q:=hl i σ H hi p;by_cases dQ:i<xs.length
 ·apply .inr #[#[xs,xs[i],q,by simp[dQ]],Pv (i+1),λbf H' p'=>#[xs.length - (i+1),by omega,U,dQ,p'],λx H' y=>?_];let#[t,x,rfl,ht,y,rfl]:=y;exact hs i x σ H (y xs q) p t ht
 have e:i=xs.length:=by omega
 subst e;exact .inl #[#[xs,q,U],hd σ H p]
def y8(tk tv:TE):TE:=λσ H Q=>∀p,H p=none->tk σ (upd H p (.dT [])) λx H1=>tv σ H1 λy H2=>H2 p\.dT []/\∃b k,x=.ref b/\H2 b\.tup (k.map kV)/\Q (.ref p) (upd H2 p (.dT [(k,y)]))
theorem S6{k v:Expr}{tk tv:TE}(hu:X.A.units+1<cLine)(hk:PE X k tk)(hv:PE X v tv):PE X (.Dict [some k] [v] pos) (y8 tk tv):=by
 intro pins s σ H Q I q;let hn:=I.aE.fresh (a9 s.heap.objs.size);let I1:=I.laid (a:=s.heap.objs.size) (o:=.dT []) (h':=s.heap.push { cls:=.type "dict",data:=.dict #[] }) (t':=s.toks) (λ_ _ q=>bo _ q) (a9 _) (S9 s.heap I.big);let shape:=zip_pairTrees [some k] [v] X.env pos U U;rw[arm_eval_Dict,shape,dictDisplay_pairs (pairTrees [some k] [v] X.env pos) (by intro e;exact absurd (eW List.length e) (by rw[pairTrees_length [some k] [v] X.env pos U U];exact Nat.one_ne_zero)) (by rw[pairTrees_length [some k] [v] X.env pos U U];exact (by decide:1<17))];apply ae (wpAny_standAt (ae ?_));unfold subDict;apply ae (wpAny_alloc (ae (gR ?_)));rw[aK (by rw[pairTrees_length [some k] [v] X.env pos U U];exact (by decide:1<=15))];apply ae (pairTrees_cons_walk (aS (hk pins _ σ _ _ I1 (q _ hn)) λu s2 ⟨x,H2,I2,rx,q2⟩=>aS (hv pins s2 σ H2 _ I2 q2) λr s3 ⟨y,H3,I3,ry,e,b,kk,ex,eb,q3⟩=>pairTrees_nil_walk ?_));subst ex;cases rx;let#[z,hd,xs,rel,dd]:=Ln I3.aE e;cases rel;apply gR ?_;apply ae ?_;simp only[List.forIn_cons,List.forIn_nil];apply ae (ae (wpAny_dictSet_heap (hsz:=by simp) (show (tupleKind (dZ X.prog X.w)).room X.A from Nat.lt_of_succ_lt hu) (wB I3.aE eb) dd λh' Cz hs=>aH (aH (aH (aH (aH ?_))))));let#[ob,es,ep,hq,h2,h3,h4,_,h5]:=Cz;apply#[.ref s.heap.objs.size,_,MX (ob:=.dT [(kk,y)]) I3 (by rw[e];exact True.intro) hs #[ob,hq] #[zl,hd,_,(KT.put (H:=H3) (kvs:=[]) (xs:=[]) .nil kk eb ry).keeps λc ys ec=>?_,ob,es,ep,hq,h2,h3,h4,h5],U,q3];rw[aA (bO ec e nofun)];exact ec
open PySem.Builtin PySem.Builtin.Str
theorem Tf:∀{ss:ag} {us:aj},Vals (ss.map V.str) us->StrsAre us ss
 |[],_,.nil=>.nil
 |x::ss,_,.cons r rs=>by
  let#[t,rfl]:=r;exact .cons x t (Tf rs)
end L2
namespace eY
open PySem PySem.W PyProof.Rows
end eY
namespace L2
open PySem PySem.Spec PyProof.Rows PySem.W eY
section
variable{X:Cx}{o i e value:Expr}{pos pos' Kd:Pos}{td ty tv:TE}
end
section
variable{X:Cx}{CX:vk}{k:Nat}{f C:Addr}{fd:Ae}{ps ks:ag}{sp:Sp}{E:XK}{m:Str}{pos apos:Pos}{e o:Expr}{es:List Expr}{B2:List Keyword}{ta:TE}{t tk:TA}{g:aj->aj->aj}{gV:af->af->af}
end
structure FunD (K:ai) (x qual:Str) (st:Stmt) (f:Addr) (fd:Ae):Prop where
 ex:∃(oc:Aa) (od:Option Addr) (T:Addr) (kV doc pm:Aa) (an:Option Addr) (aO ct:Aa) (kE:Array (Option Aa)) (o:Obj) (n:Nat),
  fd=PySem.W.fnOf x qual (gQ st) (f_ st) (a_ st) (.ref T) kV doc pm an aO ct/\K.lookup f=some #[oc,od,.func fd,kE]/\PySem.W.codeIn K aO qual=true/\K.lookup T\o/\o.data=.seq (List.toArray [.none]) n
open AutoSeq1 (wpAny_loadPart')
variable{prog:Ad}{w:Af}
theorem dc_(r:Addr)(o:Obj)(hc:o.cls=.type "dict_values")(φ:aj->Ab->Prop) :
  MeetsIn prog w (Builtin.«tuple.__new__» #[[.type "tuple",.ref r],[]]) (λA R s=>s.heap.get? r\o/\A.handled=none/\(∀(A':Ag) (E':Aa->Ab->Prop) (Rr:aj->Ab->Prop),A'.handled=none->(∀vs s1,φ vs s1->Rr vs s1)->wpAny (model prog w) A' (collect (.ref r)) Rr E' s)/\∀vs s1,φ vs s1->vs.length<=sizeLine/\R (.ok (.ret (.ref s1.heap.objs.size))) { s1 with heap:=s1.heap.push { cls:=.type "tuple",data:=.seq vs.toArray } }):=
 .of_wp λA R s h=>by
  let#[hp,g,d,tk,os]:=s;let#[ht,hh,col,h]:=h;let EE:=sub_tuple_self;let RS:=init_tuple_lookup;let hmh:=madeHere_tuple;have hT:Shared.TypeIs #[hp,g,d,tk,os] (.ref r) "dict_values":=#[o,ht,hc];have Ob:∀{Rr:aj->Ab->Prop} {E':Aa->Ab->Prop},(∀vs s1,φ vs s1->Rr vs s1)->wpAny (model prog w) A.in1 (collect (.ref r)) Rr E' #[hp,g,d,tk,os]:=λh=>col A.in1 _ _ hh h
  wp_walk using pC ht,wpAny_typeOf hT,Ob
  intro vs s1 hv;let#[hz,h]:=h vs s1 hv;apply (show wpAny _ _ (Builtin.Tuple.tupleExact vs.toArray >>= λv=>ret v) _ _ _ from ?_);unfold Builtin.Tuple.tupleExact;apply ae (qb ?_ (by show vs.toArray.size<=sizeLine;simpa using hz));exact aH #[_,U,h]
inductive xG (xs:af) (H:Hp) (Q:VK):Prop
 |mk:∀v d kvs,xs=[.ref v]->H v\qc v d->H d\.dK kvs->(∀l,H l=none->Q (.ref l) (upd H l (.tup (kvs.map (·.2)))))->xG xs H Q
variable{X:Cx}
theorem T3(hc:X.calm=true):gn X (.type "tuple") xG:=by
 intro pins s σ H xs us Q I r h;let#[v,d,kvs,rfl,hv,hd,q]:=h;let#[u,rfl,ru]:=vals1 r;cases ru;let#[z,hdn,vs,rel,dd]:=kP I.aE (.inl hd);let#[ep,dat]:=dd.dictAt;let#[iv,_,_]:=I.aE v _ hv;let hl:=rel.length;let#[o,ho,oc,_]:=id iv
 have col:∀(A':Ag) (E':Aa->Ab->Prop) (Rr:aj->Ab->Prop),A'.handled=none->(∀ws s1,(Inv X pins σ H s1/\Vals (kvs.map (·.2)) ws)->Rr ws s1)->wpAny (model X.prog X.w) A' (collect (.ref v)) Rr E' s:=λA' E' Rr hh q=>by
  apply kdu_collect (kdl_values (knd:=dZ X.prog X.w) (kvs:=vs) (ep:=ep)) hh #[iv,dat] Y0 λh' tk acc k a=>q _ _ #[I.kept k,?_];have a':ItemsOf (λi v=>∃k,vs[i]? = some (k,v)) acc (kvs.map (·.2)).length:=by rw[aq,hl];exact a
  apply JL a' λj v ⟨k,e⟩ y hy=>?_;rw[de] at hy;cases e3:kvs[j]? with
  |none=>rw[e3] at hy;cases hy
  |some kv=>
   rw[e3] at hy;let#[u,hu,ru]:=Ms rel j (k:=kv.1) (x:=kv.2) e3;rw[e] at hu;let hu:=dN hu;have g2:v=u:=eW Prod.snd hu;cases (dN hy:kv.2=y);rw[g2];exact ru
 apply callType_newIn F.called_tuple (by decide) (F.typeCall_tuple_1 _) (F.newCall_tuple_1 _) (λobj=>F.args_object_init_2 obj _) F.entry_tuple_new
  (dc_ v o oc λws s1=>Inv X pins σ H s1/\Vals (kvs.map (·.2)) ws) #[ho,I.ok.hd hc,col,λws s1 ⟨I1,r1⟩=>#[?_,#[_,dj _ U,U],?_]]
 ·rw[<- r1.length,aq];exact z
 exact#[.ref s1.heap.objs.size,_,I1.laid (t':=s1.toks) (λb o e=>bo _ e) (a9 _) (show fj X.prog X.w _ _ _ (.tup (kvs.map (·.2))) from #[by rw[aq];exact z,ws,r1,IsTup.new _ _,_,dj _ U,U]),U,q _ (I1.aE.fresh (a9 _))]
theorem _L{A:Ag}{E:Aa->Ab->Prop}{s:Ab}{t b:Addr}{ws:aj}{Q:Aa->Ab->Prop}(ht:IsTup s.heap t #[])(hb:IsTup s.heap b ws.toArray)(h:Q (.ref b) s):wpAny (model prog w) A (binaryOp .Add (.ref t) (.ref b)) Q E s:=by
 let#[#[cls,dd,data,sl],ho,hc,n,hd]:=id ht;let#[#[Oi,Jc,data2,G_],fK,js,n2,hd2]:=id hb;simp only at hc hd js hd2;subst hc hd js hd2;exact concat_meets #[_,ho,U] #[_,fK,U] noFill_tuple_add seq_tuple_add PySem.F.slot_tuple_add PySem.F.entry_tuple_add (PySem.F.args_tuple_add_2 _ _) (tuple_addW0 t b #[] ws.toArray n n2 dd Jc sl G_ U) #[ho,fK,h]
inductive sk (x:V) (y:V) (H:Hp) (Q:VK):Prop
 |mk:∀a b xs ys,x=.ref a->y=.ref b->H a\.tup xs->H b\.tup ys->xs.length+ys.length<=sizeLine->(∀p H',aa H H'->H' p\.tup (xs++ys)->Q (.ref p) H')->sk x y H Q
theorem wM:dU X (binaryOp .Add) sk:=by
 intro pins s σ H x y v u Q I rx ry h;let#[a,b,xs,ys,rfl,rfl,ha,hb,hz,q]:=h;cases rx;cases ry;let#[its,r1,p1,_]:=I.tuple (.of ha);let#[iw,r2,p2,_]:=I.tuple (.of hb);by_cases z:its=[]
 ·subst z;let e:=r1.nR.mp rfl;exact _L p1 p2 ⟨.ref b,H,I,rfl,q _ _ (aa.refl H) (by rw[e];exact hb)⟩
 apply HT.wD p1 p2 z (λz2=>⟨.ref a,H,I,rfl,q _ _ (aa.refl H) ?_⟩) (λz2=>?_) (by rw[<- r1.length,<- r2.length];exact hz)
 ·rw[r2.nR.mp z2,List.append_nil];exact ha
 apply⟨.ref s.heap.objs.size,_,I.laid (t':=s.toks) (o:=.tup (xs++ys)) (λb ob q=>bo _ q) (a9 _) ?_,rfl,q _ _ (aa.new (I.aE.fresh (a9 _))) ay⟩;exact⟨by rw[dM];exact hz,_,r1.append r2,IsTup.new _ _,_,dj _ rfl,rfl⟩
end L2
namespace eY
open PySem PySem.W PyProof.Rows
variable{prog:Ad}{w:Af}
theorem fA_(d:Addr)(es:Array DictEntry)(ep:Nat)(hd:(d == sysModules)=false):MeetsIn prog w (Builtin.«dict.__len__» ⟨[.ref d],[]⟩) (λ_ R s=>Raw s.heap d es ep/\R (.ok (.ret (.int es.size s.toks))) { s with toks:=s.toks+1 }):=
 .of_wp λA R s ⟨hm,h⟩=>by
  let#[o,ho,hc,jP]:=hm;apply (show wpAny _ _ (dictSize d >>= _) _ _ s from ?_);unfold dictSize;apply ae (ae (wpAny_dictEntries ho jP (aH ?_)));apply (show wpAny _ _ (Builtin.Dict.pendingCount d >>= _) _ _ s from ae (wpAny_pendingCount_other hd ?_));apply wpAny_ret_mkInt ?_;rw[Nat.add_zero];exact h
theorem gl_{A:Ag}{E:Aa->Ab->Prop}{s:Ab}{d:Addr}{es:Array DictEntry}{ep:Nat}{Q:Aa->Ab->Prop}(hd:(d == sysModules)=false)(hm:Raw s.heap d es ep)(hfit:(es.size:Int)<2 ^ 63)(h:Q (.int es.size (s.toks+1)) { s with toks:=s.toks+1+1 }):wpAny (model prog w) A (call (.builtin "len") [.ref d]) Q E s:=by
 apply Calls.call_function_entry kind_len plain_len entry_len (args_len1 _) ?_;unfold Builtin.«len»;apply ae (m:=oneArg "len" _) (aH ?_);apply ae (m:=callSpecial? (.ref d) (Str.ofString "__len__")) (wG (name:=Str.ofString "__len__") hm.ty F.slot_dict_len (call_meetsIn F.slot_dict_len hm.ty F.entry_dict_len (F.args_dict_len_1 _) (fA_ d es ep hd) #[hm,?_]));apply (show wpAny _ _ _ _ _ { s with toks:=s.toks+1 } from ae (gR (aH ?_)));apply ae (wpAny_letGo ?_);apply (show wpAny _ _ (if ((es.size:Nat):Int)<0 then _ else _) _ _ _ from ?_);rw[aC Y0];apply (show wpAny _ _ (if ((es.size:Nat):Int) ≥ 2 ^ 63 then _ else _) _ _ _ from ?_);rw[aC Y0];exact ae (wpAny_mkInt (aH #[_,U,h]))
end eY
namespace L2
open PySem PySem.Spec PyProof.Rows PySem.W eY
inductive UR (xs:af) (H:Hp) (Q:VK):Prop
 |mk:∀a kvs,xs=[V.ref a]->H a\.dT kvs->Q (.int kvs.length) H->UR xs H Q
theorem gd_{X:Cx}:gn X (.builtin "len") UR:=by
 intro pins s σ H xs us Q I r h;let#[a,kvs,rfl,ha,q]:=h;let#[u,rfl,ru]:=vals1 r;cases ru;let#[z,hd,xs,rel,o,es,ep,ho,hc,jP,vZ,nd]:=I.aE a _ ha
 have l1:es.size=xs.length:=by
  have:=eW List.length vZ;simpa using this
 let l2:=bI rel;let sz:=cJ;apply gl_ (es:=es) (ep:=ep) hd ⟨o,ho,hc,jP⟩ Y0 ⟨.int kvs.length,H,I.tok _,⟨_,by rw[l2,<- l1]⟩,q⟩
end L2
namespace Ev
open PySem L2
abbrev ax:=ag
def sK(s:ax):aD:=s.map Sum.inr
abbrev sV(s:ax):af:=s.map V.str
theorem iP(s:ax):(sK s).map kV=sV s:=by
 unfold sK;rw[cy];rfl
variable{a:ax}
theorem FI{b:ax}(h:sK a=sK b):a=b:=by
 unfold sK at h;exact List.map_inj_right (λx y e=>iB e) |>.mp h
inductive Wk (N:ax->ax->Prop) (s0:ax):Nat->ax->Prop
 |z:Wk N s0 0 s0
 |s {k:Nat} {a b:ax}:Wk N s0 k a->N a b->Wk N s0 (k+1) b
def Ds(N:ax->ax->Prop)(s0:ax)(k:Nat)(s:ax):Prop:=Wk N s0 k s/\∀j,j<k->¬Wk N s0 j s
variable{N:ax->ax->Prop}{s0:ax}
theorem Wk.ds:∀{k:Nat} {s:ax},Wk N s0 k s->∃j,j<=k/\Ds N s0 j s:=λ{k s} h=>by
 induction k using Nat.strongRecOn with
 |_ k ih=>
  by_cases c:∃j,j<k/\Wk N s0 j s
  ·let#[j,hj,hw]:=c;let#[i,hi,d]:=ih j hj hw;exact#[i,by omega,d]
  exact#[k,a9 _,h,λj hj hw=>c #[j,hj,hw]]
variable{s:ax}
theorem Ds.prev{k:Nat}(h:Ds N s0 (k+1) s):∃a,Ds N s0 k a/\N a s:=by
 let#[hw,hn]:=h;cases hw with
 |@s _ a _ ha tq=>exact#[a,#[ha,λj hj hw=>hn (j+1) Y0 (.s hw tq)],tq]
theorem Ds.down:∀{k:Nat} {s:ax},Ds N s0 k s->∀i,i<=k->∃t,Ds N s0 i t
 |0,s,h,i,hi=>#[s,by rw[show i=0 by omega];exact h]
 |k+1,s,h,i,hi=>by
  by_cases c:i=k+1
  ·exact#[s,by rw[c];exact h]
  let#[a,ha,_]:=h.prev;exact ha.down i Y0
theorem Ds.inj{j k:Nat}(h:Ds N s0 j s)(h2:Ds N s0 k s):j=k:=by
 rcases Nat.lt_trichotomy j k with c|c|c
 ·exact absurd h.1 (h2.2 j c)
 ·exact c
 exact absurd h2.1 (h.2 k c)
structure Bf (N:ax->ax->Prop) (s0:ax) (k:Nat) (ks nw:List ax):Prop where
 nd:ks.Nodup
 nn:nw.Nodup
 all:∀s,s∈ks ↔ ∃j,j<=k/\Wk N s0 j s
 new:∀s,s∈nw ↔ Ds N s0 k s
structure Wd (old seen ks fd:List ax):Prop where
 nd:ks.Nodup
 nf:fd.Nodup
 all:∀s,s∈ks ↔ s∈old∨s∈seen
 new:∀s,s∈fd ↔ s∈seen/\s∉old
variable{old:List ax}
theorem Wd.start(nd:old.Nodup):Wd old [] old []:=#[nd,.nil,by simp,by simp]
variable{fd ks seen:List ax}
theorem Wd.skip(h:Wd old seen ks fd)(ha:a∈ks):Wd old (seen++[a]) ks fd:=by
 apply#[h.nd,h.nf,λs=>?_,λs=>?_]
 ·rw[h.all,dB,fw];apply#[λx=>x.imp id .inl,λx=>?_];rcases x with x|x|rfl
  ·exact .inl x
  ·exact .inr x
  exact (h.all _).mp ha
 rw[h.new,dB,fw];apply#[λ⟨x,y⟩=>#[.inl x,y],λ⟨x,y⟩=>#[?_,y]];rcases x with x|rfl
 ·exact x
 exact ((h.all _).mp ha).resolve_left y
theorem Wd.add(h:Wd old seen ks fd)(ha:a∉ks):Wd old (seen++[a]) (ks++[a]) (fd++[a]):=by
 have no:a∉old:=λx=>ha ((h.all _).mpr (.inl x));have nf:a∉fd:=λx=>ha ((h.all _).mpr (.inr ((h.new _).mp x).1));apply#[?_,?_,λs=>?_,λs=>?_]
 ·rw[List.nodup_append];exact#[h.nd,by simp,λx hx y hy e=>ha (by rw[<- fw.mp hy,<- e];exact hx)]
 ·rw[List.nodup_append];exact#[h.nf,by simp,λx hx y hy e=>nf (by rw[<- fw.mp hy,<- e];exact hx)]
 ·rw[dB,dB,h.all];constructor
  ·rintro ((x|x)|x)
   ·exact .inl x
   ·exact .inr (.inl x)
   exact .inr (.inr x)
  rintro (x|x|x)
  ·exact .inl (.inl x)
  ·exact .inl (.inr x)
  exact .inr x
 rw[dB,dB,h.new,fw];constructor
 ·rintro (⟨x,y⟩|rfl)
  ·exact#[.inl x,y]
  exact#[.inr U,no]
 rintro⟨x|x,y⟩
 ·exact .inl #[x,y]
 exact .inr x
theorem Bf.start:Bf N s0 0 [s0] [s0]:=by
 have w0:∀s,Wk N s0 0 s ↔ s=s0:=λs=>#[λh=>by cases h;rfl,λh=>by rw[h];exact .z];apply#[by simp,by simp,λs=>?_,λs=>?_]
 ·rw[fw,<- w0];exact#[λh=>#[0,a9 _,h],λ⟨j,hj,h⟩=>by rw[show j=0 by omega] at h;exact h]
 rw[fw,<- w0];exact#[λh=>#[h,λj hj=>by omega],λh=>h.1]
theorem Bf.next{k:Nat}{nw iW:List ax}(B:Bf N s0 k ks nw)(W:Wd ks seen iW fd)(hs:∀s,s∈seen ↔ ∃a∈nw,N a s):Bf N s0 (k+1) iW fd:=by
 have key:∀s,Wk N s0 (k+1) s->(∃j,j<=k/\Wk N s0 j s)∨s∈seen:=λs h=>by
  cases h with
  |@s _ a _ ha tq=>
   by_cases c:∃j,j<k/\Wk N s0 j a
   ·let#[j,hj,hw]:=c;exact .inl #[j+1,by omega,.s hw tq]
   exact .inr ((hs s).mpr #[a,(B.new a).mpr #[ha,λj hj hw=>c #[j,hj,hw]],tq])
 have sw:∀s,s∈seen->Wk N s0 (k+1) s:=λs h=>by
  let#[a,ha,hn]:=(hs s).mp h;exact .s ((B.new a).mp ha).1 hn
 apply#[W.nd,W.nf,λs=>?_,λs=>?_]
 ·rw[W.all,B.all];constructor
  ·rintro (⟨j,hj,h⟩|h)
   ·exact#[j,by omega,h]
   exact#[k+1,a9 _,sw s h]
  rintro⟨j,hj,h⟩;by_cases c:j=k+1
  ·rw[c] at h;exact key s h
  exact .inl #[j,by omega,h]
 rw[W.new,B.all];constructor
 ·rintro⟨h,n⟩;exact#[sw s h,λj hj hw=>n #[j,by omega,hw]]
 rintro⟨h,n⟩;have no:¬∃j,j<=k/\Wk N s0 j s:=λ⟨j,hj,hw⟩=>n j Y0 hw;exact#[(key s h).resolve_left no,no]
def pF(ns:ag):Nat->List ax
 |0=>[[]]
 |n+1=>ns.flatMap λh=>(pF ns n).map (h::·)
theorem S5(ns:ag):∀n,(pF ns n).length=ns.length ^ n
 |0=>rfl
 |n+1=>by
  unfold pF;rw[List.length_flatMap];have:(ns.map λh=>((pF ns n).map (h::·)).length)=ns.map λ_=>ns.length ^ n:=u6 λh _=>by rw[aq,S5 ns n]
  rw[this,List.map_const',List.sum_replicate_nat,Nat.pow_succ,Nat.mul_comm]
theorem SH{ns:ag}:∀{n:Nat} {s:ax},s.length=n->(∀h∈s,h∈ns)->s∈pF ns n
 |0,s,e,_=>by rw[List.length_eq_zero_iff.mp e];exact fw.mpr U
 |n+1,[],e,_=>by cases e
 |n+1,h::s,e,hm=>by
  unfold pF;rw[List.mem_flatMap];exact#[h,hm h Y1,bx.mpr #[s,SH ⇑e (λx hx=>hm x (by simp[hx])),U]]
variable{ns:ag}
theorem Jk{n:Nat}{l:List ax}(nd:l.Nodup)(h:∀s∈l,s.length=n/\∀x∈s,x∈ns):l.length<=ns.length ^ n:=by
 rw[<- S5];exact List.Nodup.length_le_of_subset nd λs hs=>SH (h s hs).1 (h s hs).2
def uM(hs:Xa)(ts:Xb)(q:Pc)(h:Str):ag:=(near (aU hs) (bV ts) h).filter λo=>Co hs ts q.2.2 (some h) (some o)
structure Mv (hs:Xa) (ts:Xb) (qs:aV) (a b:ax) (m:Str × Str × Str):Prop where
 ex:∃(k:Nat) (q:Pc) (h h':Str),qs[k]? = some q/\a[k]? = some h/\h'∈uM hs ts q h/\b=a.set k h'/\m=(q.1,h,h')
def Nx(hs:Xa)(ts:Xb)(qs:aV)(a b:ax):Prop:=∃m,Mv hs ts qs a b m
structure Vs (hs:Xa) (qs:aV) (a:ax):Prop where
 len:a.length=qs.length
 hZ:∀h∈a,h∈aU hs
theorem Nx.vs{hs:Xa}{ts:Xb}{qs:aV}{b:ax}(h:Nx hs ts qs a b)(v:Vs hs qs a):Vs hs qs b:=by
 let#[m,k,q,x,y,h1,h2,h3,rfl,_]:=h;apply#[by rw[List.length_set];exact v.len,λz hz=>?_];rcases List.mem_or_eq_of_mem_set hz with h|rfl
 ·exact v.hZ z h
 exact (t_.mp (t_.mp h3).1).1
theorem Wk.vs{hs:Xa}{ts:Xb}{qs:aV}(v:Vs hs qs s0):∀{k:Nat} {s:ax},Wk (Nx hs ts qs) s0 k s->Vs hs qs s:=λh=>by
 induction h with
 |z=>exact v
 |s _ n ih=>exact n.vs ih
inductive Py (hs:Xa) (ts:Xb) (qs:aV):ax->List (Str × Str × Str)->ax->Prop
 |nil {a:ax}:Py hs ts qs a [] a
 |cons {a b c:ax} {m:Str × Str × Str} {ms:List (Str × Str × Str)}:Mv hs ts qs a b m->Py hs ts qs b ms c->Py hs ts qs a (m::ms) c
def MN(hs:Xa)(qs:aV)(f:bF)(a b:Int):Prop:=∀x∈aU hs,∀y∈aU hs,b * (fJ hs qs f x - fJ hs qs f y)<=a * fD hs
variable{a b r:Int}
theorem Zb{hs:Xa}{qs:aV}{f:bF}(R:CH hs qs f r)(hb:0<b):MN hs qs f a b ↔ b * r<=a * fD hs:=by
 let#[x,hx,y,hy,rfl,up]:=R;constructor
 ·exact λh=>h x hx y hy
 intro h z hz u hu;let h1:=(up z hz).1;let h2:=(up u hu).2;have:b * (fJ hs qs f z - fJ hs qs f u)<=b * (fJ hs qs f x - fJ hs qs f y):=Int.mul_le_mul_of_nonneg_left Y0 Y0;omega
theorem hY_{M:Int}(hr:0<=r)(hM:0<M):a * (fr r M).2<(fr r M).1 * b ↔ a * M<r * b:=by
 have g0:0<(Int.gcd r M:Int):=by
  have:Int.gcd r M≠0:=λe=>by
   have:=Int.gcd_eq_zero_iff.mp e;omega
  omega
 have e1:(fr r M).1 * (Int.gcd r M:Int)=r:=Int.ediv_mul_cancel (Int.gcd_dvd_left ..);have e2:(fr r M).2 * (Int.gcd r M:Int)=M:=Int.ediv_mul_cancel (Int.gcd_dvd_right ..);have h1:a * (fr r M).2 * (Int.gcd r M:Int)=a * M:=by rw[Int.mul_assoc,e2]
 have h2:(fr r M).1 * b * (Int.gcd r M:Int)=r * b:=by rw[Int.mul_right_comm,e1]
 rw[<- h1,<- h2];exact#[λh=>Int.mul_lt_mul_of_pos_right h g0,λh=>Int.lt_of_mul_lt_mul_right h (iF g0)]
def A4(ns:ag)(s:ax):bF:=λn=>((ns.zip s).lookup n).getD n
theorem IA(nd:ns.Nodup){k:Nat}{n h:Str}(hn:ns[k]? = some n)(hh:s[k]? = some h):A4 ns s n=h:=by
 unfold A4
 have:(ns.zip s).lookup n\h:=by
  induction ns generalizing s k with
  |nil=>cases hn
  |cons m ns ih=>
   cases s with
   |nil=>cases hh
   |cons x s=>
    cases k with
    |zero=>
     cases dN hn;cases dN hh;simp[List.lookup]
    |succ k=>
     have hn:ns[k]? = some n:=⇑hn
     have hh:s[k]? = some h:=⇑hh
     have ne:(n == m)=false:=by
      rw[beq_eq_false_iff_ne];intro e;subst e;exact (kU.mp nd).1 (cB hn)
     rw[List.zip_cons_cons,qp,ne];exact ih (kU.mp nd).2 hn hh
 rw[this];rfl
theorem Q6(nd:ns.Nodup)(hl:s.length=ns.length):((ns.zip (sV s)).map λp=>((Sum.inr p.1:Key),p.2))=gd ns (A4 ns s):=by
 apply List.ext_getElem? ?_;intro k;unfold gd dY;rw[de,de];by_cases c:k<ns.length
 ·have h1:ns[k]? = some ns[k]:=aX c;have h2:s[k]? = some (s[k]' Y0):=aX Y0
  have h3:(ns.zip (sV s))[k]? = some (ns[k],V.str (s[k]' Y0)):=by
   rw[List.getElem?_zip_eq_some];exact#[h1,by rw[de,h2];rfl]
  rw[h3,h1,Option.map_some,Option.map_some];dsimp only;rw[IA nd h1 h2]
 rw[List.getElem?_eq_none (by rw[List.length_zip];omega),List.getElem?_eq_none Y0];rfl
end Ev
namespace L2
open PySem PySem.Spec PyProof.Rows PySem.W
theorem Uc{i:Int}(h:-(2 ^ 250)<i/\i<2 ^ 250):Builtin.Int.intBits i<=250:=by
 rw[intBits_le_iff];omega
def GU(i j:Int):Prop:=(-(2 ^ 250)<i/\i<2 ^ 250)/\(-(2 ^ 250)<j/\j<2 ^ 250)
theorem Sn{X:Cx}:dU X (binaryOp .Mult) (rI GU λi j=>.int (i * j)):=BU λi j _ _ _ _ _ hc q=>mul_int q (by
 let h1:=Uc hc.1;let h2:=Uc hc.2;let e:=bitsLine_eq;unfold IntMulOk Builtin.Int.intTooBig;have z:¬((Builtin.Int.intBits i:Int)+(Builtin.Int.intBits j:Int) > (bitsLine:Int)):=by omega
 simp[z])
end L2
namespace Ev
open PySem L2
variable{fd:Ae}
variable{H':Hp}
section v
theorem qV:bQ ["thing","least"] ["thing","least"] (a_ Nu):=bZ
def TK:Sp:=λvs H Q _=>∃i a:Int,vs=[.int i,.int a]/\Q (.bl (decide (a<=i))) H
theorem gp_{f0:Addr}(F:bu K "is_whole_from" "is_whole_from" Nu f0 fd)(cI:!bz 1 "is_whole" fM nj):!ak bc 2 f0 fd ["thing","least"] TK:=by
 exists F.bW qV;let#[i,a,rfl,k]:=h;apply#[_,aJ (bp (oq (bj cI hr %[0|0]) (ph (wN tL (pv 1) (pv 0))))),?_];exact#[_,U,i,U,_,U,bN #[_,U,_,U,_,_,U,U,k]]
structure uZ (l:Int × Int):Prop where
 b1:1<=l.2
 b2:l.2<2 ^ 200
 a1:-(2 ^ 200)<l.1
 a2:l.1<2 ^ 200
 g:Int.gcd l.1 l.2=1
abbrev hY(H:Hp)(t:Addr)(x:Int × Int):Prop:=H t=some (.tup [.int x.1,.int x.2])
theorem zB:bQ fM fM (a_ rM):=bZ
def qP:Sp:=λvs H Q _=>∃(t:Addr) (l:Int × Int),vs=[.ref t]/\hY H t l/\uZ l/\Q (.bl true) H
theorem Zf{f:Addr}(F:bu K "is_fraction" "is_fraction" rM f fd)(B:Bi mg)(K5:mg "abs"=none)(cI:!bz 1 "is_whole" fM nj)(cF:!bz 2 "is_whole_from" ["thing","least"] TK)(cG:!bz 1 Ct mB vz):!ak bc 3 f fd fM qP:=by
 exists F.bW zB;let#[t,l,rfl,ht,lo,k]:=h;refine' #[_,au ?s1 (au ?s2 (aJ ?s3)),?kk]
 case s1=>exact b_ (iK (eK (d0 (bT gL (by rfl) B.gA gE %[0,gM (v:=.ty "tuple") (by rfl) B.tuple oA U|0]))) (jY (eO om (bT gx (by rfl) B.len fN %[0|0]) av))).pt (aJ (bp jv)) cm
 case s2=>exact b_ (iK (eK (d0 (bj cI hr %[bg cj (pv 0) av|0]))) (jY (eK (d0 (bj cF hr %[bg cj (pv 0) av,av|0]))))).pt (aJ (bp jv)) cm
 case s3=>exact bp (wN Lm (bj cG hr %[bT _v (by rfl) K5 PyProof.Rows.Boot.«abs» %[bg cj (pv 0) av|0],bg cj (pv 0) av|0]) av)
 apply#[_,U,_,_,_,_,U,.tup ht,U,_,U,aF ?_];apply#[_,U,t,_,U,.inr (.of ht),U,_,U,?_];apply A9 (show V.int ((2:Nat):Int)=V.int 2 from U) ?_;apply#[_,U,t,_,_,_,U,U,.of ht,U,l.1,U,_,U,aF ?_];apply#[_,U,t,_,_,_,U,U,.of ht,U,l.2,1,U,_,U,?_];rw[c_ lo.b1];apply aF ?_;apply#[_,U,t,_,_,_,U,U,.of ht,U,l.1,U,_,U,t,_,_,_,U,U,.of ht,U,_,l.2,U,?_,lo.b1,?_]
 ·split<;>omega
 have e:Int.gcd (if l.1<0 then -l.1 else l.1) l.2=1:=by
  split
  ·rw[Int.neg_gcd];exact lo.g
  exact lo.g
 rw[e];exact#[U,k]
theorem zy:bQ mB mB (a_ rK):=bZ
def Sm(x:Int × Int):Prop:=(-(2 ^ 250)<x.1/\x.1<2 ^ 250)/\(-(2 ^ 250)<x.2/\x.2<2 ^ 250)
inductive lu (vs:af) (H:Hp) (Q:VK) (E:XK):Prop
 |mk:∀(t u:Addr) (x y:Int × Int),vs=[.ref t,.ref u]->hY H t x->hY H u y->Sm x->Sm y->Q (.bl (decide (x.1 * y.2<y.1 * x.2))) H->lu vs H Q E
theorem Yq{f:Addr}(F:bu K "is_less" "is_less" rK f fd):!ak bc 1 f fd mB lu:=by
 exists F.bW zy;let#[t,u,x,y,rfl,ht,hu,sx,sy,k]:=h;refine' #[_,aJ ?s1,?kk]
 case s1=>exact bp (wN Fs (br Sn (bg cj (pv 0) av) (bg cj (pv 1) av)) (br Sn (bg cj (pv 1) av) (bg cj (pv 0) av)))
 apply#[_,U,t,_,_,_,U,U,.of ht,U,_,U,u,_,_,_,U,U,.of hu,U,_,_,U,U,#[sx.1,sy.2],?_];exact#[_,U,u,_,_,_,U,U,.of hu,U,_,U,t,_,_,_,U,U,.of ht,U,_,_,U,U,#[sy.1,sx.2],_,_,U,U,k]
theorem zE:bQ fM fM (a_ r_):=bZ
def qT:Sp:=λvs H Q _=>∃(t:Addr) (l:Int × Int),vs=[.ref t]/\hY H t l/\uZ l/\Q .non H
theorem Y9{f:Addr}(F:bu K "check_limit" "check_limit" r_ f fd)(cF:!bz 3 "is_fraction" fM qP):!ak bc 4 f fd fM qT:=by
 exists F.bW zE;let#[t,l,rfl,ht,lo,k]:=h;apply#[_,aJ (b_ (eK (d0 (bj cF hr %[0|0]))) gC cm),?_];exact#[_,U,t,l,U,ht,lo,_,U,aF k]
structure Gs (K:ai) (CG CW:Addr) (H:Hp) (g p:Addr) (hs:Xa) (ts:Xb) (qs:aV) (fp:aw):Prop where
 G:gq K CG CW H g p hs ts qs fp
 Gd:Good hs ts
 nd:(qs.map (·.1)).Nodup
 cQ:qs.length<64
 wp:∀q∈qs,0<=q.2.1/\q.2.1<=1000000000
theorem Gs.same{CG CW:Addr}{H:Hp}{g p:Addr}{hs:Xa}{ts:Xb}{qs:aV}{fp:aw}(G:Gs K CG CW H g p hs ts qs fp)(s:aa H H'):Gs K CG CW H' g p hs ts qs fp:=#[G.G.same s,G.Gd,G.nd,G.cQ,G.wp]
theorem Gs.placed{CG CW:Addr}{H:Hp}{g p d:Addr}{hs:Xa}{ts:Xb}{qs:aV}{fp:aw}{f:bF}(G:Gs K CG CW H g p hs ts qs fp)(s:aa H H')(hn:H d=none)(hd:H' d\.dK (gd (qs.map (·.1)) f))(at_:∀n∈qs.map (·.1),f n∈hs.map (·.1)):∃kJ,Bu K CG CW H' g p d hs ts qs kJ f:=by
 let#[kJ,G',h]:=G.G.slim;apply#[kJ,G'.same s,G.Gd,λhm=>?_,hd,at_,G.nd,G.cQ];let#[o,e]:=h d hm;rw[hn] at e;cases e
theorem Vs.at_{hs:Xa}{qs:aV}{s:ax}(v:Vs hs qs s)(nd:(qs.map (·.1)).Nodup):∀n∈qs.map (·.1),A4 (qs.map (·.1)) s n∈hs.map (·.1):=λn hn=>by
 let#[k,hk,e]:=gB hn;have hl:k<s.length:=by rw[v.len];simpa using hk
 rw[IA nd (k:=k) (by rw[aX hk,e]) (aX hl)];exact (gv hs).mem_iff.mp (v.hZ _ (j_ hl))
abbrev fS(qs:aV)(s:ax):bF:=A4 (qs.map (·.1)) s
theorem zu:bQ ["goods","hands"] ["goods","hands"] (a_ rE):=bZ
inductive lg (K:ai) (CG CW:Addr) (vs:af) (H:Hp) (Q:VK) (E:XK):Prop
 |mk:∀(g p t:Addr) (hs:Xa) (ts:Xb) (qs:aV) (fp:aw) (s:ax),vs=[.ref g,.ref t]->Gs K CG CW H g p hs ts qs fp->H t\.tup (sV s)->s.length=qs.length->(∀d H',aa H H'->H d=none->H' d\.dK (gd (qs.map (·.1)) (fS qs s))->Q (.ref d) H')->lg K CG CW vs H Q E
theorem Yp{f CG CW:Addr}(F:bu K "placed_by" "placed_by" rE f fd)(B:Bi mg)(mZ:mg "zip"=none)(T:gy K CG)(cN:!bY CG 1 "names" pf (CM K CG CW)):!ak bc 2 f fd ["goods","hands"] (lg K CG CW):=by
 exists F.bW zu;let#[g,p,t,hs,ts,qs,fp,s,rfl,G,ht,hl,k]:=h;let cQ:=G.cQ;apply#[_,aJ (bp (fW_ (by rfl) B.dict (by rfl) mZ %[Bp cN T.cl (hr.mono (by decide)) (pv 0),1|0])),?_];let#[dx,dw,dy,vs,dz,h1,_]:=id G.G.ex;apply#[_,U,g,dx,_,U,h1,wL _ _ _ Z0 Z0 Z0,g,p,hs,ts,qs,fp,U,G.G,λl fZ=>?_];let#[s1,e1]:=aB (o:=.lst ((qs.map (·.1)).map V.str)) fZ;generalize upd H l (.lst ((qs.map (·.1)).map V.str))=H1 at s1 e1 ⊢;apply#[_,U,l,t,qs.map (·.1),sV s,U,.of e1,.of (s1 _ _ ht),by rw[aq,aq];exact hl,by rw[aq];omega,λd hd=>?_];rw[Q6 G.nd (by rw[aq];exact hl)]
 have jm:((gd (qs.map (·.1)) (fS qs s)).map (·.1)).Nodup:=by
  rw[CL,mC,ub];exact G.nd.imp λn e=>n (iB e)
 rw[yN jm];exact k d _ (s1.trans (aa.new hd)) (s1.free hd) ay
theorem Ss{hs:Xa}{ts:Xb}{qs:aV}{f:bF}{r:Int}(G:Good hs ts)(wp:∀q∈qs,0<=q.2.1/\q.2.1<=1000000000)(cQ:qs.length<64)(R:CH hs qs f r):0<=r/\r<2 ^ 140:=by
 let#[x,hx,y,hy,rfl,up]:=R;let h1:=(up y hy).1;let h2:=XW G wp cQ (f:=f) hy
 have h3:fJ hs qs f x<=64000000000 * fD hs:=by
  unfold fJ;let l1:=HM wp cQ f x;let mo:=Bn G;let so:=Bh G hx;have q:fD hs / strOf hs x<=fD hs:=Int.ediv_le_self _ (iF mo.1);have q0:0<=fD hs / strOf hs x:=Int.ediv_nonneg (iF mo.1) Y0;exact Int.le_trans (Int.mul_le_mul_of_nonneg_left q l1.1) (Int.mul_le_mul_of_nonneg_right l1.2 (iF mo.1))
 let mo:=Bn G;omega
theorem QU{r M:Int}(hr:0<=r)(B_:r<2 ^ 140)(hM:0<M)(hM2:M<2 ^ 100):0<=(fr r M).1/\(fr r M).1<2 ^ 140/\1<=(fr r M).2/\(fr r M).2<2 ^ 100/\Int.gcd (fr r M).1 (fr r M).2=1:=by
 have g0:0<Int.gcd r M:=by
  rcases Nat.eq_zero_or_pos (Int.gcd r M) with e|e
  ·have:=Int.gcd_eq_zero_iff.mp e;omega
  exact e
 have g1:0<(Int.gcd r M:Int):=by omega
 have e2:(fr r M).2 * (Int.gcd r M:Int)=M:=Int.ediv_mul_cancel (Int.gcd_dvd_right ..);have p1:0<=(fr r M).1:=Int.ediv_nonneg hr (iF g1);have p2:(fr r M).1<=r:=Int.ediv_le_self _ hr;have p3:(fr r M).2<=M:=Int.ediv_le_self _ (iF hM)
 have p4:1<=(fr r M).2:=by
  by_cases c:1<=(fr r M).2
  ·exact c
  have:(fr r M).2 * (Int.gcd r M:Int)<=0 * (Int.gcd r M:Int):=Int.mul_le_mul_of_nonneg_right Y0 (iF g1);omega
 exact#[p1,by omega,p4,by omega,Int.gcd_ediv_gcd_ediv_gcd g0]
noncomputable def l9 (hs:Xa) (qs:aV) (s:ax) (l:Int × Int):Bool:=@decide (MN hs qs (fS qs s) l.1 l.2) (Classical.propDecidable _)
theorem RD{hs:Xa}{qs:aV}{s:ax}{l:Int × Int}:l9 hs qs s l=true ↔ MN hs qs (fS qs s) l.1 l.2:=by
 unfold l9;exact @decide_eq_true_iff _ (Classical.propDecidable _)
theorem rg:bQ oF oF (a_ Nt):=bZ
inductive OA (K:ai) (CG CW:Addr) (vs:af) (H:Hp) (Q:VK) (E:XK):Prop
 |mk:∀(g p t lt:Addr) (hs:Xa) (ts:Xb) (qs:aV) (fp:aw) (s:ax) (l:Int × Int),vs=[.ref g,.ref t,.ref lt]->Gs K CG CW H g p hs ts qs fp->H t\.tup (sV s)->Vs hs qs s->hY H lt l->uZ l->(∀H',aa H H'->Q (.bl (l9 hs qs s l)) H')->OA K CG CW vs H Q E
theorem hl_{f CG CW:Addr}(F:bu K "is_even" "is_even" Nt f fd)(cL:!bz 1 "is_less" mB lu)(cS:!bz 6 "spread_at" oz (JN K CG CW))(cP:!bz 2 "placed_by" ["goods","hands"] (lg K CG CW)):!ak bc 7 f fd oF (OA K CG CW):=by
 exists F.bW rg;let#[g,p,t,lt,hs,ts,qs,fp,s,l,rfl,G,ht,v,hl,lo,k]:=h;apply#[_,aJ (bp (Mw (bj cL hr %[2,bj cS hr %[0,bj cP hr %[0,1|0]|0]|0]))),?_];apply#[_,U,_,U,_,U,_,U,g,p,t,hs,ts,qs,fp,s,U,G,ht,v.len,λd H1 s1 n1 e1=>?_];let#[SX,Pl]:=G.placed s1 n1 e1 (v.at_ G.nd);apply#[g,p,d,hs,ts,qs,SX,fS qs s,U,Pl,G.wp,λu r H2 s2 R e2=>?_];let rl:=Ss G.Gd G.wp G.cQ R;let mo:=Bn G.Gd;let fb:=QU rl.1 rl.2 mo.1 mo.2.1;apply#[lt,u,l,fr r (fD hs),U,s2 _ _ (s1 _ _ hl),e2,?_,?_,?_]
 ·have:=lo.a1;have:=lo.a2;have:=lo.b1;have:=lo.b2;exact#[#[by omega,by omega],by omega,by omega]
 ·exact#[#[by omega,by omega],by omega,by omega]
 let kk:=k H2 (s1.trans s2)
 have e:(!decide (l.1 * (fr r (fD hs)).2<(fr r (fD hs)).1 * l.2))=l9 hs qs s l:=by
  rw[Bool.eq_iff_iff,RD,Zb R (by have:=lo.b1;omega),Bool.not_eq_true',decide_eq_false_iff_not,hY_ rl.1 mo.1,Int.not_lt,Int.mul_comm]
 apply#[_,U,?_];rw[e];exact kk
end
structure CT (H:Hp) (d:Addr) (hs:Xa) (ts:Xb) (ns:ag) (q:Pc) (ad:Str->Addr):Prop where
 at_:H d\.dK (dY ns λh=>.ref (ad h))
 is:∀h∈ns,H (ad h)\.lst ((uM hs ts q h).map V.str)
def GR(H:Hp)(d:Addr)(hs:Xa)(ts:Xb)(q:Pc):Prop:=∃ad,CT H d hs ts (aU hs) q ad
variable{ns:ag}{q:Pc}
theorem CT.same{H:Hp}{d:Addr}{hs:Xa}{ts:Xb}{ad:Str->Addr}(h:CT H d hs ts ns q ad)(s:aa H H'):CT H' d hs ts ns q ad:=#[s _ _ h.at_,λx hx=>s _ _ (h.is x hx)]
theorem GR.same{H:Hp}{d:Addr}{hs:Xa}{ts:Xb}(h:GR H d hs ts q)(s:aa H H'):GR H' d hs ts q:=by
 let#[ad,h]:=h;exact#[ad,h.same s]
def xa(H:Hp)(l d:Addr)(hs:Xa)(ts:Xb)(q:Pc):Prop:=∃ad,CT H d hs ts (aU hs) q ad/\∀x∈aU hs,ad x≠l
variable{l:Addr}
theorem xa.same{H:Hp}{d:Addr}{hs:Xa}{ts:Xb}(h:xa H l d hs ts q)(s:aa H H'):xa H' l d hs ts q:=by
 let#[ad,h,n]:=h;exact#[ad,h.same s,n]
def xb(H:Hp)(l:Addr)(hs:Xa)(ts:Xb)(qs:aV):Prop:=∃ds:aw,H l\.lst (ds.map V.ref)/\Paired (λd q=>GR H d hs ts q) ds qs
theorem xb.same{H:Hp}{hs:Xa}{ts:Xb}{qs:aV}(h:xb H l hs ts qs)(s:aa H H'):xb H' l hs ts qs:=by
 let#[ds,h1,h2]:=h;exact#[ds,s _ _ h1,Paired.aQ h2 λd q x=>x.same s]
section v
theorem CC:bQ ["goods","web","found","piece","exits","one"] ["goods"] (a_ lU):=bZ
inductive NZ (K:ai) (CG CW:Addr) (vs:af) (H:Hp) (Q:VK) (E:XK):Prop
 |mk:∀(g p:Addr) (hs:Xa) (ts:Xb) (qs:aV) (fp:aw),vs=[.ref g]->Gs K CG CW H g p hs ts qs fp->(∀l H',aa H H'->H l=none->xb H' l hs ts qs->Q (.ref l) H')->NZ K CG CW vs H Q E
theorem ZT{f CG CW CP:Addr}(F:bu K "exits_of" "exits_of" lU f fd)(T:gy K CG)(TW:Txt K mg CW)(cN:!bY CG 1 "names" pf (CM K CG CW))(cH:!bY CW 1 "hands" pf (Gn K CW))(cE:!bY CW 2 "neighbours" wI (Np K CW))(cM:!bY CG 3 "may_go" ["self","piece","one","other"] (lC K CG CW CP)):!ak bc 4 f fd ["goods"] (NZ K CG CW):=by
 exists F.bW CC;let#[g,p,hs,ts,qs,fp,rfl,G,k]:=h;let hu:=fP hr;let sz:=cJ;let cQ:=G.cQ;let nl:=G.Gd.iU;let h8:=G.Gd.h8;let iT:=G.Gd.iT;have jM:aY 1 _:=hr.mono (by decide);have B_:aY 2 _:=hr.mono (by decide);have B9:aY 3 _:=hr.mono (by decide);refine' #[_,au ?s1 (au ?s2 (au ?s3 (aJ ?s4))),?kk]
 case s1=>exact bw 1 CC.nd (i_ (pv 0) U)
 case s2=>exact bw 2 CC.nd (eI bR)
 case' s3=>refine' d8 dS U ?i3 ?g3 (au ?b1 (au ?b2 (aJ ?b3)))
 case i3=>exact d4 (Bp cN T.cl jM (pv 0))
 case g3=>exact bX 3 CC.nd
 case b1=>exact bw 4 CC.nd Gu
 case' b2=>refine' d8 dS U ?i4 ?g4 (aJ ?b4)
 case i4=>exact d4 (Bp cH TW.cl jM (pv 1))
 case g4=>exact bX 5 CC.nd
 case' b4=>refine' u4 hu (pv 4) (pv 5) (jb ["other","goods","one","piece"] 1 [0,5,3] (d4 (j1 cE TW.cl B_ (pv 1) %[5|0])) (λfp s H=>?g5) (λfp s H=>?c5) (λfp s H=>?e5)) U
 case g5=>exact fu (i:=0) (show (["other","goods","one","piece"]:ag).Nodup by decide +kernel) U (Or.inl U)
 case c5=>exact Jh (d0 (j1 cM T.cl B9 (pv 1) %[3,2,0|0]))
 case e5=>exact pv 0
 case b3=>exact j8 (kQ kM qg qh pG (pv 2) %[4|0])
 case s4=>exact bp (pv 2)
 let#[dx,dw,dy,vs,dz,h1,h2,_]:=id G.G.ex;have gno:(dc p dw dy).lookup ("names":Str)=none:=wL _ _ _ Z0 Z0 Z0;have gnm:(dc p dw dy).lookup ("may_go":Str)=none:=wL _ _ _ Z0 Z0 Z0;apply#[_,U,g,CG,dx,_,_,U,h1,T.cl,T.nW,yM _ _ _,?_];apply#[zl,λl hl=>?_];let#[s1,e1]:=aB (o:=.lst []) hl;generalize upd H l (.lst [])=H1 at s1 e1 ⊢;apply#[_,U,g,dx,_,U,s1 _ _ h1,gno,g,p,hs,ts,qs,fp,U,G.G.same s1,λln x8=>?_];let#[s2,e2]:=aB (o:=.lst ((qs.map (·.1)).map V.str)) x8;have nln:H ln=none:=s1.free x8;have XD:ln≠l:=(bG e1 x8).symm;let el:=s2 _ _ e1;let iQ:=s1.trans s2;generalize upd H1 ln (.lst ((qs.map (·.1)).map V.str))=H2 at s2 e2 el iQ ⊢
 let Iv:dD:=λi σ H'=>∃(v3 v4 v5:aI) (ds:aw),σ=[some (.ref g),some (.ref p),some (.ref l),v3,v4,v5]/\aa H H'/\H' ln\.lst ((qs.map (·.1)).map V.str)/\H' l\.lst (ds.map V.ref)/\Paired (λd q=>xa H' l d hs ts q) ds (qs.take i)
 apply#[ln,U,#[_,.of e2],ie (K:=K) (a:=ln) (xs:=(qs.map (·.1)).map V.str) Iv #[none,none,none,[],U,iQ,e2,el,.nil] (λi σ H' _ ⟨_,_,_,_,_,_,q,_⟩=>.of q) ?_ ?_]
 ·rintro i y σ H3 hy ⟨v3,v4,v5,ds,rfl,dH,e3,uP,pd⟩;let#[n,hn,rfl]:=qq hy;rw[de,wY] at hn;let#[q,hq,rfl]:=hn;let qm:=cB hq;have hi:i<qs.length:=(cu.mp hq).1;intro d hd;let s4:=aa.new (o:=.dK []) hd;have e4:upd H3 d (.dK []) d\.dK (dY [] λh=>.ref d):=ay;have dn:H d=none:=dH.free hd;let fI:=dH.trans s4;let i5:=s4 _ _ uP;let TC:=s4 _ _ e3;let DT:=Paired.aQ (G:=λa q=>xa (upd H3 d (.dK [])) l a hs ts q/\a≠d) pd λa q x=>#[x.same s4,by let#[ad,x,_]:=x;exact bG x.at_ hd];have dl:d≠l:=(bG uP hd).symm;have dln:d≠ln:=(bG e3 hd).symm;generalize upd H3 d (.dK [])=H4 at s4 e4 fI i5 TC DT ⊢;let W4:=h2.same fI;let#[jT,d1,l2,d3,xc,as,ef,w1,_]:=id h2.ex;have VF:(fi d1 l2 d3).lookup ("hands":Str)=none:=pB _ _ _ Z0 Z0 Z0;have VG:(fi d1 l2 d3).lookup ("neighbours":Str)=none:=pB _ _ _ Z0 Z0 Z0;apply#[_,U,p,jT,_,U,fI _ _ w1,VF,p,hs,ts,dz,U,W4,λlh eZ=>?_];let#[s5,e5]:=aB (o:=.lst ((aU hs).map V.str)) eZ;let jD:=fI.trans s5;have hn5:H lh=none:=fI.free eZ;have XI:lh≠d:=(bG e4 eZ).symm;let Uh:=s5 _ _ e4;let uO:=s5 _ _ i5;let TB:=s5 _ _ TC;let Qn:=Paired.aQ (G:=λa q=>xa (upd H4 lh (.lst ((aU hs).map V.str))) l a hs ts q/\a≠d) DT λa q x=>#[x.1.same s5,x.2];generalize upd H4 lh (.lst ((aU hs).map V.str))=H5 at s5 e5 jD Uh uO TB Qn ⊢
  let Iw:dD:=λj σ H'=>∃(v5:aI) (ad:Str->Addr),σ=[some (.ref g),some (.ref p),some (.ref l),some (.str q.1),some (.ref d),v5]/\aa H H'/\H' ln\.lst ((qs.map (·.1)).map V.str)/\H' l\.lst (ds.map V.ref)/\H' lh\.lst ((aU hs).map V.str)/\Paired (λa q=>xa H' l a hs ts q/\a≠d) ds (qs.take i)/\CT H' d hs ts ((aU hs).take j) q ad/\∀x∈(aU hs).take j,ad x≠l
  apply#[lh,U,#[_,.of e5],ie (K:=K) (a:=lh) (xs:=(aU hs).map V.str) Iw #[_,_,U,jD,TB,uO,e5,Qn,#[Uh,by simp],by simp] (λj σ H' _ ⟨_,_,_,_,_,_,z,_⟩=>.of z) ?_ ?_]
  ·rintro j y σ H6 hy ⟨J6,ad,rfl,iq,MQ,uN,e6,Hg,ex,IC⟩;let#[h,hh,rfl]:=qq hy;let hm:=cB hh;have hj:j<(aU hs).length:=(cu.mp hh).1;let jr:=(gv hs).mem_iff.mp hm;let LM:=Td iT hh;let W6:=h2.same iq;apply#[_,U,p,jT,_,U,iq _ _ w1,VG,_,U,p,h,hs,ts,dz,U,W6,iT,jr,λlx jN=>?_];let#[s7,e7]:=aB (o:=.lst ((near (aU hs) (bV ts) h).map V.str)) jN;generalize upd H6 lx (.lst ((near (aU hs) (bV ts) h).map V.str))=H7 at s7 e7 ⊢;have zY:(near (aU hs) (bV ts) h).length<=8:=ic (List.length_filter_le ..) Y0;apply#[lx,U,#[_,.of e7],λD hD=>?_];apply j9 (own:=1) (fv:=[some (.ref g),some (.str h),some (.str q.1)]) (xs:=(near (aU hs) (bV ts) h).map V.str) U fg (λi out H'=>aa H7 H'/\H' D\.lst out/\out=(((near (aU hs) (bV ts) h).take i).filter λo=>Co hs ts q.2.2 (some h) (some o)).map V.str) #[aa.new hD,ay,U] (λi out H' _ ⟨sm,_,_⟩=>.of (sm _ _ e7)) (λout H8 ⟨sm,hD8,eo⟩=>?_) (λi' y out H' hy ⟨sm,dq,eo⟩=>?_)
   ·rw[aq,d9] at eo;let BR:=s7.trans sm;let FE:=ex.same BR;have Dn:H6 D=none:=s7.free hD;apply#[_,U,_,U,d,_,U,.k (k:=Sum.inr h) FE.at_ (by rw[oy,dJ];omega),?_];have Dd:D≠d:=λz=>by rw[z,ex.at_] at Dn;cases Dn
    apply#[_,λx=>if x=h then D else ad x,U,fF (iq.trans BR) dn,by rw[aA dln.symm];exact BR _ _ MQ,by rw[aA dl.symm];exact BR _ _ uN,by rw[aA XI];exact BR _ _ e6,Paired.aQ Hg λa q ⟨⟨Pt,x,xl⟩,ne⟩=>#[#[Pt,?_,xl],ne],#[?_,λx hx=>?_],λx hx=>?_]
    ·let x:=x.same BR;exact#[by rw[aA ne];exact x.at_,λz hz=>by rw[aA (bO (x.is z hz) FE.at_ (by intro e;cases e))];exact x.is z hz]
    ·rw[ay,u3 hh,Sj LM];exact eW (λz=>some (HO.dK z)) (JA λn _=>by split<;>rfl)
    ·rw[u3 hh] at hx;rcases dB.mp hx with hx|hx
     ·have:x≠h:=λe=>LM (by rw[<- e];exact hx);rw[aC this,aA (bO (FE.is x hx) FE.at_ (by intro e;cases e))];exact FE.is x hx
     rw[fw.mp hx,aK U,aA Dd,hD8,eo];rfl
    rw[u3 hh] at hx;rcases dB.mp hx with hx|hx
    ·have:x≠h:=λe=>LM (by rw[<- e];exact hx);show (if x=h then D else ad x)≠l;rw[aC this];exact IC x hx
    rw[fw.mp hx];show (if h=h then D else ad h)≠l;rw[aK U];exact λz=>by rw[z,uN] at Dn;cases Dn
   let#[o,ho,rfl]:=qq hy;apply#[_,U,U,λNx hN=>?_];let G':=G.G.same (((iq.trans s7)).trans sm);let uL:=(iq.trans s7).trans sm _ _ h1;apply#[_,U,g,dx,_,U,uL,gnm,_,U,_,U,_,U,g,p,.str q.1,.str h,.str o,some q.1,some h,some o,hs,ts,qs,fp,U,G',G.nd,iT,U,.inl #[q,qm,U,U,U,λH9 s9=>#[_,U,?_]]]
   have lo:out.length<=8:=by
    rw[eo,aq];exact ic (List.length_filter_le ..) (ic (by rw[dJ];exact Nat.min_le_right ..) zY)
   apply bH (λc=>?_) (λc=>?_)
   ·apply#[_,U,out,s9 _ _ dq,by omega,hN _ _ #[fF (sm.trans s9) hD,ay,?_]];rw[JO _ ho,eJ,<- eo];rw[aK c];rfl
   apply hN out _ #[sm.trans s9,s9 _ _ dq,?_];rw[JO _ ho,eJ,<- eo,aC c];simp
  rintro σ H6 ⟨J6,ad,rfl,iq,MQ,uN,e6,Hg,ex,IC⟩;rw[aq,d9] at ex IC;let lp:=bI Hg;rw[dJ] at lp;apply#[_,U,.inl #[U,_,.of uN],_,U,l,_,_,U,U,uN,by rw[aq];omega,?_];have pl:∀{a q},xa H6 l a hs ts q->xa (upd H6 l (.lst (ds.map V.ref++[.ref d]))) l a hs ts q:=λ{a q} ⟨Pt,x,xl⟩=>#[Pt,#[by rw[aA (bO x.at_ uN (by intro e;cases e))];exact x.at_,λz hz=>by rw[aA (xl z hz)];exact x.is z hz],xl];apply#[_,_,_,ds++[d],U,fF iq hl,by rw[aA XD];exact MQ,?_,?_]
  ·rw[ay,eJ];rfl
  rw[oB,hq];exact mE (Paired.aQ Hg λa q x=>pl x.1) (.cons (pl #[ad,ex,IC]) .nil)
 rintro σ H3 ⟨v3,v4,v5,ds,rfl,dH,e3,uP,pd⟩;rw[aq,aq,d9] at pd;exact#[_,U,k l H3 dH hl #[ds,uP,Paired.aQ pd λa q ⟨ad,x,_⟩=>#[ad,x]]]
end
abbrev lJ:Stmt:=pA rD 0
abbrev lI:Stmt:=pA rD 1
def d_(x a n:Addr):List (Str × V):=aP "newest" (.ref n) (aP uV (.ref a) (aP j2 (.ref x) []))
theorem WH:¬((j2:Str)=uV):=by decide +kernel
theorem WG:¬((j2:Str)="newest"):=by decide +kernel
theorem YS(x a n:Addr):(d_ x a n).lookup (j2:Str)\.ref x:=by
 unfold d_;rw[gT,aC WG,gT,aC WH,gT,aK U]
theorem hP_(x a n:Addr){m:Str}(h1:¬m=j2)(h2:¬m=uV)(h3:¬m="newest"):(d_ x a n).lookup m=none:=by
 unfold d_;rw[gT,aC h3,gT,aC h2,gT,aC h1]
 all_goals rfl
structure ug (K:ai) (CR:Addr):Prop where
 cl:mP K CR
 nX:mh K CR j2
 nA:mh K CR uV
 nN:mh K CR "newest"
def uU(H:Hp):af->List ax->Prop:=Paired λy s=>∃t,y=.ref t/\H t\.tup (sV s)
theorem uU.keep{H:Hp}{ys:af}{l:List ax}(h:uU H ys l)(k:∀b xs,H b\.tup xs->H' b\.tup xs):uU H' ys l:=Paired.aQ h λy s ⟨t,e,ht⟩=>#[t,e,k _ _ ht]
def PaV(H:Hp)(v:V):Option ax->Prop
 |none=>v=.non
 |some q=>∃b,v=.ref b/\H b\.tup (sV q)
def PX(H:Hp):List (aD × V)->List (ax × Option ax)->Prop:=Paired λkv e=>kv.1=sK e.1/\PaV H kv.2 e.2
theorem yK{kvs:List (aD × V)}{k:aD}{v:V}(h:aZ kvs k=none):putK kvs k v=kvs++[(k,v)]:=by
 unfold putK;rw[CK,h];rfl
structure GJ (CR:Addr) (H:Hp) (r a x n:Addr) (hs:Xa) (ts:Xb) (qs:aV) (pa:List (ax × Option ax)) (nw:List ax):Prop where
 ins:∃dx,H r\.ins CR dx (d_ x a n)
 ex:xb H x hs ts qs
 ah:∃kvs,H a\.dT kvs/\PX H kvs pa
 ne:∃ys,H n\.lst ys/\uU H ys nw
variable{f:Addr}
section v
theorem nz:bQ ["self","goods","placed","first"] ["self","goods","placed"] (a_ lJ):=bZ
inductive ND (K:ai) (CG CW CR:Addr) (vs:af) (H:Hp) (Q:VK) (E:XK):Prop
 |mk:∀(r dx g p d:Addr) (hs:Xa) (ts:Xb) (qs:aV) (fp:aw) (f:bF),vs=[.ref r,.ref g,.ref d]->H r\.ins CR dx []->Gs K CG CW H g p hs ts qs fp->H d\.dK (gd (qs.map (·.1)) f)->(∀a x n H',(∀b o,H b\o->b≠r->H' b\o)->H a=none->GJ CR H' r a x n hs ts qs [((qs.map (·.1)).map f,none)] [(qs.map (·.1)).map f]->Q .non H')->ND K CG CW CR vs H Q E
theorem ZS{CG CW CR:Addr}(F:bu K "__init__" "Reach.__init__" lJ f fd)(T:ug K CR)(B:Bi mg)(cE:!bz 4 "exits_of" ["goods"] (NZ K CG CW)):!ak bc 5 f fd ["self","goods","placed"] (ND K CG CW CR):=by
 exists F.bW nz;let#[r,dx,g,p,d,hs,ts,qs,fp,f,rfl,Ca,G,hd,k]:=h;let hu:=fP hr;refine' #[_,au ?s1 (au ?s2 (au ?s3 (aJ ?s4))),?kk]
 case s1=>exact bw 3 nz.nd (gS (T3 U) (by rfl) B.tuple oA %[Jx (pv 2)|0])
 case s2=>exact wC (pv 0) (bj cE hr %[1|0]) U
 case s3=>exact wC (pv 0) (S6 hu (pv 3) ou) U
 case s4=>exact wC (pv 0) (eI %[3|0]) U
 apply#[_,U,d,_,U,hd,λv hv=>?_];let#[s1,e1]:=aB (o:=qc v d) hv;generalize upd H v (qc v d)=H1 at s1 e1 ⊢;apply#[v,d,_,U,e1,s1 _ _ hd,λt ht=>?_]
 have ev:(gd (qs.map (·.1)) f).map (·.2)=sV ((qs.map (·.1)).map f):=by
  simp only[gd,dY,sV,cy];rfl
 rw[ev];obtain⟨s0,RC⟩:∃s0,s0=(qs.map (·.1)).map f:=#[_,U];rw[<- RC];rw[<- RC] at k;let#[s2,e2]:=aB (o:=.tup (sV s0)) ht;let iQ:=s1.trans s2;generalize upd H1 t (.tup (sV s0))=H2 at s2 e2 iQ ⊢;apply#[_,U,g,p,hs,ts,qs,fp,U,G.same iQ,λx H3 s3 nx ex=>?_];let dH:=iQ.trans s3;apply#[_,U,r,CR,dx,[],U,dH _ _ Ca,T.cl,T.nX,by show 0<1000;decide,?_];have GW:∀{b o},H3 b\o->b≠r->upd H3 r (.ins CR dx (aP j2 (.ref x) [])) b\o:=λe ne=>by rw[aA ne];exact e
 have r4:upd H3 r (.ins CR dx (aP j2 (.ref x) [])) r\.ins CR dx (aP j2 (.ref x) []):=ay
 have pW:∀{b},upd H3 r (.ins CR dx (aP j2 (.ref x) [])) b=none->H3 b=none:=λ{b} e=>by
  by_cases z:b=r
  ·rw[z,ay] at e;cases e
  rw[aA z] at e;exact e
 generalize upd H3 r (.ins CR dx (aP j2 (.ref x) []))=H4 at GW r4 pW ⊢;let B9:=dH _ _ Ca;have tr:t≠r:=bO (s3 _ _ e2) B9 nofun;have e4:H4 t\.tup (sV s0):=GW (s3 _ _ e2) tr;intro a ha;let#[s5,e5]:=aB (o:=.dT []) ha;have an:H a=none:=dH.free (pW ha);have ar:a≠r:=(bG r4 ha).symm;generalize upd H4 a (.dT [])=H5 at s5 e5 ⊢;apply#[_,U,e5,t,sK s0,U,by rw[iP];exact s5 _ _ e4,_,U,?_];have ta:t≠a:=bO (s5 _ _ e4) e5 nofun;have J8:∀{b o},H5 b\o->b≠a->upd H5 a (.dT [(sK s0,.non)]) b\o:=λe ne=>by rw[aA ne];exact e
 have e6:upd H5 a (.dT [(sK s0,.non)]) a\.dT [(sK s0,.non)]:=ay
 have Io:∀{b},upd H5 a (.dT [(sK s0,.non)]) b=none->H5 b=none:=λ{b} e=>by
  by_cases z:b=a
  ·rw[z,ay] at e;cases e
  rw[aA z] at e;exact e
 generalize upd H5 a (.dT [(sK s0,.non)])=H6 at J8 e6 Io ⊢;apply#[r,CR,dx,_,U,J8 (s5 _ _ r4) ar.symm,T.cl,T.nA,by show 1<1000;decide,?_];have J7:∀{b o},H6 b\o->b≠r->upd H6 r (.ins CR dx (aP uV (.ref a) (aP j2 (.ref x) []))) b\o:=λe ne=>by rw[aA ne];exact e
 have r7:upd H6 r (.ins CR dx (aP uV (.ref a) (aP j2 (.ref x) []))) r\.ins CR dx (aP uV (.ref a) (aP j2 (.ref x) [])):=ay
 have A2:∀{b},upd H6 r (.ins CR dx (aP uV (.ref a) (aP j2 (.ref x) []))) b=none->H6 b=none:=λ{b} e=>by
  by_cases z:b=r
  ·rw[z,ay] at e;cases e
  rw[aA z] at e;exact e
 generalize upd H6 r (.ins CR dx (aP uV (.ref a) (aP j2 (.ref x) [])))=H7 at J7 r7 A2 ⊢
 have e47:∀{b o},H3 b\o->b≠r->H7 b\o:=λ{b o} e ne=>by
  let e4':=s5 _ _ (GW e ne)
  have ba:b≠a:=λz=>by
   have:=GW e ne;rw[z,ha] at this;cases this
  exact J7 (J8 e4' ba) ne
 apply#[_,U,zl,λn hn=>?_];let#[s8,e8]:=aB (o:=.lst [.ref t]) hn;have nr:n≠r:=(bG r7 hn).symm;generalize upd H7 n (.lst [.ref t])=H8 at s8 e8 ⊢;apply#[_,U,r,CR,dx,_,U,s8 _ _ r7,T.cl,T.nN,by show 2<1000;decide,?_];have GV:∀{b o},H8 b\o->b≠r->upd H8 r (.ins CR dx (d_ x a n)) b\o:=λe ne=>by rw[aA ne];exact e
 have r9:upd H8 r (.ins CR dx (d_ x a n)) r\.ins CR dx (d_ x a n):=ay;show Q .non (upd H8 r (.ins CR dx (d_ x a n)));generalize upd H8 r (.ins CR dx (d_ x a n))=H9 at GV r9 ⊢;have FJ:∀{b o},H3 b\o->b≠r->H9 b\o:=λe ne=>GV (s8 _ _ (e47 e ne)) ne;apply k a x n H9 (λb o e ne=>FJ (dH _ _ e) ne) an #[#[dx,r9],?_,#[_,GV (s8 _ _ (J7 e6 ar)) ar,.cons #[U,U] .nil],#[_,GV e8 nr,.cons #[t,U,FJ (s3 _ _ e2) tr] .nil]];let#[ds,x1,x2]:=ex
 have KN:∀{b o},H3 b\o->(∀C dx fs,o≠.ins C dx fs)->b≠r:=λe no z=>by
  rw[z,B9] at e;cases e;exact no _ _ _ U
 exact#[ds,FJ x1 (KN x1 (by intro _ _ _ z;cases z)),Paired.aQ x2 λd q ⟨ad,y1,y2⟩=>#[ad,FJ y1 (KN y1 (by intro _ _ _ z;cases z)),λh hh=>FJ (y2 h hh) (KN (y2 h hh) (by intro _ _ _ z;cases z))]]
end
theorem Tv{s:ax}{i:Nat}(h:i<s.length)(o:Str):(sV s).take i++[V.str o]++(sV s).drop (i+1)=sV (s.set i o):=by
 show (s.map V.str).take i++[V.str o]++(s.map V.str).drop (i+1)=(s.set i o).map V.str;rw[List.set_eq_take_append_cons_drop,aK h,eJ,fE,List.map_take,List.map_drop,List.append_assoc];rfl
def JV(hs:Xa)(ts:Xb)(qs:aV)(s:ax)(i:Nat)(b:ax):Prop:=∃(k:Nat) (q:Pc) (h h':Str),k<i/\qs[k]? = some q/\s[k]? = some h/\h'∈uM hs ts q h/\b=s.set k h'
theorem YY{hs:Xa}{ts:Xb}{qs:aV}{s b:ax}:JV hs ts qs s s.length b ↔ Nx hs ts qs s b:=by
 constructor
 ·rintro⟨k,q,h,h',_,h1,h2,h3,h4⟩;exact#[_,k,q,h,h',h1,h2,h3,h4,U]
 rintro⟨m,k,q,h,h',h1,h2,h3,h4,_⟩;exact#[k,q,h,h',(cu.mp h2).1,h1,h2,h3,h4]
theorem xb.at_{H:Hp}{hs:Xa}{ts:Xb}{qs:aV}(h:xb H l hs ts qs){k:Nat}(hq:qs[k]? = some q):∃(ds:aw) (d:Addr),H l\.lst (ds.map V.ref)/\(ds.map V.ref)[k]? = some (.ref d)/\GR H d hs ts q:=by
 let#[ds,h1,h2]:=h;have hk:k<qs.length:=(cu.mp hq).1;let hl:=bI h2;have:=dO h2 k Y0 hk;rw[aX hk] at hq;cases hq;exact#[ds,ds[k]' Y0,h1,by rw[de,aX Y0];rfl,this]
theorem FW:bQ ["self","hands","found","place","one","other"] ["self","hands"] (a_ lI):=bZ
inductive Ny (CR:Addr) (vs:af) (H:Hp) (Q:VK) (E:XK):Prop
 |mk:∀(r dx t x a n:Addr) (hs:Xa) (ts:Xb) (qs:aV) (s:ax),vs=[.ref r,.ref t]->H r\.ins CR dx (d_ x a n)->xb H x hs ts qs->H t\.tup (sV s)->Vs hs qs s->(aU hs).length<=8->qs.length<64->(∀l ys L H',aa H H'->H l=none->H' l\.lst ys->uU H' ys L->(∀b,b∈L ↔ Nx hs ts qs s b)->L.length<=512->Q (.ref l) H')->Ny CR vs H Q E
variable{P:Ad}{w:Af}{K:ai}{mg:Str->Option Aa}{base:Heap}
theorem hX_{CR:Addr}(F:bu K "one_move_on" "Reach.one_move_on" lI f fd)(T:ug K CR)(B:Bi mg):!ak bc 1 f fd ["self","hands"] (Ny CR):=by
 exists F.bW FW;let#[r,dx,t,x,a,n,hs,ts,qs,s,rfl,HU,ex,ht,v,n8,KL,k]:=h;let hu:=fP hr;let sz:=cJ;let vl:=v.len;refine' #[_,au ?s1 (au ?s2 (aJ ?s3)),?kk]
 case s1=>exact bw 2 FW.nd (eI bR)
 case' s2=>refine' d8 dS U ?i2 ?g2 (aJ ?b2)
 case i2=>exact _e (by rfl) B.enum %[1|0]
 case g2=>exact ju U (df (bX 3 FW.nd) (df (bX 4 FW.nd) hW))
 case' b2=>refine' d8 dS U ?i3 ?g3 (aJ ?b3)
 case i3=>exact d4 (j7 hu (bg fX (i_ (pv 0) U) (pv 3)) (pv 4))
 case g3=>exact bX 5 FW.nd
 case b3=>exact j8 (kQ kM qg qh pG (pv 2) %[br wM (br wM (jf FF (pv 1) jd (jc (pv 3))) (dA %[5|0])) (jf FF (pv 1) (jc (br fG (pv 3) av)) jd)|0])
 case s3=>exact bp (pv 2)
 apply#[zl,λl hl=>?_];let#[s1,e1]:=aB (o:=.lst []) hl;generalize upd H l (.lst [])=H1 at s1 e1 ⊢;apply#[_,U,t,U,#[_,.of (s1 _ _ ht)],?_]
 let Iv:dD:=λi σ H'=>∃(v3 v4 v5:aI) (ys:af) (L:List ax),σ=[some (.ref r),some (.ref t),some (.ref l),v3,v4,v5]/\aa H H'/\H' l\.lst ys/\uU H' ys L/\(∀b,b∈L ↔ JV hs ts qs s i b)/\L.length<=8 * i
 apply gg_ (xs:=sV s) Iv #[none,none,none,[],[],U,s1,e1,.nil,λb=>by simp[JV],by simp] (λi σ H' _ ⟨_,_,_,_,_,_,sm,_⟩=>.of (sm _ _ ht)) ?_ ?_
 ·rintro i y σ H2 hy ⟨v3,v4,v5,ys,L,rfl,s2,e2,sp,mem,len⟩ tt vU;let#[h,hh,rfl]:=qq hy;have hi:i<s.length:=(cu.mp hh).1;have hq:qs[i]? = some (qs[i]' Y0):=aX Y0;obtain⟨q,eq⟩:∃q,q=qs[i]' Y0:=#[_,U];rw[<- eq] at hq;let hm:=v.hZ h (cB hh);let#[s3,e3]:=aB (o:=.tup [.int i,.str h]) vU;let dH:=s2.trans s3;let uP:=s3 _ _ e2;let Qf:=sp.keep λb xs e=>s3 _ _ e;show gi _ _ _ _ _ (upd H2 tt (.tup [.int i,.str h])) _;generalize upd H2 tt (.tup [.int i,.str h])=H3 at s3 e3 dH uP Qf ⊢;apply#[tt,_,U,.of e3,U,_,_,U,_,_,U,U,?_];let#[ds,d,x1,x2,ad,x3,x4]:=ex.at_ hq;apply#[_,U,r,CR,dx,_,_,U,dH _ _ HU,T.cl,T.nX,YS _ _ _,_,U,x,_,i,.ref d,U,U,.of (dH _ _ x1),L2.cZ x2,_,U,d,.ref (ad h),U,?_,ad h,U,#[_,.of (dH _ _ (x4 h hm))],?_]
  ·have:=cK.k (k:=.inr h) (dH _ _ x3);rw[Bw (g:=λn=>V.ref (ad n)) hm] at this;exact this
  let Iw:dD:=λj σ H'=>∃(v5:aI) (ys:af) (L:List ax),σ=[some (.ref r),some (.ref t),some (.ref l),some (.int i),some (.str h),v5]/\aa H H'/\H' l\.lst ys/\uU H' ys L/\(∀b,b∈L ↔ JV hs ts qs s i b∨∃o∈(uM hs ts q h).take j,b=s.set i o)/\L.length<=8 * i+j
  have el8:(uM hs ts q h).length<=8:=ic (List.length_filter_le ..) (ic (List.length_filter_le ..) n8);apply ie (K:=K) (a:=ad h) (xs:=(uM hs ts q h).map V.str) Iw #[_,ys,L,U,dH,uP,Qf,λb=>by rw[mem];simp,by omega] (λj σ H' _ ⟨_,_,_,_,sm,_⟩=>.of (sm _ _ (x4 h hm))) ?_ ?_
  ·rintro j y σ H4 hy ⟨J6,ys,L,rfl,s4,i5,xy,iV,l0⟩;let#[o,ho,rfl]:=qq hy;have hj:j<(uM hs ts q h).length:=(cu.mp ho).1;let K9:=bI xy;let uI:=s4 _ _ ht;apply#[_,U,.inl #[U,_,.of i5],?_];apply#[_,U,_,U,_,U,t,_,U,.of uI,?_,λp1 x5=>?_]
   ·rw[HT.eS,HT.d6,aq];omega
   rw[Tx];let#[s5,e5]:=aB (o:=.tup ((sV s).take i)) x5;generalize upd H4 p1 (.tup ((sV s).take i))=H5 at s5 e5 ⊢;apply#[_,U,zl,λp2 kG=>?_];let#[s6,e6]:=aB (o:=.tup [.str o]) kG;generalize upd H5 p2 (.tup [.str o])=H6 at s6 e6 ⊢;apply#[p1,p2,_,_,U,U,s6 _ _ e5,e6,by rw[dJ,aq,oC];omega,λp3 H7 s7 e7=>?_];let Qi:=(s5.trans s6).trans s7;apply#[_,U,_,U,_,_,U,U,_,U,t,_,U,.of (Qi _ _ uI),?_,λp4 EI=>?_]
   ·rw[show ((i:Int)+1)=((i+1:Nat):Int) by omega,HT.d6,aq];omega
   rw[show ((i:Int)+1)=((i+1:Nat):Int) by omega,Tw];let#[s8,e8]:=aB (o:=.tup ((sV s).drop (i+1))) EI;generalize upd H7 p4 (.tup ((sV s).drop (i+1)))=H8 at s8 e8 ⊢;apply#[p3,p4,_,_,U,U,s8 _ _ e7,e8,by rw[dM,dJ,aq,oC,wX,aq];omega,λp5 H9 s9 e9=>?_];rw[Tv hi] at e9;let zJ:=(Qi.trans s8).trans s9;let yk:=zJ _ _ i5;apply#[l,_,_,U,U,yk,by omega,?_]
   have kt:∀b xs,H9 b\.tup xs->upd H9 l (.lst (ys++[.ref p5])) b\.tup xs:=λb xs e=>by
    rw[aA (bO e yk nofun)];exact e
   apply#[_,_,L++[s.set i o],U,fF (s4.trans zJ) hl,ay,mE ((xy.keep λb xs e=>zJ _ _ e).keep kt) (.cons #[p5,U,kt _ _ e9] .nil),λb=>?_,by rw[dM,oC];omega];rw[dB,iV,fw,u3 ho];constructor
   ·rintro ((x|⟨z,hz,e⟩)|e)
    ·exact .inl x
    ·exact .inr #[z,dB.mpr (.inl hz),e]
    exact .inr #[o,by simp,e]
   rintro (x|⟨z,hz,e⟩)
   ·exact .inl (.inl x)
   rcases dB.mp hz with hz|hz
   ·exact .inl (.inr #[z,hz,e])
   rw[fw.mp hz] at e;exact .inr e
  rintro σ H4 ⟨J6,ys,L,rfl,s4,i5,xy,iV,l0⟩;rw[aq] at iV l0;apply#[_,_,_,ys,L,U,s4,i5,xy,λb=>?_,by omega];rw[iV,d9];constructor
  ·rintro (⟨k',q',h',o',k1,k2⟩|⟨o,ho,e⟩)
   ·exact#[k',q',h',o',by omega,k2]
   exact#[i,q,h,o,by omega,hq,hh,ho,e]
  rintro⟨k',q',h',o',k1,k2,k3,k4,k5⟩;by_cases c:k'=i
  ·subst c;rw[hq] at k2;rw[hh] at k3;cases k2;cases k3;exact .inr #[o',k4,k5]
  exact .inl #[k',q',h',o',by omega,k2,k3,k4,k5]
 rintro σ H2 ⟨v3,v4,v5,ys,L,rfl,s2,e2,sp,mem,len⟩;rw[aq] at mem len;exact#[_,U,k l ys L H2 s2 hl e2 sp (λb=>(mem b).trans YY) Y0]
structure Row (N:ax->ax->Prop) (a s:ax) (k:Nat) (row:List ax):Prop where
 cn:Cn N row
 hd:row.head? = some a
 lt:row.getLast? = some s
 len:row.length=k+1
structure Cp (H:Hp) (d:Addr) (hs:Xa) (qs:aV) (fp:aw) (s0:ax) (ns:ag) (f:bF):Prop where
 hd:H d\.dK (gd ns f)
 pX:d∉fp
 ok:MW hs qs ns f
 s0:s0=(qs.map (·.1)).map f
theorem Cp.vs{H:Hp}{d:Addr}{hs:Xa}{qs:aV}{fp:aw}{s0:ax}{f:bF}(S:Cp H d hs qs fp s0 ns f):Vs hs qs s0:=by
 apply#[by rw[S.s0,aq,aq],λh hh=>?_];rw[S.s0] at hh;let#[n,hn,rfl]:=bx.mp hh;exact (gv hs).mem_iff.mpr (S.ok.at_ n (S.ok.perm.mem_iff.mpr hn))
end Ev
namespace eY
open PySem PySem.W PyProof.Rows
end eY
namespace L2
open PySem PySem.Spec PyProof.Rows PySem.W
end L2
namespace eY
open PySem PySem.W PyProof.Rows
variable{h:Heap}{d:Addr}
variable{l:Addr}{its:aj}
section
variable{prog:Ad}{w:Af}{K:Type}[DecidableEq K]{knd:PySem.HeapKind prog w K}{A:Ag}
def mJ(knd:PySem.HeapKind prog w K)(h:Heap):aj->List (K × Addr × Aa)->Prop:=Paired λv p=>∃a,v=.ref a/\IsTup h a (List.toArray [.ref p.2.1,p.2.2])/\knd.is h p.1 p.2.1
def gY(xs ps:List (K × Addr × Aa)):List (K × Addr × Aa):=ps.foldl (λacc p=>storedH acc p.1 p.2.1 p.2.2) xs
theorem eN_(xs:List (K × Addr × Aa))(k:K)(a:Addr)(v:Aa):(storedH xs k a v).length<=xs.length+1:=by
 unfold storedH;split
 ·simp
 simp
theorem Um{h':Heap}{xs:List (K × Addr × Aa)}(q:h.DictOfH knd d xs)(k:∀o,h.get? d\o->h'.get? d\o)(t:∀x a,knd.is h x a->knd.is h' x a):h'.DictOfH knd d xs:=by
 let#[o,es,ep,ho,h1,h2,h3,h4,h5]:=q;exact#[o,es,ep,k _ ho,h1,h2,h3,λx hx=>t _ _ (h4 x hx),h5]
def BK(knd:PySem.HeapKind prog w K):Prop:=∀(h h':Heap) (x:K) (a:Addr),knd.is h x a->(∀o,h.get? a\o->h'.get? a\o)->knd.is h' x a
def ux(knd:PySem.HeapKind prog w K):Prop:=∀(h:Heap) (x:K) (a:Addr),knd.is h x a->∃ys,IsTup h a ys
theorem SF{b:Addr}{ys:Array Aa}{xs:List (K × Addr × Aa)}(t:IsTup h b ys)(q:h.DictOfH knd d xs):b≠d:=λz=>by
 let#[o,ho,hc,_]:=t;let#[o2,es,ep,fK,js,_]:=q;subst z;rw[ho] at fK;cases fK;let tj:=js.1;rw[hc] at tj;exact absurd tj (by decide)
theorem Zx{it:Addr}(fm:BK knd)(ot:ux knd)(hu:knd.room A.in1)(L3:l≠it)(sY:d≠it)(Cg:d≠l)(hh:A.handled=none)(rest:aj):∀(ps:List (K × Addr × Aa)) (i:Nat) (xs:List (K × Addr × Aa)) (s:Ab) (R:Result->Ab->Prop) (tk:Tok),its.drop i=rest->mJ knd s.heap rest ps->
  s.heap.IsListIter it l i->s.heap.IsList l its.toArray->s.heap.DictOfH knd d xs->xs.length+ps.length<=1000->
  (∀h' fR,h'.DictOfH knd d (gY xs ps)->(∀b o,b≠d->b≠it->s.heap.get? b\o->h'.get? b\o)->R (.ok (.ret .none)) { s with heap:=h',toks:=fR })->
  codeAny (model prog w) A (.builtin "dict.update.loop" #[[.ref d,.ref it,.int i tk,.none],[]]) R s:=by
 induction rest with
 |nil=>
  intro ps i xs s R tk e hp hit hl hd hz hR;cases hp
  have hi:its.toArray[i]? = none:=by
   have:=eW List.length e;simp only[wX,List.length_nil] at this;simp;omega
  apply codeAny_builtin CI ?_;rw[yw qo _,Cy];apply ae (wpAny_pyNext_list_end hh hit hl hi λh' he=>?_);apply ae (m:=Builtin.Dict.addKeywords d []) (aH (aH (hR h' s.toks (Um hd (λo q=>he _ _ sY q) λx a q=>fm _ _ _ _ q λo e=>he _ _ ?_ e) λb o _ hb q=>he b o hb q)));let#[ys,t]:=ot _ _ _ q;exact BF t hit
 |cons v rest ih=>
  intro ps i xs s R tk e hp hit hl hd hz hR;cases hp with
  |@cons _ p _ ps h0 hr=>
  let#[a,hv,ht,hk]:=h0;let#[k,ka,x]:=p;subst hv
  have hi:its.toArray[i]? = some (.ref a):=by
   have q:(its.drop i)[0]? = some (.ref a):=by rw[e];rfl
   rw[List.getElem?_drop] at q;simpa using q
  have e':its.drop (i+1)=rest:=by
   rw[<- List.drop_drop,e];rfl
  simp only[jy] at hz;apply codeAny_builtin CI ?_;rw[yw qo _,Cy];apply ae (wpAny_pyNext_list_item hit hl hi λh1 AI xZ=>?_);let#[oo,LI,AQ,nt,Mc]:=id ht;have sU:h1.get? a\oo:=xZ.extBut _ _ (BF ht hit) LI;apply ae (gR (ae (wpAny_tryCatch ?_)));unfold Builtin.Dict.pairItems;apply ae (wpAny_typeOf (T:="tuple") #[oo,sU,AQ] ?_);rw[aK (by decide)];unfold seqItems?;apply ae (ae (wpAny_load sU ?_));rw[Mc];apply aH (aH ?_)
  have Eo:∀x a,knd.is s.heap x a->knd.is h1 x a:=λx a q=>fm _ _ _ _ q λo e=>by
   let#[ys,t]:=ot _ _ _ q;exact xZ.extBut _ _ (BF t hit) e
  have pV:h1.DictOfH knd d xs:=Um hd (λo q=>xZ.extBut _ _ sY q) Eo;apply (show wpAny _ _ (holding [Value.ref ka,x] (dictSet d (.ref ka) x)) _ _ _ from gR (wpAny_dictSet_heap hu (Eo _ _ hk) pV (λh2 hd2 pR=>?_) (by have:=cJ;omega)));have kp:∀b o,b≠d->b≠it->s.heap.get? b\o->h2.get? b\o:=λb o h3 h4 q=>pR.extBut _ _ h3 (xZ.extBut _ _ h4 q);let sW:=AI.extBut pR.extBut (dI sY);have c1:((i:Int)+1)=((i+1:Nat):Int):=by omega
  rw[c1];apply aH #[plainId_quiet qo _,?_];apply ih ps (i+1) (storedH xs k ka x) { s with heap:=h2,toks:=s.toks+knd.draws k } R 0 e' (L2.Paired.aQ hr λv p ⟨b,e1,t1,k1⟩=>#[b,e1,?_,fm _ _ _ _ k1 λo q=>?_]) sW (hl.at λo q=>kp _ _ (dI Cg) L3 q) hd2 (by have:=eN_ xs k ka x;omega) λh' fR g9 Em=>hR h' fR g9 λb o h3 h4 q=>Em b o h3 h4 (kp b o h3 h4 q)
  ·let#[o,ho,r]:=id t1;exact#[o,kp _ _ (SF t1 hd) (BF t1 hit) ho,r]
  let#[ys,t]:=ot _ _ _ k1;exact kp _ _ (SF t hd) (BF t hit) q
theorem iz{E:Aa->Ab->Prop}{s:Ab}{n:Nat}{ps:List (K × Addr × Aa)}{Q:Aa->Ab->Prop}(fm:BK knd)(ot:ux knd)(hu:knd.room A.in1.in1)(hh:A.handled=none)(ho:s.heap.get? l\seqObj "list" its.toArray n)(hp:mJ knd s.heap its ps)(hz:ps.length<=1000)(h:∀h' fR,h'.DictOfH knd s.heap.objs.size (gY [] ps)->(∀b o,s.heap.get? b\o->h'.get? b\o)->Q (.ref s.heap.objs.size) { s with heap:=h',toks:=fR }) :
  wpAny (model prog w) A (call (.type "dict") [.ref l]) Q E s:=by
 apply callType_codes (Q₁:=λobj aL=>obj=.ref s.heap.objs.size/\aL={ s with heap:=s.heap.push { cls:=.type "dict",data:=.dict #[] } }) F.kt_called_dict (F.kt_typeCall_dict_1 _) F.entry_dict_init (kt_code_dict_new _ #[U,U]) ?_;rintro obj aL ⟨rfl,rfl⟩;have gh:(s.heap.push { cls:=.type "dict",data:=.dict #[] }).DictOfH knd s.heap.objs.size []:=Heap.DictOfH.new s.heap;have fZ:(s.heap.push { cls:=.type "dict",data:=.dict #[] }).get? l\seqObj "list" its.toArray n:=bo _ ho;apply#[gh.typeIs,F.args_dict_init_2 _ _,?_];unfold Builtin.«dict.__init__» Builtin.Dict.selfAndRest;apply ae (ae (wpAny_notOrdered_dict gh.typeIs ?_));apply (show wpAny _ _ (pure (s.heap.objs.size,[Value.ref l])) _ _ _ from aH ?_);apply (show wpAny _ _ (Builtin.Dict.updateFrom "dict.__init__" s.heap.objs.size (.ref l) [] .none) _ _ _ from ?_);unfold Builtin.Dict.updateFrom;apply ae (wpAny_typeOf (T:="list") #[_,fZ,U] ?_);rw[aK (by decide)];apply ae (sM fZ hh λh2 P8 k2=>?_);simp only[Option.isNone_none,if_true];have jq:h2.get? l\seqObj "list" its.toArray n:=k2 _ _ fZ;apply ae (wpAny_rule (ae (wpAny_pyIter_list #[_,jq,U,_,U] ?_)));apply aH #[plainId_quiet qo _,?_];have all:∀{b o},s.heap.get? b\o->(h2.push { cls:=.type "list_iterator",data:=.fields (List.toArray [.ref l,.int 0 0]) }).get? b\o:=λq=>bo _ (k2 _ _ (bo _ q));let#[o1,es1,ep1,vW,r1,r2,r3,r4,r5]:=gh;have ze:s.heap.objs.size<h2.objs.size:=bK (k2 _ _ vW);have lz:l<s.heap.objs.size:=bK ho
 apply Zx (A:=A.in1) (knd:=knd) (its:=its) (it:=h2.objs.size) (l:=l) (d:=s.heap.objs.size) fm ot hu (dE (Nat.lt_trans lz ze)) (dE ze) (je lz) hh its ps 0 [] _ _ 0 U (L2.Paired.aQ hp λv p ⟨b,e1,t1,k1⟩=>#[b,e1,t1.keeps λb o q=>all q,fm _ _ _ _ k1 λo q=>all q])
  #[_,dj _ U,U,U] #[_,bo _ jq,U,_,U] #[o1,es1,ep1,bo _ (k2 _ _ vW),r1,r2,r3,(by intro x hx;cases hx),r5] ⇑hz λh' fR g9 kp=>#[U,h h' fR g9 λb o q=>?_]
 have bl:b<s.heap.objs.size:=bK q;exact kp b o (dE bl) (dE (Nat.lt_trans bl ze)) (all q)
end
variable{prog:Ad}{w:Af}
theorem tI{K:Type}[DecidableEq K](k:PySem.KeyKind prog w K):BK (tupleKind k):=λh h' x a q e=>by
 let#[o,ys,n,h1,h2]:=q;exact#[o,ys,n,e o h1,h2]
theorem oX{K:Type}[DecidableEq K](k:PySem.KeyKind prog w K):ux (tupleKind k):=λh x a q=>by
 let#[o,ys,n,h1,h2,h3,_]:=q;exact#[ys,o,h1,h2,n,h3]
end eY
namespace L2
open PySem PySem.Spec PyProof.Rows PySem.W
def mI(H:Hp):af->List (aD × V)->Prop:=Paired λy p=>∃a b,y=V.ref a/\H a\.tup [.ref b,p.2]/\H b\.tup (p.1.map kV)
def yG(kvs more:List (aD × V)):List (aD × V):=more.foldl (λacc kv=>putK acc kv.1 kv.2) kvs
theorem KT.gY{H:Hp}:∀{more:List (aD × V)} {rs:List (aD × Addr × Aa)} {kvs:List (aD × V)} {xs:List (aD × Addr × Aa)},KT H more rs->KT H kvs xs->KT H (yG kvs more) (eY.gY xs rs):=λ{more rs kvs xs} h=>by
 induction h generalizing kvs xs with
 |nil=>exact λh=>h
 |@cons p q _ _ h _ ih=>
  intro h2;let#[k,y]:=p;let#[k',b,u]:=q;let#[h1,h3,h4]:=h;have h1:k=k':=h1;subst h1;exact ih (h2.put k h3 h4)
theorem U1:∀(more kvs:List (aD × V)),(yG kvs more).length<=kvs.length+more.length
 |[],kvs=>a9 _
 |kv::more,kvs=>by
  let h1:=U1 more (putK kvs kv.1 kv.2);let h2:=JP kvs kv.1 kv.2;show (yG (putK kvs kv.1 kv.2) more).length<=_;simp only[jy];omega
inductive Tn (xs:af) (H:Hp) (Q:VK):Prop
 |mk:∀p ys kvs,xs=[.ref p]->H p\.lst ys->mI H ys kvs->kvs.length<=1000->(∀l,H l=none->Q (.ref l) (upd H l (.dT (yG [] kvs))))->Tn xs H Q
variable{X:Cx}
theorem Pb(hc:X.calm=true)(hu:X.A.units+2<cLine):gn X (.type "dict") Tn:=by
 intro pins s σ H xs us Q I r h;let#[p,ys,kvs,rfl,hp,t,hz,q]:=h;let#[u,rfl,ru]:=vals1 r;cases ru;let#[z,its,n,rv,hl,ho]:=I.jH hp
 have gen:∀{ys:af} {its:aj} {kvs:List (aD × V)},Vals ys its->mI H ys kvs->∃ps,KT H kvs ps/\eY.mJ (tupleKind (dZ X.prog X.w)) s.heap its ps:=λ{ys its kvs} rv t=>by
  induction t generalizing its with
  |nil=>
   cases rv;exact#[[],.nil,.nil]
  |@cons y p ys kvs h t ih=>
   cases rv with
   |cons r0 rv=>
    let#[ps,h1,h2]:=ih rv;let#[a,b,e,sq,sb]:=h;subst e;cases r0;let#[tv,rt,it,_]:=I.tuple (fH.of sq);let#[key,x,e2,rk,rx]:=vals2 rt;subst e2;cases (show key=Value.ref b from rk);apply#[(p.1,b,x)::ps,Paired.cons (show p.1=p.1/\H b\.tup (p.1.map kV)/\RelV p.2 x from #[U,sb,rx]) h1,Paired.cons (show ∃a',Value.ref a=.ref a'/\IsTup s.heap a' (List.toArray [.ref b,x])/\(tupleKind (dZ X.prog X.w)).is s.heap p.1 b from #[a,U,it,wB I.aE sb]) h2]
 let#[ps,h1,h2]:=gen rv t;let lp:=bI h1;apply eY.iz (knd:=tupleKind (dZ X.prog X.w)) (eY.tI _) (eY.oX _) (tupleKind_room_in1 (A:=X.A.in1) (by show X.A.units+1+1<cLine;omega)) (I.ok.hd hc) ho h2 Y0 λh' tk hd kp=>?_;let#[q1,es,ep,hq,g2,g3,g4,_,g5]:=hd;apply#[.ref s.heap.objs.size,_,I.laid (t':=tk) kp (a9 _) (show fj X.prog X.w _ h' _ (.dT (yG [] kvs)) from #[?_,beq_eq_false_iff_ne.mpr (dI (dE I.big)),_,(KT.gY h1 .nil).keeps λc ys ec=>?_,q1,es,ep,hq,g2,g3,g4,g5]),U,q _ I.fresh]
 ·have:=U1 kvs [];have:=cJ;simp only[List.length_nil] at *;omega
 rw[aA (bG ec I.fresh)];exact ec
theorem ON:∀(more kvs:List (aD × V)),((kvs++more).map (·.1)).Nodup->yG kvs more=kvs++more
 |[],kvs,_=>(List.append_nil _).symm
 |kv::more,kvs,nd=>by
  show yG (putK kvs kv.1 kv.2) more=_
  have e:putK kvs kv.1 kv.2=kvs++[kv]:=by
   unfold putK;rw[aC];intro h;let#[q,hq,e]:=List.any_eq_true.mp h;let e:=tP e;rw[eJ,List.nodup_append] at nd;exact nd.2.2 q.1 (List.mem_map_of_mem hq) kv.1 Y1 e
  rw[e,ON more (kvs++[kv]) ⇑nd];simp
variable{K:ai}
theorem Tb{a:Addr}{xs:af}{g:TG}{tc:TT}{te:TE}{own:Nat}{fv:List aI}{dec:V->Hp->List aI->Prop}{D:Addr}{H:Hp}{Q:VK}{jk:St}(oZ:jk=List.replicate own none++fv)(G:BJ g own fv dec)(Pv:Nat->af->Hp->Prop)(h0:Pv 0 [] (upd H D (.lst [])))(hl:∀i out H',i<=xs.length->Pv i out H'->fH K H' a xs)(hd:∀out H',Pv xs.length out H'->Q (.ref D) H')(AL:∀i x out H',xs[i]? = some x->Pv i out H'->∃o3,dec x H' o3/\o3.length=own/\∀Nx:Hp->Prop,(∀iS H2,Pv (i+1) iS H2->Nx H2)->
   tc (o3++fv) H' λb H4=>if b=true then te (o3++fv) H4 λy H5=>∃eU,H5 D\.lst eU/\eU.length<sizeLine/\Nx (upd H5 D (.lst (eU++[y]))) else Nx H4) :
  yA (PH K a) g tc te jk D H Q:=by
 apply IX oZ G xs.length Pv h0 (λout H' p=>#[#[xs,hl _ _ _ (a9 _) p,a9 _],hd out H' p]) λi out H' hi p=>?_;let q:=hl i out H' (Nat.le_of_lt hi) p;apply#[#[xs,xs[i],q,by simp[hi]],λx H2 y=>?_];let#[e,y]:=y;subst e;exact AL i x out _ (y xs q) p
theorem Ze{e:Expr}{ta:TE}{f:Str}{pos:Pos}(hK:X.K=K)(he:PE X e ta)(hb:PySem.attributeBase e f X.env (eval e X.env)=eval e X.env):PE X (.Attribute e f pos) (Do K ta f):=by
 subst hK;exact i_ he hb
end L2
namespace Ev
open PySem L2
def mN(K:ai)(H:Hp)(v:V):Option Int->Prop
 |some i=>v=.int i
 |none=>(∃x,v=.bl x)∨∃t,dC K H v t/\PySem.W.kitOne K t (.type "int")\false
def ke(K:ai)(H:Hp)(y:V):Option (af × V)->Prop
 |some (zs,nv)=>∃a t,y=.ref a/\H a\.tup [.ref t,nv]/\H t\.tup zs/\(∀v∈zs,∃x,∀H',jg K H' v x)/\∃o,∀H',mN K H' nv o
 |none=>(∃t,dC K H y t/\PySem.W.kitOne K t (.type "tuple")\false)∨∃a xs,y=.ref a/\H a\.tup xs/\(xs.length≠2∨∃v r t,xs=v::r/\dC K H v t/\PySem.W.kitOne K t (.type "tuple")\false)
theorem IZ{K:ai}{t:String}(e:PySem.W.kitOne K (.type t) (.type t)\false):False:=by
 unfold PySem.W.kitOne at e;rw[aK Y1] at e;cases e
def iu(hs:Xa)(qs:aV)(c:Nat):Option (af × V)->Prop
 |some (zs,nv)=>zs.length=qs.length/\(∀v∈zs,∃h,v=.str h/\h∈aU hs)/\∃n:Int,nv=.int n/\0<=n/\n<c
 |none=>False
variable{f:Addr}{fd:Ae}
section v
def qO(K:ai):Sp:=λvs H Q _=>∃v o,vs=[v]/\mN K H v o/\Q (.bl o.isSome) H
theorem Zk(F:bu K "is_whole" "is_whole" vF f fd)(B:Bi mg):!ak bc 1 f fd fM (qO K):=by
 exists F.bW xA;let#[v,o,rfl,iv,k]:=h;apply#[_,aJ (bp (oq (bT gL (by rfl) B.gA gE %[0,gM (v:=.ty "int") (by rfl) B.int FK U|0]) (ph (Mw (bT gL (by rfl) B.gA gE %[0,gM (v:=.ty "bool") (by rfl) B.bool M7 U|0]))))),?_];cases o with
 |some i=>
  cases (show v=.int i from iv);exact#[_,U,_,_,_,_,U,.int i,U,_,U,bN #[_,U,_,_,_,_,U,.int i,U,_,U,k]]
 |none=>
  rcases iv with⟨x,rfl⟩|⟨t,ty,e⟩
  ·exact#[_,U,_,_,_,_,U,.bl x,U,_,U,bN #[_,U,_,_,_,_,U,.bl x,U,_,U,k]]
  exact#[_,U,_,_,_,_,U,ty,e,_,U,aF k]
inductive OX (K:ai) (vs:af) (H:Hp) (Q:VK) (E:XK):Prop
 |mk:∀(v:V) (o:Option Int) (a b:Int),vs=[v,.int a,.int b]->mN K H v o->Q (.bl (o.elim false λi=>decide (a<=i)&&decide (i<=b))) H->OX K vs H Q E
theorem gm_(F:bu K "is_whole_within" "is_whole_within" II f fd)(cI:!bz 1 "is_whole" fM (qO K)):!ak bc 2 f fd yB (OX K):=by
 exists F.bW nu;let#[v,o,a,b,rfl,iv,k]:=h;apply#[_,aJ (bp (oq (bj cI hr %[0|0]) (ph (NB tL tL (pv 1) (pv 0) (pv 2))))),?_];apply#[_,U,v,o,U,iv,_,U,?_];cases o with
 |none=>exact aF k
 |some i=>
  cases (show v=.int i from iv);apply bN #[_,U,_,U,_,_,U,U,_,U,?_];have k:Q (.bl (decide (a<=i)&&decide (i<=b))) H:=k;apply bH (λc=>?_) (λc=>?_)
  ·apply#[_,U,_,_,U,U,?_];rw[c] at k;exact k
  rw[show decide (a<=i)=false by simpa using c] at k;exact k
theorem oN:bQ oE oE (a_ Nj):=bZ
inductive Oq (K:ai) (CG CW:Addr) (vs:af) (H:Hp) (Q:VK) (E:XK):Prop
 |mk:∀(g p:Addr) (y:V) (hs:Xa) (ts:Xb) (qs:aV) (fp:aw) (th:Option (af × V)) (c:Nat),vs=[.ref g,.int c,y]->Gs K CG CW H g p hs ts qs fp->ke K H y th->c<=100->(∀b H',aa H H'->(b=true ↔ iu hs qs c th)->Q (.bl b) H')->Oq K CG CW vs H Q E
theorem eR_{CG CW:Addr}(F:bu K "is_entry" "is_entry" Nj f fd)(B:Bi mg)(T:gy K CG)(TW:Txt K mg CW)(cN:!bY CG 1 "names" pf (CM K CG CW))(cH:!bY CW 1 "has_hand" mq (IL K CW))(cW:!bz 2 "is_whole_within" yB (OX K)):!ak bc 3 f fd oE (Oq K CG CW):=by
 exists F.bW oN;let#[g,p,y,hs,ts,qs,fp,th,c,rfl,G,ht,c2,k]:=h;let sz:=cJ;have jM:aY 1 _:=hr.mono (by decide);refine' #[_,au ?s1 (au ?s2 (aJ ?s3)),?kk]
 case s1=>exact b_ (iK (eK (d0 (bT gL (by rfl) B.gA gE %[2,gM (v:=.ty "tuple") (by rfl) B.tuple oA U|0]))) (jY (eO om (bT gx (by rfl) B.len fN %[2|0]) av))).pt (aJ (bp jv)) cm
 case s2=>exact b_ (iK (eK (d0 (bT gL (by rfl) B.gA gE %[bg cj (pv 2) av,gM (v:=.ty "tuple") (by rfl) B.tuple oA U|0]))) (jY (eO om (bT gx (by rfl) B.len fN %[bg cj (pv 2) av|0]) (bT gx (by rfl) B.len fN %[Bp cN T.cl jM (pv 0)|0])))).pt (aJ (bp jv)) cm
 case' s3=>refine' bp (oq (bT (SI U) (by rfl) B.all PyProof.Rows.Boot.«all» %[jb ["hand","goods"] 1 [0] (Rh (bg cj (pv 2) av)) (λfp s H=>?g3) (λfp s H=>jx) (λfp s H=>?e3)|0]) (ph (bj cW hr %[bg cj (pv 2) av,av,br Cw (pv 1) av|0])))
 case g3=>exact fu (i:=0) (show (["hand","goods"]:ag).Nodup by decide +kernel) U (Or.inl U)
 case e3=>exact j1 cH TW.cl jM (Ze (K:=K) U (pv 1) U) %[0|0]
 match th,ht with
 |none,.inl ⟨t,ty,e⟩=>
  apply#[_,U,_,_,_,_,U,ty,e,_,U,bN ?_];exact k false H (aa.refl H) #[λh=>(by cases h),λh=>h.elim]
 |none,.inr ⟨a,xs,e,ha,hx⟩=>
  subst e;have no:∀H',aa H H'->Q (.bl false) H':=λH' sm=>k false H' sm #[λh=>(by cases h),λh=>h.elim];apply#[_,U,_,_,_,_,U,.tup ha,U,_,U,aF ?_];apply#[_,U,a,_,U,.inr (.of ha),U,_,U,?_];apply bH (λcc=>no H (aa.refl H)) (λcc=>?_)
  have l2:xs.length=2:=by
   by_cases q:xs.length=2
   ·exact q
   apply absurd ?_ cc;simp;omega
  rcases hx with h|⟨v,r,t,rfl,ty,e⟩
  ·exact absurd l2 h
  ·apply#[_,U,a,_,0,_,U,U,.of ha,L2.cZ (j:=0) U,_,_,_,_,U,ty,e,_,U,bN ?_];exact no H (aa.refl H)
 |some (zs,nv),⟨a,t,e,ha,vU,sv,⟨o,iv⟩⟩=>
  subst e;let cQ:=G.cQ;apply#[_,U,_,_,_,_,U,.tup ha,U,_,U,aF ?_];apply#[_,U,a,_,U,.inr (.of ha),U,_,U,?_];apply A9 (show V.int ((2:Nat):Int)=V.int 2 from U) ?_;let#[dx,dw,dy,vs,dz,h1,h2,_]:=id G.G.ex;apply#[_,U,a,_,0,_,U,U,.of ha,L2.cZ (j:=0) U,_,_,_,_,U,.tup vU,U,_,U,aF ?_];apply#[_,U,a,_,0,_,U,U,.of ha,L2.cZ (j:=0) U,t,_,U,.inr (.of vU),_,U,g,dx,_,U,h1,wL _ _ _ Z0 Z0 Z0,g,p,hs,ts,qs,fp,U,G.G,λl hl=>?_];let#[s1,e1]:=aB (o:=.lst ((qs.map (·.1)).map V.str)) hl;generalize upd H l (.lst ((qs.map (·.1)).map V.str))=H1 at s1 e1 ⊢;apply#[l,_,U,.inl (.of e1),U,_,U,?_];apply bH (λcc=>k false H1 s1 #[λh=>(by cases h),λh=>?_]) (λcc=>?_)
  ·have:=h.1;simp[this] at cc
  have lz:zs.length=qs.length:=by
   simp at cc;omega
  let Cj:=s1 _ _ ha;let pQ:=s1 _ _ vU;let Gg1:=G.same s1;apply#[_,U,a,_,0,_,U,U,.of Cj,L2.cZ (j:=0) U,t,U,#[_,.of pQ],λD hD=>?_]
  let Pp:V->Prop:=λv=>∃h,v=.str h/\h∈aU hs
  apply Tb (own:=1) (fv:=[some (.ref g)]) (xs:=zs) U fg (λj out H'=>aa H1 H'/\∃bs:List Bool,H' D\.lst (bs.map V.bl)/\out=bs.map V.bl/\bs.length=j/\((∀b∈bs,b=true) ↔ ∀v∈zs.take j,Pp v)) #[aa.new hD,[],ay,U,U,by simp] (λj out H' _ ⟨sm,_⟩=>.of (sm _ _ pQ)) (λout H5 ⟨s5,bs,jt,eo,_,all⟩=>?_) (λj y out H' hy ⟨sm,bs,dq,eo,lb,all⟩=>?_);rotate_left 1
  ·have hj:j<zs.length:=(cu.mp hy).1;let#[x,sx]:=sv y (cB hy);let Gg2:=Gg1.same sm;let#[dx2,dw2,dy2,vs2,MH,q1,q2,_]:=id Gg2.G.ex;let#[jT,_,_,_,_,_,_,w1,_]:=id q2.ex;have l1:out.length<sizeLine:=by rw[eo,aq];omega
   have hb:xV (hs.map (·.1)) x=true ↔ Pp y:=by
    cases x with
    |some x=>
     have ey:y=.str x:=sx H;rw[ey];show decide (x∈hs.map (·.1))=true ↔ _;rw[uT,<- (gv hs).mem_iff];exact#[λh=>#[x,U,h],λ⟨h,e,hm⟩=>by cases e;exact hm]
    |none=>
     let#[t,ty,e]:=sx H;apply#[λh=>(by cases h),λ⟨h,e2,_⟩=>?_];subst e2;cases ty;exact (IZ e).elim
   apply#[_,U,U,λNx hN=>eP ?_];apply#[_,U,g,CG,dx2,_,_,U,q1,T.cl,T.nW,yM _ _ _,p,jT,_,U,w1,pB _ _ _ Z0 Z0 Z0,_,U,p,y,x,hs,ts,MH,U,q2,sx H',out,by rw[eo];exact dq,l1,hN (out++[.bl (xV (hs.map (·.1)) x)]) _ #[fF sm hD,bs++[xV (hs.map (·.1)) x],?_,?_,by rw[dM,lb];rfl,?_]]
   ·rw[ay,eo,eJ];rfl
   ·rw[eo,eJ];rfl
   rw[oB,hy];constructor
   ·intro h v hv;rcases dB.mp hv with hv|hv
    ·exact all.mp (λb hb=>h b (List.mem_append_left _ hb)) v hv
    have:v=y:=⇑hv
    rw[this];exact hb.mp (h _ (kb _ Y1))
   intro h b hbm;rcases dB.mp hbm with hbm|hbm
   ·exact all.mpr (λv hv=>h v (List.mem_append_left _ hv)) b hbm
   rw[fw.mp hbm];exact hb.mpr (h y (kb _ Y1))
  rw[d9] at all
  have al:bs.all id=true ↔ ∀v∈zs,Pp v:=by
   rw[<- all,List.all_eq_true];exact Iff.rfl
  apply#[D,bs,U,.of jt,_,U,?_];apply bH (λc1=>?_) (λc1=>?_)
  ·apply#[_,U,a,_,1,_,U,U,.of (s5 _ _ Cj),L2.cZ (j:=1) U,_,U,_,_,U,U,nv,o,0,(c:Int) - 1,U,iv H5,?_];apply k _ H5 (s1.trans s5) ?_;cases o with
   |some i=>
    have en:nv=.int i:=iv H;show (decide ((0:Int)<=i)&&decide (i<=(c:Int) - 1))=true ↔ _;rw[yQ,uT,uT];constructor
    ·rintro⟨h1,h2⟩;exact#[lz,al.mp c1,i,en,h1,by omega]
    ·rintro⟨_,_,n,e,h1,h2⟩;rw[en] at e;cases e;omega
   |none=>
    apply#[λh=>(by cases h),λ⟨_,_,n,e,_,_⟩=>?_];subst e;rcases iv H with⟨x,e⟩|⟨t,ty,e⟩
    ·cases e
    cases ty;exact (IZ e).elim
  apply k false H5 (s1.trans s5) #[λh=>(by cases h),λh=>absurd (al.mpr h.2.1) c1]
end
structure kz (ts:Xb) (p:Pc):Prop where
 g:kr ts p
 sub:∀ws,p.2.2\ws->∀w∈ws,w∈ts
theorem UE:∀us:Xb,Paired (λw u=>w=u∨w=(u.2,u.1)) us us
 |[]=>.nil
 |u::us=>.cons (.inl U) (UE us)
section v
theorem Bx:bQ [gK,"_law_ties_here","_law_most",wu,"_law_k","_law_name_here","_law_some","_law_weight","_law_ways"] uj (a_ Nm):=bZ
inductive OV (K:ai) (vs:af) (H:Hp) (Q:VK) (E:XK):Prop
 |mk:∀(l lt:Addr) (m:Nat) (zs:af) (ts:Xb),vs=[.ref l,.ref lt,.int m]->m<=8->bJ H l->H lt\.lst zs->bS K H zs (ts.map kT)->lt≠l->ts.length<64->(∀t∈ts,wx t)->(ts.map kO).Nodup->(∀(a:Addr) (ys:af) (ps:aV) (H':Hp),aM l H H'->bJ H' l->H a=none->H' a\.lst ys->j3 K H' ys ps->(∀p∈ps,kz ts p)->(ps.map (·.1)).Nodup->ps.length<=m->Q (.ref a) H')->OV K vs H Q E
theorem fz_(F:bu K "_law_pieces" "_law_pieces" Nm f fd)(B:Bi mg)(cD:!bz 1 tT uW wO)(cN:!bz 2 "_law_name" [gK] N1):!ak bc 3 f fd uj (OV K):=by
 exists F.bW Bx;let#[l,lt,m,zs,ts,rfl,m8,st,dQ,tu,xT,cQ,good,nd,k]:=h;let sz:=cJ;let lz:=bI tu;rw[aq] at lz;refine' #[_,au ?s1 (au ?s2 (aJ ?s3)),?kk]
 case s1=>exact bw 3 Bx.nd (eI bR)
 case' s2=>refine' d8 dS U ?i2 ?g2 (au ?b1 (aJ ?b2))
 case i2=>exact ql (by rfl) B.range %[bj cD hr %[0,br fG (pv 2) av|0]|0]
 case g2=>exact bX 4 Bx.nd
 case b1=>exact bw 5 Bx.nd (bj cN hr %[0|0])
 case' b2=>refine' b_ (eO (Tu gJ (kR hr 0)) (pv 5) (jb ["_law_piece"] 1 [] (d4 (pv 3)) (λfp s H=>?g3) (λfp s H=>jx) (λfp s H=>?e3)) (by with_unfolding_all rfl)) (au ?c1 (au ?c2 (au ?c3 (aJ ?c4)))) cm
 case g3=>exact fu (i:=0) (show (["_law_piece"]:ag).Nodup by decide +kernel) U (Or.inl U)
 case e3=>exact bg (B4 (K:=K) jE cj) (pv 0) av
 case c1=>exact bw 6 Bx.nd (eI %[br fG av (bj cD hr %[0,av|0]),br fG av (bj cD hr %[0,av|0]),br fG av (bj cD hr %[0,br Yz av av|0])|0])
 case c2=>exact bw 7 Bx.nd (bg fX (pv 6) (bj cD hr %[0,av|0]))
 case' c3=>refine' M4 (i:=8) ["_law_tie",gK] 1 [0] Bx.nd U (Or.inl U) (d4 (pv 1)) (λfp s H=>?g4) (λfp s H=>?t4) (λfp s H=>?e4)
 case g4=>exact fu (i:=0) (show (["_law_tie",gK]:ag).Nodup by decide +kernel) U (Or.inl U)
 case t4=>exact Jh (eO EM (bj cD hr %[1,av|0]) av)
 case e4=>exact pv 0
 case c4=>exact j8 (kQ kM qg qh pG (pv 3) %[dA %[5,7,bg fX (eI %[ou,ou,8|0]) (bj cD hr %[0,av|0])|0]|0])
 case s3=>exact bp (pv 3)
 apply#[zl,λa ha=>?_];let#[P1,o8]:=st.some;have fL:l≠a:=bG o8 ha;let#[s1,e1]:=aB (o:=.lst []) ha;let oK:=st.same s1;generalize upd H a (.lst [])=H1 at s1 e1 oK ⊢;apply#[_,U,_,U,_,_,U,U,l,(m:Int)+1,U,by omega,by omega,oK,λr H2 r0 rm b2 cO=>?_];apply#[_,U,by show (-(2 ^ 62):Int)<=r;omega,by show r<(2 ^ 62:Int);omega,?_]
 let Iv:dD:=λi σ H'=>∃(v4 v5 v6 v7 v8:aI) (ys:af) (ps:aV),σ=[some (.ref l),some (.ref lt),some (.int m),some (.ref a),v4,v5,v6,v7,v8]/\aM l H H'/\bJ H' l/\H' a\.lst ys/\Paired (λy p=>∃t v,y=.ref t/\H' t\.tup [.str p.1,.int p.2.1,v]/\cw K H' v p.2.2/\v≠.ref a) ys ps/\(∀p∈ps,kz ts p)/\(ps.map (·.1)).Nodup/\ps.length<=i
 apply t7 (lo:=0) (n:=r.toNat) Iv #[none,none,none,none,none,[],[],U,(aM.of s1).trans b2,cO,b2 _ _ e1 fL.symm,.nil,by simp,.nil,a9 _] ?_ ?_
 ·rintro i σ H3 hi ⟨v4,v5,v6,v7,v8,ys,ps,rfl,b3,dW,jR,Hk,gp,vI,le⟩;let ly:=bI Hk;apply#[_,U,l,U,dW,λx H4 nx b4 gU=>?_];let#[Vv,AG]:=dW.some;let wb:=b4 _ _ jR fL.symm
  have Hh:∀{Ha Hb:Hp},aM l Ha Hb->bJ Ha l->∀{y p},(∃t v,y=V.ref t/\Ha t\.tup [.str p.1,.int p.2.1,v]/\cw K Ha v p.2.2/\v≠.ref a)->∃t v,y=V.ref t/\Hb t\.tup [.str (p:Pc).1,.int p.2.1,v]/\cw K Hb v p.2.2/\v≠.ref a:=by
   intro Ha Hb bb sb y p h;let#[t,v,e,ht,wy,na]:=h;let#[xs,e2]:=sb.some;exact#[t,v,e,bb _ _ ht (bO ht e2 nofun),wy.but bb sb,na]
  let Qt:=Paired.aQ Hk λy p h=>Hh b4 dW h;apply#[_,U,_,U,a,U,#[_,.of wb],λD hD=>?_];apply j9 (own:=1) (fv:=[]) (xs:=ys) U fg (λi out H'=>aa H4 H'/\H' D\.lst out/\out=((ps.take i).map (·.1)).map V.str) #[aa.new hD,ay,U] (λi out H' _ ⟨sm,_,_⟩=>.of (sm _ _ wb)) (λout H5 ⟨s5,jt,eo⟩=>?_) (λj y out H' hy ⟨sm,dq,eo⟩=>?_);rotate_left 1
  ·have hj:j<ys.length:=(cu.mp hy).1;let#[t,v,e,ht,_]:=dO Qt j hj Y0;rw[aX hj] at hy;cases hy;rw[e];have hp:ps[j]? = some (ps[j]' Y0):=aX Y0;apply#[_,U,U,λNx hN=>eP ?_];apply#[_,U,t,_,0,_,U,U,.of (sm _ _ ht),L2.cZ (j:=0) U,out,dq,?_,hN _ _ #[fF sm hD,ay,?_]]
   ·rw[eo,aq,aq,dJ];omega
   rw[u_ _ hp,eJ,eo];rfl
  rw[ly,d9] at eo;subst eo;have b5:aM l H H5:=(b3.trans b4).trans (aM.of s5);let iO:=gU.same s5;let Fh:=s5 _ _ wb;let Qr:=Paired.aQ Qt λy p h=>Hh (aM.of s5) gU h;apply#[x,_,U,Ue jt,_,U,?_];apply bH (λc=>?_) (λc=>?_)
  ·have BX:x∉ps.map (·.1):=⇑c
   apply#[_,U,l,3,U,by decide,by decide,iO,λr1 H6 q0 q1 b6 iN=>#[_,_,U,U,?_]];apply#[_,U,l,9,U,by decide,by decide,iN,λr2 H7 q2 q3 b7 gz=>#[_,_,U,U,?_]];apply#[_,U,_,_,U,U,#[by decide,by decide,by decide],l,_,U,by decide,by decide,gz,λr3 H8 q4 q5 b8 m_=>#[_,_,U,U,?_]];have q5:r3<1000000000:=q5;apply#[zl,λp hp=>?_];let#[s9,e9]:=aB (o:=.lst [.int (1+r1),.int (1+r2),.int (1+r3)]) hp;let il:=m_.same s9
   have pl:p≠l:=by
    let#[xs,e]:=m_.some;exact (bG e hp).symm
   have U9:aM l H5 (upd H8 p (.lst [.int (1+r1),.int (1+r2),.int (1+r3)])):=((b6.trans b7).trans b8).trans (aM.of s9);generalize upd H8 p (.lst [.int (1+r1),.int (1+r2),.int (1+r3)])=H9 at s9 e9 il U9 ⊢;apply#[_,U,_,U,l,3,U,by decide,by decide,il,λr4 HA q6 q7 bA Dv=>?_];let#[y,hy,wt,ew,w1,w2]:=E5 (p:=λy:V=>∃n:Int,y=.int n/\1<=n/\n<=1000000000) (a:=V.int (1+r1)) (b:=.int (1+r2)) (c:=.int (1+r3)) q6 q7 #[_,U,by omega,by omega] #[_,U,by omega,by omega] #[_,U,by omega,by omega];subst ew;apply#[p,_,_,_,U,U,.of (bA _ _ e9 pl),hy,?_];let Pk:=U9.trans bA;have RN:aM l H HA:=b5.trans Pk;let ET:=RN _ _ dQ xT;let VW:=ja tu RN o8;apply#[_,U,lt,U,#[_,.of ET],λD2 oa=>?_]
   have PQ:D2≠l:=by
    let#[xs,e]:=Dv.some;exact (bG e oa).symm
   apply j9 (own:=1) (fv:=[some (.ref l)]) (xs:=zs) U fg (λi out H'=>∃us:Xb,aM l HA H'/\bJ H' l/\H' D2\.lst out/\bS K H' out (us.map kT)/\us.Sublist (ts.take i)) #[[],aM.of (aa.new oa),Dv.same (aa.new oa),ay,.nil,List.nil_sublist _] (λi out H' _ ⟨_,b,_⟩=>.of (b _ _ ET xT)) (λVm HB ⟨us,bB,G7,Cm,VV,sub⟩=>?_) (λi x out H' hx ⟨us,b,stx,hDx,P6,sub⟩=>?_);rotate_left 1
   ·let#[t,ht,p,rfl,hp]:=uc VW hx;apply#[_,U,U,λNx hN=>?_];apply#[_,U,l,3,U,by decide,by decide,stx,λr2 H4 q0 q1 b4 gU=>#[_,_,U,U,_,U,?_]];let#[Vt,jN]:=stx.some;let yX:=ja P6 b4 jN;let tE:=b4 _ _ hDx PQ;let#[Vz,e1]:=Dv.some;have iY:p≠l:=bO hp e1 nofun;apply bH (λc2=>?_) (λc2=>?_)
    ·let lo:=bI P6;rw[aq] at lo;let ls:=sub.length_le;rw[dJ] at ls;let EI:=b4 _ _ (b _ _ hp iY) iY;apply#[_,U,out,tE,by omega,hN _ _ #[us++[t],λb' o e ne=>?_,?_,ay,?_,?_]]
     ·rw[aA (bG e oa)];exact b4 _ _ (b _ _ e ne) ne
     ·unfold bJ;rw[aA PQ.symm];exact gU
     ·rw[eJ];exact Jl (_Z yX EI) tE
     rw[ua,ht];exact sub.append (List.Sublist.refl _)
    apply hN _ _ #[us,b.trans b4,gU,tE,yX,sub.trans ?_];rw[ua];exact List.sublist_append_left _ _
   rw[lz,d9] at sub;let Pj:=Pk.trans bB;let R8:=Pj _ _ Fh fL.symm;let WT:=Paired.aQ Qr λy p h=>Hh Pj iO h
   have D2a:D2≠a:=λz=>by
    have:=Pk _ _ Fh fL.symm;rw[<- z,oa] at this;cases this
   apply#[_,U,.inl #[U,_,.of R8],_,U,_,U,_,U,zl,λlx jN=>?_];let#[sC,eC]:=aB (o:=.lst [.non,.non,.ref D2]) jN;let stC:=G7.same sC
   have Ah:lx≠l:=by
    let#[xs,e]:=G7.some;exact (bG e jN).symm
   generalize upd HB lx (.lst [.non,.non,.ref D2])=HC at sC eC stC ⊢;apply#[_,U,l,3,U,by decide,by decide,stC,λr5 HD q8 q9 bD G6=>?_];have GF:aM l HB HD:=(aM.of sC).trans bD;let VT:=ja VV GF (G7.some.choose_spec);let hDD:=GF _ _ Cm PQ;let#[v,hv,o,wy,fresh,gw,gs]:=E5 (p:=λv:V=>∃o,cw K HD v o/\v≠.ref a/\(∀ws,o\ws->FS ts ws)/\∀ws,o\ws->∀w∈ws,w∈ts) (a:=V.non) (b:=.non) (c:=.ref D2) q8 q9 #[none,U,nofun,(λws z=>by cases z),(λws z=>by cases z)] #[none,U,nofun,(λws z=>by cases z),(λws z=>by cases z)] #[some us,#[D2,Vm,U,hDD,VT],(λz=>D2a (V.ref.inj z)),(λws z=>by cases z;exact YX good nd sub (UE us)),(λws z w hw=>by cases z;exact sub.subset hw)];apply#[lx,_,_,_,U,U,.of (bD _ _ eC Ah),hv,zl,λt ht=>?_];let haD:=GF _ _ R8 fL.symm;let#[sE,eE]:=aB (o:=.tup [.str x,.int wt,v]) ht;let BS:=Paired.aQ WT λy p h=>Hh (GF.trans (aM.of sE)) G7 h;let G5:=G6.same sE;let P2:=wy.same sE;let bE:=(b5.trans Pj).trans (GF.trans (aM.of sE));let Ci:=sE _ _ haD;generalize upd HD t (.tup [.str x,.int wt,v])=HE at sE eE BS G5 P2 bE Ci ⊢;apply#[a,_,_,U,U,Ci,by omega,?_];apply#[_,_,_,_,_,_,ps++[(x,wt,o)],U,λb' o' e ne=>?_,?_,ay,?_,?_,?_,?_]
   ·rw[aA (bG e ha)];exact bE _ _ e ne
   ·unfold bJ;rw[aA fL];exact G5
   ·exact mE (Paired.aQ BS λy p ⟨t',v,e,h_,wy,na⟩=>#[t',v,e,by rw[aA (bO h_ Ci nofun)];exact h_,wy.put Ci na,na]) (.cons #[t,v,U,by rw[aA (bO eE Ci nofun)];exact eE,P2.put Ci fresh,fresh] .nil)
   ·intro q hq;rcases dB.mp hq with hq|hq
    ·exact gp q hq
    rw[fw.mp hq];exact#[#[nx,w1,w2,gw],gs]
   ·rw[eJ,List.nodup_append];exact#[vI,by simp,λa1 h1 a2 h2 e=>BX (by rw[<- (fw.mp h2:a2=x),<- e];exact h1)]
   rw[dM,oC];omega
  exact#[_,_,_,_,_,ys,ps,U,b5,iO,Fh,Qr,gp,vI,by omega]
 rintro σ H3 ⟨v4,v5,v6,v7,v8,ys,ps,rfl,b3,dW,jR,Hk,gp,vI,le⟩;exact#[_,U,k a ys ps H3 b3 dW ha jR (Paired.aQ Hk λy p ⟨t,v,e,ht,wy,_⟩=>#[t,v,e,ht,wy]) gp vI Y0]
end
section v
theorem q_:bQ oJ oJ (a_ NK):=bZ
inductive Nd (K:ai) (vs:af) (H:Hp) (Q:VK) (E:XK):Prop
 |mk:∀(l lh lp:Addr) (yh yp:af) (hs:Xa) (ps:aV),vs=[.ref l,.ref lh,.ref lp]->bJ H l->H lh\.lst yh->bS K H yh (hs.map kH)->lh≠l->1<=hs.length->hs.length<=8->H lp\.lst yp->j3 K H yp ps->lp≠l->(ps.map (·.1)).Nodup->ps.length<=8->(∀d f H',aM l H H'->bJ H' l->H d=none->H' d\.dK (gd (ps.map (·.1)) f)->(∀n∈ps.map (·.1),f n∈hs.map (·.1))->Q (.ref d) H')->Nd K vs H Q E
theorem h1_(F:bu K "_law_stand" "_law_stand" NK f fd)(B:Bi mg)(cD:!bz 1 tT uW wO):!ak bc 2 f fd oJ (Nd K):=by
 exists F.bW q_;let#[l,lh,lp,yh,yp,hs,ps,rfl,st,eZ,th,uG,h1,h8,jo,pc,Eb,nd,p8,k]:=h;let sz:=cJ;let uF:=bI th;rw[aq] at uF;let BZ:=bI pc;refine' #[_,aJ (bp (gS (BE U) (by rfl) B.dict qd %[jb ["_law_piece",j4,gK] 1 [1,0] (d4 (pv 2)) (λfp s H=>?g1) (λfp s H=>jx) (λfp s H=>?e1)|0])),?kk]
 case g1=>exact fu (i:=0) (show (["_law_piece",j4,gK]:ag).Nodup by decide +kernel) U (Or.inl U)
 case e1=>exact dA %[bg (B4 (K:=K) jE cj) (pv 0) av,bg (B4 (K:=K) jE cj) (bg (B4 (K:=K) vH fX) (pv 1) (bj cD hr %[2,bT (FY (K:=K) Pi gx) (by rfl) B.len fN %[1|0]|0])) av|0]
 let#[P1,o8]:=st.some;apply#[_,U,lp,U,#[_,.of jo],λD hD=>?_];have Dl:D≠l:=(bG o8 hD).symm;apply j9 (own:=1) (fv:=[some (.ref lh),some (.ref l)]) (xs:=yp) U fg (λi out H'=>∃hh:ax,aM l H H'/\bJ H' l/\H' D\.lst out/\hh.length=i/\(∀h∈hh,h∈hs.map (·.1))/\kL K H' out ((((ps.map (·.1)).take i).zip (sV hh)).map λp=>(Sum.inr p.1,p.2))) #[[],aM.of (aa.new hD),st.same (aa.new hD),ay,U,by simp,by simp;exact .nil] (λi out H' _ ⟨_,b,_⟩=>.of (b _ _ jo Eb)) (λout H5 ⟨hh,b5,iO,jt,Lc,mem,pa⟩=>?_) (λi y out H' hy ⟨hh,b,stx,dq,XJ,mem,pa⟩=>?_)
 ·rw[BZ] at Lc;have lt:(ps.map (·.1)).take yp.length=ps.map (·.1):=by rw[BZ];exact u9 Y1
  rw[lt] at pa;have ln:(ps.map (·.1)).length=ps.length:=aq _;rw[Q6 nd (by rw[ln];exact Lc)] at pa;apply#[D,out,_,U,jt,pa,by rw[oy,ln];omega,λd hd=>?_]
  have jm:((gd (ps.map (·.1)) (A4 (ps.map (·.1)) hh)).map (·.1)).Nodup:=by
   rw[CL,mC,ub];exact nd.imp λn e=>n (iB e)
  rw[yN jm];apply k d (A4 (ps.map (·.1)) hh) _ (b5.trans (aM.of (aa.new hd))) (iO.same (aa.new hd)) (b5.free iO hd) ay λn hn=>?_;let#[j,hj,e]:=gB hn;have vY:j<hh.length:=by rw[Lc,<- ln];exact hj
  rw[IA nd (k:=j) (by rw[aX hj,e]) (aX vY)];exact mem _ (j_ vY)
 have hi:i<yp.length:=(cu.mp hy).1;let#[t,v,e,ht,_]:=dO pc i hi Y0;rw[aX hi] at hy;cases hy;rw[e];have hp:ps[i]? = some (ps[i]' Y0):=aX Y0;obtain⟨pz,ep⟩:∃p,p=ps[i]' Y0:=#[_,U];rw[<- ep] at hp ht;have tl:t≠l:=bO ht o8 nofun;apply#[_,U,U,λNx hN=>eP ?_];apply#[_,U,t,_,0,_,U,U,.of (b _ _ ht tl),L2.cZ (j:=0) U,_,U,_,U,_,U,lh,_,U,.inl (.of (b _ _ eZ uG)),l,(yh.length:Int),U,by omega,by omega,stx,λr H2 r0 r1 b2 cO=>?_];let#[r,rfl]:=wZ r0;have RE:r<yh.length:=by omega
 let#[u,eu,hu]:=dO th r RE (by rw[aq];omega);let bb:=b.trans b2;have hh':(hs.map kH)[r]'(by rw[aq];omega)=kH (hs[r]' Y0):=w6 ..;rw[hh'] at hu;let hu2:=uJ (bb _ _ hu (bO hu o8 nofun));apply#[lh,_,r,.ref u,U,U,.of (bb _ _ eZ uG),L2.cZ (by rw[aX RE,eu]),u,_,0,_,U,U,.of hu2,L2.cZ (j:=0) U,zl,λz hz=>?_];let#[s3,e3]:=aB (o:=.tup [.str pz.1,.str (hs[r]' Y0).1]) hz;let dW:=cO.same s3;let yd:=s3 _ _ (b2 _ _ dq Dl);generalize upd H2 z (.tup [.str pz.1,.str (hs[r]' Y0).1])=H3 at s3 e3 dW yd ⊢;let lo:=bI pa;rw[aq,List.length_zip,dJ,aq,aq] at lo
 have tD:∀{c xs},H3 c\.tup xs->upd H3 D (.lst (out++[.ref z])) c\.tup xs:=λe=>by
  rw[aA (bO e yd nofun)];exact e
 let#[Vt,jN]:=stx.some;apply#[out,yd,by omega,hN _ _ #[hh++[(hs[r]' Y0).1],λc o e ne=>?_,?_,ay,by rw[dM,XJ];rfl,λh hm=>?_,?_]]
 ·rw[aA (bG e hD)];exact s3 _ _ (bb _ _ e ne)
 ·unfold bJ;rw[aA Dl.symm];exact dW
 ·rcases dB.mp hm with hm|hm
  ·exact mem h hm
  rw[fw.mp hm];exact bx.mpr #[_,j_ Y0,U]
 have ez:((ps.map (·.1)).take (i+1)).zip (sV (hh++[(hs[r]' Y0).1]))=((ps.map (·.1)).take i).zip (sV hh)++[(pz.1,V.str (hs[r]' Y0).1)]:=by
  rw[u3 (n:=pz.1) (by rw[de,hp];rfl)];show _=_;rw[show sV (hh++[(hs[r]' Y0).1])=sV hh++[V.str (hs[r]' Y0).1] from eJ,List.zip_append (by rw[dJ,aq,aq];omega)];rfl
 rw[ez,eJ];apply mE (Paired.aQ pa λy p ⟨c,e,hc⟩=>#[c,e,tD (s3 _ _ (b2 _ _ hc (bO hc jN nofun)))]) (.cons #[z,U,tD e3] .nil)
theorem OY:bQ [j4,mw,"_law_spot",wu,"_law_k"] uk (a_ NY):=bZ
def jJ(ss:aV)(s:ax)(h:Str):Int:=ld (fS ss s) (ss.map e_) h
inductive Na (K:ai) (vs:af) (H:Hp) (Q:VK) (E:XK):Prop
 |mk:∀(lh lp t:Addr) (yh yp:af) (hs:Xa) (ss:aV) (s:ax),vs=[.ref lh,.ref lp,.ref t]->H lh\.lst yh->bS K H yh (hs.map kH)->(hs.map (·.1)).Nodup->hs.length<=8->H lp\.lst yp->j3 K H yp ss->(ss.map (·.1)).Nodup->ss.length<=8->H t\.tup (sV s)->s.length=ss.length->(∀h∈s,h∈hs.map (·.1))->(∀d H',aa H H'->H d=none->H' d\.dK (dY (hs.map (·.1)) λh=>.int (jJ ss s h))->Q (.ref d) H')->Na K vs H Q E
theorem hG_(F:bu K "_law_loads" "_law_loads" NY f fd)(B:Bi mg):!ak bc 1 f fd uk (Na K):=by
 exists F.bW OY;let#[lh,lp,t,yh,yp,hs,ss,s,rfl,eZ,th,pS,h8,jo,pc,nd,p8,ht,ls,hZ,k]:=h;let hu:=fP hr;let sz:=cJ;let uF:=bI th;rw[aq] at uF;let BZ:=bI pc;refine' #[_,au ?s1 (au ?s2 (aJ ?s3)),?kk]
 case' s1=>refine' bw 3 OY.nd (gS (BE U) (by rfl) B.dict qd %[jb wH 2 [] (d4 (pv 0)) (λfp s H=>?g1) (λfp s H=>jx) (λfp s H=>?e1)|0])
 case g1=>exact CA (n:=2) (df (fu (i:=0) (show (wH:ag).Nodup by decide +kernel) U (Or.inl U)) (df (fu (i:=1) (show (wH:ag).Nodup by decide +kernel) U (Or.inl U)) hW))
 case e1=>exact dA %[0,av|0]
 case' s2=>refine' d8 dS U ?i2 ?g2 (aJ ?b2)
 case i2=>exact ql (by rfl) B.range %[bT gx (by rfl) B.len fN %[1|0]|0]
 case g2=>exact bX 4 OY.nd
 case b2=>exact u4 hu (pv 3) (bg cj (pv 2) (pv 4)) (br fG (j7 hu (pv 3) (bg cj (pv 2) (pv 4))) (bg cj (bg fX (pv 1) (pv 4)) av)) U
 case s3=>exact bp (pv 3)
 apply#[_,U,lh,U,#[_,.of eZ],λD hD=>?_];apply j9 (own:=2) (fv:=[]) (xs:=yh) U wc (λi out H'=>aa H H'/\H' D\.lst out/\kL K H' out (dY ((hs.map (·.1)).take i) λ_=>.int 0)) #[aa.new hD,ay,.nil] (λi out H' _ ⟨sm,_,_⟩=>.of (sm _ _ eZ)) (λout H5 ⟨sm,jt,pa⟩=>?_) (λi y out H' hy ⟨sm,dq,pa⟩=>?_);rotate_left 1
 ·let#[h,hh,p,rfl,hp]:=uc th hy;apply#[_,#[p,_,_,U,.of (sm _ _ (uJ hp)),U],U,λNx hN=>eP ?_];apply#[_,U,zl,λz hz=>?_];let#[s3,e3]:=aB (o:=.tup [.str h.1,.int 0]) hz;generalize upd H' z (.tup [.str h.1,.int 0])=H3 at s3 e3 ⊢;have hi:i<hs.length:=(cu.mp hh).1;let lo:=bI pa;rw[oy,dJ,aq] at lo
  have tD:∀{c xs},H3 c\.tup xs->upd H3 D (.lst (out++[.ref z])) c\.tup xs:=λe=>by
   rw[aA (bO e (s3 _ _ dq) nofun)];exact e
  apply#[out,s3 _ _ dq,by omega,hN _ _ #[fF (sm.trans s3) hD,ay,?_]];rw[u3 (n:=h.1) (by rw[de,hh];rfl)];show kL K _ _ (((hs.map (·.1)).take i++[h.1]).map _);rw[eJ];exact mE (Paired.aQ pa λy p ⟨c,e,hc⟩=>#[c,e,tD (s3 _ _ hc)]) (.cons #[z,U,tD e3] .nil)
 have lt:(hs.map (·.1)).take yh.length=hs.map (·.1):=u9 (by rw[aq];omega);rw[lt] at pa;apply#[D,out,_,U,jt,pa,by rw[oy,aq];omega,λd hd=>?_]
 have jm:((dY (hs.map (·.1)) λ_=>V.int 0).map (·.1)).Nodup:=by
  rw[CL,mC,ub];exact pS.imp λn e=>n (iB e)
 rw[yN jm];let#[s6,e6]:=aB (o:=.dK (dY (hs.map (·.1)) λ_=>V.int 0)) hd;have dn:H d=none:=sm.free hd;let iq:=sm.trans s6;generalize upd H5 d (.dK (dY (hs.map (·.1)) λ_=>V.int 0))=H6 at s6 e6 iq ⊢;apply#[_,U,lp,_,U,.inl (.of (iq _ _ jo)),_,U,by show (-(2 ^ 62):Int)<=(yp.length:Int);omega,by show (yp.length:Int)<2 ^ 62;omega,?_]
 let Iv:dD:=λi σ H'=>∃(v4:aI),σ=[some (.ref lh),some (.ref lp),some (.ref t),some (.ref d),v4]/\aa H H'/\H' d\.dK (dY (hs.map (·.1)) λh=>.int (ld (fS ss s) ((ss.take i).map e_) h))
 apply t7 (lo:=0) (n:=((yp.length:Nat):Int).toNat) Iv #[none,U,iq,e6] ?_ ?_
 ·rintro i σ H7 hi ⟨v4,rfl,s7,e7⟩;rw[Int.zero_add];have hi:i<ss.length:=by omega
  let#[u,v,eu,Ex,_]:=dO pc i Y0 hi;have HS:s[i]? = some (s[i]' Y0):=aX Y0;obtain⟨h,eh⟩:∃h,h=s[i]' Y0:=#[_,U];obtain⟨q,eq⟩:∃q,q=ss[i]:=#[_,U];have hq:ss[i]? = some q:=by rw[eq];exact aX hi
  rw[<- eh] at HS;rw[<- eq] at Ex;have hm:h∈hs.map (·.1):=hZ h (cB HS);have Fc:ib (sV s) (i:Int)\.str h:=L2.cZ (by rw[de,HS];rfl);let Rz:=s7 _ _ ht;have ff:fS ss s q.1=h:=IA nd (k:=i) (by rw[de,hq];rfl) HS;apply#[_,U,_,U,_,U,t,_,i,_,U,U,.of Rz,Fc,d,.int (ld (fS ss s) ((ss.take i).map e_) h),U,?_,?_]
  ·have:=cK.k (k:=.inr h) e7;rw[Bw (g:=λh=>V.int (ld (fS ss s) ((ss.take i).map e_) h)) hm] at this;exact this
  apply#[_,U,_,U,lp,_,i,.ref u,U,U,.of (s7 _ _ jo),L2.cZ (by rw[aX Y0,eu]),u,_,1,_,U,U,.of (s7 _ _ Ex),L2.cZ (j:=1) U,_,_,U,U,?_];apply#[_,U,_,U,_,U,t,_,i,_,U,U,.of Rz,Fc,d,_,U,.k (k:=Sum.inr h) e7 (by rw[oy,aq];omega),?_];apply#[_,U,fF s7 dn,?_];rw[ay,SC hm];apply eW (λz=>some (HO.dK z)) (JA λn _=>?_);rw[u_ _ hq,Sx];show (if n=h then _ else _)=V.int (if n=fS ss s q.1 then _ else _);rw[ff];by_cases c:n=h
  ·rw[aK c,aK c,c];rfl
  rw[aC c,aC c]
 rintro σ H7 ⟨v4,rfl,s7,e7⟩;have:ss.take ((yp.length:Nat):Int).toNat=ss:=u9 Y0;rw[this] at e7;exact#[_,U,k d H7 s7 dn e7]
end
structure eM (ts:Xb) (ss qs:aV):Prop where
 qs:qs=ss.map pM
 dr:∀p∈ss,kz ts p
 nd:(ss.map (·.1)).Nodup
theorem eM.vM{ts:Xb}{ss qs:aV}(S:eM ts ss qs):qs.map (·.1)=ss.map (·.1):=by
 rw[S.qs,cy];rfl
theorem eM.ws{ts:Xb}{ss qs:aV}(S:eM ts ss qs):qs.map e_=ss.map e_:=by
 rw[S.qs,cy];rfl
theorem eM.wp{ts:Xb}{ss qs:aV}(S:eM ts ss qs):∀q∈qs,0<=q.2.1/\q.2.1<=1000000000:=λq hq=>by
 rw[S.qs] at hq;let#[p,hp,rfl]:=bx.mp hq;let g:=(S.dr p hp).g;let h1:=g.w1;let h2:=g.w2;exact#[by show 0<=p.2.1;omega,h2]
theorem eM.len{ts:Xb}{ss qs:aV}(S:eM ts ss qs):qs.length=ss.length:=by rw[S.qs,aq]
theorem MB{ts:Xb}{ss qs:aV}(S:eM ts ss qs)(s:ax)(h:Str):jJ ss s h=ld (fS qs s) (qs.map e_) h:=by
 unfold jJ fS;rw[S.vM,S.ws]
theorem SY{hs:Xa}{ts:Xb}{ss qs:aV}(G:Good hs ts)(S:eM ts ss qs)(s:ax)(l:Int × Int):l9 hs qs s l=true ↔ ∀a∈hs,∀b∈hs,¬(l.1 * a.2 * b.2<l.2 * (jJ ss s a.1 * b.2 - jJ ss s b.1 * a.2)):=by
 rw[RD];let mo:=Bn G
 have one:∀a∈hs,∀b∈hs,(¬(l.1 * a.2 * b.2<l.2 * (jJ ss s a.1 * b.2 - jJ ss s b.1 * a.2)) ↔ l.2 * (fJ hs qs (fS qs s) a.1 - fJ hs qs (fS qs s) b.1)<=l.1 * fD hs):=λa ha b hb=>by
  have am:a.1∈aU hs:=(gv hs).mem_iff.mpr (bx.mpr #[a,ha,U]);have bm:b.1∈aU hs:=(gv hs).mem_iff.mpr (bx.mpr #[b,hb,U]);have ea:strOf hs a.1=a.2:=Tc G.pS ha;have eb:strOf hs b.1=b.2:=Tc G.pS hb;let sa:=Bh G am;let sb:=Bh G bm;let ma:=mo.2.2 _ am;let mb:=mo.2.2 _ bm;rw[ea] at sa ma;rw[eb] at sb mb;let alg:=Yd (La:=ld (fS qs s) (qs.map e_) a.1) (Lb:=ld (fS qs s) (qs.map e_) b.1) ma mb
  have e1:fJ hs qs (fS qs s) a.1=ld (fS qs s) (qs.map e_) a.1 * (fD hs / a.2):=by
   unfold fJ;rw[ea]
  have e2:fJ hs qs (fS qs s) b.1=ld (fS qs s) (qs.map e_) b.1 * (fD hs / b.2):=by
   unfold fJ;rw[eb]
  rw[MB S,MB S,e1,e2,Int.not_lt];have Vb:0<a.2 * b.2:=Int.mul_pos Y0 Y0
  have k1:l.2 * (ld (fS qs s) (qs.map e_) a.1 * b.2 - ld (fS qs s) (qs.map e_) b.1 * a.2) * fD hs=a.2 * b.2 * (l.2 * (ld (fS qs s) (qs.map e_) a.1 * (fD hs / a.2) - ld (fS qs s) (qs.map e_) b.1 * (fD hs / b.2))):=by
   rw[Int.mul_assoc,alg]
   grind
  have k2:l.1 * a.2 * b.2 * fD hs=a.2 * b.2 * (l.1 * fD hs):=by grind
  constructor
  ·intro h;have:=Int.mul_le_mul_of_nonneg_right h (iF mo.1);rw[k1,k2] at this;exact Int.le_of_mul_le_mul_left this Vb
  intro h;have:=Int.mul_le_mul_of_nonneg_left h (iF Vb);rw[<- k1,<- k2] at this;exact Int.le_of_mul_le_mul_right this mo.1
 constructor
 ·intro h a ha b hb;exact (one a ha b hb).mpr (h _ ((gv hs).mem_iff.mpr (bx.mpr #[a,ha,U])) _ ((gv hs).mem_iff.mpr (bx.mpr #[b,hb,U])))
 intro h x hx y hy;let#[a,ha,rfl]:=bx.mp ((gv hs).mem_iff.mp hx);let#[b,hb,rfl]:=bx.mp ((gv hs).mem_iff.mp hy);exact (one a ha b hb).mp (h a ha b hb)
section v
theorem Bz:bQ [j4,mw,"_law_spot","_law_limit",wu,"_law_one","_law_strength","_law_other","_law_more","_law_over"] uv (a_ lQ):=bZ
inductive N6 (K:ai) (vs:af) (H:Hp) (Q:VK) (E:XK):Prop
 |mk:∀(lh lp t lt:Addr) (yh yp:af) (hs:Xa) (ts:Xb) (ss qs:aV) (s:ax) (l:Int × Int),vs=[.ref lh,.ref lp,.ref t,.ref lt]->H lh\.lst yh->bS K H yh (hs.map kH)->Good hs ts->H lp\.lst yp->j3 K H yp ss->eM ts ss qs->ss.length<=8->H t\.tup (sV s)->Vs hs qs s->hY H lt l->uZ l->(∀H',aa H H'->Q (.bl (l9 hs qs s l)) H')->N6 K vs H Q E
theorem ZP(F:bu K "_law_even" "_law_even" lQ f fd)(cL:!bz 1 "_law_loads" uk (Na K)):!ak bc 2 f fd uv (N6 K):=by
 exists F.bW Bz;let#[lh,lp,t,lt,yh,yp,hs,ts,ss,qs,s,l,rfl,eZ,th,G,jo,pc,S,s8,ht,v,hl,lo,k]:=h;let hu:=fP hr;let uF:=bI th;rw[aq] at uF;have hZ:∀h∈s,h∈hs.map (·.1):=λh hh=>(gv hs).mem_iff.mp (v.hZ h hh);refine' #[_,au ?s1 (au ?s2 (aJ ?s3)),?kk]
 case s1=>exact bw 4 Bz.nd (bj cL hr %[0,1,2|0])
 case' s2=>refine' d8 dS U (d4 (pv 0)) ?g2 (aJ ?b2)
 case g2=>exact ju U (df (bX 5 Bz.nd) (df (bX 6 Bz.nd) hW))
 case' b2=>refine' d8 dS U (d4 (pv 0)) ?g3 (au ?c1 (aJ ?c2))
 case g3=>exact ju U (df (bX 7 Bz.nd) (df (bX 8 Bz.nd) hW))
 case c1=>exact bw 9 Bz.nd (br Cw (br tX (j7 hu (pv 4) (pv 5)) (pv 8)) (br tX (j7 hu (pv 4) (pv 7)) (pv 6)))
 case c2=>exact b_ (eO EM (br tX (bg cj (pv 3) av) (pv 9)) (br tX (br tX (bg cj (pv 3) av) (pv 6)) (pv 8))) (aJ (bp jv)) cm
 case s3=>exact bp jv
 apply#[_,U,_,U,_,U,lh,lp,t,yh,yp,hs,ss,s,U,eZ,th,G.pS,G.h8,jo,pc,S.nd,s8,ht,by rw[v.len,S.len],hZ,λd H1 s1 n1 e1=>?_];let P_:=th.same s1
 have QJ:∀n,0<=jJ ss s n/\jJ ss s n<=64000000000:=λn=>by
  rw[MB S];exact HM S.wp (by rw[S.len];omega) _ _
 let X:(Str × Int)->(Str × Int)->Prop:=λa b=>l.1 * a.2 * b.2<l.2 * (jJ ss s a.1 * b.2 - jJ ss s b.1 * a.2)
 let Iv:dD:=λi σ H'=>∃(v5 v6 v7 v8 v9:aI),σ=[some (.ref lh),some (.ref lp),some (.ref t),some (.ref lt),some (.ref d),v5,v6,v7,v8,v9]/\H'=H1/\∀a∈hs.take i,∀b∈hs,¬X a b
 apply#[_,U,lh,U,#[_,.of (s1 _ _ eZ)],?_];apply ie (K:=K) (a:=lh) (xs:=yh) Iv ?_ ?_ ?_ ?_
 ·exact#[none,none,none,none,none,U,U,by simp]
 ·rintro i σ H' _ ⟨_,_,_,_,_,_,rfl,_⟩;exact .of (s1 _ _ eZ)
 ·rintro i y σ H2 hy ⟨v5,v6,v7,v8,v9,rfl,rfl,no⟩;let#[a,ha,p,rfl,hp]:=uc P_ hy;let am:=cB ha;have an:a.1∈hs.map (·.1):=bx.mpr #[a,am,U];let ga:=G.aE a am;apply#[p,_,U,.of (uJ hp),U,_,_,U,_,_,U,U,?_]
  let Iw:dD:=λj σ H'=>∃(v7 v8 v9:aI),σ=[some (.ref lh),some (.ref lp),some (.ref t),some (.ref lt),some (.ref d),some (.str a.1),some (.int a.2),v7,v8,v9]/\H'=H2/\∀b∈hs.take j,¬X a b
  apply#[_,U,lh,U,#[_,.of (s1 _ _ eZ)],?_];apply ie (K:=K) (a:=lh) (xs:=yh) Iw ?_ ?_ ?_ ?_
  ·exact#[_,_,_,U,U,by simp]
  ·rintro j σ H' _ ⟨_,_,_,_,rfl,_⟩;exact .of (s1 _ _ eZ)
  ·rintro j y σ H3 hy ⟨v7,v8,v9,rfl,rfl,Hm⟩;let#[b,hb,q,rfl,hq]:=uc P_ hy;let bm:=cB hb;have bn:b.1∈hs.map (·.1):=bx.mpr #[b,bm,U];let gb:=G.aE b bm;let la:=QJ a.1;let lb:=QJ b.1;let ga1:=ga.2.1;let ga2:=ga.2.2;let gb1:=gb.2.1;let gb2:=gb.2.2
   have dg:∀{n},n∈hs.map (·.1)->cK H3 d (.str n) (some (.int (jJ ss s n))):=λ{n} hn=>by
    have:=cK.k (k:=.inr n) e1;rw[Bw (g:=λh=>V.int (jJ ss s h)) hn] at this;exact this
   apply#[q,_,U,.of (uJ hq),U,_,_,U,_,_,U,U,?_];apply#[_,U,_,U,d,_,U,dg an,_,U,_,_,U,U,.inr #[by omega,by omega],_,U,_,U,d,_,U,dg bn,_,U,_,_,U,U,.inr #[by omega,by omega],_,_,U,U,?_];have m1:0<=jJ ss s a.1 * b.2/\jJ ss s a.1 * b.2<=64000000000 * 1000:=#[Int.mul_nonneg la.1 Y0,Int.mul_le_mul la.2 gb2 Y0 (by decide)];have m2:0<=jJ ss s b.1 * a.2/\jJ ss s b.1 * a.2<=64000000000 * 1000:=#[Int.mul_nonneg lb.1 Y0,Int.mul_le_mul lb.2 ga2 Y0 (by decide)];apply#[_,U,lt,_,1,_,U,U,.of (s1 _ _ hl),L2.cZ (j:=1) U,_,U,_,_,U,U,.inr #[by omega,by omega],?_];apply#[_,U,lt,_,0,_,U,U,.of (s1 _ _ hl),L2.cZ (j:=0) U,_,U,_,_,U,U,.inr #[by omega,by omega],_,U,_,_,U,U,.inr #[by omega,by omega],_,_,U,U,_,U,?_];apply bH (λc=>?_) (λc=>?_)
   ·have hx:X a b:=tP c;let kk:=k H3 s1
    have:l9 hs qs s l=false:=by
     rw[<- Bool.not_eq_true,SY G S];exact λh=>h a am b bm hx
    rw[this] at kk;exact kk
   have hx:¬X a b:=λh=>absurd h (Int.not_lt.mpr ⇑c);apply#[_,_,_,U,U,λz hz=>?_];rw[oB,hb] at hz;rcases dB.mp hz with hz|hz
   ·exact Hm z hz
   have:z=b:=⇑hz
   rw[this];exact hx
  rintro σ H3 ⟨v7,v8,v9,rfl,rfl,Hm⟩;rw[uF,d9] at Hm;apply#[_,_,_,_,_,U,U,λz hz=>?_];rw[oB,ha] at hz;rcases dB.mp hz with hz|hz
  ·exact no z hz
  have:z=a:=⇑hz
  rw[this];exact Hm
 rintro σ H2 ⟨v5,v6,v7,v8,v9,rfl,rfl,no⟩;rw[uF,d9] at no;let kk:=k H2 s1;rw[(SY G S s l).mpr no] at kk;exact kk
end
end Ev
namespace L2
open PySem PySem.Spec PyProof.Rows PySem.W qt eY
def KI(K:ai){D:Type}[DecidableEq D](R:Rp D)(neg:Bool):V->V->Hp->VK->Prop:=λx y H Q=>∃(d:D) (es:List D) (a:Addr) (ys:af),R H x d/\y=.ref a/\fH K H a ys/\Paired (R H) ys es/\Q (.bl (if neg then !decide (d∈es) else decide (d∈es))) H
theorem X2{X:Cx}{n:Nat}{D:Type}[DecidableEq D]{R:Rp D}(c:ji X n R)(hu:X.A.units+n+1<cLine):dU X (compareOp .In) (KI X.K R false):=by
 intro pins s σ H x y v u Q I rx ry h;let#[d,es,a,ys,hx,rfl,t,q,hq]:=h;cases ry;let#[us,r,pl,_]:=I.tuple t;let#[f,h1,h2]:=My c I (A:=X.A.in1) rx hx (by show X.A.units+1+n<cLine;omega) r q;apply SeqAt.in_tupleAt f (wU pl) (λw hw=>h1 w ⇑hw) #[.bl _,H,I,U,?_];rw[show us.toArray.any f=us.any f by simp,h2];exact hq
end L2
namespace Ev
open PySem L2
def iI(t:Str × Str)(h:Str):Str:=if t.1=h then t.2 else t.1
theorem N2{ts:Xb}{a b:Str}:aN a b∈bV ts ↔ (a,b)∈ts∨(b,a)∈ts:=by
 rw[O0];constructor
 ·rintro⟨⟨x,y⟩,ht,e⟩;rcases QY (a:=x) (b:=y) (c:=a) (d:=b) (by show kT (aN x y)=kT (aN a b);rw[<- e]) with⟨rfl,rfl⟩|⟨rfl,rfl⟩
  ·exact .inl ht
  exact .inr ht
 rintro (h|h)
 ·exact#[_,h,U]
 exact#[_,h,OI _ _]
def gF(ts:Xb)(p:Pc):Xb:=p.2.2.getD ts
variable{h h':Str}
theorem Zt{ws:Xb}(g:∀t∈ws,wx t):(∃t∈ws,(h=t.1∨h=t.2)/\h'=iI t h) ↔ (h,h')∈ws∨(h',h)∈ws:=by
 constructor
 ·rintro⟨⟨x,y⟩,ht,e,rfl⟩;let ne:=(g _ ht).2.2;rcases e with rfl|rfl
  ·left
   rw[show iI (h,y) h=y from aK U];exact ht
  right
  rw[show iI (x,h) h=x from aC ne];exact ht
 rintro (ht|ht)
 ·exact#[_,ht,.inl U,(aK U).symm]
 exact#[_,ht,.inr U,(aC (g _ ht).2.2).symm]
theorem Y2{hs:Xa}{ts:Xb}(G:Good hs ts){p:Pc}(d:kz ts p)(hm:h∈aU hs):h'∈uM hs ts (pM p) h ↔ ∃t∈gF ts p,(h=t.1∨h=t.2)/\h'=iI t h:=by
 have gw:∀t∈gF ts p,t∈ts:=λt ht=>by
  unfold gF at ht;cases e:p.2.2 with
  |none=>
   rw[e] at ht;exact ht
  |some ws=>
   rw[e] at ht;exact d.sub ws e t ht
 rw[Zt λt ht=>G.tok t (gw t ht)]
 have jG:∀{o},o∈near (aU hs) (bV ts) h ↔ (h,o)∈ts∨(o,h)∈ts:=λ{o}=>by
  unfold near;rw[t_,decide_eq_true_iff,N2];apply#[λz=>z.2,λz=>#[?_,z]];rcases z with z|z
  ·exact (gv hs).mem_iff.mpr (G.yZ _ z).2
  exact (gv hs).mem_iff.mpr (G.yZ _ z).1
 unfold uM;rw[t_,jG];let jr:=(gv hs).mem_iff.mp hm;constructor
 ·rintro⟨h1,h2⟩;cases e:p.2.2 with
  |none=>
   unfold gF;rw[e];exact h1
  |some ws=>
   have e2:(pM p).2.2\bV ws:=by
    show p.2.2.map bV=_;rw[e];rfl
   rw[e2] at h2;let h3:=(Bool.and_eq_true_iff.mp h2).2;have h4:aN h h'∈bV ws:=tP h3;unfold gF;rw[e];exact N2.mp h4
 intro z;have zt:(h,h')∈ts∨(h',h)∈ts:=z.imp (gw _) (gw _);apply#[zt,?_]
 have L0:h'∈hs.map (·.1):=by
  rcases zt with y|y
  ·exact (G.yZ _ y).2
  exact (G.yZ _ y).1
 have td:Cu hs ts (some h) (some h')=true:=by
  show (decide _&&(decide _&&decide _))=true;rw[c_ jr,c_ L0,c_ (jG.mpr zt)];rfl
 unfold Co;rw[td,Bool.true_and];cases e:p.2.2 with
 |none=>
  have e2:(pM p).2.2=none:=by
   show p.2.2.map bV=_;rw[e];rfl
  rw[e2]
 |some ws=>
  have e2:(pM p).2.2\bV ws:=by
   show p.2.2.map bV=_;rw[e];rfl
  rw[e2];unfold gF at z;rw[e] at z;exact c_ (N2.mpr z)
abbrev Me:=(Str × Str × Str) × ax
def Bc(H:Hp):af->List Me->Prop:=Paired λy e=>∃t m u,y=.ref t/\H t\.tup [.ref m,.ref u]/\H m\.tup [.str e.1.1,.str e.1.2.1,.str e.1.2.2]/\H u\.tup (sV e.2)
variable{H':Hp}{ys:af}
theorem Bc.keep{H:Hp}{L:List Me}(h:Bc H ys L)(k:∀b xs,H b\.tup xs->H' b\.tup xs):Bc H' ys L:=Paired.aQ h λy e ⟨t,m,u,e1,e2,e3,e4⟩=>#[t,m,u,e1,k _ _ e2,k _ _ e3,k _ _ e4]
def PD(hs:Xa)(ts:Xb)(qs:aV)(s:ax)(i:Nat)(e:Me):Prop:=∃(k:Nat) (q:Pc) (h h':Str),k<i/\qs[k]? = some q/\s[k]? = some h/\h'∈uM hs ts q h/\e=((q.1,h,h'),s.set k h')
theorem ZD{hs:Xa}{ts:Xb}{qs:aV}{s:ax}{e:Me}:PD hs ts qs s qs.length e ↔ Mv hs ts qs s e.2 e.1:=by
 constructor
 ·rintro⟨k,q,h,h',_,h1,h2,h3,rfl⟩;exact#[k,q,h,h',h1,h2,h3,U,U]
 rintro⟨k,q,h,h',h1,h2,h3,h4,h5⟩;exact#[k,q,h,h',(cu.mp h1).1,h1,h2,h3,Prod.ext h5 h4]
variable{f:Addr}{fd:Ae}
section v
theorem wK:bQ [mw,"_law_ties_here","_law_spot",wu,"_law_k","_law_name_here","_law_weight","_law_ways","_law_tie","_law_other","_law_later"] oI (a_ NG):=bZ
inductive Js (K:ai) (vs:af) (H:Hp) (Q:VK) (E:XK):Prop
 |mk:∀(lp lt t:Addr) (yp zs:af) (hs:Xa) (ts:Xb) (ss qs:aV) (s:ax),vs=[.ref lp,.ref lt,.ref t]->H lp\.lst yp->j3 K H yp ss->H lt\.lst zs->bS K H zs (ts.map kT)->Good hs ts->eM ts ss qs->ss.length<=8->H t\.tup (sV s)->Vs hs qs s->(∀l ys L H',aa H H'->H l=none->H' l\.lst ys->Bc H' ys L->(∀e,e∈L ↔ Mv hs ts qs s e.2 e.1)->L.length<=512->Q (.ref l) H')->Js K vs H Q E
theorem hb_(F:bu K "_law_moves" "_law_moves" NG f fd)(B:Bi mg):!ak bc 1 f fd oI (Js K):=by
 exists F.bW wK;let#[lp,lt,t,yp,zs,hs,ts,ss,qs,s,rfl,jo,pc,dQ,tu,G,S,s8,ht,v,k]:=h;let sz:=cJ;let BZ:=bI pc;let vl:=v.len;let sl:=S.len;let xu:=G.xu;let lz:=bI tu;rw[aq] at lz;refine' #[_,au ?s1 (au ?s2 (aJ ?s3)),?kk]
 case s1=>exact bw 3 wK.nd (eI bR)
 case' s2=>refine' d8 dS U ?i2 ?g2 (au ?b1 (aJ ?b2))
 case i2=>exact ql (by rfl) B.range %[bT gx (by rfl) B.len fN %[0|0]|0]
 case g2=>exact bX 4 wK.nd
 case b1=>exact Br (bg fX (pv 0) (pv 4)) (ju U (df (bX 5 wK.nd) (df (bX 6 wK.nd) (df (bX 7 wK.nd) hW))))
 case' b2=>refine' d8 dS U (d4 (bg fX (eI %[7,1|0]) (gS T7 (by rfl) B.int FK %[wN Yg (pv 7) ou|0]))) ?g3 (aJ ?b3)
 case g3=>exact bX 8 wK.nd
 case' b3=>refine' b_ (eO (X2 gJ (kR hr 0)) (bg cj (pv 2) (pv 4)) (pv 8) (by with_unfolding_all rfl)) (au ?c1 (au ?c2 (aJ ?c3))) cm
 case c1=>exact bw 9 wK.nd (bg fX (eI %[bg cj (pv 8) av,bg cj (pv 8) av|0]) (gS T7 (by rfl) B.int FK %[wN Lm (bg cj (pv 8) av) (bg cj (pv 2) (pv 4))|0]))
 case c2=>exact bw 10 wK.nd (br wM (br wM (jf FF (pv 2) jd (jc (pv 4))) (dA %[9|0])) (jf FF (pv 2) (jc (br fG (pv 4) av)) jd))
 case c3=>exact j8 (kQ kM qg qh pG (pv 3) %[dA %[dA %[5,bg cj (pv 2) (pv 4),9|0],10|0]|0])
 case s3=>exact bp (pv 3)
 apply#[zl,λl hl=>?_];let#[s1,e1]:=aB (o:=.lst []) hl;generalize upd H l (.lst [])=H1 at s1 e1 ⊢;apply#[_,U,lp,_,U,.inl (.of (s1 _ _ jo)),_,U,by show (-(2 ^ 62):Int)<=(yp.length:Int);omega,by show (yp.length:Int)<2 ^ 62;omega,?_]
 let Iv:dD:=λi σ H'=>∃(v4 v5 v6 v7 v8 v9 v10:aI) (ys:af) (L:List Me),σ=[some (.ref lp),some (.ref lt),some (.ref t),some (.ref l),v4,v5,v6,v7,v8,v9,v10]/\aa H H'/\H' l\.lst ys/\Bc H' ys L/\(∀e,e∈L ↔ PD hs ts qs s i e)/\L.length<=64 * i
 apply t7 (lo:=0) (n:=((yp.length:Nat):Int).toNat) Iv ?_ ?_ ?_
 ·exact#[none,none,none,none,none,none,none,[],[],U,s1,e1,.nil,λe=>#[λz=>absurd z ig,λ⟨_,_,_,_,z,_⟩=>absurd z (Nat.not_lt_zero _)],gN _]
 ·rintro i σ H2 hi ⟨v4,v5,v6,v7,v8,v9,v10,ys,L,rfl,s2,e2,me,mem,len⟩;have hi:i<yp.length:=by omega
  let#[tp,wv,ep,hp,wy]:=dO pc i hi Y0;have LC:ss[i]? = some (ss[i]' Y0):=aX Y0;obtain⟨p,epp⟩:∃p,p=ss[i]' Y0:=#[_,U];rw[<- epp] at hp wy LC;have hq:qs[i]? = some (pM p):=by rw[S.qs,de,LC];rfl
  have RA:i<s.length:=by omega
  obtain⟨h,eh⟩:∃h,h=s[i]:=#[_,U];have hh:s[i]? = some h:=by rw[aX RA,eh]
  have hV:(sV s)[i]? = some (.str h):=by rw[de,hh];rfl
  let hm:=v.hZ h (cB hh);let dp:=S.dr p (cB LC);let ex:=λ{h'}=>Y2 G dp (h':=h') hm;rw[show (0:Int)+(i:Nat)=(i:Int) by omega];apply#[_,U,_,U,lp,_,i,_,U,U,.of (s2 _ _ jo),L2.cZ (by rw[aX hi,ep]),?_];apply#[tp,_,U,.of (s2 _ _ hp),U,_,_,U,_,_,U,_,_,U,U,?_]
  obtain⟨la,CV,j,hj,fL,tl,B1⟩:∃(la:Addr) (CV:af) (j:Nat),(if decide (wv=V.non)=true then (1:Int) else 0)=(j:Int)/\[wv,V.ref lt][j]? = some (.ref la)/\(H la\.lst CV/\bS K H CV ((gF ts p).map kT))/\(gF ts p).length<64:=by
   unfold gF;cases e:p.2.2 with
   |none=>
    rw[e] at wy;have wy:wv=.non:=wy;subst wy;exact#[lt,zs,1,U,U,#[dQ,tu],xu]
   |some ws=>
    rw[e] at wy;let#[a,ys,rfl,ha,ta]:=wy;let wl:=(dp.g.ws ws e).len;exact#[a,ys,0,U,U,#[ha,ta],by show ws.length<64;omega]
  let#[EW,tl]:=tl;apply#[_,U,_,U,zl,λlx jN=>?_];let#[s3,e3]:=aB (o:=.lst [wv,.ref lt]) jN;let dH:=s2.trans s3;let uP:=s3 _ _ e2;let QF:=me.keep λb xs e=>s3 _ _ e;generalize upd H2 lx (.lst [wv,.ref lt])=H3 at s3 e3 dH uP QF ⊢;apply#[_,U,U,.inr #[_,U,?_]];rw[hj];apply#[lx,_,j,_,U,U,.of e3,L2.cZ fL,la,U,#[_,.of (dH _ _ EW)],?_];let Hr:=bI tl;rw[aq] at Hr
  let Iw:dD:=λj σ H'=>∃(v8 v9 v10:aI) (ys:af) (L:List Me),σ=[some (.ref lp),some (.ref lt),some (.ref t),some (.ref l),some (.int i),some (.str p.1),some (.int p.2.1),some wv,v8,v9,v10]/\aa H H'/\H' l\.lst ys/\Bc H' ys L/\(∀e,e∈L ↔ PD hs ts qs s i e∨∃u∈(gF ts p).take j,(h=u.1∨h=u.2)/\e=((p.1,h,iI u h),s.set i (iI u h)))/\L.length<=64 * i+j
  apply ie (K:=K) (a:=la) (xs:=CV) Iw ?_ ?_ ?_ ?_
  ·exact#[_,_,_,ys,L,U,dH,uP,QF,λe=>(mem e).trans #[.inl,λz=>z.elim id λ⟨_,z,_⟩=>absurd z ig],by omega]
  ·rintro j σ H' _ ⟨_,_,_,_,_,_,sm,_⟩;exact .of (sm _ _ EW)
  ·rintro j y σ H4 hy ⟨v8,v9,v10,ys,L,rfl,s4,i5,D4,iV,l0⟩;let#[u,hu,c,rfl,hc]:=uc tl hy;have Ig:H4 c\.tup [.str u.1,.str u.2]:=s4 _ _ hc;let uI:=s4 _ _ ht;have vY:j<CV.length:=(cu.mp hy).1;let K9:=bI D4
   have tk:∀z,z∈(gF ts p).take (j+1) ↔ z∈(gF ts p).take j∨z=u:=λz=>by
    rw[oB,hu];simp
   apply#[_,U,_,U,t,_,i,_,U,U,.of uI,L2.cZ hV,_,U,h,[u.1,u.2],c,_,U,U,.of Ig,.cons U (.cons U .nil),_,U,?_];apply bH (λcd=>?_) (λcd=>?_)
   ·have jr:h=u.1∨h=u.2:=⇑cd
    have ho:[V.str u.1,V.str u.2][(if u.1=h then 1 else 0:Nat)]? = some (.str (iI u h)):=by
     unfold iI;by_cases z:u.1=h
     ·rw[aK z,aK z];rfl
     rw[aC z,aC z];rfl
    have hz:(if decide (V.str u.1=V.str h)=true then (1:Int) else 0)=((if u.1=h then 1 else 0:Nat):Int):=by
     by_cases z:u.1=h
     ·rw[aK z,z];simp
     rw[aC z,aC (by intro y;exact z (V.str.inj (tP y)))];rfl
    apply#[_,U,c,_,0,_,U,U,.of Ig,L2.cZ (j:=0) U,_,U,c,_,1,_,U,U,.of Ig,L2.cZ (j:=1) U,zl,λlo RM=>?_];let#[sA,eA]:=aB (o:=.lst [.str u.1,.str u.2]) RM;generalize upd H4 lo (.lst [.str u.1,.str u.2])=HA at sA eA ⊢;apply#[_,U,c,_,0,_,U,U,.of (sA _ _ Ig),L2.cZ (j:=0) U,_,U,_,U,t,_,i,_,U,U,.of (sA _ _ uI),L2.cZ hV,U,.inr #[_,U,?_]];rw[hz];apply#[lo,_,_,_,U,U,.of eA,L2.cZ ho,?_];let HR:=sA _ _ uI;apply#[_,U,_,U,_,U,t,_,U,.of HR,?_,λp1 x5=>?_]
    ·rw[HT.eS,HT.d6,aq];omega
    rw[Tx];let#[s5,e5]:=aB (o:=.tup ((sV s).take i)) x5;generalize upd HA p1 (.tup ((sV s).take i))=H5 at s5 e5 ⊢;apply#[_,U,zl,λp2 kG=>?_];let#[s6,e6]:=aB (o:=.tup [.str (iI u h)]) kG;generalize upd H5 p2 (.tup [.str (iI u h)])=H6 at s6 e6 ⊢;apply#[p1,p2,_,_,U,U,s6 _ _ e5,e6,by rw[dJ,aq,oC];omega,λp3 H7 s7 e7=>?_];let Qh:=(s5.trans s6).trans s7;apply#[_,U,_,U,_,_,U,U,_,U,t,_,U,.of (Qh _ _ HR),?_,λp4 EI=>?_]
    ·rw[show ((i:Int)+1)=((i+1:Nat):Int) by omega,HT.d6,aq];omega
    rw[show ((i:Int)+1)=((i+1:Nat):Int) by omega,Tw];let#[oR,e8]:=aB (o:=.tup ((sV s).drop (i+1))) EI;generalize upd H7 p4 (.tup ((sV s).drop (i+1)))=H8 at oR e8 ⊢;apply#[p3,p4,_,_,U,U,oR _ _ e7,e8,by rw[dM,dJ,aq,oC,wX,aq];omega,λp5 H9 s9 e9=>?_];rw[Tv RA] at e9;let zJ:=sA.trans ((Qh.trans oR).trans s9);let yk:=zJ _ _ i5;apply#[_,U,.inl #[U,_,.of yk],_,U,_,U,_,U,t,_,i,_,U,U,.of (zJ _ _ uI),L2.cZ hV,_,U,zl,λm ER=>?_];let#[sB,eB]:=aB (o:=.tup [.str p.1,.str h,.str (iI u h)]) ER;generalize upd H9 m (.tup [.str p.1,.str h,.str (iI u h)])=HB at sB eB ⊢;apply#[_,U,zl,λx hx=>?_];let#[sC,eC]:=aB (o:=.tup [.ref m,.ref p5]) hx;generalize upd HB x (.tup [.ref m,.ref p5])=HC at sC eC ⊢;let lX:=sB.trans sC;let KF:=zJ.trans lX;let IK:=KF _ _ i5;apply#[l,_,_,U,U,IK,by omega,?_]
    have kt:∀b xs,HC b\.tup xs->upd HC l (.lst (ys++[.ref x])) b\.tup xs:=λb xs e=>by
     rw[aA (bO e IK nofun)];exact e
    apply#[_,_,_,_,L++[((p.1,h,iI u h),s.set i (iI u h))],U,fF (s4.trans KF) hl,ay,mE ((D4.keep λb xs e=>KF _ _ e).keep kt) (.cons #[x,m,p5,U,kt _ _ eC,kt _ _ (sC _ _ eB),kt _ _ (lX _ _ e9)] .nil),λe=>?_,by rw[dM,oC];omega];rw[dB,iV,fw];constructor
    ·rintro ((z|⟨z,vS,r⟩)|z)
     ·exact .inl z
     ·exact .inr #[z,(tk z).mpr (.inl vS),r]
     exact .inr #[u,(tk u).mpr (.inr U),jr,z]
    rintro (z|⟨z,vS,r⟩)
    ·exact .inl (.inl z)
    rcases (tk z).mp vS with vS|rfl
    ·exact .inl (.inr #[z,vS,r])
    exact .inr r.2
   have kI:¬(h=u.1∨h=u.2):=⇑cd
   apply#[_,_,_,ys,L,U,s4,i5,D4,λe=>(iV e).trans #[λz=>z.imp id λ⟨x,hx,r⟩=>#[x,(tk x).mpr (.inl hx),r],λz=>z.imp id λ⟨x,hx,r⟩=>?_],by omega];rcases (tk x).mp hx with hx|rfl
   ·exact#[x,hx,r]
   exact absurd r.1 kI
  rintro σ H4 ⟨v8,v9,v10,ys,L,rfl,s4,i5,D4,iV,l0⟩;apply#[_,_,_,_,_,_,_,ys,L,U,s4,i5,D4,λe=>(iV e).trans ?_,by omega];rw[Hr,d9];constructor
  ·rintro (⟨k',q',h1,h2,z1,z2⟩|⟨x,hx,r,rfl⟩)
   ·exact#[k',q',h1,h2,by omega,z2]
   exact#[i,_,h,_,by omega,hq,hh,ex.mpr #[x,hx,r,U],U]
  rintro⟨k',q',h1,h2,z1,z2,z3,z4,z5⟩;by_cases ck:k'=i
  ·subst ck;rw[hq] at z2;cases dN z2;rw[hh] at z3;cases dN z3;let#[x,hx,r,rfl]:=ex.mp z4;exact .inr #[x,hx,r,z5]
  exact .inl #[k',q',h1,h2,by omega,z2,z3,z4,z5]
 rintro σ H2 ⟨v4,v5,v6,v7,v8,v9,v10,ys,L,rfl,s2,e2,me,mem,len⟩;have:((yp.length:Nat):Int).toNat=qs.length:=by omega
 rw[this] at mem len;exact#[_,U,k l ys L H2 s2 hl e2 me (λe=>(mem e).trans ZD) Y0]
end
theorem hQ_{α:Type}{xs:List α}(h:0<xs.length):ib xs (-1)=xs[xs.length - 1]?:=by
 unfold ib vR;rw[aC (by decide),aK Y0];show xs[((xs.length:Int) + -1).toNat]? = _;congr 1;omega
def kn(ks:List ax):List (aD × V):=ks.map λs=>(sK s,.bl true)
theorem Sv(ks:List ax):(kn ks).map (·.1)=ks.map sK:=by
 unfold kn;rw[cy];rfl
variable{ks:List ax}
theorem SA{s:ax}(hs:s∉ks):aZ (kn ks) (sK s)=none:=u7 (by
 rw[Sv];intro hm;let#[x,hx,e]:=bx.mp hm;rw[<- FI e] at hs;exact hs hx)
theorem RX(ks:List ax)(s:ax):(aZ (kn ks) (sK s)).isSome=decide (s∈ks):=by
 by_cases c:s∈ks
 ·rw[c_ c];exact OG (by rw[Sv];exact bx.mpr #[s,c,U])
 rw[fO c,SA c];rfl
theorem QX{s:ax}(hs:s∉ks):putK (kn ks) (sK s) (.bl true)=kn (ks++[s]):=by
 rw[yK (SA hs)];unfold kn;rw[eJ];rfl
theorem Bm{K:ai}{H:Hp}{ps:aV}(h:j3 K H ys ps)(s:aa H H'):j3 K H' ys ps:=Paired.aQ h λy p ⟨t,v,e,ht,wy⟩=>#[t,v,e,s _ _ ht,wy.same s]
def hX(H:Hp):af->List (List ax)->Prop:=Paired λy L=>∃a zs,y=.ref a/\H a\.lst zs/\uU H zs L
theorem hX.keep{H H':Hp}:∀{ys:af} {LL:List (List ax)},hX H ys LL->(∀a,V.ref a∈ys->∀xs,H a\.lst xs->H' a\.lst xs)->(∀b xs,H b\.tup xs->H' b\.tup xs)->hX H' ys LL
 |_,_,.nil,_,_=>.nil
 |_,_,.cons ⟨a,zs,e,h1,h2⟩ t,kl,kt=>.cons #[a,zs,e,kl a (by rw[e];exact fY) _ h1,h2.keep kt] (hX.keep t (λa m=>kl a (fo _ m)) kt)
variable{LL:List (List ax)}
theorem hX.same{H:Hp}(h:hX H ys LL)(s:aa H H'):hX H' ys LL:=h.keep (λ_ _ _ e=>s _ _ e) λ_ _ e=>s _ _ e
structure jh (N:ax->ax->Prop) (s0:ax) (LL:List (List ax)):Prop where
 is:∀(j:Nat) L,LL[j]? = some L->L.Nodup/\∀s,s∈L ↔ Ds N s0 j s
 last:∃n,LL.length=n+1/\LL[n]? = some []
 ne:∀(j:Nat) L,j+1<LL.length->LL[j]? = some L->L≠[]
variable{N:ax->ax->Prop}{s0:ax}
theorem jh.mem(h:jh N s0 LL){j:Nat}{s:ax}(d:Ds N s0 j s):∃L,LL[j]? = some L/\s∈L:=by
 let#[n,hn,hl]:=h.last
 have hj:j<n:=by
  by_cases c:j<n
  ·exact c
  let#[t,ht]:=d.down n Y0;exact absurd (((h.is n _ hl).2 t).mpr ht) ig
 have hx:LL[j]? = some (LL[j]' Y0):=aX Y0;exact#[_,hx,((h.is j _ hx).2 s).mpr d]
theorem jh.flat(h:jh N s0 LL):LL.flatten.Nodup:=by
 rw[mC,List.pairwise_flatten];apply#[λL hL=>?_,?_]
 ·let#[j,hj,e]:=gB hL;exact mC.mp (h.is j L (by rw[aX hj,e])).1
 rw[List.pairwise_iff_getElem];intro i j hi hj lt;intro s h1 t h2 e;subst e;let d1:=((h.is i _ (aX hi)).2 s).mp h1;let d2:=((h.is j _ (aX hj)).2 s).mp h2;have:=d1.inj d2;omega
theorem jh.all(h:jh N s0 LL)(s:ax):s∈LL.flatten ↔ ∃j,Wk N s0 j s:=by
 rw[List.mem_flatten];constructor
 ·rintro⟨L,hL,hs⟩;let#[j,hj,e]:=gB hL;exact#[j,(((h.is j L (by rw[aX hj,e])).2 s).mp hs).1]
 rintro⟨j,w⟩;let#[i,_,d]:=w.ds;let#[L,hL,hs]:=h.mem d;exact#[L,cB hL,hs]
section v
theorem BD:bQ [mw,"_law_ties_here","_law_spot","_law_most","_law_known","_law_layers_here","_law_layer","_law_one","_law_move","_law_later"] uo (a_ NA):=bZ
inductive OZ (K:ai) (vs:af) (H:Hp) (Q:VK) (E:XK):Prop
 |mk:∀(lp lt t:Addr) (m:Nat) (yp zs:af) (hs:Xa) (ts:Xb) (ss qs:aV) (s:ax),vs=[.ref lp,.ref lt,.ref t,.int m]->H lp\.lst yp->j3 K H yp ss->H lt\.lst zs->bS K H zs (ts.map kT)->Good hs ts->eM ts ss qs->ss.length<=8->H t\.tup (sV s)->Vs hs qs s->(aU hs).length ^ qs.length<=m->m<=1000000->(∀l ys LL H',aa H H'->H l=none->H' l\.lst ys->hX H' ys LL->(∀b,V.ref b∈ys->H b=none)->jh (Nx hs ts qs) s LL->LL.flatten.length<=m->Q (.ref l) H')->OZ K vs H Q E
theorem g9_(F:bu K "_law_layers" "_law_layers" NA f fd)(B:Bi mg)(cM:!bz 1 "_law_moves" oI (Js K)):!ak bc 2 f fd uo (OZ K):=by
 exists F.bW BD;let#[lp,lt,t,m,yp,zs,hs,ts,ss,qs,s,rfl,jo,pc,dQ,tu,G,S,s8,ht,v,bm,m6,k]:=h;let hu:=fP hr;let sz:=cJ;refine' #[_,au ?s1 (au ?s2 (au ?s3 (aJ ?s4))),?kk]
 case s1=>exact bw 4 BD.nd (S6 hu (pv 2) jv)
 case s2=>exact bw 5 BD.nd (eI %[eI %[2|0]|0])
 case' s3=>refine' SL dS (PW.pt (Rk ?w1 (Sl ?w2))) (au ?b1 (au ?b2 (aJ ?b3)))
 case w1=>exact eO (Nz (kR hr 0)) (bg fX (pv 5) (A_ Bl av)) (eI bR)
 case w2=>exact eO tL (bT gd_ (by rfl) B.len fN %[4|0]) (pv 3)
 case b1=>exact bw 6 BD.nd (eI bR)
 case' b2=>refine' d8 dS U (d4 (bg fX (pv 5) (A_ Bl av))) ?g2 (aJ ?c1)
 case g2=>exact bX 7 BD.nd
 case' c1=>refine' d8 dS U (d4 (bj cM hr %[0,1,7|0])) ?g3 (aJ ?c2)
 case g3=>exact ju U (df (bX 8 BD.nd) (df (bX 9 BD.nd) hW))
 case' c2=>refine' b_ (qj (GE hu (pv 9) (pv 4))) (au ?d1 (aJ ?d2)) cm
 case d1=>exact u4 hu (pv 4) (pv 9) jv U
 case d2=>exact j8 (kQ kM qg qh pG (pv 6) %[9|0])
 case b3=>exact j8 (kQ kM qg qh pG (pv 5) %[6|0])
 case s4=>exact bp (pv 5)
 intro d hd;have hK:∀{H':Hp},H' t\.tup (sV s)->H' t\.tup ((sK s).map kV):=λe=>by rw[iP];exact e
 apply#[_,U,ay,t,sK s,U,by rw[aA (bG ht hd)];exact hK ht,?_];have s1:aa H (upd (upd H d (.dT [])) d (.dT [(sK s,.bl true)])):=fF (aa.new hd) hd;have e1:upd (upd H d (.dT [])) d (.dT [(sK s,.bl true)]) d\.dT (kn [s]):=ay;generalize upd (upd H d (.dT [])) d (.dT [(sK s,.bl true)])=H1 at s1 e1 ⊢;apply#[_,U,zl,λa0 Fj=>?_];let#[s2,e2]:=aB (o:=.lst [.ref t]) Fj;have a0n:H a0=none:=s1.free Fj;let T5:=s2 _ _ e1;let iQ:=s1.trans s2;generalize upd H1 a0 (.lst [.ref t])=H2 at s2 e2 T5 iQ ⊢;apply#[zl,λl hl=>?_];let#[s3,e3]:=aB (o:=.lst [.ref a0]) hl;have ln:H l=none:=iQ.free hl;have a0l:a0≠l:=bG e2 hl;let uR:=s3 _ _ T5;let Ua:=s3 _ _ e2;let dH:=iQ.trans s3;generalize upd H2 l (.lst [.ref a0])=H3 at s3 e3 uR Ua dH ⊢
 let N:ax->ax->Prop:=Nx hs ts qs
 let Wv:dD:=λn σ H'=>∃(v6 v7 v8 v9:aI) (k:Nat) (ys:af) (LL:List (List ax)) (ks nw:List ax),σ=[some (.ref lp),some (.ref lt),some (.ref t),some (.int m),some (.ref d),some (.ref l),v6,v7,v8,v9]/\aa H H'/\H' d\.dT (kn ks)/\H' l\.lst ys/\hX H' ys LL/\(∀b,V.ref b∈ys->H b=none/\b≠l)/\LL.length=k+1/\LL[k]? = some nw/\(∀(j:Nat) L,LL[j]? = some L->L.Nodup/\∀s',s'∈L ↔ Ds N s j s')/\Bf N s k ks nw/\(∀s'∈ks,Vs hs qs s')/\n=(aU hs).length ^ qs.length - ks.length+(if nw=[] then 0 else 1)/\k+(if nw=[] then 0 else 1)<=ks.length/\∀(j:Nat) L,j<k->LL[j]? = some L->L≠[]
 apply#[Wv,#[_,none,none,none,none,0,[.ref a0],[[s]],[s],[s],U,dH,uR,e3,.cons #[a0,_,U,Ua,.cons #[t,U,dH _ _ ht] .nil] .nil,?_,U,U,?_,Bf.start,?_,U,?_,λj L z=>absurd z (Nat.not_lt_zero _)],?_]
 ·intro b hb;cases V.ref.inj (fw.mp hb);exact#[a0n,a0l]
 ·intro j L hj;cases j with
  |zero=>
   cases dN hj;exact#[by simp,(Bf.start (N:=N) (s0:=s)).new]
  |succ j=>cases hj
 ·intro s' hs';rw[fw.mp hs'];exact v
 ·simp
 rintro n σ H4 ⟨v6,v7,v8,v9,kk,ys,LL,ks,nw,rfl,s4,IQ,i5,K8,pW,l0,vO,Q_,Gz,J2,hn,kle,ne4⟩;let kB:=Jk (ns:=aU hs) (n:=qs.length) Gz.nd λs' hs'=>#[(J2 s' hs').len,(J2 s' hs').hZ];let QK:=bI K8;have hk:kk<ys.length:=by omega
 let#[an,yn,T8,han,xy]:=dO K8 kk hk Y0;rw[aX Y0] at vO;rw[dN vO] at xy
 have x9:ib ys (-1)\.ref an:=by
  rw[hQ_ Y0,show ys.length - 1=kk by omega,aX hk,T8]
 have anm:V.ref an∈ys:=by rw[<- T8];exact j_ hk
 let Hs:=bI xy;apply#[_,U,_,U,l,ys,_,_,U,U,.of i5,x9,zl,λle hle=>?_];let#[s5,e5]:=aB (o:=.lst []) hle;let jD:=s4.trans s5;let A8:=s5 _ _ IQ;let uO:=s5 _ _ i5;let Hu:=K8.same s5;let tm:=s5 _ _ han;let G8:=xy.keep λb xs e=>s5 _ _ e;generalize upd H4 le (.lst [])=H5 at s5 e5 jD A8 uO Hu tm G8 ⊢;apply#[an,le,yn,U,U,.of tm,.of e5,_,U,?_];by_cases cn:nw=[]
 ·have JZ:yn=[]:=by
   rw[cn] at Hs;exact List.length_eq_zero_iff.mp Hs
  rw[JZ];apply aF (aF #[_,U,?_]);rw[cn] at Gz;have ok:jh (Nx hs ts qs) s LL:=#[Q_,#[kk,l0,by rw[aX Y0];exact vO.trans (by rw[cn])],λj L z=>ne4 j L Y0];apply k l ys LL H5 jD ln uO Hu (λb hb=>(pW b hb).1) ok (ic (Jk ok.flat λs' hs'=>?_) bm);let#[j,wj]:=(ok.all s').mp hs';exact#[(wj.vs v).len,(wj.vs v).hZ]
 have JZ:yn.isEmpty=false:=by
  cases yn with
  |nil=>exact absurd (List.length_eq_zero_iff.mp Hs.symm) cn
  |cons _ _=>rfl
 rw[JZ];apply bN #[_,U,d,_,U,A8,_,U,_,_,U,U,_,U,?_];have lk:(kn ks).length=ks.length:=aq _;rw[aC cn] at hn kle;have ct:decide (((kn ks).length:Int)<=(m:Int))=true:=c_ Y0;rw[ct];apply bN #[λbf H'=>∃m',m'<n/\Wv m' bf H',λ_ _ h=>h,?_];apply#[zl,λla fL=>?_];let#[s6,e6]:=aB (o:=.lst []) fL;have QQ:H la=none:=jD.free fL;have Lg:la≠l:=(bG uO fL).symm;have ana:an≠la:=bG tm fL;have Pq:an≠l:=(pW an anm).2;have and_:an≠d:=bO tm A8 nofun
 have fra:∀b,V.ref b∈ys->b≠la:=λb hb=>by
  let#[i,hi,ei]:=gB hb;let#[a',zs',e',h',_]:=dO Hu i hi Y0;rw[ei] at e';cases e';exact bG h' fL
 let iq:=jD.trans s6;let T4:=s6 _ _ A8;let uN:=s6 _ _ uO;let QH:=Hu.same s6;let AU:=s6 _ _ tm;let Qe:=G8.keep λb xs e=>s6 _ _ e;generalize upd H5 la (.lst [])=H6 at s6 e6 iq T4 uN QH AU Qe ⊢
 let J:List ax->Hp->Prop:=λseen H'=>∃(iW fd:List ax) (fs:af),aa H H'/\H' d\.dT (kn iW)/\H' l\.lst ys/\hX H' ys LL/\H' an\.lst yn/\uU H' yn nw/\H' la\.lst fs/\uU H' fs fd/\Wd ks seen iW fd/\(∀s'∈iW,Vs hs qs s')/\iW.length=ks.length+fd.length
 let Iv:dD:=λi σ H'=>∃(v7 v8 v9:aI) (seen:List ax),σ=[some (.ref lp),some (.ref lt),some (.ref t),some (.int m),some (.ref d),some (.ref l),some (.ref la),v7,v8,v9]/\J seen H'/\(∀b,b∈seen ↔ ∃h∈nw.take i,N h b)
 apply#[_,U,_,U,l,ys,_,_,U,U,.of uN,x9,an,U,#[_,.of AU],?_];apply ie (K:=K) (a:=an) (xs:=yn) Iv ?_ ?_ ?_ ?_
 ·exact#[_,_,_,[],U,#[ks,[],[],iq,T4,uN,QH,AU,Qe,e6,.nil,Wd.start Gz.nd,J2,U],λb=>#[λz=>absurd z ig,λ⟨_,z,_⟩=>absurd z ig]]
 ·rintro i σ H' _ ⟨_,_,_,_,_,⟨_,_,_,_,_,_,_,e,_⟩,_⟩;exact .of e
 ·rintro i y σ H7 hy ⟨VQ,xf,VP,seen,rfl,⟨Hy,pb,SN,nE,FH,wq,K7,Ff,xx,yo,zj,C8,BM,QM⟩,mem⟩;have hi:i<yn.length:=(cu.mp hy).1
  obtain⟨h,hh,u,rfl,hu7⟩:∃h,nw[i]? = some h/\∃u,y=.ref u/\H7 u\.tup (sV h):=by
   have:=dO xx i hi Y0;rw[aX hi] at hy;cases hy;exact#[nw[i]' Y0,aX Y0,this]
  let hm:=cB hh;let AN:=(Gz.new h).mp hm;have vh:Vs hs qs h:=AN.1.vs v;apply#[_,U,_,U,_,U,lp,lt,u,yp,zs,hs,ts,ss,qs,h,U,nE _ _ jo,Bm pc nE,nE _ _ dQ,tu.same nE,G,S,s8,hu7,vh,λl3 C7 L H8 oR BW e8 QE z_ XM=>?_];have l3l:l3≠l:=λz=>by rw[z,wq] at BW;cases BW
  have XT:l3≠la:=λz=>by rw[z,yo] at BW;cases BW
  have l3d:l3≠d:=λz=>by rw[z,FH] at BW;cases BW
  let XF:=bI QE
  let Iw:dD:=λj σ H'=>∃(v8 v9:aI) (gW:List ax),σ=[some (.ref lp),some (.ref lt),some (.ref t),some (.int m),some (.ref d),some (.ref l),some (.ref la),some (.ref u),v8,v9]/\H' l3\.lst C7/\Bc H' C7 L/\J gW H'/\(∀b,b∈gW ↔ b∈seen∨∃e∈L.take j,b=e.2)
  apply#[l3,U,#[_,.of e8],?_];apply ie (K:=K) (a:=l3) (xs:=C7) Iw ?_ ?_ ?_ ?_
  ·exact#[_,_,seen,U,e8,QE,#[Hy,pb,SN,nE.trans oR,oR _ _ FH,oR _ _ wq,K7.same oR,oR _ _ Ff,xx.keep λb xs e=>oR _ _ e,oR _ _ yo,zj.keep λb xs e=>oR _ _ e,C8,BM,QM],λb=>#[.inl,λz=>z.elim id λ⟨_,w,_⟩=>absurd w (ig)]]
  ·rintro j σ H' _ ⟨_,_,_,_,e,_⟩;exact .of e
  ·rintro j y σ H9 hy ⟨J5,J4,gW,rfl,e9,Hq,⟨pN,S7,MF,xF,FG,yk,Ht,Fe,vB,T9,zi,J1,C9,QL⟩,vN⟩;have hj:j<C7.length:=(cu.mp hy).1
   obtain⟨e,he,tt,mm,uu,rfl,Ey,_,Rw⟩:∃e,L[j]? = some e/\∃t m u,y=.ref t/\H9 t\.tup [.ref m,.ref u]/\H9 m\.tup [.str e.1.1,.str e.1.2.1,.str e.1.2.2]/\H9 u\.tup (sV e.2):=by
    have:=dO Hq j hj Y0;rw[aX hj] at hy;cases hy;exact#[L[j]' Y0,aX Y0,this]
   have bL:N h e.2:=#[e.1,(z_ e).mp (cB he)]
   have tk:∀c,(∃e∈L.take (j+1),c=e.2) ↔ (∃e∈L.take j,c=e.2)∨c=e.2:=λc=>by
    rw[oB,he];constructor
    ·rintro⟨x,hx,r⟩;rcases dB.mp hx with hx|hx
     ·exact .inl #[x,hx,r]
     have:x=e:=⇑hx
     rw[this] at r;exact .inr r
    rintro (⟨x,hx,r⟩|r)
    ·exact#[x,dB.mpr (.inl hx),r]
    exact#[e,by simp,r]
   have Ik:H9 uu\.tup ((sK e.2).map kV):=by rw[iP];exact Rw
   apply#[tt,_,U,.of Ey,U,_,_,U,_,_,U,U,?_];apply#[_,U,_,U,d,_,U,.t FG Ik,_,U,?_];rw[RX];by_cases c:e.2∈pN
   ·rw[c_ c];apply aF ?_;apply#[_,_,gW++[e.2],U,e9,Hq,#[pN,S7,MF,xF,FG,yk,Ht,Fe,vB,T9,zi,J1.skip c,C9,QL],λz=>?_];rw[dB,vN,tk,fw,or_assoc]
   rw[fO c];apply bN ?_;let kB9:=Jk (ns:=aU hs) (n:=qs.length) J1.nd λs' hs'=>#[(C9 s' hs').len,(C9 s' hs').hZ];let lf:=bI zi;have XH:(kn pN).length=pN.length:=aq _;apply#[_,U,_,U,d,_,U,.t FG Ik Y0,?_];rw[QX c];have kA:∀{c o},H9 c\o->c≠d->upd H9 d (.dT (kn (pN++[e.2]))) c\o:=λe ne=>by rw[aA ne];exact e
   have tA:∀c xs,H9 c\.tup xs->upd H9 d (.dT (kn (pN++[e.2]))) c\.tup xs:=λc xs e=>kA e (bO e FG nofun);have lA:∀c xs,H9 c\.lst xs->upd H9 d (.dT (kn (pN++[e.2]))) c\.lst xs:=λc xs e=>kA e (bO e FG nofun);have sA:aa H (upd H9 d (.dT (kn (pN++[e.2])))):=fF xF hd;have eA:upd H9 d (.dT (kn (pN++[e.2]))) d\.dT (kn (pN++[e.2])):=ay;generalize upd H9 d (.dT (kn (pN++[e.2])))=HA at kA tA lA sA eA ⊢;let IS:=lA _ _ T9;apply#[_,U,.inl #[U,_,.of IS],_,U,la,_,_,U,U,IS,by omega,?_];have lB:∀c xs,c≠la->H9 c\.lst xs->upd HA la (.lst (MF++[.ref uu])) c\.lst xs:=λc xs ne e=>by rw[aA ne];exact lA _ _ e
   have tB:∀c xs,H9 c\.tup xs->upd HA la (.lst (MF++[.ref uu])) c\.tup xs:=λc xs e=>by
    rw[aA (bO (tA _ _ e) IS nofun)];exact tA _ _ e
   have XR:d≠la:=bO eA IS nofun;apply#[_,_,gW++[e.2],U,lB _ _ XT e9,Hq.keep tB,#[pN++[e.2],S7++[e.2],_,fF sA QQ,by rw[aA XR];exact eA,lB _ _ Lg.symm yk,Ht.keep (λb hb xs e=>lB _ _ (fra b hb) e) tB,lB _ _ ana Fe,vB.keep tB,ay,mE (zi.keep tB) (.cons #[uu,U,tB _ _ Rw] .nil),J1.add c,λs' hs'=>?_,?_],λz=>?_]
   ·rcases dB.mp hs' with hs'|hs'
    ·exact C9 s' hs'
    rw[fw.mp hs'];exact bL.vs vh
   ·rw[dM,dM,QL];rfl
   rw[dB,vN,tk,fw,or_assoc]
  rintro σ H9 ⟨J5,J4,gW,rfl,e9,Hq,jj,vN⟩;apply#[_,_,_,gW,U,jj,λb=>?_];rw[vN,mem,show C7.length=L.length from XF,d9,oB,hh];simp only[Option.toList_some,dB,fw];constructor
  ·rintro (⟨h',ER,nx⟩|⟨e,he,rfl⟩)
   ·exact#[h',.inl ER,nx]
   exact#[h,.inr U,e.1,(z_ e).mp he]
  rintro⟨h',ER|rfl,nx⟩
  ·exact .inl #[h',ER,nx]
  let#[mm,nx]:=nx;exact .inr #[(mm,b),(z_ (mm,b)).mpr nx,U]
 rintro σ H7 ⟨VQ,xf,VP,seen,rfl,⟨Hy,pb,SN,nE,FH,wq,K7,Ff,xx,yo,zj,C8,BM,QM⟩,mem⟩;rw[Hs,d9] at mem;let U3:=Gz.next C8 mem;apply#[_,U,.inl #[U,_,.of wq],_,U,l,_,_,U,U,wq,by omega,?_];have lB:∀c xs,c≠l->H7 c\.lst xs->upd H7 l (.lst (ys++[.ref la])) c\.lst xs:=λc xs ne e=>by rw[aA ne];exact e
 have tB:∀c xs,H7 c\.tup xs->upd H7 l (.lst (ys++[.ref la])) c\.tup xs:=λc xs e=>by
  rw[aA (bO e wq nofun)];exact e
 let kB7:=Jk (ns:=aU hs) (n:=qs.length) C8.nd λs' hs'=>#[(BM s' hs').len,(BM s' hs').hZ];have dl:d≠l:=bO FH wq nofun
 have gl:(LL++[pb])[kk+1]? = some pb:=by
  rw[yP Y0,show kk+1 - LL.length=0 by omega];rfl
 have fl:pb=[]->pb.length=0:=λz=>by rw[z];rfl
 have Ip:pb≠[]->0<pb.length:=λz=>List.length_pos_iff.mpr z;apply#[(aU hs).length ^ qs.length - Hy.length+(if pb=[] then 0 else 1),?_,_,_,_,_,kk+1,_,LL++[pb],Hy,pb,U,fF nE ln,by rw[aA dl];exact FH,ay,mE (K7.keep (λb hb xs e=>lB _ _ (pW b hb).2 e) tB) (.cons #[la,_,U,lB _ _ Lg yo,zj.keep tB] .nil),?_,by rw[dM,l0];rfl,gl,?_,U3,BM,U,?_,?_]
 ·by_cases z:pb=[]
  ·rw[aK z];have:=fl z;omega
  rw[aC z];have:=Ip z;omega
 ·intro b hb;rcases dB.mp hb with hb|hb
  ·exact pW b hb
  cases V.ref.inj (fw.mp hb);exact#[QQ,Lg]
 ·intro j L hL;by_cases c:j<LL.length
  ·rw[w4 c] at hL;exact Q_ j L hL
  let vY:=(cu.mp hL).1;rw[dM,oC] at vY;have:j=kk+1:=by omega
  subst this;rw[gl] at hL;cases dN hL;exact#[C8.nf,U3.new]
 ·by_cases z:pb=[]
  ·rw[aK z];omega
  rw[aC z];have:=Ip z;omega
 intro j L hj hL;rw[w4 Y0] at hL;by_cases c:j<kk
 ·exact ne4 j L c hL
 have:j=kk:=by omega
 subst this;rw[aX Y0,dN vO] at hL;rw[<- dN hL];exact cn
end
end Ev
namespace L2
open PySem PySem.Spec PyProof.Rows PySem.W qt eY
end L2
namespace Ev
open PySem L2
structure JU (K:ai) (H:Hp) (lh lp lt ll:Addr) (hs:Xa) (ts:Xb) (ss qs:aV) (l:Int × Int):Prop where
 hh:∃yh,H lh\.lst yh/\bS K H yh (hs.map kH)
 hp:∃yp,H lp\.lst yp/\j3 K H yp ss
 ht:∃zs,H lt\.lst zs/\bS K H zs (ts.map kT)
 hl:hY H ll l
 lo:uZ l
 G:Good hs ts
 S:eM ts ss qs
 s8:ss.length<=8
variable{K:ai}{H H':Hp}{hs:Xa}{ts:Xb}{qs:aV}
theorem JU.same{lh lp lt ll:Addr}{ss:aV}{l:Int × Int}(h:JU K H lh lp lt ll hs ts ss qs l)(s:aa H H'):JU K H' lh lp lt ll hs ts ss qs l:=by
 let#[#[yh,a1,a2],#[yp,b1,b2],#[zs,c1,c2],d,e,f,g,i]:=h;exact#[#[yh,s _ _ a1,a2.same s],#[yp,s _ _ b1,Bm b2 s],#[zs,s _ _ c1,c2.same s],s _ _ d,e,f,g,i]
variable{r:Int}
theorem LY{α:Type}{p:α->Prop}{xs:List α}(h0:0<=r)(h1:r<xs.length)(all:∀x∈xs,p x):∃x,ib xs r\x/\p x:=by
 let#[j,rfl]:=wZ h0;have hj:j<xs.length:=by omega
 exact#[xs[j],L2.cZ (aX hj),all _ (j_ hj)]
variable{CG CW g p:Addr}{fp:aw}
theorem gq.but{l:Addr}(G:gq K CG CW H g p hs ts qs fp)(b:aM l H H')(st:bJ H l)(nl:l∉fp):gq K CG CW H' g p hs ts qs fp:=by
 let#[xs,e]:=st.some;exact G.keep (λc hc o ho=>b _ _ ho λz=>nl (by rw[<- z];exact hc)) (λc zs hz=>b _ _ hz (bO hz e nofun))
theorem gq.Dz(G:gq K CG CW H g p hs ts qs fp):∃kJ,gq K CG CW H g p hs ts qs kJ/\(∀b∈kJ,∃o,H b\o)/\∀c∈kJ,c∈fp:=by
 let#[dx,dw,dy,vs,dz,h1,h2,h3,h4,h5,m1,m2,m3,m4,m5]:=G.ex;have hZ:∀{b:Addr} {o:HO},b∈fp->H b\o->b∈fp.filter λb=>(H b).isSome:=λm e=>t_.mpr #[m,by rw[e];rfl];apply#[fp.filter λb=>(H b).isSome,#[dx,dw,dy,vs,dz,h1,h2,h3,h4,h5,hZ m1 h1,hZ m2 h3,hZ m3 h4,λb hb=>?_,λv hv a z=>?_],λb hb=>?_,λb hb=>(t_.mp hb).1]
 ·let#[o,e]:=h2.has hb;exact hZ (m4 b hb) e
 ·let#[i,hi,ev]:=gB hv;let le:=bI h5;let w:=dO h5 i hi Y0;rw[ev,z] at w;cases o:(qs[i]' Y0).2.2 with
  |none=>
   rw[o] at w;cases (show V.ref a=.non from w)
  |some ws=>
   rw[o] at w;let#[a',ys,e,h,_]:=w;cases e;exact hZ (m5 v hv a z) h
 exact Option.isSome_iff_exists.mp (t_.mp hb).2
theorem g1_{f:bF}(G:Good hs ts)(wp:∀q∈qs,0<=q.2.1/\q.2.1<=1000000000)(cQ:qs.length<64)(R:CH hs qs f r):uZ (fr r (fD hs)):=by
 let rl:=Ss G wp cQ R;let mo:=Bn G;let fb:=QU rl.1 rl.2 mo.1 mo.2.1;let#[f1,f2,f3,f4,f5]:=fb;apply#[f3,?_,?_,?_,f5]<;>omega
end Ev
namespace L2
open PySem PySem.Spec PyProof.Rows
section v
section
variable{N:ag}{qual:Str}{scope:Scope}{f:Addr}{cd:Aa}{A:Ag}{outer:List Env}{s:Ab}{H:Hp}{E:XK}
end
end
open PySem.Calls PySem.W
section
variable{M:Model}{A:Ag}{E:Aa->Ab->Prop}{s:Ab}{base:Heap}{env:Env}{outer:List Env}{L e:Addr}{cls a0:Aa}{Q:Unit->Ab->Prop}
end
section
variable{prog:Ad}{w:Af}{A:Ag}{E:Aa->Ab->Prop}{h:Heap}{g:Array GenState}{d:Drawn}{t:Nat}{os:OsState}{nm q:Str}{C N f:Addr}{bs bm U2:aj}{hdct:Bool}{sn:ag}{sub:aj}{ab:Bool}{col:Option Bool}{dd:Option Addr}{k0 k1 k2 k3 k5:Option Aa}{B newId Lo:String}{K:ai}{rest:aj}
end
open Builtin Builtin.ObjectAttr
def A5(C CE:Addr):aj:=[.ref C,.ref CE,.type "ValueError",.type "Exception",.type "BaseException",.type "object"]
section
variable{prog:Ad}{w:Af}{A:Ag}{E:Aa->Ab->Prop}{s:Ab}{K:ai}{x C CE:Addr}{ox:Obj}{od:Option Obj}{name:Str}{tk:Tok}{v:Aa}{cd:ClassData}
end
def A6(K:ai)(C:Addr)(U2:aj)(newId:String):Bool:=
 match K.lookup C with
 |some ⟨.type "type",_,.cls cd,sl⟩=>
  match cd.mro,sl.toList with
  |.ref C'::bm,[_,_,_,_,some (.builtin n),_]=>C' == C&&n == newId&&!cd.hasDel&&tailIn K U2 bm&&nsOkIn K cd.ns
  |_,_=>false
 |_=>false
def Oh(K:ai)(C CE:Addr):Bool:=
 match clsIn K C with
 |some cd=>cd.mro == A5 C CE&&cd.hasDict
 |none=>false
structure ExO (K:ai) (C CE:Addr):Prop where
 kx:PP K C
 ex:A6 K C bmV "ValueError.__new__"=true
 es:findIn K (.ref C) "__setattr__"\some (.builtin "object.__setattr__")
 cl:Oh K C CE=true
structure ExF (K:ai) (C:Addr) (f:Str):Prop where
 tk:takerIn K C f\none
 fd:findIn K (.ref C) f\none
structure ExB (K:ai) (CE:Addr):Prop where
 sp:specialIn K (.ref CE) "__getattribute__"\some (.builtin "type.__getattribute__")
 rd:readsIn K CE (.type "type")=true
 fc:findCls K (.ref CE) (.type "type") "__init__"\.val (.builtin "ValueError.__init__")
section
variable{P:Ad}{w:Af}{H:Hp}{h:Heap}{e C a0 d:Addr}{dd:Option Addr}{fs:List (Str × V)}
end
section
variable{X:Cx}{C CE:Addr}{x f:Str}{p apos pos pos':Pos}{o e value:Expr}{es:List Expr}{ta tv:TE}{t:TA}
end
section
variable{X:Cx}{pins:List (Addr × Obj)}{σ:St}{H H':Hp}{s s1:Ab}{B h:Heap}{a:Addr}{cls a0:Aa}{dd:Option Addr}{E:XK}
end
section
variable{P:Ad}{w:Af}{K:ai}{mg:Str->Option Aa}{base:Heap}{N:ag}{qual:Str}{scope:Scope}{f:Addr}{cd:Aa}{A:Ag}{outer:List Env}{s:Ab}{H:Hp}{E:XK}
end
section
variable{X:Cx}{x:Str}{C f:Addr}{fd:Ae}{ps:ag}{sp:Sp}{k:Nat}{np cX pos:Pos}{e:Expr}{es:List Expr}{t:TA}{E:XK}
end
section
variable{X:Cx}{i:Nat}{x n:Str}{D C:Addr}{np EH pos:Pos}{Gv:Stmt}{xv body:List Stmt}{tb:XK->TS}{ts:TS}{rest:List ExceptHandler}
end
section
variable{P:Ad}{w:Af}{K:ai}{mg:Str->Option Aa}{base:Heap}{N:ag}{qual:Str}{scope:Scope}{f:Addr}{cd:Aa}{A:Ag}{outer:List Env}{s:Ab}{H:Hp}{E:XK}
end
section
variable{X:Cx}{i:Nat}{x x2 n:Str}{D C D2 C2:Addr}{np EH np2 RH pos:Pos}{Gv c₀:Stmt}{xv Ks body:List Stmt}{tb:XK->TS}{ts ts2:TS}
end
section
variable{X:Cx}{i:Nat}{x n:Str}{D:Addr}{ok:Addr->Prop}{np EH pos:Pos}{Gv:Stmt}{xv body:List Stmt}{tb:XK->TS}{ts:TS}
end
section
variable{X:Cx}{k:Nat}{ps:ag}{x:Str}{p pos:Pos}{e:Expr}{es:List Expr}{tn:TE}{t:TA}
end
structure Jr (ps dG:ag) (scope:Scope):Prop where
 nd:(ps++dG).Nodup
 kind:scope.kind=.function
 co:scope.isCoroutine=false
 gen:scope.isGenerator=false
 par:∀p∈ps,scope.names.lookup p\.local
 fv:∀x∈dG,scope.names.lookup x\.free
 all:∀x,scope.names.lookup x\.free->x∈dG
 sL:∀x∈scope.names,x.2≠.cell
def Cq(CX:vk)(P:Ad)(w:Af)(K:ai)(mg:Str->Option Aa)(base:Heap)(N:ag)(qual:Str)(scope:Scope)(f:Addr)(cd:Aa)(cl:List (Str × Addr))(A:Ag)(outer:List Env)(s:Ab)(H:Hp)(E:XK):Cx where
 prog:=P
 w:=w
 K:=K
 mg:=mg
 base:=base
 A:=A.deeper (envX qual scope s.heap.objs.size f cd cl)
 N:=N
 di:=s
 kq:=H
 env:=envX qual scope s.heap.objs.size f cd cl
 outer:=outer
 stack:=envX qual scope s.heap.objs.size f cd cl::outer
 ex:=[]
 calm:=true
 fn:=λ_=>false
 pn:=[]
 xe:=λe s'=>wpAny (model P w) (A.deeper (envX qual scope s.heap.objs.size f cd cl)) (leaving (envX qual scope s.heap.objs.size f cd cl) e) (λ_ pK=>CX outer H s E e pK) (λe' pK=>CX outer H s E e' pK) s'
theorem T6{x:Str}{u:Aa}:∀{l:List (Str × Aa)},(l.map (·.1)).Nodup->(x,u)∈l->l.lookup x\u
 |(y,v)::l,nd,h=>by
  let n:=kU.mp nd;rcases cg.mp h with e|h
  ·cases e;simp[List.lookup]
  have ne:x≠y:=λz=>n.1 (by rw[<- z];exact bx.mpr #[_,h,U]);have:(x == y)=false:=⇑ne
  rw[qp,this];exact T6 n.2 h
theorem SD:∀(ps:ag) (us:aj),((ps.zip us).map (·.1)).Sublist ps
 |[],_=>by simp
 |_::_,[]=>by simp
 |p::ps,u::us=>by
  simp only[List.zip_cons_cons,fE];exact (SD ps us).cons₂ p
variable{ps:ag}{us:aj}{x:Str}
theorem da_{i:Nat}{u:Aa}(nd:ps.Nodup)(h1:ps[i]? = some x)(h2:us[i]? = some u):(ps.zip us).reverse.lookup x\u:=by
 apply T6 ?_ (List.mem_reverse.mpr (cB (i:=i) ?_))
 ·rw[List.map_reverse];apply (List.reverse_perm _).nodup_iff.mpr (nd.sublist ?_);exact SD ps us
 rw[List.getElem?_zip_eq_some];exact#[h1,h2]
structure Jq (dG:ag) (cl:List (Str × Addr)) (gs:af) (h:Heap):Prop where
 inj:∀x y c,cl.lookup x\c->cl.lookup y\c->x=y
 has:∀x∈dG,∃c,cl.lookup x\c
 all:∀x c,cl.lookup x\c->∃v,h.IsCell c v
 is:∀(i:Nat) x v,dG[i]? = some x->gs[i]? = some v->∃c u,cl.lookup x\c/\RelV v u/\h.IsCell c (some u)
variable{h':Heap}{c:Addr}
theorem IsCell.keeps{h:Heap}{v:Option Aa}(x:h.IsCell c v)(k:∀o,h.get? c\o->h'.get? c\o):h'.IsCell c v:=let #[o,e,d]:=x;#[o,k o e,d]
variable{CX:vk}{w:Af}{mg:Str->Option Aa}{base:Heap}{dG:ag}{f:Addr}{cd:Aa}{A:Ag}{outer:List Env}{s:Ab}{E:XK}{gs:af}
theorem YQ{P:Ad}{K:ai}{qual:Str}{scope:Scope}{cl:List (Str × Addr)}{H:Hp}{vs:af}{h1:Heap}{tk:Nat}(S:Jr ps dG scope)(hd:A.handled=none)(e0:iH P w K mg base A outer s H)(hl:vs.length=ps.length)(hg:gs.length=dG.length)(r:Vals vs us)(C:Jq dG cl gs s.heap)(fc:∀x c,cl.lookup x\c->H c=none)(ns:h1.Ns s.heap.objs.size λx=>(ps.zip us).reverse.lookup x)(k:∀b o,s.heap.get? b\o->h1.get? b\o) :
  Inv (Cq CX P w K mg base (ps++dG) qual scope f cd cl A outer s H E) [] (vs.map some++gs.map some) H { s with heap:=h1,toks:=tk }:=by
 have vL:∀b:Addr,b∉(Cq CX P w K mg base (ps++dG) qual scope f cd cl A outer s H E).ex:=λb z=>absurd (show b∈([]:aw) from z) Y1
 apply#[#[e0.mod,S.kind,U,U,a9 _,C.inj,λy hy=>?_,λy c h=>(by cases h),λ_=>hd,Around.frames_deeper e0.frames,.inr #[U,U],λb z=>absurd z (vL b),e0.bs,e0.tU,λb _ _=>vL b,λb z=>absurd z (vL b),e0.fW,e0.wg],
  rfl,e0.bare,Un.kept k,#[_,ns,λi y v uL h2 h3=>?_],λy c h=>?_,e0.aE.fresh (a9 _),fc,λp hp=>absurd (show p∈([]:List (Addr × Obj)) from hp) Y1,e0.aE.kept k,?_]
 ·have hy:scope.names.lookup y\.cell∨scope.names.lookup y\.free:=hy;rcases hy with hy|hy
  ·exact absurd U (S.sL _ (qf hy))
  exact C.has y (S.all y hy)
 ·have uL:(ps++dG)[i]? = some y:=uL;by_cases hi:i<ps.length
  ·rw[w4 hi] at uL;rw[w4 (by simpa [hl] using hi),de] at h2;let#[v',hv,e]:=wY.mp h2;cases e;let#[u,hu,rv]:=r.get hv;apply#[u,rv,.inl #[S.par y (cB uL),?_]];have Ho:ps.Nodup:=(List.nodup_append.mp S.nd).1;show (ps.zip us).reverse.lookup y\u;exact da_ Ho uL hu
  rw[yP Y0] at uL;rw[yP (by simp[hl];omega),de,aq,hl] at h2;let#[v',hv,e]:=wY.mp h2;cases e;let#[c,u,e1,rv,ce]:=C.is _ _ _ uL hv;exact#[u,rv,.inr #[.inr (S.fv y (cB uL)),c,e1,IsCell.keeps ce λo e=>k _ _ e]]
 ·let#[v,ce]:=C.all y c h;exact#[v,IsCell.keeps ce λo e=>k _ _ e]
 show _=(ps++dG).length;rw[dM,dM,aq,aq,hl,hg]
variable{k:Nat}{c':Addr}
theorem Yi{P:Ad}{K:ai}{qual:Str}{params:Arguments}{body:PySem.Expr}{scope:Scope}{pm kK:Aa}{cl:List (Str × Addr)}{H:Hp}{Q:VK}{vs:af}{t:TE}(S:Jr ps dG scope)(hr:aY (k+1) A)(e0:iH P w K mg base A outer s H)(hf:s.heap.get? f\kla_obj "<lambda>" qual params body scope cl pm c' kK)(iy:s.heap.CodeRec (.ref c') qual)(hb:bindArgs (kla_fn "<lambda>" qual params body scope cl pm (.ref c') kK) #[us,[]]=pure (ps.zip us))(hl:vs.length=ps.length)(hg:gs.length=dG.length)(r:Vals vs us)(C:Jq dG cl gs s.heap)(fc:∀x c,cl.lookup x\c->H c=none)(ht:aY k (A.deeper (envX qual scope s.heap.objs.size f (.ref c') cl))->PE (Cq CX P w K mg base (ps++dG) qual scope f (.ref c') cl A outer s H E) body t)(hq:t (vs.map some++gs.map some) H Q) :
  codeAny (model P w) A (.call (.ref f) #[us,[]]) (CR CX outer P w H s Q E) s:=by
 have lim:s.heap.NoLimit:=e0.mod.nolimit.keeps λb o e=>(e0.bs b o e).1;apply kla_callFunE hr.depth hf U S.co S.gen U iy ?_;rw[hb];apply aH (wpAny_newFunctionEnv S.sL (λx hx=>?_) (λh1 ns sb=>?_) S.kind)
 ·exact S.par x.1 (List.of_mem_zip hx).1
 have k1:∀b o,s.heap.get? b\o->h1.get? b\o:=λb o e=>sb.extBut b o (dE (bK e)) (bo _ e);apply#[lim.keeps k1,?_];show codeAny _ _ (.expr body (envX qual scope s.heap.objs.size f (.ref c') cl)) _ _;let I:=YQ (CX:=CX) (qual:=qual) (f:=f) (cd:=.ref c') (E:=E) (tk:=s.toks+(ps.zip us).length) S hr.hd e0 hl hg r C fc ns k1;apply kla_codeExpr (wpAny_mono (ht (hr.deeper _) [] _ _ H _ I hq) (λv s' hs=>?_) λe s' hs=>hs);let#[x,H',J,rv,q]:=hs;exact#[x,H',J.os,J.bare,J.base,J.aE,rv,q]
def jL(f:Addr)(qual:Str)(params:Arguments)(body:PySem.Expr)(scope:Scope)(cl:List (Str × Addr))(c':Addr):HO:=.ext λh=>∃pm kK,h.get? f\kla_obj "<lambda>" qual params body scope cl pm c' kK
def Bg(c':Addr)(qual:Str):HO:=.ext λh=>∃o vs t,h.get? c'\o/\o.data=.fields vs/\vs[1]? = some (.str qual t)
inductive xn (P:Addr) (qual:Str) (params:Arguments) (body:PySem.Expr) (scope:Scope) (pos:Pos) (cl:List (Str × Addr)) (H:Hp) (Q:VK):Prop
 |mk:∀ps,H P\.tbl ps->TriplesOk ps.toList->((codeAmong pos ps.toList=none/\∀c' f,H c'=none->H f=none->c'≠f->Q (.ref f) (upd (upd (upd H P (.tbl (ps++(List.toArray [rawInt pos.line,rawInt pos.col,.ref c'])))) c' (Bg c' qual)) f (jL f qual params body scope cl c')))∨∃c',codeAmong pos ps.toList\.ref c'/\∀f,H f=none->Q (.ref f) (upd H f (jL f qual params body scope cl c')))->xn P qual params body scope pos cl H Q
def Dk(P:Addr)(qual:Str)(params:Arguments)(body:PySem.Expr)(scope:Scope)(pos:Pos)(cl:List (Str × Addr)):TE:=λ_ H Q=>xn P qual params body scope pos cl H Q
variable{X:Cx}{pos:Pos}
theorem X6{params:Arguments}{body:PySem.Expr}{scope:Scope}{cl:List (Str × Addr)}{P:Addr}(Mf:defaultsOf params X.env=([],[]))(v_:closureFor scope X.env=pure cl)(ya:X.env.code=.ref c)(C:CodeHd X.base c P)(hbm:X.base.BuiltinsAt X.mg P) :
  PE X (.Lambda params body scope pos) (Dk P (X.env.qual++"<lambda>") params body scope pos cl):=by
 intro pins s σ H Q I h;let#[ps,hP,ht,h]:=h;have R_:s.heap.get? P\tabObj ps:=I.aE P _ hP
 have RT:H mainGlobals=none:=by
  let#[o,_,_,e,_]:=I.mod.glob;exact (I.bs _ _ e).2
 apply kla_eval Mf ?_;rcases h with⟨hn,q⟩|⟨c',hf,q⟩
 ·apply kla_makeFunction v_ I.ok.glob (I.mod.glob.keeps I.bk) ya (C.keeps I.bk) R_ ht hn (λz=>by rw[z,hP] at RT;cases RT) (hbm.keeps I.bk) λc' kK h' tk hx L4 dQ LB Rx=>?_;have fz:s.heap.objs.size<=h'.objs.size:=ic L4 (Nat.le_of_lt dQ);have nc:H c'=none:=I.aE.fresh L4;have nf:H h'.objs.size=none:=I.aE.fresh fz;have cf:c'≠h'.objs.size:=dE dQ;have Pc:P≠c':=bG hP nc;have Pf:P≠h'.objs.size:=bG hP nf
  have old:∀{b u},H b\u->b≠P->upd (upd (upd H P (.tbl (ps++(List.toArray [rawInt pos.line,rawInt pos.col,.ref c'])))) c' (Bg c' (X.env.qual++"<lambda>"))) h'.objs.size (jL h'.objs.size (X.env.qual++"<lambda>") params body scope cl c') b\u:=λ{b u} e n=>by
   rw[aA (bG e nf),aA (bG e nc),aA n];exact e
  have sr:∀{b u},H b\u->(∀ps,u≠.tbl ps)->b≠P:=λ{b u} e n z=>by
   rw[z,hP] at e;cases e;exact n _ U
  have kp:∀b o,b≠P->s.heap.get? b\o->(h'.push (kla_obj "<lambda>" (X.env.qual++"<lambda>") params body scope cl ((X.mg "__name__").getD .none) c' kK)).get? b\o:=λb o n e=>bo _ (hx b o n e);apply#[.ref h'.objs.size,_,I.un (t':=tk) #[λb o e n _ _=>kp b o (λz=>by rw[z,hP] at n;cases n) e,λb o e n _ _=>#[o.slots,kp b o (λz=>by rw[z,hP] at n;cases n) e],λb o e n _=>?_,λb o e _=>?_,λb xs e=>old e (sr e Y1),λb o u e=>old e (sr e Y1),λb qs e=>?_] (λb u e=>?_),U,q c' h'.objs.size nc nf cf]
  ·let lt:=bK e;rw[aA (dE (jz lt fz)),aA (dE (jz lt L4)),aA (λz=>by rw[z,hP] at n;cases n)];exact n
  ·by_cases z:b=P
   ·subst z;exact#[_,bo _ Rx]
   exact#[o,kp b o z e]
  ·by_cases z:b=P
   ·subst z;rw[hP] at e;cases e;exact#[_,by rw[aA Pf,aA Pc,ay]]
   exact#[#[],by rw[Array.append_empty];exact old e z]
  by_cases z1:b=h'.objs.size
  ·subst z1;rw[ay] at e;cases e;exact#[#[_,_,dj _ U],#[_,dj _ U],λh1 h2 ⟨pm,cv,e1⟩ k=>#[pm,cv,k _ e1]]
  rw[aA z1] at e;by_cases z2:b=c'
  ·subst z2;rw[ay] at e;cases e;let#[c2,oc,vs,t,ec,EL,hd,hv]:=LB;cases ec;exact#[#[oc,vs,t,bo _ EL,hd,hv],#[_,bo _ EL],λh1 h2 ⟨o,vs,t,e1,r⟩ k=>#[o,vs,t,k _ e1,r]]
  rw[aA z2] at e;by_cases z3:b=P
  ·subst z3;rw[ay] at e;cases e;exact bo _ Rx
  rw[aA z3] at e;apply (I.aE b u e).cA (λd v hd e1=>kp d v ?_ e1) (λd e1=>old e1 (sr e1 Y1)) λd xs e1=>old e1 (sr e1 Y1);rcases hd with rfl|hd
  ·exact z3
  exact sr hd Y1
 apply kla_makeFunctionHit v_ I.ok.glob (I.mod.glob.keeps I.bk) ya (C.keeps I.bk) R_ ht hf (hbm.keeps I.bk) λkK h' tk hk hsz=>?_;have nf:H h'.objs.size=none:=I.aE.fresh hsz;apply#[.ref h'.objs.size,_,I.laid (t':=tk) (λb o e=>bo _ (hk b o e)) hsz ?_,U,q _ nf];exact#[#[_,_,dj _ U],#[_,dj _ U],λh1 h2 ⟨pm,cv,e1⟩ k=>#[pm,cv,k _ e1]]
variable{P:Ad}{N:ag}
theorem vJ{K:ai}{qual:Str}{scope:Scope}{cl:List (Str × Addr)}{H:Hp}:wR bc (Cq bc P w K mg base N qual scope f cd cl A outer s H E) E:=λ_ _ _ _ _ _ _ h=>h.elim
section
variable{cs:List (Addr × Obj)}{H H':Hp}{b:Addr}{o:Obj}{u:HO}
variable{P:Ad}{w:Af}{h:Heap}
end
section
variable{X:Cx}{pins:List (Addr × Obj)}{σ:St}{H:Hp}{s s':Ab}{cs:List (Addr × Obj)}
def ko(P:Ad)(w:Af)(K:ai)(mg:Str->Option Aa)(base:Heap)(k:Nat)(qual:Str)(params:Arguments)(body:PySem.Expr)(scope:Scope)(ps dG:ag)(sp:af->af->Hp->VK->XK->Prop):Prop:=
 ∀(A:Ag) (outer:List Env) (s:Ab) (H:Hp) (f c':Addr) (pm kK:Aa) (cl:List (Str × Addr)) (us:aj) (vs gs:af) (Q:VK) (E:XK),aY k A->iH P w K mg base A outer s H->s.heap.get? f\kla_obj "<lambda>" qual params body scope cl pm c' kK->s.heap.CodeRec (.ref c') qual->
  vs.length=ps.length->gs.length=dG.length->Vals vs us->Jq dG cl gs s.heap->(∀x c,cl.lookup x\c->H c=none)->sp vs gs H Q E->codeAny (model P w) A (.call (.ref f) #[us,[]]) (CR bc outer P w H s Q E) s
theorem Ed{K:ai}{qual:Str}{params:Arguments}{body:PySem.Expr}{scope:Scope}{sp:af->af->Hp->VK->XK->Prop}(S:Jr ps dG scope)(hb:∀pm c' kK cl us,us.length=ps.length->bindArgs (kla_fn "<lambda>" qual params body scope cl pm (.ref c') kK) #[us,[]]=pure (ps.zip us))(fU:∀(A:Ag) (outer:List Env) (s:Ab) (H:Hp) (f:Addr) (cd:Aa) (cl:List (Str × Addr)) (vs gs:af) (Q:VK) (E:XK),aY k (A.deeper (envX qual scope s.heap.objs.size f cd cl))->sp vs gs H Q E->wR bc (Cq bc P w K mg base (ps++dG) qual scope f cd cl A outer s H E) E->
   ∃t,PE (Cq bc P w K mg base (ps++dG) qual scope f cd cl A outer s H E) body t/\t (vs.map some++gs.map some) H Q):!ko (k+1) qual params body scope ps dG sp:=by
 intro A outer s H f c' pm kK cl us vs gs Q E hr e0 hf iy hl hg r C fc kF;let#[t,ht,hq]:=fU A outer s H f (.ref c') cl vs gs Q E (hr.deeper _) kF vJ;exact Yi S hr e0 hf iy (hb pm c' kK cl us (by rw[<- r.length];exact hl)) hl hg r C fc (λ_=>ht) hq
end
structure JW (dG:ag) (cl:List (Str × Addr)) (cs:List (Addr × Obj)) (gs:af):Prop where
 len:gs.length=dG.length
 inj:∀x y c,cl.lookup x\c->cl.lookup y\c->x=y
 has:∀x∈dG,∃c,cl.lookup x\c
 all:∀x c,cl.lookup x\c->∃o v,cs.lookup c\o/\o.data=.cell v
 is:∀(i:Nat) x v,dG[i]? = some x->gs[i]? = some v->∃c o u,cl.lookup x\c/\cs.lookup c\o/\o.data=.cell (some u)/\RelV v u
section
variable{X:Cx}{k:Nat}{x:Str}{p pos:Pos}{tn:TE}{qual:Str}{params:Arguments}{body:PySem.Expr}{scope:Scope}{dG ps:ag}{BQ:af->af->Hp->VK->XK->Prop}{E:XK}
end
section
variable{X:Cx}{k:Nat}{x:Str}{p pos:Pos}{e:PySem.Expr}{es:List PySem.Expr}{ta:TA}{dG ps:ag}{sp:Sp}{f:Addr}{fd:Ae}{cl:List (Str × Addr)}{is:List Nat}
end
variable{a:Addr}{ts:aw}{fd:Ae}
theorem hI_{K:ai}{mb:Str->Option Aa}{fa:Addr}{sp:Sp}{aL:Ab}{vs:aj}{ns:List Int}(hT:∀T∈ts,K.lookup T=none)(eT:∀T∈ts,aL.heap.get? T\tabObj #[])(AQ:∀T∈ts,isCodeTable aL.heap T)(KX:K.In aL.heap)(LN:aL.heap.Ns mainGlobals mg)(hb:aL.heap.Ns builtinsNs mb)(hbb:∀x:Str,x≠"__name__"->mb x=bootBuiltins x)(LV:aL.heap.NoLimit)(hg:aL.gens=#[])(ha:aL.heap.get? a=some { cls:=.type "list",data:=.seq vs.toArray })(hi:IntsAre vs ns)(hl:ns.length<=sizeLine)(hr:aY k callerA)(hbm:∃bm ob,mg "__builtins__"\.ref bm/\bm≠builtinsNs/\aL.heap.get? bm\ob/\ob.cls=.type "module"/\ob.dict\builtinsNs/\ob.data=.plain)(F:∀base:Heap,K.In base->base.Ns mainGlobals mg->(∀T∈ts,base.BuiltinsAt mg T)->!ak CX k fa fd [x] sp)(Fb:∀(s:Ab) (u:Aa),BindsTo s fd #[[u],[]] [(x,u)])(kF:∀H:Hp,(∀T∈ts,H T\.tbl #[])->d5 K H a (ns.map V.int)->sp [.ref a] H (λv _=>v=.bl true) λ_ _ _=>False)(Mr:∀H e s',CX [] H aL (λ_ _ _=>False) e s'->False) :
  codeAny (model P w) callerA (.call (.ref fa) #[[.ref a],[]]) (λr s'=>r=.ok (.ret (.bool true))/\OldK aL.heap s'.heap/\s'.os=aL.os/\AllBare s'.gens) aL:=by
 let rv:=Ug hi;let Ld:=hi.length
 have aT:∀{b},b∈ts->b≠a:=λ{b} hb z=>by
  have:=eT b hb;rw[z,ha] at this;cases this
 have core:∀H:Hp,(∀b,H b=none∨(b∈ts/\H b\.tbl #[])∨(b∉ts/\∃o xs,H b\.frz o (.lst xs)))->(∀T∈ts,H T\.tbl #[])->d5 K H a (ns.map V.int)->fQ P w H aL.heap->(∀b,H b≠none->b=a∨b∈ts)->(H a≠none->K.lookup a=none)->
   codeAny (model P w) callerA (.call (.ref fa) #[[.ref a],[]]) (λr s'=>r=.ok (.ret (.bool true))/\OldK aL.heap s'.heap/\s'.os=aL.os/\AllBare s'.gens) aL:=by
  intro H hO hHT hS aE hA hK;have i9:∀{b:Addr} {o:Obj},aL.heap.get? b\o->H b=none->(ix aL.heap H).get? b\o:=λe n=>ZR e n
  have vL:∀{b:Addr} {o:Obj} {es:Array DictEntry} {ep:Nat},aL.heap.get? b\o->o.data=.dict es ep->H b=none:=λ{b o es ep} e d=>by
   cases q:H b with
   |none=>rfl
   |some u=>
    rcases hA b (by rw[q];simp) with e'|e'
    ·subst e';rw[ha] at e;cases e;have d':Data.seq vs.toArray _=Data.dict es ep:=d;cases d'
    rw[eT b e'] at e;cases e;cases d
  have Hl:∀{b:Addr} {m:Str->Option Aa},aL.heap.Ns b m->(ix aL.heap H).Ns b m:=λ{b m} ⟨o,es,ep,e,d,r⟩=>#[o,es,ep,i9 e (vL e d),d,r]
  have Sg:K.In (ix aL.heap H):=λb o e=>i9 (KX b o e) (by
   cases q:H b with
   |none=>rfl
   |some u=>
    rcases hA b (by rw[q];simp) with e'|e'
    ·subst e';rw[hK (by rw[q];simp)] at e;cases e
    rw[hT b e'] at e;cases e)
  have hB:∀T∈ts,(ix aL.heap H).BuiltinsAt mg T:=λT Fk=>by
   let#[bm,ob,h1,h2,h3,h4,h5,h6]:=hbm
   have n1:bm≠mainGlobals:=λz=>by
    let#[o,es,ep,e,d,_]:=LN;rw[z,e] at h3;cases h3;rw[d] at h6;cases h6
   have n2:∀{b},b∈ts->bm≠b:=λ{b} hb z=>by
    rw[z,eT b hb] at h3;cases h3;cases h6
   apply#[bm,ob,h1,h2,n1,n2 Fk,i9 h3 ?_,h4,h5,h6];cases q:H bm with
   |none=>rfl
   |some u=>
    rcases hA bm (by rw[q];simp) with e'|e'
    ·subst e';rw[ha] at h3;cases h3;cases h6
    exact absurd U (n2 e')
  have hM:Mod K mg (ix aL.heap H):=#[Sg,Hl LN,#[mb,Hl hb,hbb],let #[mc,h1,h2]:=LV;#[mc,Hl h1,h2]];have e0:iH P w K mg (ix aL.heap H) callerA [] aL H:=#[U,hM,λb o e=>YT e,Nat.le_of_eq (gA_ _ _),trivial,λb hb=>absurd (show b∈([]:aw) from hb) Y1,aE,.of_eq hg];apply codeAny_mono ((F _ Sg (Hl LN) hB).run callerA [] aL H #[[.ref a],[]] [.ref a] [.ref a] _ _ hr e0 (Fb aL (.ref a)) (.cons U .nil) (kF H hHT hS)) λr s' h=>?_;cases r with
  |error e=>exact (Mr H e s' h).elim
  |ok fl=>
   cases fl with
   |next=>exact False.elim h
   |brk=>exact False.elim h
   |cont=>exact False.elim h
   |ret u=>
    let#[v,H',os,bare,un,EJ,r',q]:=h;have q':v=.bl true:=q;subst q';obtain rfl:u=Value.bool true:=r'
    have main:∀b o,aL.heap.get? b\o->s'.heap.get? b\o∨(b∈ts/\o=tabObj #[]/\∃more,s'.heap.get? b\tabObj (#[]++more)):=λb o e=>by
     cases q:H b with
     |none=>exact .inl (un.keep b o e q (by intro z;exact absurd (show b∈([]:aw) from z) Y1) Y1)
     |some u=>
      rcases hO b with z|⟨zT,z⟩|⟨_,ob,xs,z⟩
      ·rw[q] at z;cases z
      ·rw[eT b zT] at e;cases e;let#[more,z]:=un.ik b _ z;exact .inr #[zT,U,more,EJ b _ z]
      let z2:=un.hG b ob _ z;let#[e1,_]:=aE b _ z;let#[e2,_]:=EJ b _ z2;rw[e] at e1;cases e1;exact .inl e2
    apply#[U,#[λb o e=>?_,λb o e=>?_],os,bare]
    ·rcases main b o e with z|⟨zT,rfl,more,z⟩
     ·exact .inl z
     exact .inr (.inl #[AQ b zT,U,_,_,U,z])
    rcases main b o e with z|⟨_,_,more,z⟩
    ·exact#[_,z]
    exact#[_,z]
 cases hk:K.lookup a with
 |some o=>
  let e:=KX a o hk;rw[ha] at e;cases e;apply core (λb=>if b∈ts then some (.tbl #[]) else none) (λb=>?_) (λT h=>aK h) (.inr #[_,vs.toArray,_,hk,U,U,U,by rw[cY,Ld];exact hl,by simpa using rv]) (λb u z=>?_) (λb z=>?_) λz=>absurd (aC λq=>aT q U) z
  ·by_cases hb:b∈ts
   ·exact .inr (.inl #[hb,aK hb])
   exact .inl (aC hb)
  ·by_cases hb:b∈ts
   ·let z':=(aK hb).symm.trans z;cases z';exact eT b hb
   let z':=(aC hb).symm.trans z;cases z'
  ·by_cases hb:b∈ts
   ·exact .inr hb
   ·exact absurd (aC hb) z
 |none=>
  have T2:∀{b:Addr},b∈ts->(λb=>if b∈ts then some (.tbl #[]) else if b=a then some (HO.frz { cls:=.type "list",data:=.seq vs.toArray } (.lst (ns.map V.int))) else none) b\.tbl #[]:=λ{b} hb=>aK hb;apply core (λb=>if b∈ts then some (.tbl #[]) else if b=a then some (.frz { cls:=.type "list",data:=.seq vs.toArray } (.lst (ns.map V.int))) else none) (λb=>?_) (λT h=>aK h) (.inl (.inr #[{ cls:=.type "list",data:=.seq vs.toArray },(aC λq=>aT q U).trans (aK U)])) (λb u z=>?_) (λb z=>?_) λ_=>hk
  ·by_cases l8:b∈ts
   ·exact .inr (.inl #[l8,aK l8])
   by_cases hb:b=a
   ·exact .inr (.inr #[l8,_,_,(aC l8).trans (aK hb)])
   exact .inl ((aC l8).trans (aC hb))
  ·by_cases l8:b∈ts
   ·let z':=(aK l8).symm.trans z;cases z';exact eT b l8
   by_cases hb:b=a
   ·let z':=((aC l8).trans (aK hb)).symm.trans z;cases z';subst hb;exact#[ha,by rw[aq];exact hl,vs,_,rv,ha]
   let z':=((aC l8).trans (aC hb)).symm.trans z;cases z'
  by_cases l8:b∈ts
  ·exact .inr l8
  by_cases hb:b=a
  ·exact .inl hb
  exact absurd ((aC l8).trans (aC hb)) z
variable{T:Addr}
theorem fB_{K:ai}(h:T∉K.map (·.1)):K.lookup T=none:=by
 induction K with
 |nil=>rfl
 |cons p K ih=>
  let#[b,o]:=p;simp only[fE,cg,not_or] at h;rw[qp,show (T == b)=false by simpa using h.1];exact ih h.2
variable{n:Nat}
theorem qv{l:PySem.W.OpenLaw}{q:Ad}{loose:ag}{XP:(Str->Option Aa)->Heap->Prop}{d:DefRec}{K:Params->ai}{as:aw}{IR:∀P:Params,as=(K P).map (·.1)}{CX:Af->vk}{sp:Af->Sp}(hn:l.most\n)(x6:n<=sizeLine)(E_:d.params.defaults=[])(hr:aY k callerA)(Ly:(ts.all λT=>!as.contains T)=true)(F:∀(w:Af) (mg:Str->Option Aa) (fa:Addr) (h:Heap),(K w.params).In h->h.Ns mainGlobals mg->mg d.name\.ref fa->
   ∃fd:Ae,(∀(s:Ab) (u:Aa),BindsTo s fd #[[u],[]] [(x,u)])/\(∀T∈ts,isCodeTable h T) /\
    ∀base:Heap,(K w.params).In base->base.Ns mainGlobals mg->(∀T∈ts,base.BuiltinsAt mg T)->ak l.prog w (K w.params) mg base (CX w) k fa fd [x] (sp w))(kF:∀(w:Af) (H:Hp) (a:Addr) (ns:List Int),ns.length<=n->(∀T∈ts,H T\.tbl #[])->d5 (K w.params) H a (ns.map V.int)->sp w [.ref a] H (λv _=>v=.bl true) λ_ _ _=>False)(Mr:∀(w:Af) (H:Hp) (s:Ab) (e:Aa) (s':Ab),CX w [] H s (λ_ _ _=>False) e s'->False) :
  PySem.W.WalkO q loose XP (kmHook K as IR ts).says l.row.toRowW d [] (λf vs=>PySem.call f vs):=by
 apply Ve.j6 hn E_ λw di aL mg mb fa o pm cd doc a vs ns G Y ho hd iy hmg AB hints hlen hg=>?_;have KX:(K w.params).In aL.heap:=km_in_of Y;have eT:∀T∈ts,aL.heap.get? T\tabObj #[]:=Y.2;let#[fd,hb,AQ,hF]:=F w mg fa _ KX G.T.g hmg;apply hI_ (λT h=>fB_ ?_) eT AQ KX G.T.g G.T.b G.T.builtins G.T.nolimit hg AB hints (ic hlen x6) hr G.T.bmain hF hb (λH hO hS=>kF w H a ns hlen hO hS) λH e s'=>Mr w H aL e s';have:=List.all_eq_true.mp Ly T h;rw[<- IR w.params];simpa using this
open PySem.W in
def mj:List (Pos × Addr)->aj
 |[]=>[]
 |(p,c)::es=>rawInt p.line::rawInt p.col::.ref c::mj es
def mz(H:Hp)(T:Addr)(qual:Str):Prop:=∃es:List (Pos × Addr),H T\.tbl (mj es).toArray/\∀e∈es,H e.2\Bg e.2 qual
variable{H':Hp}
theorem mz.same{H:Hp}{qual:Str}(s:aa H H')(h:mz H T qual):mz H' T qual:=by
 let#[es,a,b]:=h;exact#[es,s _ _ a,λe he=>s _ _ (b e he)]
theorem Ta:∀es:List (Pos × Addr),TriplesOk (mj es)
 |[]=>trivial
 |(p,c)::es=>by
  have:=Ta es;simp[mj,TriplesOk,rawInt,this]
theorem Tt:∀(es:List (Pos × Addr)) (p:Pos) (c:Addr),mj (es++[(p,c)])=mj es++[rawInt p.line,rawInt p.col,.ref c]
 |[],p,c=>rfl
 |(p',c')::es,p,c=>by
  show rawInt p'.line::rawInt p'.col::.ref c'::mj (es++[(p,c)])=_;rw[Tt es p c];rfl
theorem UP(pos:Pos):∀es:List (Pos × Addr),codeAmong pos (mj es)=none∨∃e∈es,codeAmong pos (mj es)\.ref e.2
 |[]=>.inl U
 |(p,c)::es=>by
  by_cases h:codeAmong pos (mj ((p,c)::es))\.ref c
  ·exact .inr #[(p,c),fY,h]
  have e:codeAmong pos (mj ((p,c)::es))=codeAmong pos (mj es):=by
   show codeAmong pos (rawInt p.line::rawInt p.col::.ref c::mj es)=_;have h:¬codeAmong pos (rawInt p.line::rawInt p.col::.ref c::mj es)=some (.ref c):=h;simp only[codeAmong,rawInt] at h ⊢;split at h
   ·exact absurd U h
   rename_i q
   rw[aC q]
  rcases UP pos es with q|⟨x,hx,q⟩
  ·exact .inl (e.trans q)
  exact .inr #[x,fo _ hx,e.trans q]
open qt
section
variable{X:Cx}{pins:List (Addr × Obj)}{σ:St}{H:Hp}{s:Ab}
theorem Inv.yY{t':Nat}{fp:aw}{ys:af}{its:aj}(I:Inv X pins σ H s)(k:∀b o,b∉fp->s.heap.get? b\o->h'.get? b\o)(hf:∀b∈fp,dk X pins H b)(hT:T∈fp)(hz:ys.length<=sizeLine)(r:Vals ys its)(ht:h'.get? T=some { cls:=.type "list",data:=.seq its.toArray n }):Inv X pins σ (upd H T (.lst ys)) { s with heap:=h',toks:=t' }:=by
 have fT:H T=none:=(hf T hT).1;have nf:∀b u,H b\u->b∉fp:=λb u e hb=>by rw[(hf b hb).1] at e;cases e
 have old:∀{b u},H b\u->upd H T (.lst ys) b\u:=λe=>by rw[aA (bG e fT)];exact e
 apply I.step (g':=s.gens) (d':=s.drawn) (ch:=fp) (λb hb=>?_) (λb o _ _ hc e _=>k b o hc e) (λb o _ _ hc e _=>#[o.slots,k b o hc e]) (λb o hc e n=>?_)
  (λb o hc e=>#[o,k b o hc e]) (λb ys e=>old e) (λb o u e=>old e) (λb ps e=>#[#[],by rw[Array.append_empty];exact old e]) (λm hm=>?_) (λb u e=>?_) I.bare
 ·let#[f0,f1,f2,f3,f4,f5]:=hf b hb;exact#[f3,f1,f4,f5]
 ·rw[aA (λz=>hc (by rw[z];exact hT))];exact n
 ·let#[o,es,ep,ho,r]:=hm;exact#[o,es,ep,k _ o (λhb=>(hf _ hb).2.1 U) ho,r]
 by_cases z:b=T
 ·subst z;rw[ay] at e;cases e;exact#[hz,its,n,r,ht]
 rw[aA z] at e;apply (I.aE b u e).cA (λc v hc q=>k c v ?_ q) (λ_ q=>old q) λ_ _ q=>old q;rcases hc with z|z
 ·rw[z];exact nf b u e
 exact nf c _ z
theorem dk.at{b:Addr}(f:dk X pins H b)(n:H' b=none):dk X pins H' b:=#[n,f.2]
end
variable{xs zs:af}
section
variable{X:Cx}{pins:List (Addr × Obj)}{σ:St}{H:Hp}{s:Ab}{B:Ag}
theorem Y3{kf:V->aD}{p:Array Nat}(g:Good xs.length p)(up:Up (λi j=>bM ((xs.map kf).getD i []) ((xs.map kf).getD j [])) p xs.length)(ez:zs=p.toList.map λi=>xs.getD i .non):zs.Perm xs/\zs.map kf=bh (xs.map kf):=by
 have gk:Good (xs.map kf).length p:=by rw[aq];exact g
 let asc:=MY (ks:=xs.map kf) (λi j _ _=>rfl) gk (by rw[aq];exact up)
 have perm:(p.toList.map λi=>(xs.map kf).getD i []).Perm (xs.map kf):=by
  have:=GB gk λi=>(xs.map kf).getD i [];rwa [GH] at this
 let es:=OE perm asc;apply#[?_,?_]
 ·have:=GB (n:=xs.length) g λi=>xs.getD i .non;rw[GH] at this;rw[ez];exact this
 rw[<- es,ez,cy];apply u6 λi hi=>?_;have m:i∈(List.range xs.length).toArray:=g.mem_iff.mp ⇑hi;have m:i<xs.length:=⇑m
 show kf (xs.getD i .non)=(xs.map kf).getD i [];simp[List.getD,m]
end
section
variable{X:Cx}{pins:List (Addr × Obj)}{σ:St}{H:Hp}{s:Ab}
theorem Inv.tN{cl:List (Str × Addr)}{is:List Nat}(I:Inv X pins σ H s)(jr:∀q∈cl,X.env.cells.lookup q.1\q.2)(v_:∀x∈dG,∃c,cl.lookup x\c)(E3:∀x∈dG,X.env.scope.names.lookup x\.cell)(hN:is.map (λi=>X.N[i]?)=dG.map some)(Ce:is.map (λi=>σ[i]?)=gs.map (λv=>some (some v))):gs.length=dG.length/\Jq dG cl gs s.heap/\∀x c,cl.lookup x\c->H c=none:=by
 have lk:∀{x c},cl.lookup x\c->(x,c)∈cl:=λe=>qf e;apply#[?_,#[λa b c h1 h2=>I.ok.inj a b c (jr _ (lk h1)) (jr _ (lk h2)),v_,λa c h1=>I.cell a c (jr _ (lk h1)),λj a v h1 h2=>?_],λx c e=>I.eG x c (jr _ (lk e))]
 ·let a:=eW List.length Ce;let b:=eW List.length hN;simp only[aq] at a b;omega
 let#[c,hc]:=v_ a (cB h1);have e1:(is.map λi=>X.N[i]?)[j]? = some (some a):=by rw[hN,de,h1];rfl
 have e2:(is.map λi=>σ[i]?)[j]? = some (some (some v)):=by rw[Ce,de,h2];rfl
 rw[de] at e1 e2;let#[i,hi,e1]:=wY.mp e1;rw[hi] at e2;have e2:σ[i]? = some (some v):=dN e2;let#[m,_,hl]:=I.loc;let kd:=E3 a (cB h1);let#[u,ru,lo]:=hl i a v e1 e2 (.inr (.inl kd));rcases lo with⟨z,_⟩|⟨_,c2,e3,o,e4,e5⟩
 ·have z:X.env.scope.names.lookup a\.local:=z;rw[kd] at z;cases z
 rw[jr _ (lk hc)] at e3;cases e3;exact#[c,u,hc,ru,o,e4,e5]
end
def Pz(K:ai)(H:Hp)(x:V)(xs:af):Prop:=(∃l,x=.ref l/\d5 K H l xs)∨∃d kvs,x=.ref d/\H d\.dK kvs/\xs=kvs.map λkv=>kV kv.1
variable{kf:V->Str}
theorem hF_(h:(zs.map λx=>bP (kf x))=bh (xs.map λx=>bP (kf x))):zs.map kf=iE (xs.map kf):=by
 apply Te ?_;rw[Ol,cy,cy];exact h
theorem fJ_{prog:Ad}{vs:aj}(r:StrsAre vs (xs.map kf))(h2:2<=vs.length):uz prog w A (λi j=>bM ((xs.map λx=>bP (kf x)).getD i []) ((xs.map λx=>bP (kf x)).getD j [])) vs s:=by
 have:=To (prog:=prog) (w:=w) (A:=A) (s:=s) r h2;rw[cy] at this;exact this
variable{E:Aa->Ab->Prop}{B:Ag}{H0:Hp}
section
variable{X:Cx}{pins:List (Addr × Obj)}{σ:St}{H:Hp}{s:Ab}
def IJ(X:Cx)(σ:St)(B:Ag)(fv:Aa)(H0:Hp)(kf:V->Str)(xs:af):Prop:=
 ∀(pins:List (Addr × Obj)) (H:Hp) (s:Ab) (x:V) (u:Aa),Inv X pins σ H s->aa H0 H->x∈xs->RelV x u->
  wpAny (model X.prog X.w) B (call fv [u]) (EP X pins σ λv H'=>aa H H'/\v=.str (kf x)) (λ_ _=>False) s
theorem ZY{fv:Aa}{kS:Addr}{e1:Nat}{all:af}{Q:PUnit->Ab->Prop}{body:Aa->PUnit->Sem (ForInStep PUnit)}(l5:a≠kS)(jV:IJ X σ B fv H0 kf all)(hb:∀(u:Aa) (s:Ab) (Qb:ForInStep PUnit->Ab->Prop),wpAny (model X.prog X.w) B (call fv [u]) (λk s'=>wpAny (model X.prog X.w) B (Builtin.List.listUpdate (.ref kS) (·.push k)) (λ_ pK=>Qb (.yield ⟨⟩) pK) E s') (λ_ _=>False) s->wpAny (model X.prog X.w) B (body u ⟨⟩) Qb E s) :
  ∀(xs:af) (us:aj) (ks:af) (kvs:aj) (kk:ag) (H:Hp) (s:Ab) (c:Nat),Vals xs us->(∀x∈xs,x∈all)->Inv X pins σ H s->aa H0 H->dk X pins H a->dk X pins H kS->s.heap.get? a\seqObj "list" #[] e1->s.heap.get? kS\seqObj "list" kvs.toArray c->
   Vals ks kvs->ks=kk.map V.str->kvs.length+us.length<64->
   (∀H' s' fC c',Inv X pins σ H' s'->aa H0 H'->dk X pins H' a->dk X pins H' kS->s'.heap.get? a\seqObj "list" #[] e1->s'.heap.get? kS\seqObj "list" fC.toArray c'->fC.length=kvs.length+us.length->(∃iW,Vals iW fC/\iW=(kk++xs.map kf).map V.str)->Q ⟨⟩ s')->
   wpAny (model X.prog X.w) B (forIn us PUnit.unit body) Q E s:=by
 intro xs
 induction xs with
 |nil=>
  intro us ks kvs kk H s c rv _ I sm fa fk ha hk r t _ q;cases rv;rw[List.forIn_nil];exact aH (q H s kvs c I sm fa fk ha hk Y1 #[ks,r,by simpa using t])
 |cons x xs ih=>
  intro us ks kvs kk H s c rv hx I sm fa fk ha hk r t hz q
  obtain⟨u,us,rfl,ru,rr⟩:∃u P3,us=u::P3/\RelV x u/\Vals xs P3:=by
   cases rv with
   |cons h t=>exact#[_,_,U,h,t]
  rw[List.forIn_cons];rw[jy] at hz;apply ae (hb u s _ ?_)
  have hf:∀b∈[a,kS],dk X pins H b:=λb hb=>by
   rcases cg.mp hb with rfl|hb
   ·exact fa
   obtain rfl:b=kS:=⇑hb
   exact fk
  let I1:=I.pinned (fp:=[a,kS]) hf (λb hb=>by
   rcases cg.mp hb with rfl|hb
   ·exact#[_,ha,λv z=>by cases z]
   obtain rfl:b=kS:=⇑hb
   exact#[_,hk,λv z=>by cases z])
  apply wpAny_mono (jV _ H s x u I1 sm (hx x fY) ru) (λk s1 ⟨v,H1,J,rv,Wp,ev⟩=>?_) λ_ _ z=>z
  have pa:(a,seqObj "list" #[] e1)∈wQ [a,kS] s.heap:=by
   unfold wQ;exact yO.mpr #[a,by simp,by rw[ha];rfl]
  have pk:(kS,seqObj "list" kvs.toArray c)∈wQ [a,kS] s.heap:=by
   unfold wQ;exact yO.mpr #[kS,by simp,by rw[hk];rfl]
  let#[Cj,Xl,_]:=J.pin _ (kb _ (kb _ pa));let#[Ib,Xh,_]:=J.pin _ (kb _ (kb _ pk));have Cj:s1.heap.get? a\seqObj "list" #[] e1:=Cj;have Ib:s1.heap.get? kS\seqObj "list" kvs.toArray c:=Ib;let J0:=J.eR;let fa1:=fa.at (H':=H1) Xl;let S2:=fk.at (H':=H1) Xh;have B1:kvs.length<64:=by omega
  apply listUpdate_at Ib U ?_ (by rw[cY,cJ];omega) (ic (Nat.le_of_eq (Array.size_push ..)) (by rw[cY,cJ];omega));have iI:∀b o,b∉[kS]->s1.heap.get? b\o->(s1.heap.update kS (Obj.mapSeq (·.push k))).get? b\o:=λb o hb e=>(u5 _ _ (λz=>hb (by simp[z]))).trans e;have ea:kvs.toArray.push k=(kvs++[k]).toArray:=by simp
  obtain⟨c2,js⟩:∃c2,(s1.heap.update kS (Obj.mapSeq (·.push k))).get? kS\seqObj "list" (kvs++[k]).toArray c2:=#[_,by rw[<- ea];exact get?_update_seq Ib (·.push k)]
  have I2:Inv X pins σ H1 { s1 with heap:=s1.heap.update kS (Obj.mapSeq (·.push k)) }:=J0.gO (t':=s1.toks) (fp:=[kS]) iI (λb hb=>by
   obtain rfl:b=kS:=⇑hb
   exact S2)
  subst ev;apply ih us (ks++[.str (kf x)]) (kvs++[k]) (kk++[kf x]) H1 _ c2 rr (λy hy=>hx y (fo _ hy)) I2 (sm.trans Wp) fa1 S2 ?_ js (r.append (.cons rv .nil)) ?_ (by rw[dM,oC];omega) λH' s' fC c' a1 a2 a3 a4 a5 a6 a7 a8=>?_
  ·exact iI a _ ⇑l5 Cj
  ·rw[eJ,<- t];rfl
  apply q H' s' fC c' a1 a2 a3 a4 a5 a6 (by rw[a7,dM,oC,jy];omega) ?_;let#[iW,b1,b2]:=a8;exact#[iW,b1,by simpa using b2]
end
section
variable{X:Cx}{pins:List (Addr × Obj)}{σ:St}{H:Hp}{s:Ab}{B:Ag}
theorem fE_{P:PySem.Fin->Ab->Prop}(I:Inv X pins σ H s)(fa:dk X pins H a)(ho:s.heap.get? a\seqObj "list" us.toArray n)(r:Vals xs us)(cQ:us.length<64)(jV:IJ X σ B (.ref f) H kf xs)(h:∀zs H' s',Inv X pins σ (upd H' a (.lst zs)) s'->aa H H'->H' a=none->zs.Perm xs->zs.map kf=iE (xs.map kf)->P (.done (.ret .none)) s'):wpAny (model X.prog X.w) B (ksk_tree a (.ref f) false) P E s:=by
 let lx:=r.length;obtain⟨e1,vW⟩:∃e1,(s.heap.update a (Obj.mapSeq λ_=>(#[]:Array Aa))).get? a\seqObj "list" #[] e1:=#[_,get?_update_seq ho λ_=>#[]];have iI:∀b o,b∉[a]->s.heap.get? b\o->(s.heap.update a (Obj.mapSeq λ_=>(#[]:Array Aa))).get? b\o:=λb o hb e=>(u5 _ _ (λz=>hb (by simp[z]))).trans e
 have I1:Inv X pins σ H { s with heap:=s.heap.update a (Obj.mapSeq λ_=>(#[]:Array Aa)) }:=I.gO (t':=s.toks) (fp:=[a]) iI (λb hb=>by
  obtain rfl:b=a:=⇑hb
  exact fa)
 unfold ksk_tree;apply ae (listItems_at ho U ?_);apply ae (listUpdate_at ho U ?_ (by rw[cY,cJ];omega) (gN _));apply ae (seqEpoch_at vW U ?_);apply ae (wpAny_newTuple ?_ (by show us.length<=_;rw[cJ];omega));apply ae (wpAny_newList ?_ (gN _));apply gR ?_;have I2:Inv X pins σ H { s with heap:=(s.heap.update a (Obj.mapSeq λ_=>(#[]:Array Aa))).push (seqObj "tuple" us.toArray 0) }:=I1.kept (t':=s.toks) λb u e=>bo _ e;have I3:Inv X pins σ H { s with heap:=((s.heap.update a (Obj.mapSeq λ_=>(#[]:Array Aa))).push (seqObj "tuple" us.toArray 0)).push (seqObj "list" #[] 0) }:=I2.kept (t':=s.toks) λb u e=>bo _ e;have fk:dk X pins H ((s.heap.update a (Obj.mapSeq λ_=>(#[]:Array Aa))).push (seqObj "tuple" us.toArray 0)).objs.size:=I2.i0 (a9 _) (I2.aE.fresh (a9 _));have jR:(((s.heap.update a (Obj.mapSeq λ_=>(#[]:Array Aa))).push (seqObj "tuple" us.toArray 0)).push (seqObj "list" #[] 0)).get? a\seqObj "list" #[] e1:=bo _ (bo _ vW);have Cc:(((s.heap.update a (Obj.mapSeq λ_=>(#[]:Array Aa))).push (seqObj "tuple" us.toArray 0)).push (seqObj "list" #[] 0)).get? ((s.heap.update a (Obj.mapSeq λ_=>(#[]:Array Aa))).push (seqObj "tuple" us.toArray 0)).objs.size\seqObj "list" #[] 0:=dj _ U;have l5:a≠((s.heap.update a (Obj.mapSeq λ_=>(#[]:Array Aa))).push (seqObj "tuple" us.toArray 0)).objs.size:=dE (bK (bo (seqObj "tuple" us.toArray 0) vW));show wpAny (model X.prog X.w) B (ksk_rest a (.ref f) false us.toArray e1 (.ref ((s.heap.update a (Obj.mapSeq λ_=>(#[]:Array Aa))).push (seqObj "tuple" us.toArray 0)).objs.size)) P E { s with heap:=((s.heap.update a (Obj.mapSeq λ_=>(#[]:Array Aa))).push (seqObj "tuple" us.toArray 0)).push (seqObj "list" #[] 0) };generalize ((s.heap.update a (Obj.mapSeq λ_=>(#[]:Array Aa))).push (seqObj "tuple" us.toArray 0)).objs.size=kS at fk Cc l5 ⊢;generalize ((s.heap.update a (Obj.mapSeq λ_=>(#[]:Array Aa))).push (seqObj "tuple" us.toArray 0)).push (seqObj "list" #[] 0)=h3 at I3 jR Cc ⊢;clear I2 I1 iI;unfold ksk_rest;apply ae (wpAny_rule ?_);rw[List.forIn_toArray];apply ae (ZY (pins:=pins) (E:=E) (e1:=e1) l5 jV (λu s4 Qb hq=>?_) xs us [] [] [] H _ 0 r (λx hx=>hx) I3 (aa.refl H) fa fk jR Cc .nil U ⇑cQ λH5 s5 kvs c5 I5 Wa S_ fk5 Fh RP lk ⟨ks,rk,tk⟩=>?_)
 ·apply ae (wpAny_attempt (wpAny_mono hq (λk pK hk=>?_) λ_ _ hF=>hF.elim));exact ae (wpAny_mono hk (λ_ s6 h6=>aH h6) λ_ _ z=>z)
 rw[List.nil_append] at tk;rw[List.length_nil,Nat.zero_add] at lk;apply ae (listItems_at RP U ?_)
 have tail:∀(p:Array Nat) (st:SortSt),Good xs.length p->Up (λi j=>bM ((xs.map λx=>bP (kf x)).getD i []) ((xs.map λx=>bP (kf x)).getD j [])) p xs.length->(arrOf st).map (·.2)=(ml p us).toArray->failedOf st=none->wpAny (model X.prog X.w) B (ksk_tail a false e1 (.ref kS) st) P E s5:=λp st g up LH L8=>by
  have gu:Good us.length p:=by rw[<- lx];exact g
  have hz:(ml p us).length=us.length:=by
   unfold ml;rw[aq,ud];exact gu.size
  let s1:=Heap.SameBut.update s5.heap kS (Obj.mapSeq λ_=>(#[]:Array Aa));have wa:(s5.heap.update kS (Obj.mapSeq λ_=>(#[]:Array Aa))).get? a\seqObj "list" #[] e1:=(u5 _ _ (dI l5)).trans Fh;unfold ksk_tail;dsimp only;rw[LH];apply ae (listUpdate_at RP U ?_ (by rw[cY,cJ];omega) (gN _));apply ae (wpAny_letGo ?_);apply ae (seqEpoch_at wa U ?_);simp only[pH,if_false];apply ae (listUpdate_at wa U ?_ (gN _) (by rw[cY,hz,cJ];omega));rw[L8];simp only[bne_self_eq_false,pH,if_false]
  have zl:(p.toList.map λi=>xs.getD i .non).length<=sizeLine:=by
   rw[aq,ud,g.size,cJ];omega
  let#[pz,ek]:=Y3 (kf:=λx=>bP (kf x)) (zs:=p.toList.map λi=>xs.getD i .non) g up U;let ek:=hF_ ek;apply aH (h _ H5 _ (I5.yY (t':=s5.toks) (fp:=[a,kS]) (T:=a) (λb o hb e=>?_) (λb hb=>?_) Y1 zl (NI r gu) (get?_update_seq wa _)) Wa S_.1 pz ek)
  ·have n1:b≠a:=λz=>hb (by simp[z]);have n2:b≠kS:=λz=>hb (by simp[z]);exact (u5 _ _ (dI n1)).trans ((u5 _ _ (dI n2)).trans e)
  rcases cg.mp hb with rfl|hb
  ·exact S_
  obtain rfl:b=kS:=⇑hb
  exact fk5
 unfold ksk_end;dsimp only;simp only[pH,if_false];by_cases h2:us.toArray.size<2
 ·rw[aK h2,aK h2];apply ae (aH ?_);rw[StateT.run_pure];apply ae (aH (tail (List.range xs.length).toArray _ (Array.Perm.refl _) (λi j n6 hj=>?_) ?_ U))
  ·have e:i=j:=by
    simp only[cY] at h2;omega
   subst e;exact Nw _
  show ((kvs.toArray.zip us.toArray).map λx:Keyed=>x.2)=_;rw[show xs.length=us.length from lx,UG];apply Array.ext' ?_;simp[List.map_snd_zip,lk]
 rw[aC h2,aC h2]
 have g_:2<=us.length:=by
  simp only[cY] at h2;omega
 let#[κ,hk,hc]:=fJ_ (prog:=X.prog) (w:=X.w) (A:=B) (s:=s5) (kf:=kf) (xs:=xs) (Tf (tk▸rk)) Y0;apply ae (wpAny_mono (hk (λk s'=>k=κ/\s'=s5) #[U,U]) (λk s7 E1=>?_) λ_ _ x=>x.elim);let#[rfl,rfl]:=E1;have O:Ord (λi j=>bM ((xs.map λx=>bP (kf x)).getD i []) ((xs.map λx=>bP (kf x)).getD j [])):=M_ _
 apply ae (wpAny_mono (kat_run (ks:=kvs) (vs:=us) (G:=λp s'=>s'=s7/\Good us.length p/\Up (λi j=>bM ((xs.map λx=>bP (kf x)).getD i []) ((xs.map λx=>bP (kf x)).getD j [])) p us.length)
  (Q:=λdX s'=>∃p:Array Nat,arrOf dX=p.map (kas_item (kvs.toArray.zip us.toArray))/\failedOf dX=none/\s'=s7/\Good us.length p/\Up (λi j=>bM ((xs.map λx=>bP (kf x)).getD i []) ((xs.map λx=>bP (kf x)).getD j [])) p us.length)
  lk g_ cQ (λp dX s' _ q1 q2 q3=>#[p,q1,q2,q3]) (Ok.wp (n:=us.length) (λi j C hi hj=>hc i j C Y0 Y0) (λp q=>#[U,q]) (Sy O Y0))) ?_ λ_ _ x=>x)
 rintro⟨⟨⟩,dX⟩ s' ⟨p,Mj,hf,hs',g,u⟩;subst hs';rw[<- lx] at g u;exact tail p dX g u (kat_snds lk Mj) hf
end
section
variable{X:Cx}{pins:List (Addr × Obj)}{σ:St}{H:Hp}{s:Ab}
theorem _c{qual:Str}{params:Arguments}{body:PySem.Expr}{scope:Scope}{p:Str}{sp:af->af->Hp->VK->XK->Prop}{cl:List (Str × Addr)}{is:List Nat}(F:ko X.prog X.w X.K X.mg X.base k qual params body scope [p] dG sp)(hr:aY k B)(hB:B.frames=X.A.frames)(hf:H0 f\jL f qual params body scope cl c')(hc:H0 c'\Bg c' qual)(jr:∀q∈cl,X.env.cells.lookup q.1\q.2)(v_:∀x∈dG,∃c,cl.lookup x\c)(E3:∀x∈dG,X.env.scope.names.lookup x\.cell)(hN:is.map (λi=>X.N[i]?)=dG.map some)(Ce:is.map (λi=>σ[i]?)=gs.map (λv=>some (some v)))(kF:∀H x,aa H0 H->x∈xs->sp [x] gs H (λv H'=>aa H H'/\v=.str (kf x)) (λ_ _ _=>False)):IJ X σ B (.ref f) H0 kf xs:=by
 intro pins H s x u I sm hx ru;let#[#[pm,kK,ef],_]:=I.aE f _ (sm _ _ hf);let#[#[oc,J3,t,ec,d1,d2],_]:=I.aE c' _ (sm _ _ hc);let#[hg,C,fc]:=I.tN jr v_ E3 hN Ce;let e0:=I.A7;apply wpAny_call (codeAny_mono (F B X.stack s H f c' pm kK cl [u] [x] gs _ _ hr #[hB.trans e0.frames,e0.mod,e0.bs,e0.tU,e0.fW,e0.wg,e0.aE,e0.bare] ef #[c',oc,J3,t,U,ec,d1,d2] U hg (.cons ru .nil) C fc (kF H x sm hx)) λr s' hq=>?_);cases r with
 |error e=>
  let#[a,cls,H',B,a0,dd,rfl,os,bare,un,aE,fl,i,hE]:=hq
 |ok fl=>
  cases fl with
  |ret u=>exact I.after hq
  |next=>exact False.elim hq
  |brk=>exact False.elim hq
  |cont=>exact False.elim hq
theorem qU{x:Aa}{Q:VK}(I:Inv X pins σ H s)(cQ:xs.length<64)(jV:IJ X σ X.A.in1.in1 (.ref f) H kf xs)(l7:∀R:aj->Ab->Prop,(∀vs s1,Inv X pins σ H s1->Vals xs vs->R vs s1)->wpAny (model X.prog X.w) X.A.in1 (collect x) R E s)(q:∀l zs H',aa H H'->H' l=none->H l=none->zs.Perm xs->zs.map kf=iE (xs.map kf)->Q (.ref l) (upd H' l (.lst zs))):wpAny (model X.prog X.w) X.A (call (.builtin "sorted") [x] [(Str.ofString "key",.ref f)]) (EP X pins σ Q) E s:=by
 apply call_function_entry_kw kind_sorted plain_sorted entry_sorted (ksk_s1 _ _) ?_;unfold Builtin.«sorted»;apply ae (m:=checkCount "sorted" 1 1 _) (aH ?_);apply ae (l7 _ λvs s1 I1 r=>?_);let lv:=r.length;apply ae (wpAny_newList ?_ (by rw[cJ];omega));have HW:(s1.heap.push (seqObj "list" vs.toArray 0)).get? s1.heap.objs.size\seqObj "list" vs.toArray 0:=dj _ U;have I2:Inv X pins σ H { s1 with heap:=s1.heap.push (seqObj "list" vs.toArray 0) }:=I1.kept (t':=s1.toks) λb u e=>bo _ e;have fa:dk X pins H s1.heap.objs.size:=I1.i0 (a9 _) (I1.aE.fresh (a9 _));have nl:H s1.heap.objs.size=none:=I1.aE.fresh (a9 _);apply ae (gR (wpAny_call_entry_kw slot_list_sort #[_,HW,U] entry_list_sort ?body (ksk_l1 _ _)))
 case body=>
  show wpAny (model X.prog X.w) X.A.in1.in1 (Builtin.«list.sort» #[[.ref s1.heap.objs.size],[(Str.ofString "key",.ref f)]]) _ _ _;rw[ksk_t1];apply fE_ (s:={ s1 with heap:=s1.heap.push (seqObj "list" vs.toArray 0) }) I2 fa HW r Y0 jV λzs H' s' I' sm na pz ek=>?_;exact#[_,U,aH #[_,U,.ref _,_,I',U,q _ zs H' sm na nl pz ek]]
end
inductive TV (K:ai) (qual:Str) (params:Arguments) (body:PySem.Expr) (scope:Scope) (cl:List (Str × Addr)) (is:List Nat) (sp:af->af->Hp->VK->XK->Prop) (σ:St) (H:Hp) (Q:VK) (vs:af) (ws:af) (H2:Hp):Prop
 |mk:∀x f c' xs kf gs,vs=[x]->ws=[.ref f]->H2 f\jL f qual params body scope cl c'->H2 c'\Bg c' qual->Pz K H2 x xs->xs.length<64->is.map (λi=>σ[i]?)=gs.map (λv=>some (some v))->(∀H x,aa H2 H->x∈xs->sp [x] gs H (λv H'=>aa H H'/\v=.str (kf x)) (λ_ _ _=>False))->(∀l zs H',aa H2 H'->H' l=none->H2 l=none->zs.Perm xs->zs.map kf=iE (xs.map kf)->Q (.ref l) (upd H' l (.lst zs)))->TV K qual params body scope cl is sp σ H Q vs ws H2
def vv(K:ai)(qual:Str)(params:Arguments)(body:PySem.Expr)(scope:Scope)(cl:List (Str × Addr))(is:List Nat)(sp:af->af->Hp->VK->XK->Prop)(t tk:TA):TE:=λσ H Q=>t σ H λvs H1=>tk σ H1 λws H2=>TV K qual params body scope cl is sp σ H Q vs ws H2
variable{qual:Str}
theorem hd_{e:PySem.Expr}{t tk:TA}{p kp sQ:Pos}{params:Arguments}{body:PySem.Expr}{scope:Scope}{px:Str}{sp:af->af->Hp->VK->XK->Prop}{cl:List (Str × Addr)}{is:List Nat}(hc:X.calm=true)(hg:Gl X "sorted")(hm:X.mg "sorted"=none)(ha:PA X [e] t)(hkw:PK X [#[some "key",.Lambda params body scope sQ,kp]] tk)(F:ko X.prog X.w X.K X.mg X.base k qual params body scope [px] dG sp)(hr:aY (k+2) X.A)(jr:∀q∈cl,X.env.cells.lookup q.1\q.2)(v_:∀x∈dG,∃c,cl.lookup x\c)(E3:∀x∈dG,X.env.scope.names.lookup x\.cell)(hN:is.map (λi=>X.N[i]?)=dG.map some)(he:starEach [e] X.env=[(false,eval e X.env)]:=by rfl)(AV:(backToKw pos (keywordEach [#[some "key",.Lambda params body scope sQ,kp]] X.env)).all (·.1.isSome)=true:=by rfl)(E1:(backToKw pos (keywordEach [#[some "key",.Lambda params body scope sQ,kp]] X.env)).filterMap (·.1)=[Str.ofString "key"]:=by rfl)(hkn:(backToKw pos (keywordEach [#[some "key",.Lambda params body scope sQ,kp]] X.env)).any (·.1.isNone)=false:=by rfl):PE X (.Call (.Name "sorted" p) [e] [#[some "key",.Lambda params body scope sQ,kp]] pos) (vv X.K qual params body scope cl is sp t tk):=by
 intro pins s σ H Q I h;apply wpAny_Call_Name_kw (wA I hg hm Jz ?_);let hA:=ha pos pins s σ H _ I h;rw[he] at hA ⊢;apply callWith_builtin_kwB (first:=[]) U hkn (evalArgs_kwB AV (aS hA λus s1 ⟨vs,H1,I1,r1,q1⟩=>?_));apply aS (hkw pos pins s1 σ H1 _ I1 q1) λws s2 ⟨zs,H2,I2,rz,x,f,c',xs,kf,gs,ev,ez,hf,iy,src,cQ,Ce,kF,q⟩=>?_;subst ev ez;let#[u,rfl,ru]:=Vals.one r1;let#[fv,rfl,rf]:=Vals.one rz;cases rf;rw[E1];have hd:X.A.in1.handled=none:=I.ok.hd hc;apply qU I2 cQ (_c F hr.in1.in1 U hf iy jr v_ E3 hN Ce kF) (λR hR=>?_) q;rcases src with⟨l,rfl,hl⟩|⟨d,kvs,rfl,hd2,rfl⟩
 ·cases ru;exact _G I2 hl Y0 hR
 cases ru;exact Re hd I2 (.inl hd2) hR
structure w_ (K:ai) (x qual:Str) (st:Stmt) (f c:Addr) (fd:Ae):Prop where
 ex:∃(oc:Aa) (od:Option Addr) (kV doc pm:Aa) (an:Option Addr) (ct:Aa) (kE:Array (Option Aa)),
  fd=PySem.W.fnOf x qual (gQ st) (f_ st) (a_ st) .none kV doc pm an (.ref c) ct/\K.lookup f=some #[oc,od,.func fd,kE]/\PySem.W.codeIn K (.ref c) qual=true
 kp:PySem.W.keepIn K (.ref f)=true
theorem w_.ok{K:ai}{st:Stmt}{sp:Sp}(F:w_ K x qual st f c fd)(S:bQ N ps (a_ st))(len:∀vs H Q E,sp vs H Q E->vs.length=ps.length)(fU:∀(A:Ag) (outer:List Env) (s:Ab) (H:Hp) (vs:af) (Q:VK) (E:XK),aY k (A.deeper (envOfC qual (a_ st) s.heap.objs.size f (.ref c)))->sp vs H Q E->
   ∃t,ki (i6 bc P w K mg base N qual (a_ st) f (.ref c) A outer s H E).xO (f_ st) t/\t { nx:=λ_ H'=>Q .non H',rt:=Q } (start N vs) H):!ak bc (k+1) f fd ps sp:=by
 let#[oc,od,kV,doc,pm,an,ct,kE,rfl,lk,iy]:=F.ex;apply QT lk iy S len λA outer s H vs Q E hr kF=>?_;let#[t,h,q]:=fU A outer s H vs Q E hr kF;exact#[t,h.xO,q]
end L2
namespace Ev
open PySem L2
def NT(H G:Hp):Prop:=∀b o,H b\o->(∀vs,o≠.tbl vs)->G b\o
variable{G:Hp}
theorem NT.of{H:Hp}(s:aa H G):NT H G:=λb o e _=>s b o e
theorem NT.refl(H:Hp):NT H H:=NT.of (aa.refl H)
theorem NT.trans{H J:Hp}(s:NT H G)(t:NT G J):NT H J:=λb o e n=>t b o (s b o e n) n
variable{T:Addr}
theorem aM.nt{H:Hp}{vs:Array Aa}(b:aM T H G)(hT:H T\.tbl vs):NT H G:=λc o e n=>b c o e (λz=>by
 rw[z,hT] at e;exact n _ (dN e).symm)
theorem NT.tup{H G:Hp}(s:NT H G){a:Addr}{xs:af}(h:H a\.tup xs):G a\.tup xs:=s _ _ h nofun
theorem NT.lst{H G:Hp}(s:NT H G){a:Addr}{xs:af}(h:H a\.lst xs):G a\.lst xs:=s _ _ h nofun
theorem NT.dK{H G:Hp}(s:NT H G){a:Addr}{xs:List (Key × V)}(h:H a\.dK xs):G a\.dK xs:=s _ _ h nofun
variable{qual:Str}
theorem Yv{H:Hp}{q':Str}{a a':Arguments}{b b':Expr}{sc Hc:Scope}{ps:Pos}{cl:List (Str × Addr)}{σ:St}{Q:VK}(h:mz H T qual)(e1:q'=qual)(e2:a'=a)(e3:b'=b)(e4:Hc=sc)(q:∀f c' H1,aM T H H1->mz H1 T qual->H1 f\jL f qual a b sc cl c'->H1 c'\Bg c' qual->Q (.ref f) H1):Dk T q' a' b' Hc ps cl σ H Q:=by
 subst e1 e2 e3 e4;let#[es,h,vZ]:=h;apply#[_,h,Ta es,?_];rcases UP ps es with e|⟨e,he,q1⟩
 ·apply .inl #[e,λc' f n1 n2 n3=>?_];have Xn:T≠c':=bG h n1;have Xm:T≠f:=bG h n2
  have B:aM T H (upd (upd (upd H T (.tbl ((mj es).toArray++(List.toArray [rawInt ps.line,rawInt ps.col,.ref c'])))) c' (Bg c' q')) f (jL f q' a' b' Hc cl c')):=λb o e n=>by
   rw[aA (bG e n2),aA (bG e n1),aA n];exact e
  apply q f c' _ B #[es++[(ps,c')],?_,λx hx=>?_] ay ?_
  ·rw[aA Xm,aA Xn,ay,Tt];simp
  ·rcases dB.mp hx with hx|hx
   ·exact B _ _ (vZ x hx) (λz=>by have:=vZ x hx;rw[z,h] at this;cases this)
   rw[fw.mp hx];show upd _ f _ c'=_;rw[aA n3,ay]
  rw[aA n3,ay]
 apply .inr #[e.2,q1,λf hf=>?_];let s:=aa.new (o:=jL f q' a' b' Hc cl e.2) hf;exact q f e.2 _ (aM.of s) #[es,s _ _ h,λx hx=>s _ _ (vZ x hx)] ay (s _ _ (vZ e he))
theorem Y8{H:Hp}(h:mz H T qual):∃vs,H T\.tbl vs:=by
 let#[es,e,_]:=h;exact#[_,e]
def vP:Expr->Scope
 |.Lambda _ _ s _=>s
 |_=>a_ fe
def Le:Expr->Expr
 |.Lambda _ b _ _=>b
 |e=>e
def Lf:Expr->Arguments
 |.Lambda a _ _ _=>a
 |_=>gQ fe
def X4:Expr->Expr
 |.Call _ _ (k::_) _=>k.value
 |e=>e
def zU(l:List Stmt)(i:Nat):Stmt:=l.getD i (.Pass #[0,0,0,0])
variable{ps:aV}
theorem Yf(nd:(ps.map (·.1)).Nodup){a b:Pc}(ha:a∈ps)(hb:b∈ps)(e:a.1=b.1):a=b:=by
 let#[i,hi,rfl]:=gB ha;let#[j,hj,rfl]:=gB hb;have:i=j:=(List.getElem?_inj (l:=ps.map (·.1)) (by rw[aq];exact hi) nd).mp (by rw[de,de,aX hi,aX hj,Option.map_some,Option.map_some,e]);subst this;rfl
theorem Ys{ts:Xb}{ss qs:aV}(Q:Qs ps qs)(nd:(ps.map (·.1)).Nodup)(p:ss.Perm ps)(e:ss.map (·.1)=iE (ps.map (·.1)))(dr:∀q∈ps,kz ts q):eM ts ss qs:=by
 have en:qs.map (·.1)=ss.map (·.1):=by rw[Q.vM,e]
 have le:qs.length=ss.length:=by rw[<- aq (as:=qs) (f:=λq:Pc=>q.1),en,aq]
 apply#[?_,λq hq=>dr q (p.mem_iff.mp hq),?_]
 ·apply List.ext_getElem (by rw[aq,le]) ?_;intro j h1 h2;rw[w6];have hs:j<ss.length:=by omega
  let#[x,hx,ex]:=Q.mem qs[j] (j_ h1);have n1:(qs.map (·.1))[j]? = some qs[j].1:=by rw[de,aX h1];rfl
  have n2:(ss.map (·.1))[j]? = some (ss[j]).1:=by rw[de,aX hs];rfl
  rw[en,n2] at n1;have n3:(ss[j]).1=qs[j].1:=dN n1;have n4:qs[j].1=x.1:=by rw[ex];rfl
  rw[ex,Yf nd hx (p.mem_iff.mp (j_ hs)) (n4.symm.trans n3.symm)]
 exact (p.map (·.1)).nodup_iff.mpr nd
theorem eL_{α β:Type}{F:α->β->Prop}{zs ys:List α}(p:zs.Perm ys):∀{ps:List β},Paired F ys ps->∃ss,ss.Perm ps/\Paired F zs ss:=by
 induction p with
 |nil=>exact λ{ps} h=>#[ps,.refl _,h]
 |cons x _ ih=>
  intro ps h;cases h with
  |cons h t=>
   let#[ss,q,r]:=ih t;exact#[_,q.cons _,.cons h r]
 |swap x y l=>
  intro ps h;cases h with
  |cons h t=>
   cases t with
   |cons h2 t=>exact#[_,.swap _ _ _,.cons h2 (.cons h t)]
 |trans _ _ _q _p=>
  intro ps h;let#[ss,q,r]:=_p h;let#[s2,q2,r2]:=_q r;exact#[s2,q2.trans q,r2]
def KS(H:Hp):V->Str
 |.ref t=>match H t with
  |some (.tup (.str n::_))=>n
  |_=>⟨#[]⟩
 |_=>⟨#[]⟩
theorem MZ{K:ai}{H:Hp}:∀{ys:af} {ps:aV},j3 K H ys ps->ys.map (KS H)=ps.map (·.1)
 |_,_,.nil=>rfl
 |_,_,.cons (b:=p) ⟨t,v,e,ht,_⟩ r=>by
  rw[fE,fE,MZ (K:=K) r,e]
  have:KS H (.ref t)=p.1:=by
   show (match H t with|some (.tup (.str n::_))=>n|_=>(⟨#[]⟩:Str))=p.1;rw[ht]
  rw[this]
def Fw:Stmt->List Stmt
 |.For _ _ b _ _=>b
 |_=>[]
def Po:Stmt->Expr
 |.Assign _ e _=>e
 |_=>.Constant .none 0 #[0,0,0,0]
def oY:Expr:=X4 (Po (zU (Fw (zU (f_ fe) 0)) 5))
abbrev qL:Str:="law.<locals>.<lambda>"
theorem Fu:∀y∈(vP oY).names,y.2=.free->y.1∈([]:ag):=by decide +kernel
theorem zA:Jr ["_law_piece"] [] (vP oY):=#[by decide +kernel,U,U,U,by decide +kernel,by decide +kernel,λx h=>Fu (x,.free) (qf h) U,by decide +kernel]
inductive ni (vs:af) (gs:af) (H:Hp) (Q:VK):Prop
 |mk:∀(t:Addr) (n:Str) (r:af),vs=[.ref t]->gs=[]->H t\.tup (.str n::r)->Q (.str n) H->ni vs gs H Q
def zk:af->af->Hp->VK->XK->Prop:=λvs gs H Q _=>ni vs gs H Q
theorem Oj{L f:Addr}{cd:Aa}:closureFor (vP oY) (PyProof.Rows.envOfC "law" (a_ fe) L f cd)=pure []:=by rfl
variable{P:Ad}{w:Af}{K:ai}{mg:Str->Option Aa}{base:Heap}
theorem Yl:!ko 1 qL (Lf oY) (Le oY) (vP oY) ["_law_piece"] [] zk:=by
 apply Ed zA (λpm c' kK cl us hl=>?_) (λA outer s H f cd cl vs gs Q E hr h hp=>?_)
 ·match us,hl with
  |[_],_=>rfl
 let#[t,n,r,rfl,rfl,ht,k]:=h;apply#[_,bg cj (pv 0) av,?_];exact#[_,U,t,_,0,_,U,U,.of ht,L2.cZ (j:=0) U,k]
end Ev
namespace L2
open PySem PySem.Spec PyProof.Rows PySem.W qt eY Ev
end L2
namespace Ev
open PySem L2
variable{R:Addr->Hp->Prop}{lh:Addr}
variable{lp:Addr}{ps:aV}
section
variable{K:ai}{CG CW:Addr}
theorem YB{H:Hp}{E:XK}{lt:Addr}{yh yt:af}{hs:Xa}{ts:Xb}(G:Good hs ts)(h1:H lh\.lst yh)(h2:bS K H yh (hs.map kH))(h3:H lt\.lst yt)(h4:bS K H yt (ts.map kT))(k:∀p fp H',aa H H'->hU K CW H' p hs ts fp->(∀b∈fp,H b=none)->R p H'):∀x dx,H x=none->H dx=none->dx≠x->IF K CW (.ref x::([.ref lh,.ref lt]++[])) (upd (upd H dx (.own x)) x (.ins CW dx [])) (λv H2=>v=.non/\R x H2) E:=by
 intro p dx hp E8 ne;have s4:aa H (upd (upd H dx (.own p)) p (.ins CW dx [])):=(aa.new E8).trans (aa.new (by rw[aA ne.symm];exact hp));apply#[p,dx,lh,lt,yh,yt,hs,ts,U,ay,s4 _ _ h1,h2.same s4,s4 _ _ h3,h4.same s4,G,λdz H5 kp W fr=>#[U,?_]];apply k p dz H5 (λb o e=>kp b o (s4 _ _ e) (bG e hp)) W λb hb=>?_;rcases fr b hb with rfl|z
 ·exact hp
 exact s4.free z
theorem _P{H:Hp}{E:XK}{p:Addr}{yp:af}{hs:Xa}{ts:Xb}{dz:aw}(W:hU K CW H p hs ts dz)(G:Good hs ts)(h1:H lp\.lst yp)(h2:j3 K H yp ps)(gp:∀q∈ps,kr ts q)(nd:(ps.map (·.1)).Nodup)(len:ps.length<64)(k:∀g qs fp H',aa H H'->gq K CG CW H' g p hs ts qs fp->Qs ps qs->(∀b∈fp,b∈dz∨H b=none)->R g H'):∀x dx,H x=none->H dx=none->dx≠x->JG K CG CW (.ref x::([.ref p,.ref lp]++[])) (upd (upd H dx (.own x)) x (.ins CG dx [])) (λv H2=>v=.non/\R x H2) E:=by
 intro g dx hg E8 ne;have s4:aa H (upd (upd H dx (.own g)) g (.ins CG dx [])):=(aa.new E8).trans (aa.new (by rw[aA ne.symm];exact hg))
 have gw:g∉dz:=λm=>by
  let#[o,e]:=W.has m;rw[hg] at e;cases e
 apply#[g,dx,p,lp,yp,ps,hs,ts,dz,U,ay,W.same s4,gw,G,s4 _ _ h1,Paired.aQ h2 λ_ _ q=>q.same s4,gp,nd,len,λqs fp H5 kp GA Qq fr=>#[U,?_]];apply k g qs fp H5 (λb o e=>kp b o (s4 _ _ e) (bG e hg)) GA Qq λb hb=>?_;rcases fr b hb with rfl|z|z
 ·exact .inr hg
 ·exact .inl z
 exact .inr (s4.free z)
end
variable{σ:St}
theorem KY{H:Hp}{k:af->Hp->Prop}(h:k [] H):gG σ H k:=h
theorem FX{te:TE}{t:TA}{H:Hp}{k:af->Hp->Prop}(h:te σ H λx H1=>t σ H1 λxs H2=>k (x::xs) H2):qa te t σ H k:=h
theorem M0:∀{LL:List (List ax)},(∀(j:Nat) L,j+1<LL.length->LL[j]? = some L->L≠[])->LL.length<=LL.flatten.length+1
 |[],_=>by simp
 |[L],_=>by simp
 |L::L2::r,h=>by
  let ih:=M0 (LL:=L2::r) λj M hj hM=>h (j+1) M ⇑hj ⇑hM;have h0:L≠[]:=h 0 L Y1 U;have:=List.length_pos_iff.mpr h0;rw[List.flatten_cons,dM];rw[jy (a:=L)];omega
variable{G:Hp}{xs:af}
theorem mz.Pa{H:Hp}{T l:Addr}{q:Str}(h:mz H T q)(b:aM l H G)(hl:H l\.lst xs):mz G T q:=by
 let#[es,e,c]:=h;exact#[es,b _ _ e (bO e hl nofun),λx hx=>b _ _ (c x hx) (bO (c x hx) hl nofun)]
structure Dr (K:ai) (H:Hp) (l lh lt lp d:Addr) (hs:Xa) (ts:Xb) (ps:aV) (f:bF):Prop where
 st:bJ H l
 hh:∃yh,H lh\.lst yh/\bS K H yh (hs.map kH)
 ht:∃zs,H lt\.lst zs/\bS K H zs (ts.map kT)
 hp:∃yp,H lp\.lst yp/\j3 K H yp ps
 hd:H d\.dK (gd (ps.map (·.1)) f)
 n1:lh≠l
 n2:lt≠l
 n3:lp≠l
variable{H':Hp}
theorem Dr.but{K:ai}{H:Hp}{l lt d:Addr}{hs:Xa}{ts:Xb}{f:bF}(h:Dr K H l lh lt lp d hs ts ps f)(b:aM l H H')(st:bJ H' l):Dr K H' l lh lt lp d hs ts ps f:=by
 let#[a0,#[yh,a1,a2],#[zs,b1,b2],#[yp,c1,c2],d1,n1,n2,n3]:=h;let#[xs,e]:=a0.some;exact#[st,#[yh,b _ _ a1 n1,ja a2 b e],#[zs,b _ _ b1 n2,ja b2 b e],#[yp,b _ _ c1 n3,Paired.aQ c2 λy p q=>q.but b a0],b _ _ d1 (bO d1 e nofun),n1,n2,n3]
theorem Dr.same{K:ai}{H:Hp}{l lt d:Addr}{hs:Xa}{ts:Xb}{f:bF}(h:Dr K H l lh lt lp d hs ts ps f)(s:aa H H'):Dr K H' l lh lt lp d hs ts ps f:=h.but (aM.of s) (h.st.same s)
theorem bS.nt{K:ai}{H:Hp}{ys:af}{ks:List aD}(h:bS K H ys ks)(s:NT H G):bS K G ys ks:=Paired.aQ h λy k ⟨a,z,q⟩=>#[a,z,s.tup q]
variable{v:V}
theorem cw.nt{K:ai}{H:Hp}{o:Option (Xb)}(h:cw K H v o)(s:NT H G):cw K G v o:=by
 cases o with
 |none=>exact h
 |some ws=>
  let#[a,ys,e,ha,t]:=h;exact#[a,ys,e,s.lst ha,bS.nt t s]
theorem Dr.nt{K:ai}{H:Hp}{l lt d:Addr}{hs:Xa}{ts:Xb}{f:bF}(h:Dr K H l lh lt lp d hs ts ps f)(s:NT H H'):Dr K H' l lh lt lp d hs ts ps f:=by
 let#[a0,#[yh,a1,a2],#[zs,b1,b2],#[yp,c1,c2],d1,n1,n2,n3]:=h;apply#[?_,#[yh,s.lst a1,bS.nt a2 s],#[zs,s.lst b1,bS.nt b2 s],#[yp,s.lst c1,Paired.aQ c2 λy p ⟨t,v,e,ht,w⟩=>#[t,v,e,s.tup ht,w.nt s]],s.dK d1,n1,n2,n3];rcases a0 with⟨n,e⟩|⟨n,m,c,e⟩
 ·exact .inl #[n,s.lst e]
 exact .inr #[n,m,c,s.lst e]
theorem _b{K:ai}{H:Hp}{a:Addr}(s:aa H H')(h:d5 K H a xs):d5 K H' a xs:=by
 rcases h with (h|⟨o,h⟩)|h
 ·exact .inl (.inl (s _ _ h))
 ·exact .inl (.inr #[o,s _ _ h])
 exact .inr h
theorem aM.same{l:Addr}{H H1 H2:Hp}(b:aM l H1 H2)(n:H l=none)(s:aa H H1):aa H H2:=λc o e=>b c o (s c o e) (bG e n)
section v
theorem bz.imp{k:Nat}{x:Str}{ps:ag}{sp BQ:Sp}(c:!bz k x ps sp)(h:∀vs H Q E,BQ vs H Q E->sp vs H Q E):!bz k x ps BQ:=by
 let#[f,fd,F,m]:=c.ex;exact#[f,fd,F.imp h,m]
end
abbrev mG:=Option (af × V)
def uX:mG->af
 |some (zs,_)=>zs
 |none=>[]
def mr(hs:Xa)(qs:aV)(c:Nat)(l:List mG)(k:Nat):Prop:=∃th,l[k]? = some th/\(¬iu hs qs c th∨∃j kY,j<k/\l[j]? = some kY/\uX kY=uX th)
def yD(K:ai)(H:Hp):af->List mG->Prop:=Paired (ke K H)
theorem Rn{K:ai}{H:Hp}{t:Aa}(h:dC K H v t)(s:aa H H'):dC K H' v t:=by
 cases h with
 |non=>exact .non
 |bl x=>exact .bl x
 |int i=>exact .int i
 |str x=>exact .str x
 |flt x=>exact .flt x
 |lst e=>exact .lst (s _ _ e)
 |frz e=>exact .frz (s _ _ e)
 |tup e=>exact .tup (s _ _ e)
 |dK e=>exact .dK (s _ _ e)
 |dT e=>exact .dT (s _ _ e)
 |ins e a b c d f=>exact .ins (s _ _ e) a b c d f
variable{th:mG}
theorem ke.same{K:ai}{H:Hp}{y:V}(h:ke K H y th)(s:aa H H'):ke K H' y th:=by
 match th,h with
 |none,.inl ⟨t,ty,e⟩=>exact .inl #[t,Rn ty s,e]
 |none,.inr ⟨a,xs,e,ha,.inl h⟩=>exact .inr #[a,xs,e,s _ _ ha,.inl h]
 |none,.inr ⟨a,xs,e,ha,.inr ⟨v,r,t,h,ty,q⟩⟩=>exact .inr #[a,xs,e,s _ _ ha,.inr #[v,r,t,h,Rn ty s,q]]
 |some (zs,nv),⟨a,t,e,h1,h2,h3,h4⟩=>exact#[a,t,e,s _ _ h1,s _ _ h2,h3,h4]
theorem iu.qM{hs:Xa}{qs:aV}{c:Nat}(h:iu hs qs c th):∃(z:ax) (n:Nat),th\(sV z,.int n)/\Vs hs qs z/\n<c:=by
 match th,h with
 |some (zs,nv),⟨h1,h2,n,e,h3,h4⟩=>
  have:∃z:ax,zs=sV z/\∀x∈z,x∈aU hs:=by
   clear h1
   induction zs with
   |nil=>exact#[[],U,by simp]
   |cons v r ih=>
    let#[x,ex,hx]:=h2 v Y1;let#[z,ez,hz]:=ih λw hw=>h2 w (by simp[hw])
    exact#[x::z,by rw[ex,ez];rfl,λy hy=>by
     rcases cg.mp hy with rfl|hy
     ·exact hx
     exact hz y hy]
  let#[z,rfl,hz]:=this;apply#[z,n.toNat,?_,#[by simpa using h1,hz],by omega];rw[e,Int.toNat_of_nonneg h3]
variable{fd:Ae}
section v
theorem nB:bQ ["goods","count","shut","known","k","thing"] ["goods","count","shut"] (a_ zG):=bZ
inductive lj (K:ai) (CG CW:Addr) (vs:af) (H:Hp) (Q:VK) (E:XK):Prop
 |mk:∀(g p:Addr) (y0:V) (hs:Xa) (ts:Xb) (qs:aV) (fp:aw) (c:Nat),vs=[.ref g,.int c,y0]->Gs K CG CW H g p hs ts qs fp->c<=100->((∃t,dC K H y0 t/\PySem.W.kitOne K t (.type "list")\false/\Q (.int (-1)) H)∨∃(lS:Addr) (ys:af) (l:List mG),y0=.ref lS/\H lS\.lst ys/\yD K H ys l/\l.length<=1000/\(∀H',aa H H'->(∀k,¬mr hs qs c l k)->Q .non H')/\∀H' (k:Nat),aa H H'->mr hs qs c l k->(∀j,j<k->¬mr hs qs c l j)->Q (.int k) H')->lj K CG CW vs H Q E
theorem Zr{f CG CW:Addr}(F:bu K "place_of_wrong_form" "place_of_wrong_form" zG f fd)(B:Bi mg)(cE:!bz 3 "is_entry" oE (Oq K CG CW)):!ak bc 4 f fd ["goods","count","shut"] (lj K CG CW):=by
 exists F.bW nB;let#[g,p,y0,hs,ts,qs,fp,c,rfl,G,c2,h]:=h;let hu:=fP hr;let sz:=cJ;refine' #[_,au ?s1 (au ?s2 (au ?s3 (aJ ?s4))),?kk]
 case s1=>exact b_ (eK (d0 (bT gL (by rfl) B.gA gE %[2,gM (v:=.ty "list") (by rfl) B.list qe U|0]))) (aJ (bp (A_ Bl av))) cm
 case s2=>exact bw 3 nB.nd S0
 case' s3=>refine' d8 dS U (Sw (by rfl) B.enum %[2|0]) ?g3 (au ?b1 (aJ ?b2))
 case g3=>exact ju U (df (bX 4 nB.nd) (df (bX 5 nB.nd) hW))
 case b1=>exact b_ (iK (eK (d0 (bj cE hr %[0,1,5|0]))) (jY (qj (Bo hu (bg cj (pv 5) av) (pv 3))))).pt (aJ (bp (pv 4))) cm
 case b2=>exact u4 hu (pv 3) (bg cj (pv 5) av) jv U
 case s4=>exact bp ou
 rcases h with⟨t,ty,e,q⟩|⟨lS,ys,l,rfl,hl,th,l3,kN,kB⟩
 ·apply#[_,U,_,_,_,_,U,ty,e,_,U,bN ?_];exact#[_,U,q]
 let BY:=bI th;apply#[_,U,_,_,_,_,U,.lst hl,U,_,U,aF ?_];intro d hd;let s1:=aa.new (o:=.dT []) hd;have e1:upd H d (.dT []) d\.dT (kn []):=ay;generalize upd H d (.dT [])=H1 at s1 e1 ⊢
 let Iv:dD:=λi σ H'=>∃(v4 v5:aI) (zl:List ax),σ=[some (.ref g),some (.int c),some (.ref lS),some (.ref d),v4,v5]/\aa H H'/\H' d\.dT (kn zl)/\zl.length=i/\(∀(j:Nat) z,zl[j]? = some z->∃th,l[j]? = some th/\uX th=sV z)/\∀j,j<i->¬mr hs qs c l j
 apply#[_,U,lS,U,#[_,.of (s1 _ _ hl)],Th (K:=K) (a:=lS) (xs:=ys) Iv #[none,none,[],U,s1,e1,U,λj z e=>(by cases e),λj h=>absurd h (Nat.not_lt_zero _)] (λi σ H' _ ⟨_,_,_,_,sm,_⟩=>.of (sm _ _ hl)) ?_ ?_]
 ·rintro i y σ H2 hy ⟨v4,v5,zl,rfl,s2,e2,C3,yU,good⟩ tt vU;have hi:i<ys.length:=(cu.mp hy).1
  obtain⟨x,hx,xg⟩:∃x,l[i]? = some x/\ke K H y x:=by
   have:=dO th i hi Y0;rw[aX hi] at hy;cases hy;exact#[l[i]' Y0,aX Y0,this]
  let#[s3,e3]:=aB (o:=.tup [.int i,y]) vU;let dH:=s2.trans s3;let uR:=s3 _ _ e2;show gi _ _ _ _ _ (upd H2 tt (.tup [.int i,y])) _;generalize upd H2 tt (.tup [.int i,y])=H3 at s3 e3 dH uR ⊢;apply#[tt,_,U,.of e3,U,_,_,U,_,_,U,U,?_];apply#[_,U,_,U,_,U,g,p,y,hs,ts,qs,fp,x,c,U,G.same dH,xg.same dH,c2,λb H4 s4 hb=>#[_,U,?_]];let fI:=dH.trans s4;let IQ:=s4 _ _ uR;cases b with
  |false=>
   apply bN ?_;exact#[_,U,kB H4 i fI #[x,hx,.inl λh=>by have:=hb.mpr h;cases this] good]
  |true=>
   apply aF ?_;let ok:=hb.mp U;let#[z,n,rfl,v,nc]:=ok.qM;let#[a,t,rfl,ha,ht,_,_]:=xg;have hK:H4 t\.tup ((sK z).map kV):=by rw[iP];exact fI _ _ ht
   apply#[_,U,a,_,0,_,U,U,.of (fI _ _ ha),L2.cZ (j:=0) U,_,U,d,_,U,.t IQ hK,_,U,?_];rw[RX];by_cases cz:z∈zl
   ·rw[c_ cz];apply bN ?_;let#[j,hj,ej]:=gB cz;let#[kY,h1,h2]:=yU j z (by rw[aX hj,ej]);exact#[_,U,kB H4 i fI #[_,hx,.inr #[j,kY,by omega,h1,h2]] good]
   rw[fO cz];apply aF ?_
   have lk:(kn zl).length<sizeLine:=by
    unfold kn;rw[aq];omega
   apply#[_,U,_,U,a,_,0,_,U,U,.of (fI _ _ ha),L2.cZ (j:=0) U,d,_,U,.t IQ hK lk,?_];rw[QX cz];apply#[_,_,zl++[z],U,fF fI hd,ay,by rw[dM,C3];rfl,λj y hj=>?_,λj hj=>?_]
   ·by_cases q:j<zl.length
    ·rw[w4 q] at hj;exact yU j y hj
    let vY:=(cu.mp hj).1;rw[dM,oC] at vY;have:j=zl.length:=by omega
    subst this;rw[yP (a9 _),Nat.sub_self] at hj;cases hj;exact#[_,by rw[C3];exact hx,U]
   by_cases q:j<i
   ·exact good j q
   have:j=i:=by omega
   subst this;rintro⟨th,e,h|⟨j',kY,LW,e',es⟩⟩
   ·rw[hx] at e;cases e;exact h ok
   rw[hx] at e;cases e;have vS:zl[j']? = some (zl[j']' Y0):=aX Y0;let#[V1,h1,h2]:=yU j' _ vS;rw[e'] at h1;cases h1;rw[h2] at es;have:zl[j']' Y0=z:=List.map_inj_right (λx y e=>by cases e;rfl) |>.mp es;rw[<- this] at cz;exact cz (j_ _)
 rintro σ H2 ⟨v4,v5,zl,rfl,s2,_,_,_,good⟩;apply kN H2 s2 λk=>?_;by_cases q:k<ys.length
 ·exact good k q
 rintro⟨th,e,_⟩;have:=(cu.mp e).1;omega
end
theorem gn_{α:Type}{ns:List α}(nd:ns.Nodup){i:Nat}{n:α}(h:ns[i]? = some n):n∉ns.take i:=λhm=>by
 let#[j,hj,e]:=gB hm;rw[dJ] at hj;rw[List.getElem_take] at e;have:=(List.getElem?_inj Y0 nd).mp (show ns[j]? = ns[i]? by rw[h,aX Y0,e]);omega
def gf(l:List (ax × Nat)):List (aD × V):=l.map λe=>(sK e.1,.int (e.2:Nat))
theorem NQ(l:List (ax × Nat)):(gf l).map (·.1)=(l.map (·.1)).map sK:=by
 unfold gf;rw[cy,cy];rfl
theorem JD{l:List (ax × Nat)}{z:ax}(h:z∉l.map (·.1)):aZ (gf l) (sK z)=none:=u7 (by
 rw[NQ];intro hm;let#[x,hx,e]:=bx.mp hm;rw[<- FI e] at h;exact h hx)
theorem pE:∀{l:List (ax × Nat)} {z:ax} {n:Nat},(l.map (·.1)).Nodup->(z,n)∈l->aZ (gf l) (sK z)\.int (n:Nat)
 |[],_,_,_,h=>by cases h
 |(y,m)::r,z,n,nd,h=>by
  rw[fE,kU] at nd;rcases cg.mp h with e|h
  ·cases e;exact yI U
  have ne:¬sK y=sK z:=λe=>by
   have:=FI e;subst this;exact nd.1 (bx.mpr #[(y,n),h,U])
  rw[show aZ (gf ((y,m)::r)) (sK z)=aZ (gf r) (sK z) from yJ ne];exact pE nd.2 h
variable{f0:Addr}
section v
theorem xC:bQ ["goods","stand","limit","count","placed"] uh (a_ zH):=bZ
inductive qS (K:ai) (CG CW:Addr) (vs:af) (H:Hp) (Q:VK) (E:XK):Prop
 |mk:∀(g p d lt:Addr) (hs:Xa) (ts:Xb) (qs:aV) (fp:aw) (s0:ax) (ns:ag) (f:bF) (l:Int × Int) (c:Nat),vs=[.ref g,.ref d,.ref lt,.int c]->Gs K CG CW H g p hs ts qs fp->Cp H d hs qs fp s0 ns f->hY H lt l->uZ l->1<=c->c<=100->(∀d' H',aa H H'->H d'=none->H' d'\.dK (gd (qs.map (·.1)) f)->Q (.ref d') H')->qS K CG CW vs H Q E
theorem YM{CG CW:Addr}(F:bu K "checked_shut_start" "checked_shut_start" zH f0 fd){tk:Tok}(mM:mg "MOST_COUNT"\.int 100 tk)(cL:!bz 4 "check_limit" fM qT)(cS:!bz 2 "checked_stand" yq (Jp K CG CW))(cW:!bz 2 "is_whole_within" yB I_):!ak bc 5 f0 fd uh (qS K CG CW):=by
 exists F.bW xC;let#[g,p,d,lt,hs,ts,qs,fp,s0,ns,f,l,c,rfl,G,S,hl,lo,c1,c2,k]:=h;refine' #[_,au ?s1 (au ?s2 (au ?s3 (aJ ?s4))),?kk]
 case s1=>exact j8 (bj cL hr %[2|0])
 case s2=>exact bw 4 xC.nd (bj cS hr %[0,1|0])
 case s3=>exact b_ (eK (d0 (bj cW hr %[3,av,CB (v:=.int 100) (by rfl) mM #[tk,U]|0]))) gC cm
 case s4=>exact bp (pv 4)
 apply#[_,U,lt,l,U,hl,lo,?_];apply#[_,U,_,U,g,p,d,hs,ts,qs,fp,ns,f,U,G.G,S.pX,S.hd,S.ok,G.nd,G.cQ,λd1 H1 s1 n1 e1=>?_];apply#[_,U,c,1,100,U,_,U,?_];rw[c_ (show (1:Int)<=(c:Int) by omega),c_ (show (c:Int)<=100 by omega)];exact aF #[_,U,k d1 H1 s1 n1 e1]
end
def Out(N:ax->ax->Prop)(l:List (ax × Nat))(z:ax)(m:Nat):Prop:=∃y,N z y/\∀k,(y,k)∈l->m+1<k
section v
theorem nC:bQ ["reach","hands","number_by_hands","most"] ui (a_ lM):=bZ
inductive NW (K:ai) (CR:Addr) (vs:af) (H:Hp) (Q:VK) (E:XK):Prop
 |mk:∀(r dx t x a n nd:Addr) (hs:Xa) (ts:Xb) (qs:aV) (l:List (ax × Nat)) (z:ax) (m:Nat),vs=[.ref r,.ref t,.ref nd]->H r\.ins CR dx (d_ x a n)->xb H x hs ts qs->H t\.tup (sV z)->Vs hs qs z->(aU hs).length<=8->qs.length<64->H nd\.dT (gf l)->(l.map (·.1)).Nodup->(z,m)∈l->(∀e∈l,e.2<=100)->(∀b H',aa H H'->(b=true ↔ Out (Nx hs ts qs) l z m)->Q (.bl b) H')->NW K CR vs H Q E
theorem hU_{f CR:Addr}(F:bu K "leads_out" "leads_out" lM f fd)(T:ug K CR)(B:Bi mg)(cM:!bY CR 1 "one_move_on" ["self","hands"] (Ny CR)):!ak bc 2 f fd ui (NW K CR):=by
 exists F.bW nC;let#[r,dx,t,x,a,n,nd,hs,ts,qs,l,z,m,rfl,HU,ex,ht,v,n8,KL,pS,Hw,zm,XY,k]:=h;let hu:=fP hr;let sz:=cJ;refine' #[_,au ?s1 (aJ ?s2),?kk]
 case s1=>exact bw 3 nC.nd (br fG (j7 hu (pv 2) (pv 1)) av)
 case' s2=>refine' bp (bT (hW_ U) (by rfl) B.any PyProof.Rows.Boot.«any» %[jb ["after","most","number_by_hands"] 1 [3,2] (d4 (j1 cM T.cl hr (pv 0) %[1|0])) (λfp s H=>?g2) (λfp s H=>jx) (λfp s H=>?e2)|0])
 case g2=>exact fu (i:=0) (show (["after","most","number_by_hands"]:ag).Nodup by decide +kernel) U (Or.inl U)
 case e2=>exact wN EM (_j hu (pv 2) (pv 0) (br fG (pv 1) av) #[U,U,U,U]) (pv 1)
 have hK:H t\.tup ((sK z).map kV):=by rw[iP];exact ht
 have g0:cK H nd (.ref t) (some (.int (m:Nat))):=by
  have:=cK.t pS hK;rw[pE Hw zm] at this;exact this
 apply#[_,U,_,U,nd,_,U,g0,_,_,U,U,?_];apply#[_,U,r,dx,_,U,HU,hP_ _ _ _ Z0 Z0 Z0,_,U,r,dx,t,x,a,n,hs,ts,qs,z,U,HU,ex,ht,v,n8,KL,λla ys L H1 s1 nla e1 sp mem lL=>?_];let BY:=bI sp;apply#[la,U,#[_,.of e1],λD hD=>?_]
 have num:∀y:ax,∃o:Option Nat,aZ (gf l) (sK y)=o.map (λk=>V.int (k:Nat))/\∀k,(y,k)∈l ↔ o=some k:=λy=>by
  by_cases c:y∈l.map (·.1)
  ·let#[e,he,rfl]:=bx.mp c;apply#[some e.2,pE Hw he,λk=>#[λh=>?_,λh=>?_]]
   ·have:=(pE Hw h).symm.trans (pE Hw he);have:=V.int.inj (dN this);congr 1;omega
   cases h;exact he
  exact#[none,JD c,λk=>#[λh=>absurd (bx.mpr #[_,h,U]) c,λh=>by cases h]]
 apply j9 (own:=1) (fv:=[some (.int ((m:Int)+1)),some (.ref nd)]) (xs:=ys) U fg (λj out H'=>aa H1 H'/\∃bs:List Bool,H' D\.lst (bs.map V.bl)/\out=bs.map V.bl/\bs.length=j/\(true∈bs ↔ ∃y∈L.take j,∀k,(y,k)∈l->m+1<k)) #[aa.new hD,[],ay,U,U,by simp] (λj out H' _ ⟨sm,_⟩=>.of (sm _ _ e1)) (λout H5 ⟨s5,bs,jt,eo,_,all⟩=>?_) (λj y out H' hy ⟨sm,bs,dq,eo,lb,all⟩=>?_);rotate_left 1
 ·have hj:j<ys.length:=(cu.mp hy).1
  obtain⟨u,Ex,tu,rfl,htu⟩:∃u,L[j]? = some u/\∃t,y=.ref t/\H1 t\.tup (sV u):=by
   have:=dO sp j hj Y0;rw[aX hj] at hy;cases hy;exact#[L[j]' Y0,aX Y0,this]
  have Ik:H' tu\.tup ((sK u).map kV):=by rw[iP];exact sm _ _ htu
  have EN:H' nd\.dT (gf l):=sm _ _ (s1 _ _ pS);let#[o,eo',mo]:=num u
  have g1:cK H' nd (.ref tu) (o.map λk=>V.int (k:Nat)):=by
   rw[<- eo'];exact cK.t EN Ik
  have l1:out.length<sizeLine:=by rw[eo,aq];omega
  have tk:∀(Pp:ax->Prop),(∃y∈L.take (j+1),Pp y) ↔ (∃y∈L.take j,Pp y)∨Pp u:=λPp=>by
   rw[oB,Ex];constructor
   ·rintro⟨x,hx,r⟩;rcases dB.mp hx with hx|hx
    ·exact .inl #[x,hx,r]
    have:x=u:=⇑hx
    rw[this] at r;exact .inr r
   rintro (⟨x,hx,r⟩|r)
   ·exact#[x,dB.mpr (.inl hx),r]
   exact#[u,by simp,r]
  obtain⟨vn,MM,HQ⟩:∃vn:Int,(o.map λk=>V.int (k:Nat)).getD (.int ((m:Int)+1+1))=.int vn/\((m:Int)+1<vn ↔ ∀k,(u,k)∈l->m+1<k):=by
   cases o with
   |none=>exact#[_,U,#[λ_ k hk=>(by have:=(mo k).mp hk;cases this),λ_=>by omega]]
   |some q=>
    apply#[(q:Nat),U,#[λh k hk=>?_,λh=>?_]]
    ·have:=(mo k).mp hk;cases this;omega
    have:=h q ((mo q).mpr U);omega
  apply#[_,U,U,λNx hN=>eP ?_];apply#[_,U,nd,U,.inr #[_,.inl EN],_,U,_,U,_,_,U,U,_,g1,?_];rw[MM];apply#[_,U,_,_,U,U,out,by rw[eo];exact dq,l1,hN (out++[.bl (decide ((m:Int)+1<vn))]) _ #[fF sm hD,bs++[decide ((m:Int)+1<vn)],?_,?_,by rw[dM,lb];rfl,?_]]
  ·rw[ay,eo,eJ];rfl
  ·rw[eo,eJ];rfl
  rw[tk,dB,all,fw,eq_comm,uT,HQ]
 rw[BY,d9] at all;apply#[D,bs,U,.of jt,?_];apply k _ H5 (s1.trans s5) ?_;rw[List.any_eq_true];constructor
 ·rintro⟨b,hb,e⟩;have e:b=true:=e;rw[e] at hb;let#[y,hy,h]:=all.mp hb;exact#[y,(mem y).mp hy,h]
 rintro⟨y,hy,h⟩;exact#[true,all.mpr #[y,(mem y).mpr hy,h],U]
end
def ft(H:Hp):af->List (ax × Nat)->Prop:=Paired λy e=>∃a t,y=.ref a/\H a\.tup [.ref t,.int (e.2:Nat)]/\H t\.tup (sV e.1)
theorem Jn{H:Hp}:∀{ys:af} {l:List (ax × Nat)},ft H ys l->mI H ys (gf l)
 |_,_,.nil=>.nil
 |_,_,.cons ⟨a,t,e,h1,h2⟩ r=>.cons #[a,t,e,h1,by rw[iP];exact h2] (Jn r)
abbrev Flt:=Option (Str × Option Int)
def RF(H:Hp)(v:V):Flt->Prop
 |none=>v=.non
 |some (w,none)=>∃t,v=.ref t/\H t\.tup [.str w]
 |some (w,some k)=>∃t,v=.ref t/\H t\.tup [.str w,.int k]
noncomputable def gj (N:ax->ax->Prop) (c:Nat) (ev:ax->Bool) (es:List (ax × Nat)):List (ax × Nat)->Nat->Flt
 |[],_=>none
 |e::r,k=>if ev e.1=true then some ("even",some (k:Int)) else if h:@decide (e.2<c - 1/\Out N es e.1 e.2) (Classical.propDecidable _)=true then some ("open",some (k:Int)) else gj N c ev es r (k+1)
noncomputable def flt (N:ax->ax->Prop) (s0:ax) (c:Nat) (ev:ax->Bool) (es:List (ax × Nat)):Flt:=if @decide ((s0,0)∈es) (Classical.propDecidable _)=true then gj N c ev es es 0 else some ("first",none)
theorem Gi{N:ax->ax->Prop}{c:Nat}{ev:ax->Bool}{es:List (ax × Nat)}:∀{l:List (ax × Nat)} {i k:Nat},(∀e∈l.take i,ev e.1=false/\¬(e.2<c - 1/\Out N es e.1 e.2))->gj N c ev es l k=gj N c ev es (l.drop i) (k+i)
 |_,0,_,_=>rfl
 |[],i+1,k,_=>rfl
 |e::r,i+1,k,h=>by
  let#[h1,h2]:=h e Y1;show (if ev e.1=true then _ else _)=_;rw[aC (by rw[h1];decide),dif_neg (by rw[@decide_eq_true_iff _ (Classical.propDecidable _)];exact h2),Gi (i:=i) λx hx=>h x (by simp[hx])];show _=gj N c ev es (r.drop i) (k+(i+1));rw[show k+1+i=k+(i+1) by omega]
section v
theorem BC:bQ ["goods","stand","limit","count","shut","placed","wrong","number_by_hands","reach","k","entry"] oH (a_ lH):=bZ
theorem Mu{K:ai}{H:Hp}:∀{ys:af} {es:List (ax × Nat)},ft H ys es->yD K H ys (es.map λe=>(some (sV e.1,.int (e.2:Nat)):mG))
 |_,_,.nil=>.nil
 |_,_,.cons ⟨a,t,e,h1,h2⟩ r=>.cons #[a,t,e,h1,h2,λv hv=>by
   let#[x,_,rfl]:=bx.mp hv;exact#[some x,λ_=>rfl],some _,λ_=>rfl] (Mu r)
theorem Su{hs:Xa}{qs:aV}{c:Nat}{es:List (ax × Nat)}(nd:(es.map (·.1)).Nodup)(hv:∀e∈es,Vs hs qs e.1/\e.2<c)(k:Nat):¬mr hs qs c (es.map λe=>(some (sV e.1,.int (e.2:Nat)):mG)) k:=by
 rintro⟨th,e,h⟩;rw[de] at e;let#[x,hx,rfl]:=wY.mp e;rcases h with h|⟨j,kY,hj,e',Cr⟩
 ·let#[v,n]:=hv x (cB hx)
  exact h #[by rw[aq];exact v.len,λw hw=>by
   let#[y,hy,rfl]:=bx.mp hw;exact#[y,U,v.hZ y hy],_,U,by omega,by omega]
 rw[de] at e';let#[y,hy,rfl]:=wY.mp e';have ez:y.1=x.1:=List.map_inj_right (λa b e=>by cases e;rfl) |>.mp Cr;have:=gn_ nd (i:=k) (n:=x.1) (by rw[de,hx];rfl);rw[<- List.map_take] at this;apply this (bx.mpr #[y,?_,ez]);exact cB (show (es.take k)[j]? = some y by rw[List.getElem?_take,aK hj];exact hy)
inductive Jw (K:ai) (CG CW:Addr) (vs:af) (H:Hp) (Q:VK) (E:XK):Prop
 |mk:∀(g p d lt:Addr) (y0:V) (hs:Xa) (ts:Xb) (qs:aV) (fp:aw) (s0:ax) (ns:ag) (f:bF) (lim:Int × Int) (c:Nat),vs=[.ref g,.ref d,.ref lt,.int c,y0]->Gs K CG CW H g p hs ts qs fp->Cp H d hs qs fp s0 ns f->hY H lt lim->uZ lim->1<=c->c<=100->(((∃t,(∀H',aa H H'->dC K H' y0 t)/\PySem.W.kitOne K t (.type "list")\false)/\∀v H',aa H H'->RF H' v (some ("form",some (-1)))->Q v H')∨(∃(lS:Addr) (ys:af) (l:List mG) (k:Nat),y0=.ref lS/\H lS\.lst ys/\yD K H ys l/\l.length<=1000/\mr hs qs c l k/\(∀j,j<k->¬mr hs qs c l j)/\∀v H',aa H H'->RF H' v (some ("form",some (k:Int)))->Q v H')∨∃(lS:Addr) (ys:af) (es:List (ax × Nat)),y0=.ref lS/\H lS\.lst ys/\ft H ys es/\es.length<=1000/\(es.map (·.1)).Nodup/\(∀e∈es,Vs hs qs e.1/\e.2<c)/\∀v H',aa H H'->RF H' v (flt (Nx hs ts qs) s0 c (λz=>l9 hs qs z lim) es)->Q v H')->Jw K CG CW vs H Q E
theorem gM_{CG CW CR:Addr}(F:bu K "shut_fault" "shut_fault" lH f0 fd)(B:Bi mg)(T:ug K CR)(cC:!bz 5 "checked_shut_start" uh (qS K CG CW))(cP:!bz 4 "place_of_wrong_form" ["goods","count","shut"] (lj K CG CW))(cR:!mQ CR 5 "Reach" ["self","goods","placed"] (ND K CG CW CR))(cE:!bz 7 "is_even" oF (OA K CG CW))(cL:!bz 2 "leads_out" ui (NW K CR)):!ak bc 8 f0 fd oH (Jw K CG CW):=by
 exists F.bW BC;let#[g,p,d,lt,y0,hs,ts,qs,fp,s0,ns,f,lim,c,rfl,G,S,dQ,lo,c1,c2,hc]:=h;let hu:=fP hr;let sz:=cJ;have n8:(aU hs).length<=8:=by rw[G.Gd.iU];exact G.Gd.h8
 refine' #[_,au ?s1 (au ?s2 (au ?s3 (au ?s4 (au ?s5 (au ?s6 (au ?s7 (aJ ?s8))))))),?kk]
 case s1=>exact bw 5 BC.nd (bj cC hr %[0,1,2,3|0])
 case s2=>exact bw 6 BC.nd (bj cP hr %[0,3,4|0])
 case s3=>exact b_ (eO RU (pv 6) ou) (aJ (bp (dA %[jX,6|0]))) cm
 case s4=>exact bw 7 BC.nd (gS (Pb U (kR hr 1)) (by rfl) B.dict qd %[4|0])
 case s5=>exact b_ (eO om (_t hu (pv 7) (gS (T3 U) (by rfl) B.tuple oA %[Jx (pv 5)|0]) #[U,U,U,U]) av) (aJ (bp (gS JI (by rfl) B.tuple oA %[eI %[jX|0]|0]))) cm
 case s6=>exact bw 8 BC.nd (Ll cR hr %[0,5|0])
 case' s7=>refine' d8 dS U (Sw (by rfl) B.enum %[4|0]) ?g7 (au ?b1 (aJ ?b2))
 case g7=>exact ju U (df (bX 9 BC.nd) (df (bX 10 BC.nd) hW))
 case b1=>exact b_ (d0 (bj cE hr %[0,bg cj (pv 10) av,2|0])) (aJ (bp (dA %[jX,9|0]))) cm
 case b2=>exact b_ (Rk (eO Fs (bg cj (pv 10) av) (br Cw (pv 3) av)) (Sl (d0 (bj cL hr %[8,bg cj (pv 10) av,7|0])))).pt (aJ (bp (dA %[jX,9|0]))) cm
 case s8=>exact bp ou
 let BN:=S.vs
 let ev:ax->Bool:=λz=>l9 hs qs z lim
 apply#[_,U,_,U,_,U,_,U,g,p,d,lt,hs,ts,qs,fp,s0,ns,f,lim,c,U,G,S,dQ,lo,c1,c2,λd1 H1 s1 n1 e1=>?_];have Fv:∀{H2:Hp} {q:Int},aa H H2->(∀v H',aa H H'->RF H' v (some ("form",some q))->Q v H')->∀t,H2 t=none->Q (.ref t) (upd H2 t (.tup [.str "form",.int q])):=λs2 k t ht=>k _ _ (s2.trans (aa.new ht)) #[t,U,ay];rcases hc with⟨⟨t,ty,e⟩,k⟩|⟨lS,ys,l,k,rfl,hl,th,l3,bad,fst,kk⟩|⟨lS,ys,l,rfl,hl,sh,l3,nU,B6,kk⟩
 ·apply#[_,U,_,U,_,U,g,p,y0,hs,ts,qs,fp,c,U,G.same s1,c2,.inl #[t,ty H1 s1,e,?_]];apply#[_,U,U,_,U,bN ?_];exact#[_,U,zl,Fv s1 k]
 ·apply#[_,U,_,U,_,U,g,p,.ref lS,hs,ts,qs,fp,c,U,G.same s1,c2,.inr #[lS,ys,l,U,s1 _ _ hl,Paired.aQ th λ_ _ q=>q.same s1,l3,λH2 s2 no=>absurd bad (no k),λH2 k' s2 mi A1=>?_]]
  have ek:k'=k:=by
   rcases Nat.lt_trichotomy k' k with q|q|q
   ·exact absurd mi (fst k' q)
   ·exact q
   exact absurd bad (A1 k q)
  subst ek;apply#[_,U,U,_,U,bN ?_];exact#[_,U,zl,Fv (s1.trans s2) kk]
 let BY:=bI sh;apply#[_,U,_,U,_,U,g,p,.ref lS,hs,ts,qs,fp,c,U,G.same s1,c2,.inr #[lS,ys,_,U,s1 _ _ hl,Mu (Paired.aQ sh λy e ⟨a,t,q,h1,h2⟩=>#[a,t,q,s1 _ _ h1,s1 _ _ h2]),by rw[aq];exact l3,λH2 s2 _=>?_,λH2 k' s2 mi _=>absurd mi (Su nU B6 k')]];let iQ:=s1.trans s2;apply#[_,U,U,_,U,aF ?_];apply#[_,U,lS,ys,gf l,U,iQ _ _ hl,Jn (Paired.aQ sh λy e ⟨a,t,q,h1,h2⟩=>#[a,t,q,iQ _ _ h1,iQ _ _ h2]),by unfold gf;rw[aq];exact l3,λnd iT=>?_]
 have jm:((gf l).map (·.1)).Nodup:=by
  rw[NQ,mC,ub];exact (mC.mp nU).imp λn e=>n (FI e)
 rw[ON (gf l) [] ⇑jm,List.nil_append];let#[s3,e3]:=aB (o:=.dT (gf l)) iT;let dH:=iQ.trans s3;let uR:=(s2.trans s3) _ _ e1;generalize upd H2 nd (.dT (gf l))=H3 at s3 e3 dH uR ⊢;apply#[_,U,nd,U,.inr #[_,.inl e3],_,U,d1,_,U,uR,λv hv=>?_];let#[s4,e4]:=aB (o:=qc v d1) hv;generalize upd H3 v (qc v d1)=H4 at s4 e4 ⊢;apply#[v,d1,_,U,e4,s4 _ _ uR,λt ht=>?_]
 have evv:(gd (qs.map (·.1)) f).map (·.2)=sV s0:=by
  rw[S.s0];simp only[gd,dY,sV,cy];rfl
 rw[evv];let#[s5,e5]:=aB (o:=.tup (sV s0)) ht;let zK:=s4.trans s5;let jD:=dH.trans zK;let A8:=zK _ _ uR;let K1:=zK _ _ e3;generalize upd H4 t (.tup (sV s0))=H5 at s5 e5 zK jD A8 K1 ⊢;have hK:H5 t\.tup ((sK s0).map kV):=by rw[iP];exact e5
 apply#[_,.t K1 hK,?_]
 obtain⟨vn,MM,Wf,HQ⟩:∃vn:V,(aZ (gf l) (sK s0)).getD .non=vn/\zq vn (.int 0)=true/\(vn=.int 0 ↔ (s0,0)∈l):=by
  by_cases q:s0∈l.map (·.1)
  ·let#[e,he,ee]:=bx.mp q;have pT:(s0,e.2)∈l:=by rw[<- ee];exact he
   apply#[.int (e.2:Nat),by rw[pE nU pT];rfl,U,#[λh=>?_,λh=>?_]]
   ·let h:=V.int.inj h;have:e.2=0:=by omega
    rw[<- this];exact pT
   have:=(pE nU h).symm.trans (pE nU pT);exact (dN this).symm
  exact#[.non,by rw[JD q];rfl,U,#[λh=>(by cases h),λh=>absurd (bx.mpr #[_,h,U]) q]]
 rw[MM];apply#[Wf,_,U,?_];apply bH (λcc=>?_) (λcc=>?_)
 ·have nf:(s0,0)∉l:=λh=>by
   have:=HQ.mpr h;rw[this] at cc;simp at cc
  have ef:flt (Nx hs ts qs) s0 c ev l\(("first":Str),none):=by
   unfold flt;rw[aC (by rw[@decide_eq_true_iff _ (Classical.propDecidable _)];exact nf)]
  apply#[zl,λl1 fZ=>?_];let#[s6,e6]:=aB (o:=.lst [.str "first"]) fZ;generalize upd H5 l1 (.lst [.str "first"])=H6 at s6 e6 ⊢;apply#[l1,_,U,.inl #[.of e6,λt ht=>?_]];exact kk _ _ ((jD.trans s6).trans (aa.new ht)) (by rw[show (λz=>l9 hs qs z lim)=ev from U,ef];exact#[t,U,ay])
 have first:(s0,0)∈l:=HQ.mp ⇑cc
 have ef:flt (Nx hs ts qs) s0 c ev l=gj (Nx hs ts qs) c ev l l 0:=by
  unfold flt;rw[aK (by rw[@decide_eq_true_iff _ (Classical.propDecidable _)];exact first)]
 apply#[_,U,_,U,λr dx Ca E8 ne=>?_];have s6:aa H5 (upd (upd H5 dx (.own r)) r (.ins CR dx [])):=(aa.new E8).trans (aa.new (by rw[aA ne.symm];exact Ca));have e6:upd (upd H5 dx (.own r)) r (.ins CR dx []) r\.ins CR dx []:=ay;generalize upd (upd H5 dx (.own r)) r (.ins CR dx [])=H6 at s6 e6 ⊢;let iq:=jD.trans s6;apply#[r,dx,g,p,d1,hs,ts,qs,fp,f,U,e6,G.same iq,s6 _ _ A8,λa x n H7 k7 an R7=>#[U,?_]];have zI:aa H5 H7:=λb o e=>k7 b o (s6 _ _ e) (bG e Ca);let nE:=jD.trans zI;let Xk:=zI _ _ K1;let#[#[dx7,h7r],ex7,_,_]:=R7
 let Iv:dD:=λi σ H'=>∃(v9 v10:aI),σ=[some (.ref g),some (.ref d),some (.ref lt),some (.int c),some (.ref lS),some (.ref d1),some .non,some (.ref nd),some (.ref r),v9,v10]/\aa H7 H'/\∀e∈l.take i,ev e.1=false/\¬(e.2<c - 1/\Out (Nx hs ts qs) l e.1 e.2)
 apply#[_,U,lS,U,#[_,.of (nE _ _ hl)],Th (K:=K) (a:=lS) (xs:=ys) Iv #[_,_,U,aa.refl _,by simp] (λi σ H' _ ⟨_,_,_,sm,_⟩=>.of (sm _ _ (nE _ _ hl))) ?_ ?_]
 ·rintro i y σ H8 hy ⟨v9,v10,rfl,s8,no⟩ tt vU;have hi:i<ys.length:=(cu.mp hy).1
  obtain⟨e,he,a',t',rfl,ha,h_⟩:∃e,l[i]? = some e/\∃a t,y=.ref a/\H a\.tup [.ref t,.int (e.2:Nat)]/\H t\.tup (sV e.1):=by
   have:=dO sh i hi Y0;rw[aX hi] at hy;cases hy;exact#[l[i]' Y0,aX Y0,this]
  let em:=cB he
  have dr:l.drop i=e::l.drop (i+1):=by
   rw[List.drop_eq_getElem_cons Y0];rw[aX Y0] at he;rw[dN he]
  have eg:flt (Nx hs ts qs) s0 c ev l=gj (Nx hs ts qs) c ev l (e::l.drop (i+1)) i:=by
   rw[ef,Gi no,dr,Nat.zero_add]
  let hv:=B6 e em;let#[s9,e9]:=aB (o:=.tup [.int i,.ref a']) vU;let KD:=s8.trans s9;show gi _ _ _ _ _ (upd H8 tt (.tup [.int i,.ref a'])) _;generalize upd H8 tt (.tup [.int i,.ref a'])=H9 at s9 e9 KD ⊢;let xF:=nE.trans KD;apply#[tt,_,U,.of e9,U,_,_,U,_,_,U,U,?_];apply#[_,U,_,U,a',_,0,_,U,U,.of (xF _ _ ha),L2.cZ (j:=0) U,_,U,g,p,t',lt,hs,ts,qs,fp,e.1,lim,U,G.same xF,xF _ _ h_,hv.1,xF _ _ dQ,lo,λHA sA=>#[_,U,?_]];let DN:=xF.trans sA;let DL:=KD.trans sA;apply bH (λce=>?_) (λce=>?_)
  ·apply#[_,U,zl,λt9 Ey=>?_];apply kk _ _ (DN.trans (aa.new Ey)) ?_;rw[show (λz=>l9 hs qs z lim)=ev from U,eg];unfold gj;rw[aK (show ev e.1=true from ce)];exact#[t9,U,ay]
  have ce:ev e.1=false:=⇑ce
  have tk:∀e'∈l.take (i+1),e'∈l.take i∨e'=e:=λe' h'=>by
   rw[oB,he] at h';rcases dB.mp h' with h'|h'
   ·exact .inl h'
   exact .inr ⇑h'
  apply#[_,U,a',_,1,_,U,U,.of (DN _ _ ha),L2.cZ (j:=1) U,_,U,_,_,U,U,_,_,U,U,_,U,?_];apply bH (λcl=>?_) (λcl=>?_)
  ·have cl:e.2<c - 1:=by
    have:=tP cl;omega
   apply#[_,U,_,U,a',_,0,_,U,U,.of (DN _ _ ha),L2.cZ (j:=0) U,_,U,r,dx7,t',x,a,n,nd,hs,ts,qs,l,e.1,e.2,U,DL _ _ h7r,ex7.same DL,DN _ _ h_,hv.1,n8,G.cQ,DL _ _ Xk,nU,em,λe' h'=>by have:=(B6 e' h').2;omega,λb HB sB hb=>#[_,U,?_]];apply bH (λco=>?_) (λco=>?_)
   ·apply#[_,U,zl,λt9 Ey=>?_];apply kk _ _ ((DN.trans sB).trans (aa.new Ey)) ?_;rw[show (λz=>l9 hs qs z lim)=ev from U,eg];unfold gj;rw[aC (by rw[ce];decide),dif_pos (by rw[@decide_eq_true_iff _ (Classical.propDecidable _)];exact#[cl,hb.mp co])];exact#[t9,U,ay]
   apply#[_,_,U,DL.trans sB,λe' h'=>?_];rcases tk e' h' with h'|rfl
   ·exact no e' h'
   exact#[ce,λh=>co (hb.mpr h.2)]
  apply#[_,_,U,DL,λe' h'=>?_];rcases tk e' h' with h'|rfl
  ·exact no e' h'
  apply#[ce,λh=>absurd (c_ ?_) cl];have:=h.1;omega
 rintro σ H8 ⟨v9,v10,rfl,s8,no⟩;rw[BY,d9] at no;apply kk _ H8 (nE.trans s8) ?_;rw[show (λz=>l9 hs qs z lim)=ev from U,ef,Gi (i:=l.length) (by rw[d9];exact no),List.drop_length];rfl
end
end Ev
namespace L2
open PySem PySem.Spec PyProof.Rows PySem.W qt eY
def oV:Option Str->V
 |none=>.non
 |some x=>.str x
def rO:Rp (Option Str):=λ_ x d=>x=oV d
theorem MD{d e:Option Str}(h:oV d=oV e):d=e:=by
 cases d with
 |none=>cases e with
  |none=>rfl
  |some y=>cases h
 |some x=>cases e with
  |none=>cases h
  |some y=>rw[V.str.inj h]
def KH(K:ai){D:Type}(R:Rp D):Rp (List D):=λH x ds=>∃a xs,x=.ref a/\fH K H a xs/\Paired (R H) xs ds
variable{X:Cx}
theorem Of:ji X 0 rO where
 eq:=λ{pins σ H s A x y u v d e} I ru rv hx hy hu=>by
  have hx:x=oV d:=hx;have hy:y=oV e:=hy;subst hx;subst hy;have fl:∀o:Option Str,p7 (oV o)=true:=λo=>by cases o<;>rfl
  let q:=yE (A:=A) (s:=s) ru rv (fl d) (fl e)
  have e2:pe (oV d) (oV e)=decide (d=e):=by
   cases d with
   |none=>cases e with
    |none=>rfl
    |some y=>rfl
   |some x=>cases e with
    |none=>rfl
    |some y=>
     show (x == y)=_;by_cases h:x=y
     ·subst h;simp
     simp[h]
  rwa [e2] at q
 one:=λ{pins σ H s x d e} I hx hy=>MD (Eq.trans (Eq.symm hx) hy)
theorem Sr{D:Type}[DecidableEq D]{ds es:List D}:((List.range (min ds.length es.length)).all (λj=>decide (ds[j]? = es[j]?))&&ds.length == es.length)=decide (ds=es):=by
 by_cases hl:ds.length=es.length
 ·rw[hl,Nat.min_self,<- hl,UL hl];simp
 rw[fO (λz=>hl (by rw[z])),show (ds.length == es.length)=false by rw[beq_eq_false_iff_ne];exact hl,Bool.and_false]
theorem yF{n:Nat}{D:Type}[DecidableEq D]{R:Rp D}(c:ji X n R):ji X (n+1) (KH X.K R) where
 one:=λ{pins σ H s x d e} I hx hy=>by
  let#[a,xs,rfl,t,q]:=hx;let#[b,ys,e0,t',q']:=hy;cases e0;let e1:=I.dm t t';subst e1;exact Od c I q q'
 eq:=λ{pins σ H s A x y u v d e} I ru rv hx hy hu=>by
  let#[a,xs,rfl,t,q]:=hx;let#[b,ys,rfl,t',q']:=hy;cases ru;cases rv;by_cases tq:a=b
  ·subst tq;let e1:=I.dm t t';subst e1;rw[c_ (Od c I q q')];exact SeqAt.EqAt.same _
  let#[us,r,pl,_]:=I.tuple t;let#[vs,r',uD,_]:=I.tuple t';let l1:=r.length;let l2:=r'.length;let l3:=bI q;let l4:=bI q';let key:=SeqAt.EqAt.of_refs tq (SeqAt.RcAt.tuples (A:=A) (s:=s) (wU pl) (wU uD) Y0 (M9 c I r r' q q' (A:=A.in1) (by show A.units+1+n<cLine;omega)));rw[show us.toArray.size=d.length by simp only[cY];omega,show vs.toArray.size=e.length by simp only[cY];omega,Sr] at key;exact key
end L2
namespace Ev
open PySem L2
def GI(l:List mG):Prop:=∀th∈l,∃os:List (Option Str),uX th=os.map oV
variable{fd:Ae}
section v
theorem FM:bQ [j4,mw,"_law_count","_law_shut","_law_names","_law_known","_law_k","_law_row"] ur (a_ rW):=bZ
theorem QZ{p:Prop}{i:Decidable p}(h:@decide p i=true):p:=@tP p i h
theorem Rc{p:Prop}{i:Decidable p}(h:p):@decide p i=true:=@c_ p i h
theorem OQ{H:Hp}:∀os:List (Option Str),Paired (rO H) (os.map oV) os
 |[]=>.nil
 |_::r=>.cons U (OQ r)
theorem fU_{a b:List (Option Str)}(h:a.map oV=b.map oV):a=b:=(List.map_inj_right λ_ _ e=>MD e).mp h
theorem ZK(o:Option Str):p7 (oV o)=true:=by cases o<;>rfl
theorem h4_(ns:ag):(ns.map V.str).all p7=true:=by
 rw[List.all_eq_true];intro x hx;let#[n,_,rfl]:=bx.mp hx;rfl
theorem Rj(o:Option Str)(ns:ag):HN (oV o) (ns.map V.str)=true ↔ ∃h,o\h/\h∈ns:=by
 unfold HN;rw[List.any_map,List.any_eq_true];constructor
 ·rintro⟨x,hx,e⟩;cases o with
  |none=>cases e
  |some y=>exact#[y,U,by rw[<- beq_iff_eq.mp (show (x == y)=true from e)];exact hx]
 rintro⟨h,rfl,hm⟩;exact#[h,hm,show (h == h)=true by simp]
inductive lD (K:ai) (vs:af) (H:Hp) (Q:VK) (E:XK):Prop
 |mk:∀(lh lp lS:Addr) (yh yp ys:af) (hs:Xa) (ts:Xb) (ss qs:aV) (l:List mG) (c:Nat),vs=[.ref lh,.ref lp,.int c,.ref lS]->H lh\.lst yh->bS K H yh (hs.map kH)->Good hs ts->H lp\.lst yp->j3 K H yp ss->eM ts ss qs->ss.length<=8->H lS\.lst ys->yD K H ys l->GI l->l.length<=1000->c<=100->(∀H',aa H H'->(∀k,¬mr hs qs c l k)->Q .non H')->(∀t H' (k:Nat),aa H H'->H' t\.tup [.str "form",.int k]->mr hs qs c l k->(∀j,j<k->¬mr hs qs c l j)->Q (.ref t) H')->lD K vs H Q E
theorem Za{f:Addr}(F:bu K "_law_form" "_law_form" rW f fd)(B:Bi mg):!ak bc 1 f fd ur (lD K):=by
 exists F.bW FM;let#[lh,lp,lS,yh,yp,ys,hs,ts,ss,qs,l,c,rfl,eZ,th,G,jo,pc,S,s8,hl,P9,so,l3,c2,kN,kB]:=h;let hu:=fP hr;let sz:=cJ;let uF:=bI th;rw[aq] at uF;let h8:=G.h8;refine' #[_,au ?s1 (au ?s2 (au ?s3 (aJ ?s4))),?kk]
 case' s1=>refine' bw 4 FM.nd (jb wH 2 [] (d4 (pv 0)) (λfp s H=>?g1) (λfp s H=>jx) (λfp s H=>?e1))
 case g1=>exact CA (n:=2) (df (fu (i:=0) (show (wH:ag).Nodup by decide +kernel) U (Or.inl U)) (df (fu (i:=1) (show (wH:ag).Nodup by decide +kernel) U (Or.inl U)) hW))
 case e1=>exact pv 0
 case s2=>exact bw 5 FM.nd (eI bR)
 case' s3=>refine' d8 dS U (ql (by rfl) B.range %[bT gx (by rfl) B.len fN %[3|0]|0]) (bX 6 FM.nd) (au ?b1 (au ?b2 (au ?b3 (au ?b4 (aJ ?b5)))))
 case b1=>exact bw 7 FM.nd (bg fX (pv 3) (pv 6))
 case b2=>exact b_ (iK (eK (d0 (bT gL (by rfl) B.gA gE %[7,gM (v:=.ty "tuple") (by rfl) B.tuple oA U|0]))) (iK (eO om (bT gx (by rfl) B.len fN %[7|0]) av) (iK (eK (d0 (bT gL (by rfl) B.gA gE %[bg cj (pv 7) av,gM (v:=.ty "tuple") (by rfl) B.tuple oA U|0]))) (jY (eO (Iu (yF Of) (kR hr 1)) (bg cj (pv 7) av) (pv 5) (by with_unfolding_all rfl)))))).pt (aJ (bp (dA %[jX,6|0]))) cm
 case b3=>exact b_ (iK (eK (d0 (bT gL (by rfl) B.gA gE %[bg cj (pv 7) av,gM (v:=.ty "int") (by rfl) B.int FK U|0]))) (iK (d0 (bT gL (by rfl) B.gA gE %[bg cj (pv 7) av,gM (v:=.ty "bool") (by rfl) B.bool M7 U|0])) (jY (eK (NC tL Fs av (bg cj (pv 7) av) (pv 2)))))).pt (aJ (bp (dA %[jX,6|0]))) cm
 case' b4=>refine' b_ (iK (eO om (bT gx (by rfl) B.len fN %[bg cj (pv 7) av|0]) (bT gx (by rfl) B.len fN %[1|0])) (jY (eO (Nz (kR hr 0)) (jb ["_law_hand","_law_names"] 1 [4] (Rh (bg cj (pv 7) av)) (λfp s H=>?g4) (λfp s H=>?t4) (λfp s H=>?e4)) (eI bR)))).pt (aJ (bp (dA %[jX,6|0]))) cm
 case g4=>exact fu (i:=0) (show (["_law_hand","_law_names"]:ag).Nodup by decide +kernel) U (Or.inl U)
 case t4=>exact Jh (eO (Qu (K:=K) (λK=>KJ K true) eq_) (pv 0) (pv 1) (by with_unfolding_all rfl))
 case e4=>exact pv 0
 case b5=>exact j8 (kQ kM qg qh pG (pv 5) %[bg cj (pv 7) av|0])
 case s4=>exact bp ou
 apply#[_,U,lh,U,#[_,.of eZ],λD hD=>?_];apply j9 (own:=2) (fv:=[]) (xs:=yh) U wc (λj out H'=>aa H H'/\H' D\.lst out/\out=((hs.take j).map (·.1)).map V.str) #[aa.new hD,ay,U] (λj out H' _ ⟨sm,_⟩=>.of (sm _ _ eZ)) (λout H1 ⟨s1,Si,eo⟩=>?_) (λj y out H' hy ⟨sm,dq,eo⟩=>?_);rotate_left 1
 ·let#[h,hh,p,rfl,hp]:=uc th hy;apply#[_,#[p,_,_,U,.of (sm _ _ (uJ hp)),U],U,λNx hN=>eP ?_];apply#[_,U,out,dq,?_,hN _ _ #[fF sm hD,ay,?_]]
  ·rw[eo,aq,aq,dJ];omega
  rw[u_ _ hh,eJ,eo];rfl
 rw[uF,d9] at eo;subst eo;apply#[zl,λlk H_=>?_];let#[s2,e2]:=aB (o:=.lst []) H_;let iQ:=s1.trans s2;have hDk:D≠lk:=bG Si H_
 have hk0:H lk=none:=by
  cases q:H lk with
  |none=>rfl
  |some o=>rw[s1 _ _ q] at H_;cases H_
 let oa:=s2 _ _ Si;generalize upd H1 lk (.lst [])=H2 at s2 e2 iQ oa ⊢;let BY:=bI P9;let BZ:=bI pc;let QI:=S.len
 let Iv:dD:=λi σ H'=>∃(v6 v7:aI) (zs:af) (pL:List (List (Option Str))),σ=[some (.ref lh),some (.ref lp),some (.int c),some (.ref lS),some (.ref D),some (.ref lk),v6,v7]/\aa H H'/\H' D\.lst ((hs.map (·.1)).map V.str)/\H' lk\.lst zs/\Paired (λy os=>∃t,y=V.ref t/\H t\.tup (os.map oV)) zs pL/\pL.length=i/\(∀(j:Nat) os,pL[j]? = some os->∃th,l[j]? = some th/\uX th=os.map oV)/\∀j,j<i->¬mr hs qs c l j
 apply#[_,U,lS,ys,U,.inl (.of (iQ _ _ hl)),_,U,by show (-(2 ^ 62):Int)<=(ys.length:Int);omega,by show (ys.length:Int)<2 ^ 62;omega,?_];apply t7 (lo:=0) (n:=((ys.length:Nat):Int).toNat) Iv #[none,none,[],[],U,iQ,oa,e2,.nil,U,λj z e=>(by cases e),λj h=>absurd h (Nat.not_lt_zero _)] ?_ ?_
 ·rintro i σ H3 hi ⟨v6,v7,zs,pL,rfl,s3,yd,Cc,pz,lo,yU,good⟩;have hi:i<ys.length:=by omega
  obtain⟨x,hx,xg⟩:∃x,l[i]? = some x/\ke K H ys[i] x:=#[l[i]' Y0,aX Y0,dO P9 i hi Y0];obtain⟨y,hy⟩:∃y,y=ys[i]:=#[_,U];rw[<- hy] at xg;let xg:=xg.same s3;rw[show (0:Int)+(i:Nat)=(i:Int) by omega];let K6:=bI pz;apply#[_,U,_,U,lS,_,i,_,U,U,.of (s3 _ _ hl),L2.cZ (by rw[aX hi,<- hy]),?_];have bad:¬iu hs qs c x∨(∃j kY,j<i/\l[j]? = some kY/\uX kY=uX x)->∀t H',aa H H'->H' t\.tup [.str "form",.int i]->Q (.ref t) H':=λh t H' s' ht=>kB t H' i s' ht #[x,hx,h] good;have say:(¬iu hs qs c x∨∃j kY,j<i/\l[j]? = some kY/\uX kY=uX x)->∀H',aa H H'->∀t,H' t=none->Q (.ref t) (upd H' t (.tup [.str "form",.int i])):=λh H' s' t ht=>bad h t _ (s'.trans (aa.new ht)) ay
  match x,xg with
  |none,.inl ⟨t,ty,e⟩=>
   apply#[_,U,_,_,_,_,U,ty,e,_,U,bN ?_];exact#[_,U,zl,say (.inl λh=>h) H3 s3]
  |none,.inr ⟨a,xs,e,ha,_Y⟩=>
   subst e;apply#[_,U,_,_,_,_,U,.tup ha,U,_,U,aF ?_];apply#[_,U,a,_,U,.inr (.of ha),U,_,U,?_];apply bH (λcc=>#[_,U,zl,say (.inl λh=>h) H3 s3]) (λcc=>?_)
   have l2:xs.length=2:=by
    by_cases q:xs.length=2
    ·exact q
    apply absurd ?_ cc;simp;omega
   rcases _Y with h|⟨v,r,t,rfl,ty,e⟩
   ·exact absurd l2 h
   ·apply#[_,U,a,_,0,_,U,U,.of ha,L2.cZ (j:=0) U,_,_,_,_,U,ty,e,_,U,bN ?_];exact#[_,U,zl,say (.inl λh=>h) H3 s3]
  |some (us,nv),⟨a,t,e,ha,ht,sv,⟨o,iv⟩⟩=>
   subst e;let#[os,MP]:=so _ (cB hx);have MP:us=os.map oV:=MP;subst MP;apply#[_,U,_,_,_,_,U,.tup ha,U,_,U,aF ?_];apply#[_,U,a,_,U,.inr (.of ha),U,_,U,?_];apply A9 (show V.int ((2:Nat):Int)=V.int 2 from U) ?_;apply#[_,U,a,_,0,_,U,U,.of ha,L2.cZ (j:=0) U,_,_,_,_,U,.tup ht,U,_,U,aF ?_];apply#[_,U,a,_,0,_,U,U,.of ha,L2.cZ (j:=0) U,_,U,os,pL,#[t,_,U,.of ht,OQ os],#[lk,zs,U,.of Cc,Paired.aQ pz λy' KM ⟨t',e',h'⟩=>#[t',_,e',.of (s3 _ _ h'),OQ KM]],_,U,?_];apply bH (λcc=>#[_,U,zl,say (.inr ?_) H3 s3]) (λcc=>?_)
   ·let#[j,hj,ej]:=gB (QZ cc);let#[kY,h1,h2]:=yU j os (by rw[aX hj,ej]);exact#[j,kY,by omega,h1,h2]
   have BX:os∉pL:=λh=>cc (Rc h);have Au:∀{o:Option Int},(∀H',mN K H' nv o)->(¬∃n:Int,nv=.int n/\0<=n/\n<c)->¬iu hs qs c (some (os.map oV,nv)):=λ_ h h2=>h h2.2.2;apply#[_,U,a,_,1,_,U,U,.of ha,L2.cZ (j:=1) U,?_];cases o with
   |none=>
    let GC:=Au (o:=none) iv λ⟨n,e,_⟩=>by
     subst e;rcases iv H3 with⟨x,e⟩|⟨t,ty,e⟩
     ·cases e
     cases ty;exact IZ e
    rcases iv H3 with⟨b,e⟩|⟨t,ty,e⟩
    ·subst e;apply#[_,_,_,_,U,.bl b,U,_,U,aF ?_];apply#[_,U,a,_,1,_,U,U,.of ha,L2.cZ (j:=1) U,_,_,_,_,U,.bl b,U,_,U,bN ?_];exact#[_,U,zl,say (.inl GC) H3 s3]
    ·apply#[_,_,_,_,U,ty,e,_,U,bN ?_];exact#[_,U,zl,say (.inl GC) H3 s3]
   |some n=>
    have en:nv=.int n:=iv H3;subst en;apply#[_,_,_,_,U,.int n,U,_,U,aF ?_];apply#[_,U,a,_,1,_,U,U,.of ha,L2.cZ (j:=1) U,_,_,_,_,U,.int n,U,_,U,aF ?_];apply#[_,U,a,_,1,_,U,U,.of ha,L2.cZ (j:=1) U,?_];apply#[_,_,U,U,_,U,?_];apply bH (λc1=>?_) (λc1=>?_)
    ·apply#[_,U,_,_,U,U,_,U,?_];apply bH (λc3=>?_) (λc3=>?_)
     ·apply#[_,U,zl,say (.inl (Au (o:=some n) iv λ⟨m,e,h1,h2⟩=>?_)) H3 s3];cases e;simp[h2] at c3
     have inr:0<=n/\n<c:=#[QZ c1,by simpa using c3];apply#[_,U,a,_,0,_,U,U,.of ha,L2.cZ (j:=0) U,t,_,U,.inr (.of ht),_,U,lp,_,U,.inl (.of (s3 _ _ jo)),U,_,U,?_];apply bH (λcc=>#[_,U,zl,say (.inl λh=>?_) H3 s3]) (λcc=>?_)
     ·have:=h.1;simp at cc this;omega
     have lz:(os.map oV).length=qs.length:=by
      simp at cc ⊢;omega
     apply#[_,U,a,_,0,_,U,U,.of ha,L2.cZ (j:=0) U,t,U,#[_,.of ht],λD2 Fn=>?_]
     let Pp:Option Str->Prop:=λo=>∃h,o\h/\h∈hs.map (·.1)
     apply Tb (own:=1) (fv:=[some (.ref D)]) (xs:=os.map oV) U fg (λj out H'=>aa H3 H'/\H' D2\.lst out/\out.length<=j/\(out=[] ↔ ∀o∈os.take j,Pp o)) #[aa.new Fn,ay,a9 _,by simp] (λj out H' _ ⟨sm,_⟩=>.of (sm _ _ ht)) (λout H5 ⟨s5,jt,_,all⟩=>?_) (λj y out H' hy ⟨sm,dq,Ec,all⟩=>?_);rotate_left 1
     ·rw[de] at hy;let#[o,ho,rfl]:=wY.mp hy;let lq:=S.len;let hj:=(cu.mp ho).1;rw[aq] at lz;apply#[_,U,U,λNx hN=>?_];apply#[_,U,_,U,D,_,U,.inl (.of (sm _ _ yd)),ZK o,h4_ _,_,U,?_];have tk:os.take (j+1)=os.take j++[o]:=by rw[oB,ho];rfl
      apply bH (λcb=>?_) (λcb=>?_)
      ·have no:¬Pp o:=by
        rw[aK U,Bool.not_eq_true',<- Bool.not_eq_true,Rj] at cb;exact cb
       apply#[_,U,out,dq,by omega,hN _ _ #[fF sm Fn,ay,?_,?_]]
       ·rw[dM];exact Nat.succ_le_succ Ec
       rw[tk];exact#[λh=>by simp at h,λh=>absurd (h o Y1) no]
      have yes:Pp o:=by
       rw[aK U,Bool.not_eq_true',Bool.not_eq_false,Rj] at cb;exact cb
      apply hN _ _ #[sm,dq,by omega,?_];rw[tk,all]
      exact#[λh x hx=>by
       rcases dB.mp hx with hx|hx
       ·exact h x hx
       rw[fw.mp hx];exact yes,λh x hx=>h x (List.mem_append_left _ hx)]
     rw[aq,d9] at all;apply#[zl,λle hle=>?_];let#[s6,e6]:=aB (o:=.lst []) hle;let xE:=s5.trans s6;let Il:=s6 _ _ jt;generalize upd H5 le (.lst [])=H6 at s6 e6 xE Il ⊢;let iq:=s3.trans xE
     have jr:(∀v∈os.map oV,∃h,v=.str h/\h∈aU hs) ↔ ∀o∈os,Pp o:=by
      constructor
      ·intro h o ho;let#[x,e,hx]:=h _ (bx.mpr #[o,ho,U]);exact#[x,MD (e.trans (show V.str x=oV (some x) from U)),(gv hs).mem_iff.mp hx]
      intro h v hv;let#[o,ho,rfl]:=bx.mp hv;let#[x,rfl,hx]:=h o ho;exact#[x,U,(gv hs).mem_iff.mpr hx]
     apply#[D2,le,out,U,U,.of Il,.of e6,_,U,?_];apply bH (λJy=>#[_,U,zl,say (.inl λh=>?_) H6 iq]) (λJy=>?_)
     ·have:=all.mpr (jr.mp h.2.1);rw[this] at Jy;cases Jy
     have o0:out=[]:=by
      cases out with
      |nil=>rfl
      |cons x r=>exact absurd U Jy
     have ok:iu hs qs c (some (os.map oV,.int n)):=#[lz,jr.mpr (all.mp o0),n,U,inr];let RO:=xE _ _ Cc;apply#[_,U,.inl #[U,_,.of RO],_,U,a,_,0,_,U,U,.of (xE _ _ ha),L2.cZ (j:=0) U,lk,_,_,U,U,RO,by omega,?_];apply#[_,_,zs++[.ref t],pL++[os],U,fF iq hk0,by rw[aA hDk];exact xE _ _ yd,ay,?_,by rw[dM,lo];rfl,?_,?_]
     ·let#[a2,t2,e2',tw,B8,_]:=id xg;cases e2';have:=(s3 _ _ tw).symm.trans ha
      have:t2=t:=by
       cases this;rfl
      subst this;exact mE pz (.cons #[t2,U,B8] .nil)
     ·intro j y hj;by_cases q:j<pL.length
      ·rw[w4 q] at hj;exact yU j y hj
      let vY:=(cu.mp hj).1;rw[dM,oC] at vY;have:j=pL.length:=by omega
      subst this;rw[yP (a9 _),Nat.sub_self] at hj;cases hj;exact#[_,by rw[lo];exact hx,U]
     intro j hj;by_cases q:j<i
     ·exact good j q
     have:j=i:=by omega
     subst this;rintro⟨th,e,h|⟨j',kY,LW,e',es⟩⟩
     ·rw[hx] at e;cases e;exact h ok
     rw[hx] at e;cases e;have vS:pL[j']? = some (pL[j']' Y0):=aX Y0;let#[V1,h1,h2]:=yU j' _ vS;rw[e'] at h1;cases h1;rw[h2] at es;have:=fU_ es;rw[<- this] at BX;exact BX (j_ _)
    apply#[_,U,?_];apply bN ?_;apply#[_,U,zl,say (.inl (Au (o:=some n) iv λ⟨m,e,h1,h2⟩=>?_)) H3 s3];cases e;simp[h1] at c1
 rintro σ H3 ⟨v6,v7,zs,pL,rfl,s3,_,_,_,_,_,good⟩;apply kN H3 s3 λk=>?_;by_cases q:k<ys.length
 ·exact good k Y0
 rintro⟨th,e,_⟩;have:=(cu.mp e).1;omega
end
def tM(K:ai)(H:Hp)(hs:Xa)(ts:Xb)(qs:aV)(s0:ax)(c:Nat)(lim:Int × Int)(y0:V)(r:Flt):Prop:=
 (∃t,(∀H',aa H H'->dC K H' y0 t)/\PySem.W.kitOne K t (.type "list")\false/\r=(some (("form":Str),some (-1)):Flt)) ∨
 (∃(lS:Addr) (ys:af) (l:List mG) (k:Nat),y0=.ref lS/\H lS\.lst ys/\yD K H ys l/\GI l/\l.length<=1000/\mr hs qs c l k/\(∀j,j<k->¬mr hs qs c l j)/\r=(some (("form":Str),some (k:Int)):Flt)) ∨
 ∃(lS:Addr) (ys:af) (es:List (ax × Nat)),y0=.ref lS/\H lS\.lst ys/\ft H ys es/\es.length<=1000/\(es.map (·.1)).Nodup/\(∀e∈es,Vs hs qs e.1/\e.2<c)/\r=flt (Nx hs ts qs) s0 c (λz=>l9 hs qs z lim) es
theorem X9(es:List (ax × Nat)):GI (es.map λe=>(some (sV e.1,.int (e.2:Nat)):mG)):=λth h=>by
 let#[e,_,rfl]:=bx.mp h;exact#[e.1.map some,by show sV e.1=_;rw[cy];rfl]
theorem tM.same{K:ai}{H H':Hp}{hs:Xa}{ts:Xb}{qs:aV}{s0:ax}{c:Nat}{lim:Int × Int}{y0:V}{r:Flt}(h:tM K H hs ts qs s0 c lim y0 r)(s:aa H H'):tM K H' hs ts qs s0 c lim y0 r:=by
 rcases h with⟨t,ty,e,er⟩|⟨lS,ys,l,k,e,hl,th,so,l3,bad,fst,er⟩|⟨lS,ys,es,e,hl,sh,l3,nd,hv,er⟩
 ·exact .inl #[t,λH2 s2=>ty H2 (s.trans s2),e,er]
 ·exact .inr (.inl #[lS,ys,l,k,e,s _ _ hl,Paired.aQ th λ_ _ q=>q.same s,so,l3,bad,fst,er])
 exact .inr (.inr #[lS,ys,es,e,s _ _ hl,Paired.aQ sh λy e ⟨a,t,q,h1,h2⟩=>#[a,t,q,s _ _ h1,s _ _ h2],l3,nd,hv,er])
theorem SV(p:Nat->Prop):∀n,(∃k,k<n/\p k)->∃k,p k/\∀j,j<k->¬p j
 |0,⟨_,h,_⟩=>absurd h (Nat.not_lt_zero _)
 |n+1,⟨k,hk,pk⟩=>by
  by_cases h:∃j,j<n/\p j
  ·exact SV p n h
  apply#[k,pk,λj hj pj=>h #[j,by omega,pj]]
theorem Rg{K:ai}{H:Hp}{hs:Xa}{qs:aV}{c:Nat}:∀{ys:af} {l:List mG},yD K H ys l->(∀th∈l,iu hs qs c th)->∃es,ft H ys es/\l=es.map (λe=>(some (sV e.1,.int (e.2:Nat)):mG))/\∀e∈es,Vs hs qs e.1/\e.2<c
 |_,_,.nil,_=>#[[],.nil,U,by simp]
 |_,_,.cons (b:=th) h t,ok=>by
  let#[es,e1,e2,e3]:=Rg t λx hx=>ok x (fo _ hx);let#[z,n,rfl,v,nc]:=(ok th fY).qM;let#[a,t,e,ha,ht,_,_]:=h;apply#[(z,n)::es,.cons #[a,t,e,ha,ht] e1,by rw[e2];rfl,λx hx=>?_];rcases cg.mp hx with rfl|hx
  ·exact#[v,nc]
  exact e3 x hx
theorem Yx{K:ai}{H:Hp}{hs:Xa}{ts:Xb}{qs:aV}{s0:ax}{c:Nat}{lim:Int × Int}{lS:Addr}{ys:af}{l:List mG}(hl:H lS\.lst ys)(th:yD K H ys l)(so:GI l)(l3:l.length<=1000):∃r,tM K H hs ts qs s0 c lim (.ref lS) r:=by
 by_cases h:∃k,mr hs qs c l k
 ·let#[k,bk]:=h;let#[k,b,f]:=SV (mr hs qs c l) (k+1) #[k,by omega,bk];exact#[some (("form":Str),some (k:Int)),.inr (.inl #[lS,ys,l,k,U,hl,th,so,l3,b,f,U])]
 have ok:∀x∈l,iu hs qs c x:=λx hx=>Classical.byContradiction λno=>by
  let#[j,hj,e]:=gB hx;exact h #[j,x,by rw[aX hj,e],.inl no]
 let#[es,e1,rfl,e3]:=Rg th ok;apply#[_,.inr (.inr #[lS,ys,es,U,hl,e1,by rw[aq] at l3;exact l3,?_,e3,U])];rw[mC,List.pairwise_iff_getElem];intro i j hi hj lt e;rw[aq] at hi hj;rw[w6,w6] at e;apply h #[j,_,by rw[de,aX hj];rfl,.inr #[i,_,lt,by rw[de,aX hi];rfl,?_]];show sV _=sV _;rw[e]
inductive Nf (K:ai) (CG CW:Addr) (vs:af) (H:Hp) (Q:VK) (E:XK):Prop
 |mk:∀(g p d lt:Addr) (y0:V) (hs:Xa) (ts:Xb) (qs:aV) (fp:aw) (s0:ax) (ns:ag) (f:bF) (lim:Int × Int) (c:Nat) (r:Flt),vs=[.ref g,.ref d,.ref lt,.int c,y0]->Gs K CG CW H g p hs ts qs fp->Cp H d hs qs fp s0 ns f->hY H lt lim->uZ lim->1<=c->c<=100->tM K H hs ts qs s0 c lim y0 r->(∀v H',aa H H'->RF H' v r->Q v H')->Nf K CG CW vs H Q E
theorem _i{K:ai}{CG CW:Addr}:∀vs H Q E,Nf K CG CW vs H Q E->Jw K CG CW vs H Q E:=λvs H Q E h=>by
 let#[g,p,d,lt,y0,hs,ts,qs,fp,s0,ns,f,lim,c,r,e,G,S,h1,lo,c1,c2,ff,k]:=h;apply#[g,p,d,lt,y0,hs,ts,qs,fp,s0,ns,f,lim,c,e,G,S,h1,lo,c1,c2,?_];rcases ff with⟨t,ty,e,rfl⟩|⟨lS,ys,l,k',e,hl,th,so,l3,bad,fst,rfl⟩|⟨lS,ys,es,e,hl,sh,l3,nd,hv,rfl⟩
 ·exact .inl #[#[t,ty,e],k]
 ·exact .inr (.inl #[lS,ys,l,k',e,hl,th,l3,bad,fst,k])
 exact .inr (.inr #[lS,ys,es,e,hl,sh,l3,nd,hv,k])
section v
theorem tY:bQ ["_law_parts","_law_first","_law_limit","_law_count","_law_shut",j4,mw,"_law_ties_here","_law_fault","_law_numbers","_law_k","_law_spot","_law_number","_law_move","_law_later"] uw (a_ rX):=bZ
inductive lE (K:ai) (vs:af) (H:Hp) (Q:VK) (E:XK):Prop
 |mk:∀(lq lh lp B0 t0 ll:Addr) (y0:V) (hs:Xa) (ts:Xb) (ss qs:aV) (s0:ax) (lim:Int × Int) (c:Nat) (r:Flt),vs=[.ref lq,.ref t0,.ref ll,.int c,y0]->H lq\.tup [.ref lh,.ref lp,.ref B0]->H t0\.tup (sV s0)->JU K H lh lp B0 ll hs ts ss qs lim->Vs hs qs s0->1<=c->c<=100->tM K H hs ts qs s0 c lim y0 r->(∀v H',aa H H'->RF H' v r->Q v H')->lE K vs H Q E
theorem Y4{f:Addr}(F:bu K "_law_due" "_law_due" rX f fd)(B:Bi mg)(cF:!bz 1 "_law_form" ur (lD K))(cE:!bz 2 "_law_even" uv (N6 K))(cM:!bz 1 "_law_moves" oI (Js K)):!ak bc 3 f fd uw (lE K):=by
 exists F.bW tY;let#[lq,lh,lp,B0,t0,ll,y0,hs,ts,ss,qs,s0,lim,c,r,rfl,hq,ht0,Z,v0,c1,c2,ff,k]:=h;let hu:=fP hr;let sz:=cJ;refine' #[_,au ?s1 (au ?s2 (au ?s3 (au ?s4 (au ?s5 (au ?s6 (au ?s7 (aJ ?s8))))))),?kk]
 case s1=>exact Br (pv 0) (ju U (df (bX 5 tY.nd) (df (bX 6 tY.nd) (df (bX 7 tY.nd) hW))))
 case s2=>exact b_ (eK (d0 (bT gL (by rfl) B.gA gE %[4,gM (v:=.ty "list") (by rfl) B.list qe U|0]))) (aJ (bp (dA %[jX,A_ Bl av|0]))) cm
 case s3=>exact bw 8 tY.nd (bj cF hr %[5,6,3,4|0])
 case s4=>exact b_ (eO RU (pv 8) ou) (aJ (bp (pv 8))) cm
 case s5=>exact bw 9 tY.nd (gS (Pb U (kR hr 1)) (by rfl) B.dict qd %[4|0])
 case s6=>exact b_ (iK (qj (GE hu (pv 1) (pv 9))) (jY (eO om (j7 hu (pv 9) (pv 1)) av))).pt (aJ (bp (dA %[jX|0]))) cm
 case' s7=>refine' d8 dS U (ql (by rfl) B.range %[bT gx (by rfl) B.len fN %[4|0]|0]) (bX 10 tY.nd) (au ?b1 (au ?b2 (aJ ?b3)))
 case b1=>exact Br (bg fX (pv 4) (pv 10)) (ju U (df (bX 11 tY.nd) (df (bX 12 tY.nd) hW)))
 case b2=>exact b_ (d0 (bj cE hr %[5,6,11,2|0])) (aJ (bp (dA %[jX,10|0]))) cm
 case' b3=>refine' b_ (eO Fs (pv 12) (br Cw (pv 3) av)) (aJ (d8 dS U (d4 (bj cM hr %[6,7,11|0])) ?g3 (aJ ?d3))) cm
 case g3=>exact ju U (df (bX 13 tY.nd) (df (bX 14 tY.nd) hW))
 case d3=>exact b_ (iK (qj (GE hu (pv 14) (pv 9))) (jY (eO EM (j7 hu (pv 9) (pv 14)) (br fG (pv 12) av)))).pt (aJ (bp (dA %[jX,10|0]))) cm
 case s8=>exact bp ou
 let#[#[yh,a1,a2],#[yp,b1,b2],#[zs,O8,O3]]:=And.intro Z.hh (And.intro Z.hp Z.ht);apply#[_,U,lq,_,U,.of hq,U,_,_,U,_,_,U,_,_,U,U,?_];have say:∀{H2:Hp} {a:Str} {q:Int},aa H H2->r\(a,some q)->∀t,H2 t=none->Q (.ref t) (upd H2 t (.tup [.str a,.int q])):=λs2 e t ht=>k _ _ (s2.trans (aa.new ht)) (by rw[e];exact#[t,U,ay]);rcases ff with⟨t,ty,e,er⟩|⟨lS,ys,l,kk,rfl,hl,th,so,l3,bad,fst,er⟩|⟨lS,ys,l,rfl,hl,sh,l3,nU,B6,er⟩
 ·apply#[_,U,_,_,_,_,U,ty H (aa.refl H),e,_,U,bN ?_];exact#[_,U,zl,say (aa.refl H) er]
 ·apply#[_,U,_,_,_,_,U,.lst hl,U,_,U,aF ?_];apply#[_,U,_,U,_,U,_,U,lh,lp,lS,yh,yp,ys,hs,ts,ss,qs,l,c,U,a1,a2,Z.G,b1,b2,Z.S,Z.s8,hl,th,so,l3,c2,λH2 s2 no=>absurd bad (no kk),λt H2 k' s2 ht mi A1=>?_]
  have ek:k'=kk:=by
   rcases Nat.lt_trichotomy k' kk with q|q|q
   ·exact absurd mi (fst k' q)
   ·exact q
   exact absurd bad (A1 kk q)
  subst ek;apply#[_,U,U,_,U,bN ?_];exact#[_,U,k _ _ s2 (by rw[er];exact#[t,U,ht])]
 let BY:=bI sh;apply#[_,U,_,_,_,_,U,.lst hl,U,_,U,aF ?_];apply#[_,U,_,U,_,U,_,U,lh,lp,lS,yh,yp,ys,hs,ts,ss,qs,_,c,U,a1,a2,Z.G,b1,b2,Z.S,Z.s8,hl,Mu sh,X9 l,by rw[aq];exact l3,c2,λH2 s2 _=>?_,λt H2 k' s2 ht mi _=>absurd mi (Su nU B6 k')];apply#[_,U,U,_,U,aF ?_];apply#[_,U,lS,ys,gf l,U,s2 _ _ hl,Jn (Paired.aQ sh λy e ⟨a,t,q,h1,h2⟩=>#[a,t,q,s2 _ _ h1,s2 _ _ h2]),by unfold gf;rw[aq];exact l3,λnd iT=>?_]
 have jm:((gf l).map (·.1)).Nodup:=by
  rw[NQ,mC,ub];exact (mC.mp nU).imp λn e=>n (FI e)
 rw[ON (gf l) [] ⇑jm,List.nil_append];let#[s3,e3]:=aB (o:=.dT (gf l)) iT;let dH:=s2.trans s3;generalize upd H2 nd (.dT (gf l))=H3 at s3 e3 dH ⊢
 let ev:ax->Bool:=λz=>l9 hs qs z lim
 have hK:∀{H':Hp} {t:Addr} {z:ax},H' t\.tup (sV z)->H' t\.tup ((sK z).map kV):=λe=>by rw[iP];exact e
 have body:(s0,0)∈l->r=gj (Nx hs ts qs) c ev l l 0:=λh=>by
  rw[er];unfold flt;rw[aK (by rw[@decide_eq_true_iff _ (Classical.propDecidable _)];exact h)]
 have MI:(s0,0)∉l->r\(("first":Str),none):=λh=>by
  rw[er];unfold flt;rw[aC (by rw[@decide_eq_true_iff _ (Classical.propDecidable _)];exact h)]
 have g0:cK H3 nd (.ref t0) (aZ (gf l) (sK s0)):=.t e3 (hK (dH _ _ ht0));apply#[_,U,_,U,nd,_,U,g0,_,U,?_];have xh:(s0,0)∉l->∀t,H3 t=none->Q (.ref t) (upd H3 t (.tup [.str "first"])):=λh t ht=>k _ _ (dH.trans (aa.new ht)) (by rw[MI h];exact#[t,U,ay]);by_cases first:(s0,0)∈l;rotate_left 1
 ·by_cases q:s0∈l.map (·.1)
  ·let#[e,he,ee]:=bx.mp q;have pT:(s0,e.2)∈l:=by rw[<- ee];exact he
   rw[pE nU pT] at g0 ⊢;apply aF #[_,U,_,U,nd,_,U,g0,U,_,U,?_];apply bH (λcc=>#[zl,xh first]) (λcc=>absurd ?_ first)
   have:e.2=0:=by
    simp at cc;omega
   rw[<- this];exact pT
  rw[JD q];exact bN #[zl,xh first]
 rw[pE nU first] at g0 ⊢;apply aF #[_,U,_,U,nd,_,U,g0,U,_,U,?_];apply A9 (show V.int ((0:Nat):Int)=V.int 0 from U) ?_;let eb:=body first
 let Iv:dD:=λi σ H'=>∃(va vb vc vd ve:aI),σ=[some (.ref lq),some (.ref t0),some (.ref ll),some (.int c),some (.ref lS),some (.ref lh),some (.ref lp),some (.ref B0),some .non,some (.ref nd),va,vb,vc,vd,ve]/\aa H3 H'/\∀e∈l.take i,ev e.1=false/\¬(e.2<c - 1/\Out (Nx hs ts qs) l e.1 e.2)
 apply#[_,U,lS,ys,U,.inl (.of (dH _ _ hl)),_,U,by show (-(2 ^ 62):Int)<=(ys.length:Int);omega,by show (ys.length:Int)<2 ^ 62;omega,?_];apply t7 (lo:=0) (n:=((ys.length:Nat):Int).toNat) Iv #[_,_,_,_,_,U,aa.refl _,by simp] ?_ ?_
 ·rintro i σ H4 hi ⟨va,vb,vc,vd,ve,rfl,s4,no⟩;have hi:i<ys.length:=by omega
  obtain⟨e,he,a',t',ea,ha,h_⟩:∃e,l[i]? = some e/\∃a t,ys[i]=.ref a/\H a\.tup [.ref t,.int (e.2:Nat)]/\H t\.tup (sV e.1):=#[l[i]' Y0,aX Y0,dO sh i hi Y0];let em:=cB he
  have dr:l.drop i=e::l.drop (i+1):=by
   rw[List.drop_eq_getElem_cons Y0];rw[aX Y0] at he;rw[dN he]
  have eg:r=gj (Nx hs ts qs) c ev l (e::l.drop (i+1)) i:=by
   rw[eb,Gi no,dr,Nat.zero_add]
  let hv:=B6 e em;let fI:=dH.trans s4;let nd4:=s4 _ _ e3;let Z4:=Z.same fI;rw[show (0:Int)+(i:Nat)=(i:Int) by omega];let#[#[Vr,a14,a24],#[Vp,b14,b24],#[PY,c14,c24]]:=And.intro Z4.hh (And.intro Z4.hp Z4.ht);apply#[_,U,_,U,lS,_,i,_,U,U,.of (fI _ _ hl),L2.cZ (by rw[aX hi,ea]),a',_,U,.of (fI _ _ ha),U,_,_,U,_,_,U,U,?_];apply#[_,U,_,U,_,U,_,U,lh,lp,t',ll,Vr,Vp,hs,ts,ss,qs,e.1,lim,U,a14,a24,Z.G,b14,b24,Z.S,Z.s8,fI _ _ h_,hv.1,Z4.hl,Z.lo,λH5 s5=>#[_,U,?_]];let jD:=fI.trans s5;let zK:=s4.trans s5;apply bH (λce=>?_) (λce=>?_)
  ·apply#[_,U,zl,say jD ?_];rw[eg];unfold gj;rw[aK (show ev e.1=true from ce)]
  have ce:ev e.1=false:=⇑ce
  have tk:∀e'∈l.take (i+1),e'∈l.take i∨e'=e:=λe' h'=>by
   rw[oB,he] at h';rcases dB.mp h' with h'|h'
   ·exact .inl h'
   exact .inr ⇑h'
  apply#[_,U,_,U,_,_,U,U,_,_,U,U,_,U,?_];apply bH (λcl=>?_) (λcl=>?_)
  ·have cl:e.2<c - 1:=by
    have:=tP cl;omega
   have out:Out (Nx hs ts qs) l e.1 e.2->r\(("open":Str),some (i:Int)):=λo=>by
    rw[eg];unfold gj;rw[aC (by rw[ce];decide),dif_pos (by rw[@decide_eq_true_iff _ (Classical.propDecidable _)];exact#[cl,o])]
   let Z5:=Z.same jD;let#[#[Vo,b15,b25],#[Vh,c15,c25]]:=And.intro Z5.hp Z5.ht;apply#[_,U,_,U,_,U,lp,B0,t',Vo,Vh,hs,ts,ss,qs,e.1,U,b15,b25,c15,c25,Z.G,Z.S,Z.s8,jD _ _ h_,hv.1,λla ym L H6 s6 _ fL me mL lL=>?_];let iq:=jD.trans s6;let xE:=zK.trans s6;let Xy:=bI me;apply#[la,U,#[_,.of fL],?_];apply ie (K:=K) (a:=la) (xs:=ym) (λj σ H'=>∃(vd ve:aI),σ=[some (.ref lq),some (.ref t0),some (.ref ll),some (.int c),some (.ref lS),some (.ref lh),some (.ref lp),some (.ref B0),some .non,some (.ref nd),some (.int i),some (.ref t'),some (.int (e.2:Nat)),vd,ve]/\aa H6 H'/\∀m∈L.take j,∃k,(m.2,k)∈l/\k<=e.2+1) #[_,_,U,aa.refl _,by simp] (λj σ H' _ ⟨_,_,_,sm,_⟩=>.of (sm _ _ fL)) ?_ ?_
   ·rintro j y σ H7 hy ⟨vd,ve,rfl,s7,al⟩;have hj:j<ym.length:=(cu.mp hy).1
    obtain⟨m,hm,t,mm,u,rfl,h1,h2,h3⟩:∃m,L[j]? = some m/\∃t m' u,y=.ref t/\H6 t\.tup [.ref m',.ref u]/\H6 m'\.tup [.str m.1.1,.str m.1.2.1,.str m.1.2.2]/\H6 u\.tup (sV m.2):=by
     have:=dO me j hj Y0;rw[aX hj] at hy;cases hy;exact#[L[j]' Y0,aX Y0,this]
    have nx:Nx hs ts qs e.1 m.2:=#[_,(mL m).mp (cB hm)];let Wm:=xE.trans s7;let nE:=iq.trans s7;have g7:cK H7 nd (.ref u) (aZ (gf l) (sK m.2)):=.t (Wm _ _ e3) (hK (s7 _ _ h3));apply#[t,_,U,.of (s7 _ _ h1),U,_,_,U,_,_,U,U,?_];apply#[_,U,_,U,nd,_,U,g7,_,U,?_];have bad:(∀k,(m.2,k)∈l->e.2+1<k)->∀t,H7 t=none->Q (.ref t) (upd H7 t (.tup [.str "open",.int i])):=λh=>say nE (out #[m.2,nx,h]);by_cases q:m.2∈l.map (·.1)
    ·let#[e2,he2,ee2]:=bx.mp q;have pT:(m.2,e2.2)∈l:=by rw[<- ee2];exact he2
     rw[pE nU pT] at g7 ⊢;apply aF #[_,U,_,U,nd,_,U,g7,_,U,_,_,U,U,_,_,U,U,_,U,?_];apply bH (λcc=>#[_,U,zl,bad λk hk=>?_]) (λcc=>?_)
     ·have:=(pE nU hk).symm.trans (pE nU pT);have:=(V.int.inj (dN this));simp at cc;omega
     apply#[_,_,U,s7,λx hx=>?_];rw[oB,hm] at hx;rcases dB.mp hx with hx|hx
     ·exact al x hx
     have:x=m:=⇑hx
     subst this;apply#[_,pT,?_];simp at cc;omega
    rw[JD q];exact bN #[_,U,zl,bad λk hk=>absurd (bx.mpr #[_,hk,U]) q]
   rintro σ H7 ⟨vd,ve,rfl,s7,al⟩;rw[Xy,d9] at al;apply#[_,_,_,_,_,U,xE.trans s7,λe' h'=>?_];rcases tk e' h' with h'|rfl
   ·exact no e' h'
   apply#[ce,λ⟨_,y,⟨mv,hmv⟩,ny⟩=>?_];let#[k,hk,kl]:=al (mv,y) ((mL (mv,y)).mpr hmv);have:=ny k hk;omega
  apply#[_,_,_,_,_,U,zK,λe' h'=>?_];rcases tk e' h' with h'|rfl
  ·exact no e' h'
  apply#[ce,λh=>absurd (c_ ?_) cl];have:=h.1;omega
 rintro σ H4 ⟨va,vb,vc,vd,ve,rfl,s4,no⟩;rw[show ((ys.length:Nat):Int).toNat=l.length by omega,d9] at no;apply k _ H4 (dH.trans s4) ?_;rw[eb,Gi (i:=l.length) (by rw[d9];exact no),List.drop_length];rfl
end
end Ev
namespace HT
open PySem PySem.Spec PyProof.Rows PySem.W qt eY
theorem fh{prog:Ad}{w:Af}{A:Ag}{E:Aa->Ab->Prop}{s:Ab}{t sl:Addr}{items:Array Aa}{vl vu:Aa}{lo hi:Option Int}{Q:Aa->Ab->Prop}(ht:IsTup s.heap t items)(hs:s.heap.IsSliceOf sl vl vu .none)(pl:IsPart vl lo)(pu:IsPart vu hi)
  (hw:bU items.size 0 lo=0/\bU items.size items.size hi=items.size) (h:Q (.ref t) s):wpAny (model prog w) A (getItem (.ref t) (.ref sl)) Q E s:=by
 let#[os,AA,Ie,AN]:=id hs;have Fk:s.TypeIs (.ref sl) "slice":=#[os,AA,Ie];unfold getItem
 try with_reducible apply gR ?_
 first|refine ae (aH ?_)|skip
 apply ae (wpAny_sequenceKey ht.typeIs (by decide) ?_)
 apply ae (wG (name:=Str.ofString "__getitem__") ht.typeIs PyProof.Rows.slot_tuple_getitem
  (tQ PyProof.Rows.slot_tuple_getitem ht.typeIs entry_tuple_getitem ?_ (args_tuple_getitem _ _)))
 show wpAny _ _ (Builtin.Tuple.tupleItemsOf (.ref t) >>= _) _ _ s;apply ae (tupleItemsOf_ ht ?_);apply ae (wpAny_typeOf Fk ?_);rw[aK (by decide)];apply ae (U6 hs pl pu ?_)
 have Lw:(((bU items.size 0 lo:Nat):Int) == 0&&(1:Int) == 1&&(bU items.size items.size hi - bU items.size 0 lo) == items.size)=true:=by
  rw[hw.1,hw.2];simp
 show wpAny _ _ (if (((bU items.size 0 lo:Nat):Int) == 0&&(1:Int) == 1&&(bU items.size items.size hi - bU items.size 0 lo) == items.size)=true then _ else _) _ _ s;rw[aK Lw];apply ae (m:=Builtin.Tuple.tupleIsExact _) ?_;apply ae (m:=typeOf _) (wpAny_typeOf ht.typeIs (aH ?_));show wpAny _ _ (if (Value.type "tuple" == Value.type "tuple")=true then _ else _) _ _ s;rw[aK (by decide)];apply ae (wpAny_rule ?_)
 first
  |exact ae (aH ⟨_,rfl,aH h⟩)
  |exact aH ⟨_,rfl,aH h⟩
  |exact ae (aH (aH ⟨_,rfl,aH h⟩))
end HT
namespace L2
open PySem PySem.Spec PyProof.Rows PySem.W
inductive zM (x:V) (lo:Option Int) (hi:Option Int) (H:Hp) (Q:VK):Prop
 |mk:∀a xs,x=.ref a->H a\.tup xs->(∀p H',aa H H'->H' p\.tup (cq xs lo hi)->Q (.ref p) H')->zM x lo hi H Q
theorem IV{X:Cx}:JT X zM:=by
 intro pins s σ H x v vl vu lo hi sl Q I rx hs pl pu h;let#[a,xs,rfl,hx,q]:=h;by_cases hw:HT.bU xs.length 0 lo=0/\HT.bU xs.length xs.length hi=xs.length
 ·cases rx;let#[its,r,ht,hz]:=I.tuple (.of hx);have hlen:its.toArray.size=xs.length:=by rw[cY];exact r.length.symm
  apply⟨"tuple",_,PyProof.Rows.slot_tuple_getitem.lookup,ht.typeIs,?_⟩;apply HT.fh ht hs pl pu (by rw[hlen];exact hw) ⟨.ref a,H,I,rfl,q _ _ (aa.refl H) ?_⟩;unfold cq;rw[hw.1,hw.2,List.drop_zero,Nat.sub_zero,d9];exact hx
 exact FF pins s σ H (.ref a) v vl vu lo hi sl Q I rx hs pl pu ⟨a,xs,rfl,.of hx,hw,λp hp=>q _ _ (aa.new hp) ay⟩
open qt eY
theorem NV{α β:Type}{f g:α->Option β}:∀{l:List α},(∀x∈l,f x=g x)->l.filterMap f=l.filterMap g
 |[],_=>rfl
 |a::l,h=>by rw[List.filterMap_cons,List.filterMap_cons,h a fY,NV λx hx=>h x (fo _ hx)]
theorem _u(its:aj):slicePick its.toArray none none (some (-1))=its.reverse.toArray:=by
 have key:((List.range its.length).map λk=>its[its.length - 1 - k]?)=its.reverse.map some:=by
  apply List.ext_getElem ?_
  ·simp
  intro i h1 h2;have hi:i<its.length:=⇑h1
  simp only[w6,List.getElem_range,List.getElem_reverse];rw[aX Y0]
 have e:(sliceRange (sliceBounds none none (some (-1)) its.toArray.size).1 (sliceBounds none none (some (-1)) its.toArray.size).2.1 (sliceBounds none none (some (-1)) its.toArray.size).2.2).filterMap (its.toArray[·]?)=((List.range its.length).map λk=>its[its.length - 1 - k]?).filterMap id:=by
  have c:(if (((its.length:Nat):Int) - 1) > -1 then ((((its.length:Nat):Int) - 1) - -1 - -1 - 1) / (- -1) else 0).toNat=its.length:=by
   by_cases z:(((its.length:Nat):Int) - 1) > -1
   ·rw[aK z,show (- -1:Int)=1 by decide,Int.ediv_one];omega
   rw[aC z];omega
  show (((List.range (if (((its.length:Nat):Int) - 1) > -1 then ((((its.length:Nat):Int) - 1) - -1 - -1 - 1) / (- -1) else 0).toNat).map λ(k:Nat)=>((((its.length:Nat):Int) - 1) + -1 * (k:Int)).toNat)).filterMap (its.toArray[·]?)=_;rw[c,List.filterMap_map,List.filterMap_map];apply NV λk hk=>?_;have hk:k<its.length:=List.mem_range.mp hk;show its.toArray[((((its.length:Nat):Int) - 1) + -1 * (k:Int)).toNat]? = its[its.length - 1 - k]?;rw[List.getElem?_toArray];congr 1;omega
 unfold slicePick;rw[e,key,List.filterMap_map];congr 1;exact (NV λ_ _=>rfl).trans List.filterMap_some
section
variable{X:Cx}{e st:Expr}{te ts:TE}{pos p2:Pos}
def Dh(K:ai)(te ts:TE):TE:=λσ H Q=>te σ H λx H1=>ts σ H1 λy H2=>y=.int (-1)/\∃a xs,x=.ref a/\d5 K H2 a xs/\∀p,H2 p=none->Q (.ref p) (upd H2 p (.lst xs.reverse))
theorem S4:∀{xs:af} {us:aj},Vals xs us->Vals xs.reverse us.reverse
 |_,_,.nil=>.nil
 |_,_,.cons h t=>by
  rw[List.reverse_cons,List.reverse_cons];exact (S4 t).append (.cons h .nil)
theorem Y6(he:PE X e te)(hs:PE X st ts):PE X (.Subscript e (.Slice none none (some st) p2) pos) (Dh X.K te ts):=by
 intro pins s σ H Q I h;apply Subscript_ (aS (he pins s σ H _ I h) λv s1 ⟨x,H1,I1,r1,q1⟩=>?_);apply wpAny_Slice ?_;rw[evalPart_none];apply aH (aH ?_);rw[evalPart_some];apply aS (hs pins s1 σ H1 _ I1 q1) λvs s3 ⟨y,H3,I3,ry,ey,a,xs,ex,hx,q⟩=>?_;subst ex ey;let#[t,rfl]:=ry;cases r1;have I4:Inv X pins σ H3 { s3 with heap:=s3.heap.push { cls:=.type "slice",data:=.fields (List.toArray [.none,.none,.int (-1) t]) } }:=I3.kept (t':=s3.toks) λb ob q=>bo _ q;let#[its,r,ht,hz]:=I4.list hx;let hlen:=r.length;show wpAny (model X.prog X.w) X.A (subscriptTail e (.Slice none none (some st) p2) (.ref a) (.ref s3.heap.objs.size)) (EP X pins σ Q) X.xe { s3 with heap:=s3.heap.push { cls:=.type "slice",data:=.fields (List.toArray [.none,.none,.int (-1) t]) } };apply tail_any (ops:=[.ref a,.ref s3.heap.objs.size]) ht.isList.typeIs slot_list_getitem.lookup (wpAny_getItem_list_slice ht.isList (Heap.IsSliceOf.new ..) .none .none (.int (-1) t) Y1 ?_ (by rw[cY]<;>omega)) (by with_unfolding_all rfl)
 rw[_u];apply#[.ref _,upd H3 _ (.lst xs.reverse),I4.laid (t':=s3.toks) (λb o e=>bo _ e) (a9 _) ?_,U,q _ (I4.aE.fresh (a9 _))];exact#[by rw[List.length_reverse];exact hz,_,0,S4 r,dj _ U]
end
section
variable{X:Cx}
def rN:Rp Unit:=λ_ x _=>x=.non
theorem Og:ji X 0 rN where
 eq:=λ{pins σ H s A x y u v d e} I ru rv hx hy hu=>by
  have hx:x=.non:=hx;have hy:y=.non:=hy;subst hx;subst hy;exact yE (A:=A) (s:=s) ru rv U U
 one:=λ{pins σ H s x d e} I hx hy=>rfl
def JX(X:Cx)(H:Hp)(x y:V):Prop:=∃(n:Nat) (D:Type) (_:DecidableEq D) (R:Rp D) (d:D),n<=8/\ji X n R/\R H x d/\R H y d
inductive lY (X:Cx) (x:V) (y:V) (H:Hp) (Q:VK):Prop
 |mk:∀a b xs ys,x=.ref a->y=.ref b->d5 X.K H a xs->d5 X.K H b ys->Paired (JX X H) xs ys->Q (.bl false) H->lY X x y H Q
theorem Ub(hu:X.A.units+8+1<cLine):dU X (compareOp .NotEq) (lY X):=by
 intro pins s σ H x y v u Q I rx ry h;let#[a,b,xs,ys,rfl,rfl,t,t',pp,hq]:=h;cases rx;cases ry;let#[us,r,pl,_]:=I.list t;let#[vs,r',uD,_]:=I.list t';let l1:=r.length;let l2:=r'.length;let l3:=bI pp;apply GS.iJ pl.isList uD.isList (e:=λ_=>true) (by simp only[cY];omega) Y0 (λj h1 h2=>?_) ⟨.bl _,H,I,rfl,?_⟩
 ·simp only[cY] at h1 h2;let#[n,D,i,R,d,hn,c,q1,q2]:=dO pp j Y0 Y0;let k:=c.eq (A:=X.A.in1) I (dO r j Y0 h1) (dO r' j Y0 h2) q1 q2 (by show X.A.units+1+n<cLine;omega);rwa [c_ rfl] at k
 rw[show ((List.range us.toArray.size).all λ_=>true)=true from List.all_eq_true.mpr λ_ _=>rfl];exact hq
end
end L2
namespace Ev
open PySem L2
def Kp(l f:Addr)(H H':Hp):Prop:=∀b o,H b\o->b≠l->b≠f->H' b\o
inductive El (K:ai) (l f:Addr) (H:Hp):V->Prop
 |ent (a t:Addr) (os:List (Option Str)) (nv:V) (o:Option Int):H a\.tup [.ref t,nv]->H t\.tup (os.map oV)->(∀H',mN K H' nv o)->El K l f H (.ref a)
 |non:El K l f H .non
 |int (i:Int):El K l f H (.int i)
 |tup (a:Addr) (xs:af):H a\.tup xs->(xs.length≠2∨∃s r,xs=.str s::r)->El K l f H (.ref a)
 |tupL (a b:Addr) (r xs:af):H a\.tup (.ref b::r)->b≠l->b≠f->H b\.lst xs->El K l f H (.ref a)
 |lst (a:Addr) (xs:af):a≠l->a≠f->H a\.lst xs->El K l f H (.ref a)
variable{f:Addr}{H':Hp}{v:V}
theorem El.keep{K:ai}{l:Addr}{H:Hp}(h:El K l f H v)(kt:∀b xs,H b\.tup xs->H' b\.tup xs)(kl:∀b xs,H b\.lst xs->b≠l->b≠f->H' b\.lst xs):El K l f H' v:=by
 cases h with
 |ent a t os nv o h1 h2 h3=>exact .ent a t os nv o (kt _ _ h1) (kt _ _ h2) h3
 |non=>exact .non
 |int i=>exact .int i
 |tup a xs h1 h2=>exact .tup a xs (kt _ _ h1) h2
 |tupL a b r xs h1 n1 n2 h2=>exact .tupL a b r xs (kt _ _ h1) n1 n2 (kl _ _ h2 n1 n2)
 |lst a xs n1 n2 h=>exact .lst a xs n1 n2 (kl _ _ h n1 n2)
theorem El.but{K:ai}{l:Addr}{H:Hp}(h:El K l f H v)(b:aM l H H')(st:bJ H l):El K l f H' v:=by
 let#[xs,e]:=st.some;exact h.keep (λc ys q=>b _ _ q (bO q e nofun)) λc ys q n _=>b _ _ q n
theorem El.same{K:ai}{l:Addr}{H:Hp}(h:El K l f H v)(s:aa H H'):El K l f H' v:=h.keep (λ_ _ q=>s _ _ q) λ_ _ q _ _=>s _ _ q
variable{ws:af}
theorem El.app{K:ai}{l:Addr}{H:Hp}{vs:af}(h:El K l f H v)(e:H f\.lst vs):El K l f (upd H f (.lst ws)) v:=h.keep (λc ys q=>by rw[aA (bO q e nofun)];exact q) λc ys q _ n=>by rw[aA n];exact q
theorem El.th{K:ai}{l:Addr}{H:Hp}(h:El K l f H v):∃th,ke K H v th/\∃os:List (Option Str),uX th=os.map oV:=by
 cases h with
 |ent a t os nv o h1 h2 h3=>
  apply#[some (os.map oV,nv),#[a,t,U,h1,h2,λv hv=>?_,o,h3],os,U];let#[x,_,rfl]:=bx.mp hv;cases x with
  |none=>exact#[none,λH'=>#[_,.non,U]]
  |some x=>exact#[some x,λH'=>rfl]
 |non=>exact#[none,.inl #[_,.non,U],[],U]
 |int i=>exact#[none,.inl #[_,.int i,U],[],U]
 |tup a xs h1 h2=>
  apply#[none,.inr #[a,xs,U,h1,h2.imp id λ⟨s,r,e⟩=>#[_,r,_,e,.str s,U]],[],U]
 |tupL a b r xs h1 n1 n2 h2=>exact#[none,.inr #[a,_,U,h1,.inr #[_,r,_,U,.lst h2,U]],[],U]
 |lst a xs n1 n2 h=>exact#[none,.inl #[_,.lst h,U],[],U]
theorem So{K:ai}{l f:Addr}{H:Hp}:∀{zs:af},(∀z∈zs,El K l f H z)->∃ls,yD K H zs ls/\GI ls
 |[],_=>#[[],.nil,λth h=>by cases h]
 |z::zs,h=>by
  let#[ls,a,b]:=So λx hx=>h x (fo _ hx);let#[th,c,d]:=(h z fY).th;apply#[th::ls,.cons c a,λx hx=>?_];rcases cg.mp hx with rfl|hx
  ·exact d
  exact b x hx
theorem Q5{K:ai}{l f:Addr}{H:Hp}:∀{ys:af} {es:List (ax × Nat)},ft H ys es->∀y∈ys,El K l f H y
 |_,_,.nil,y,hy=>by cases hy
 |_,_,.cons (b:=e) ⟨a,t,q,h1,h2⟩ r,y,hy=>by
  rcases cg.mp hy with rfl|hy
  ·rw[q];exact .ent a t (e.1.map some) _ (some (e.2:Nat)) h1 (by rw[cy];exact h2) λH'=>rfl
  exact Q5 r y hy
def Bd(K:ai)(l f:Addr)(H:Hp)(v:V):Prop:=v=.non∨(∃a xs,v=.ref a/\H a\.tup xs)∨(∃a kvs,v=.ref a/\a≠l/\a≠f/\H a\.dT kvs)∨∃a zs,v=.ref a/\a≠l/\a≠f/\H a\.lst zs/\zs.length<=800/\∀z∈zs,El K l f H z
theorem Bd.keep{K:ai}{l:Addr}{H:Hp}(h:Bd K l f H v)(kt:∀b xs,H b\.tup xs->H' b\.tup xs)(kd:∀b xs,H b\.dT xs->b≠l->b≠f->H' b\.dT xs)(kl:∀b xs,H b\.lst xs->b≠l->b≠f->H' b\.lst xs):Bd K l f H' v:=by
 rcases h with e|⟨a,xs,e,h⟩|⟨a,kvs,e,n1,n2,h⟩|⟨a,zs,e,n1,n2,h,le,al⟩
 ·exact .inl e
 ·exact .inr (.inl #[a,xs,e,kt _ _ h])
 ·exact .inr (.inr (.inl #[a,kvs,e,n1,n2,kd _ _ h n1 n2]))
 exact .inr (.inr (.inr #[a,zs,e,n1,n2,kl _ _ h n1 n2,le,λz hz=>(al z hz).keep kt kl]))
theorem Bd.but{K:ai}{l:Addr}{H:Hp}(h:Bd K l f H v)(b:aM l H H')(st:bJ H l):Bd K l f H' v:=by
 let#[xs,e]:=st.some;exact h.keep (λc ys q=>b _ _ q (bO q e nofun)) (λc ys q n _=>b _ _ q n) λc ys q n _=>b _ _ q n
theorem Bd.app{K:ai}{l:Addr}{H:Hp}{vs:af}(h:Bd K l f H v)(e:H f\.lst vs):Bd K l f (upd H f (.lst ws)) v:=h.keep (λc ys q=>by rw[aA (bO q e nofun)];exact q) (λc ys q _ n=>by rw[aA n];exact q) λc ys q _ n=>by rw[aA n];exact q
theorem Kp.refl(l f:Addr)(H:Hp):Kp l f H H:=λ_ _ e _ _=>e
variable{H1:Hp}
theorem Kp.trans{l:Addr}{H H2:Hp}(h:Kp l f H H1)(h2:Kp l f H1 H2):Kp l f H H2:=λb o e n m=>h2 b o (h b o e n m) n m
theorem Kp.but{l:Addr}{H:Hp}(h:aM l H H1):Kp l f H H1:=λb o e n _=>h b o e n
structure ku (K:ai) (l f:Addr) (n:Nat) (H:Hp):Prop where
 st:bJ H l
 ne:f≠l
 ex:∃vs,H f\.lst vs/\vs.length<=n/\∀v∈vs,Bd K l f H v
variable{n:Nat}
theorem ku.but{K:ai}{l:Addr}{H:Hp}(h:ku K l f n H)(b:aM l H H')(st:bJ H' l):ku K l f n H':=by
 let#[s,ne,vs,e,le,al]:=h;exact#[st,ne,vs,b _ _ e ne,le,λv hv=>(al v hv).but b s]
theorem ku.more{K:ai}{l:Addr}{m:Nat}{H:Hp}(h:ku K l f n H)(k:n<=m):ku K l f m H:=by
 let#[s,ne,vs,e,le,al]:=h;exact#[s,ne,vs,e,by omega,al]
def Ge(l:Addr)(σ:St)(H:Hp)(t:TE)(R:Hp->V->Prop):Prop:=∀(H':Hp) (Q:VK),aM l H H'->bJ H' l->(∀v H2,aM l H' H2->bJ H2 l->R H2 v->Q v H2)->t σ H' Q
def Go(l:Addr)(σ:St)(H:Hp)(t:TO)(o:Option Int):Prop:=∀(H':Hp) (Q:Option Int->Hp->Prop),aM l H H'->bJ H' l->(∀H2,aM l H' H2->bJ H2 l->Q o H2)->t σ H' Q
def Nl(K:ai)(l f:Addr)(H0:Hp)(n:Nat)(H:Hp)(v:V):Prop:=∃q zs,v=.ref q/\q≠l/\H0 q=none/\H q\.lst zs/\zs.length<=n/\∀z∈zs,El K l f H z
variable{a:Addr}
variable{R:Hp->V->Prop}{i:Nat}
variable{t:TE}
variable{th tl:TO}{hi lo:Option Int}
variable{u:TE}
variable{D:Ends}
variable{tx ty:TE}
section
variable{K:ai}{l f:Addr}{σ:St}{H H' H0:Hp}{n m:Nat}{v:V}
theorem j0(st:bJ H l)(h:H a=none):a≠l:=λz=>by
 let#[xs,e]:=st.some;rw[z,e] at h;cases h
theorem Gr{b:Addr}(h:aM l H H')(s:bJ H' l)(e:H' b=none):H b=none:=by
 cases z:H b with
 |none=>rfl
 |some o=>rw[h b o z (j0 s e)] at e;cases e
theorem Nl.but(h:Nl K l f H0 n H v)(b:aM l H H')(st:bJ H l):Nl K l f H0 n H' v:=by
 let#[q,zs,e,ne,h0,hq,le,al]:=h;exact#[q,zs,e,ne,h0,b _ _ hq ne,le,λz hz=>(al z hz).but b st]
theorem p6(h:σ[i]? = some (some v))(r:∀H',aM l H H'->bJ H' l->R H' v):Ge l σ H (dh i) R:=λH' Q b st k=>#[v,h,k v H' (aM.refl _ _) st (r H' b st)]
theorem AY(r:∀H',R H' v):Ge l σ H (tC v) R:=λH' Q b st k=>k v H' (aM.refl _ _) st (r H')
theorem yx:Go l σ H JB none:=λH' Q b st k=>k H' (aM.refl _ _) st
theorem yu{i:Int}(h:Ge l σ H t λ_ v=>v=.int i):Go l σ H (yr t) (some i):=λH' Q b st k=>h H' _ b st λv H2 b2 cO e=>#[i,e,k H2 b2 cO]
theorem wd{ys:af}(h:σ[i]? = some (some (.ref a)))(ha:H a\.lst ys)(ne:a≠l)(zh:bJ H l)(el:∀y∈ys,El K l f H y)(hn:ys.length<=n)(hl:Go l σ H tl lo)(hh:Go l σ H th hi):Ge l σ H (Dg (se K) (dh i) tl th) (Nl K l f H n):=λH' Q b st kk=>#[_,h,hl H' _ b st λH2 b2 cO=>hh H2 _ (b.trans b2) cO λH3 b3 dW=>by
 let Pn:=(b.trans b2).trans b3;let le:=Gy ys lo hi;apply#[a,_,U,.of (Pn _ _ ha ne),λq hq=>?_];let s4:=aa.new (o:=.lst (cq ys lo hi)) hq;apply kk _ _ ((b2.trans b3).trans (aM.of s4)) (dW.same s4) #[q,_,U,j0 dW hq,Gr Pn dW hq,ay,by omega,λz hz=>((el z ?_).but Pn zh).same s4];unfold cq at hz;exact List.mem_of_mem_drop (List.mem_of_mem_take hz)]
theorem yg(h:Ge l σ H t (λH2 v=>El K l f H2 v)):Ge l σ H (vw (qa t gG)) (Nl K l f H 1):=λH' Q b st kk=>h H' _ b st λv H2 b2 cO r=>by
 apply#[zl,λq hq=>?_];let s4:=aa.new (o:=.lst [v]) hq;apply kk _ _ (b2.trans (aM.of s4)) (cO.same s4) #[q,_,U,j0 cO hq,Gr (b.trans b2) cO hq,ay,a9 _,λz hz=>?_];rw[fw.mp hz];exact r.same s4
theorem tG(h:Ge l σ H t (Nl K l f H n))(h2:Ge l σ H u (Nl K l f H m))(k:n+m<=1000):Ge l σ H (mU oS t u) (Nl K l f H (n+m)):=λH' Q b st kk=>h H' _ b st λv H2 b2 cO r=>h2 H2 _ (b.trans b2) cO λw H3 b3 dW r2=>by
 let sz:=cJ;let#[a,xs,rfl,n1,_,ha,le,al]:=r.but b3 cO;let#[c,ys,rfl,n2,_,hc,QO,Pr]:=r2;apply#[a,c,_,_,U,U,ha,hc,by omega,λq hq=>?_];let s4:=aa.new (o:=.lst (xs++ys)) hq;apply kk _ _ ((b2.trans b3).trans (aM.of s4)) (dW.same s4) #[q,_,U,j0 dW hq,Gr ((b.trans b2).trans b3) dW hq,ay,by rw[dM];omega,λz hz=>?_];rcases dB.mp hz with hz|hz
 ·exact (al z hz).same s4
 exact (Pr z hz).same s4
theorem tF{ys:af}(h:σ[i]? = some (some (.ref a)))(ha:H a\.lst ys)(ne:a≠l)(zh:bJ H l)(el:∀y∈ys,El K l f H y)(hn:ys.length<=n)(h2:Ge l σ H u (Nl K l f H m))(k:n+m<=1000):Ge l σ H (mU oS (dh i) u) (Nl K l f H (n+m)):=λH' Q b st kk=>#[_,h,h2 H' _ b st λw H3 b3 dW r2=>by
 let sz:=cJ;let#[c,zs,rfl,n2,_,hc,QO,Pr]:=r2;apply#[a,c,_,_,U,U,(b.trans b3) _ _ ha ne,hc,by omega,λq hq=>?_];let s4:=aa.new (o:=.lst (ys++zs)) hq;apply kk _ _ (b3.trans (aM.of s4)) (dW.same s4) #[q,_,U,j0 dW hq,Gr (b.trans b3) dW hq,ay,by rw[dM];omega,λz hz=>?_];rcases dB.mp hz with hz|hz
 ·exact ((el z hz).but (b.trans b3) zh).same s4
 exact (Pr z hz).same s4]
theorem jS(hi:σ[i]? = some (some (.ref f)))(F:ku K l f n H)(hn:n<=100000)(h:Ge l σ H t (Nl K l f H m))(hm:m<=800)(k:∀H2,Kp l f H H2->ku K l f (n+1) H2->D.nx σ H2):xp (Qd K "list" MV (dh i) (qa t gG)) D σ H:=by
 let sz:=cJ;let#[st,ne,vs,e,le,al]:=F;apply#[_,hi,.inl #[U,_,.of e],h H _ (aM.refl _ _) st λv H1 b1 oK r=>?_];let#[q,zs,rfl,n1,h0,hq,lz,az]:=r
 have nf:q≠f:=λz=>by
  rw[z,e] at h0;cases h0
 let e1:=b1 _ _ e ne;apply#[f,vs,.ref q,U,U,e1,by omega,k _ (λb o hb n1 n2=>by rw[aA n2];exact b1 _ _ hb n1) #[?_,ne,vs++[.ref q],ay,by rw[dM];simp;omega,λx hx=>?_]]
 ·unfold bJ;rw[aA ne.symm];exact oK
 rcases dB.mp hx with hx|hx
 ·exact ((al x hx).but b1 st).app e1
 rw[fw.mp hx];exact .inr (.inr (.inr #[q,zs,U,n1,nf,by rw[aA nf];exact hq,by omega,λz hz=>(az z hz).app e1]))
def kh(n:Nat)(H:Hp)(v:V):Prop:=∃(t:Addr) (os:List (Option Str)),v=.ref t/\H t\.tup (os.map oV)/\os.length<=n
theorem kh.but{v:V}(h:kh n H v)(b:aM l H H')(st:bJ H l):kh n H' v:=by
 let#[t,os,e,ht,le]:=h;let#[xs,e2]:=st.some;exact#[t,os,e,b _ _ ht (bO ht e2 nofun),le]
theorem Bb(h:Ge l σ H tx (kh n))(h2:Ge l σ H ty λ_ v=>∃o,∀H',mN K H' v o):Ge l σ H (qA (qa tx (qa ty gG))) (λH2 v=>El K l f H2 v):=λH' Q b st kk=>h H' _ b st λv H2 b2 cO r=>h2 H2 _ (b.trans b2) cO λw H3 b3 dW ⟨o,iv⟩=>by
 let#[t,os,rfl,ht,_]:=r.but b3 cO;apply#[zl,λq hq=>?_];let s4:=aa.new (o:=.tup [.ref t,w]) hq;exact kk _ _ ((b2.trans b3).trans (aM.of s4)) (dW.same s4) (.ent q t os w o ay (s4 _ _ ht) iv)
theorem IM(h:Ge l σ H tx λ_ v=>∃o,v=oV o):Ge l σ H (qA (qa tx gG)) (kh 1):=λH' Q b st kk=>h H' _ b st λv H2 b2 cO ⟨o,e⟩=>by
 subst e;apply#[zl,λq hq=>?_];let s4:=aa.new (o:=.tup [oV o]) hq;exact kk _ _ (b2.trans (aM.of s4)) (cO.same s4) #[q,[o],U,ay,a9 _]
theorem FN(h:Ge l σ H tx (kh n))(h2:Ge l σ H ty (kh m))(k:n+m<=1000):Ge l σ H (mU sk tx ty) (kh (n+m)):=λH' Q b st kk=>h H' _ b st λv H2 b2 cO r=>h2 H2 _ (b.trans b2) cO λw H3 b3 dW r2=>by
 let sz:=cJ;let#[t,os,rfl,ht,le]:=r.but b3 cO;let#[u,us,rfl,hu,QO]:=r2;apply#[t,u,_,_,U,U,ht,hu,by rw[aq,aq];omega,λp H4 s4 hp=>?_];exact kk _ _ ((b2.trans b3).trans (aM.of s4)) (dW.same s4) #[p,os++us,U,by rw[hp,eJ],by rw[dM];omega]
theorem oj{v:V}(h:σ[i]? = some (some v))(r:kh n H v)(zh:bJ H l)(hl:Go l σ H tl lo)(hh:Go l σ H th hi):Ge l σ H (Dg zM (dh i) tl th) (kh n):=λH' Q b st kk=>#[_,h,hl H' _ b st λH2 b2 cO=>hh H2 _ (b.trans b2) cO λH3 b3 dW=>by
 let#[t,os,rfl,ht,le]:=r.but ((b.trans b2).trans b3) zh;apply#[t,_,U,ht,λp H4 s4 hp=>?_];apply kk _ _ ((b2.trans b3).trans (aM.of s4)) (dW.same s4) #[p,(os.drop (HT.bU (os.map oV).length 0 lo)).take (HT.bU (os.map oV).length (os.map oV).length hi - HT.bU (os.map oV).length 0 lo),U,?_,?_]
 ·rw[hp];unfold cq;rw[List.map_take,List.map_drop]
 rw[dJ,wX];omega]
def Ga(K:ai)(l f:Addr)(σ:St)(H:Hp)(t:TA)(n:Nat):Prop:=∀(H':Hp) (Q:af->Hp->Prop),aM l H H'->bJ H' l->(∀vs H2,aM l H' H2->bJ H2 l->vs.length=n->(∀v∈vs,El K l f H2 v)->Q vs H2)->t σ H' Q
theorem yj:Ga K l f σ H gG 0:=λH' Q b st k=>k [] H' (aM.refl _ _) st U λv hv=>by cases hv
theorem qk{ts:TA}(h:Ge l σ H t (λH2 v=>El K l f H2 v))(hs:Ga K l f σ H ts n):Ga K l f σ H (qa t ts) (n+1):=λH' Q b st k=>h H' _ b st λv H2 b2 cO q=>hs H2 _ (b.trans b2) cO λvs H3 b3 dW le al=>k _ H3 (b2.trans b3) dW ⇑le λy hy=>by
 rcases cg.mp hy with rfl|hy
 ·exact q.but b3 cO
 exact al y hy
theorem yi{t:TA}(h:Ga K l f σ H t n)(k:n<=1000):Ge l σ H (vw t) (Nl K l f H n):=λH' Q b st kk=>h H' _ b st λvs H2 b2 cO le al=>by
 let sz:=cJ;apply#[by omega,λq hq=>?_];let s4:=aa.new (o:=.lst vs) hq;exact kk _ _ (b2.trans (aM.of s4)) (cO.same s4) #[q,vs,U,j0 cO hq,Gr (b.trans b2) cO hq,ay,by omega,λz hz=>(al z hz).same s4]
theorem El.kp(h:El K l f H v)(k:Kp l f H H')(st:bJ H l){vs:af}(e:H f\.lst vs):El K l f H' v:=by
 let#[xs,e2]:=st.some;exact h.keep (λc ys q=>k _ _ q (bO q e2 nofun) (bO q e nofun)) λc ys q n1 n2=>k _ _ q n1 n2
theorem kh.kp(h:kh n H v)(k:Kp l f H H')(st:bJ H l){vs:af}(e:H f\.lst vs):kh n H' v:=by
 let#[t,os,q,ht,le]:=h;let#[xs,e2]:=st.some;exact#[t,os,q,k _ _ ht (bO ht e2 nofun) (bO ht e nofun),le]
end
theorem yf{l:Addr}{σ:St}{H:Hp}{u:TS}(h:Ge l σ H t R)(st:bJ H l)(k:∀v H2,aM l H H2->bJ H2 l->R H2 v->u D (σ.set i (some v)) H2):qD (vy t (jw i)) u D σ H:=h H _ (aM.refl _ _) st k
theorem LX{α:Type}{p:α->Prop}{xs:List α}{r:Int}(h0:0<=r)(h1:r<xs.length)(h:∀x∈xs,p x):∃x,ib xs r\x/\p x:=by
 have l:r.toNat<xs.length:=by omega
 let#[n,rfl]:=wZ h0;exact#[xs[n],L2.cZ (aX Y0),h _ (j_ _)]
section v
theorem ow:bQ [gK,"_law_shut",j4,mw,wu,"_law_k","_law_spot","_law_number","_law_other","_law_at","_law_odd","_law_thing"] uq (a_ Oy):=bZ
inductive N_ (K:ai) (vs:af) (H:Hp) (Q:VK) (E:XK):Prop
 |mk:∀(l lS lh:Addr) (vp:V) (yh ys:af) (hs:Xa) (es:List (ax × Nat)),vs=[.ref l,.ref lS,.ref lh,vp]->bJ H l->H lS\.lst ys->lS≠l->ft H ys es->es.length<=300->(∀e∈es,e.1.length<=64/\e.2<=100)->H lh\.lst yh->lh≠l->bS K H yh (hs.map kH)->1<=hs.length->hs.length<=8->(∀r f zs H',aM l H H'->bJ H' l->H' r\.lst zs->r≠l->(∀z∈zs,Bd K l f H' z)->Q (.ref r) H')->N_ K vs H Q E
theorem fO_{fd:Ae}(F:bu K "_law_changed" "_law_changed" Oy f fd)(B:Bi mg)(cD:!bz 1 tT uW wO):!ak bc 2 f fd uq (N_ K):=by
 exists F.bW ow;let#[l,lS,lh,vp,yh,ys,hs,es,rfl,st,hS,nS,ea,e3,ec,eZ,nh,tu,h1,h8,k]:=h;let sz:=cJ;let les:=bI ea;refine' #[_,?c0,?kk]
 case' c0=>refine' au ?s1 ?c1
 case' c1=>refine' au ?s2 ?c2
 case' c2=>refine' au ?s3 ?c3
 case' c3=>refine' au ?s4 ?c4
 case' c4=>refine' aJ ?s5
 case' s1=>refine' bw 4 ow.nd ?t1
 case t1=>exact eI %[1,br qi (pv 1) (jf tW (pv 1) jd (jc av)),Y6 (pv 1) (A_ Bl av)|0]
 case' s2=>refine' d8 dS U (ql (by rfl) B.range %[bT gx (by rfl) B.len fN %[1|0]|0]) (bX 5 ow.nd) (au ?b1 (au ?b2 (aJ ?b3)))
 case b1=>exact Br (bg fX (pv 1) (pv 5)) (ju U (df (bX 6 ow.nd) (df (bX 7 ow.nd) hW)))
 case b2=>exact j8 (kQ kM qg qh pG (pv 4) %[br qi (jf tW (pv 1) jd (jc (pv 5))) (jf tW (pv 1) (jc (br fG (pv 5) av)) jd)|0])
 case' b3=>refine' d8 dS U (d4 (eI %[br fG (pv 7) av,br Cw (pv 7) av,av|0])) (bX 8 ow.nd) (aJ ?d1)
 case d1=>exact j8 (kQ kM qg qh pG (pv 4) %[br qi (br qi (jf tW (pv 1) jd (jc (pv 5))) (eI %[dA %[6,8|0]|0])) (jf tW (pv 1) (jc (br fG (pv 5) av)) jd)|0])
 case s3=>exact bw 9 ow.nd (bj cD hr %[0,bT (hA_ U) (by rfl) B.max PyProof.Rows.Boot.«max» %[av,bT gx (by rfl) B.len fN %[1|0]|0]|0])
 case' s4=>refine' b_ (eO (Nz (kR hr 0)) (pv 1) (eI bR)) ?f0 cm
 case' f0=>refine' au ?f1 ?g1
 case' g1=>refine' au ?f2 ?g2
 case' g2=>refine' au ?f3 ?g3
 case' g3=>refine' au ?f4 ?g4
 case' g4=>refine' aJ ?f5
 case f1=>exact Br (bg fX (pv 1) (pv 9)) (ju U (df (bX 6 ow.nd) (df (bX 7 ow.nd) hW)))
 case' f2=>refine' d8 dS U (ql (by rfl) B.range %[bT gx (by rfl) B.len fN %[6|0]|0]) (bX 5 ow.nd) (au ?h1 (aJ ?h2))
 case h1=>exact bw 8 ow.nd (bg cj (bg fX (pv 2) (bj cD hr %[0,bT gx (by rfl) B.len fN %[2|0]|0])) av)
 case h2=>exact j8 (kQ kM qg qh pG (pv 4) %[br qi (br qi (jf tW (pv 1) jd (jc (pv 9))) (eI %[dA %[br wM (br wM (jf IV (pv 6) jd (jc (pv 5))) (dA %[8|0])) (jf IV (pv 6) (jc (br fG (pv 5) av)) jd),7|0]|0])) (jf tW (pv 1) (jc (br fG (pv 9) av)) jd)|0])
 case' f3=>refine' bw 10 ow.nd ?o1
 case' o1=>refine' eI %[ou,6,?o2,?o3,?o4,?o5,?o6,?o7|0]
 case o2=>exact dA %[6|0]
 case o3=>exact dA %[6,7,av|0]
 case o4=>exact eI %[6,7|0]
 case o5=>exact dA %[gS Pd (by rfl) B.list qe %[6|0],7|0]
 case o6=>exact dA %[6,jv|0]
 case o7=>exact dA %[6,jX|0]
 case' f4=>refine' bw 10 ow.nd (br qi (pv 10) ?q1)
 case' q1=>refine' eI %[?q2,?q3,?q4,av|0]
 case q2=>exact dA %[br wM (pv 6) (dA %[bg cj (bg fX (pv 2) av) av|0]),7|0]
 case q3=>exact dA %[br wM (jf IV (pv 6) (jc av) jd) (dA %[jX|0]),7|0]
 case q4=>exact dA %[br wM (jf IV (pv 6) jd (jc (A_ Bl av))) (dA %[ou|0]),7|0]
 case' f5=>refine' d8 dS U (d4 (pv 10)) (bX 11 ow.nd) (au ?r1 (aJ ?r2))
 case r1=>exact j8 (kQ kM qg qh pG (pv 4) %[br qi (br qi (jf tW (pv 1) jd (jc (pv 9))) (eI %[11|0])) (jf tW (pv 1) (jc (br fG (pv 9) av)) jd)|0])
 case r2=>exact j8 (kQ kM qg qh pG (pv 4) %[br qi (pv 1) (eI %[11|0])|0])
 case s5=>exact bp (br qi (pv 4) (eI %[ou,gS JI (by rfl) B.tuple oA %[1|0],gS (Pb U (kR hr 1)) (by rfl) B.dict qd %[1|0],eI bR|0]))
 have tupK:∀{Ha Hb:Hp},bJ Ha l->aM l Ha Hb->∀{c xs},Ha c\.tup xs->Hb c\.tup xs:=λ{Ha Hb} sa b {c xs} e=>by
  let#[xs,e2]:=sa.some;exact b _ _ e (bO e e2 nofun)
 apply#[_,U,_,U,_,U,_,U,lS,ys,U,.of hS,λa1 n1=>?_];let#[s1,k1]:=aB (o:=.lst (cq ys none (some 1))) n1;generalize upd H a1 (.lst (cq ys none (some 1)))=H1 at s1 k1 ⊢;let lc:=Gy ys none (some 1);apply#[lS,a1,_,_,U,U,s1 _ _ hS,k1,by omega,λa2 n2=>?_];let#[s2,k2]:=aB (o:=.lst (ys++cq ys none (some 1))) n2;generalize upd H1 a2 (.lst (ys++cq ys none (some 1)))=H2 at s2 k2 ⊢;apply#[_,U,_,U,U,lS,ys,U,.of (s2 _ _ (s1 _ _ hS)),λa3 n3=>?_];let#[s3,k3]:=aB (o:=.lst ys.reverse) n3;generalize upd H2 a3 (.lst ys.reverse)=H3 at s3 k3 ⊢;apply#[zl,λlf xP=>?_];let#[s4,k4]:=aB (o:=.lst [.ref lS,.ref a2,.ref a3]) xP;let fI:=s1.trans (s2.trans (s3.trans s4));have QD:lS≠lf:=bG (s3 _ _ (s2 _ _ (s1 _ _ hS))) xP;have Xi:lh≠lf:=bG (s3 _ _ (s2 _ _ (s1 _ _ eZ))) xP;have Xr:a2≠lf:=bG (s3 _ _ k2) xP;have Xp:a3≠lf:=bG k3 xP;have QA:lf≠l:=j0 (st.same (s1.trans (s2.trans s3))) xP;have Xq:a2≠l:=j0 (st.same s1) n2;have Xo:a3≠l:=j0 (st.same (s1.trans s2)) n3;let Lk:=s4 _ _ (s3 _ _ k2);let Lj:=s4 _ _ k3;have hf0:H lf=none:=(s1.trans (s2.trans s3)).free xP;generalize upd H3 lf (.lst [.ref lS,.ref a2,.ref a3])=H4 at s4 k4 fI Lk Lj ⊢;let gU:=st.same fI;let Mn:=fI _ _ hS;have T_:ft H4 ys es:=Paired.aQ ea λy e ⟨a,t,q,h1,h2⟩=>#[a,t,q,fI _ _ h1,fI _ _ h2];have i5:∀y∈ys,El K l lf H4 y:=Q5 T_
 have F4:ku K l lf 3 H4:=#[gU,QA,_,k4,a9 _,λv hv=>by
  have bd:∀a zs,a≠l->a≠lf->H4 a\.lst zs->zs.length<=800->(∀z∈zs,z∈ys)->Bd K l lf H4 (.ref a):=λa zs h1 h2 h3 h4 h5=>.inr (.inr (.inr #[a,zs,U,h1,h2,h3,h4,λz hz=>i5 z (h5 z hz)]));simp only[cg,ig,or_false] at hv;rcases hv with rfl|rfl|rfl
  ·exact bd lS ys nS QD Mn Y0 λz hz=>hz
  ·apply bd a2 _ Xq Xr Lk (by rw[dM];omega) λz hz=>?_;rcases dB.mp hz with hz|hz
   ·exact hz
   unfold cq at hz;exact List.mem_of_mem_drop (List.mem_of_mem_take hz)
  exact bd a3 _ Xo Xp Lj (by rw[List.length_reverse];omega) λz hz=>List.mem_reverse.mp hz]
 clear s1 k1 n1 s2 k2 n2 s3 k3 n3 s4 xP Lk Lj lc
 have cA:∀{H':Hp},Kp l lf H4 H'->H' lS\.lst ys/\ft H' ys es/\(∀y∈ys,El K l lf H' y)/\H' lh\.lst yh/\bS K H' yh (hs.map kH):=λ{H'} kp=>by
  let#[xs,e2]:=gU.some;have kt:∀b xs,H4 b\.tup xs->H' b\.tup xs:=λb xs e=>kp _ _ e (bO e e2 nofun) (bO e k4 nofun);apply#[kp _ _ Mn nS QD,Paired.aQ T_ λy e ⟨a,t,q,h1,h2⟩=>#[a,t,q,kt _ _ h1,kt _ _ h2],λy hy=>(i5 y hy).kp kp gU k4,kp _ _ (fI _ _ eZ) nh Xi,Paired.aQ tu λy p ⟨c,e,hc⟩=>#[c,e,kt _ _ (fI _ _ hc)]]
 let T:St:=[some (.ref l),some (.ref lS),some (.ref lh),some vp,some (.ref lf)]
 have three:∀{σ:St} {H':Hp} {tx:TE} {tl th:TO} {i j:Option Int},σ[1]? = some (some (.ref lS))->Kp l lf H4 H'->bJ H' l->Go l σ H' tl i->Ge l σ H' tx (λH2 v=>El K l lf H2 v)->Go l σ H' th j->Ge l σ H' (mU oS (mU oS (Dg (se K) (dh 1) JB tl) (vw (qa tx gG))) (Dg (se K) (dh 1) th JB)) (Nl K l lf H' (300+1+300)):=λh1 kp dX o1 hx o2=>by
  let#[q1,_,q3,_]:=cA kp;exact tG (tG (wd (n:=300) h1 q1 nS dX q3 Y0 yx o1) (yg hx) (by decide)) (wd (n:=300) h1 q1 nS dX q3 Y0 o2 yx) (by decide)
 lk;apply oM (λσ H'=>∃(v5 v6 v7 v8:aI),σ=[some (.ref l),some (.ref lS),some (.ref lh),some vp,some (.ref lf),v5,v6,v7,v8,none,none,none]/\Kp l lf H4 H'/\ku K l lf (3+4 * es.length) H') ?later (λN hN=>?now)
 case now=>
  apply#[_,U,lS,ys,U,.inl (.of Mn),_,U,by show (-(2 ^ 62):Int)<=(ys.length:Int);omega,by show (ys.length:Int)<2 ^ 62;omega,?_];apply t7 (lo:=0) (n:=((ys.length:Nat):Int).toNat) (λi σ H'=>∃(v5 v6 v7 v8:aI),σ=[some (.ref l),some (.ref lS),some (.ref lh),some vp,some (.ref lf),v5,v6,v7,v8,none,none,none]/\Kp l lf H4 H'/\ku K l lf (3+4 * i) H') #[_,_,_,_,U,Kp.refl _ _ _,F4] ?_ ?_
  ·rintro i σ H5 hi ⟨v5,v6,v7,v8,rfl,Aq,F5⟩;have hi:i<ys.length:=by omega
   let#[Fm,ea5,uO,_,_]:=cA Aq;rw[show (0:Int)+(i:Nat)=(i:Int) by omega];obtain⟨e,he,a',t',eq,ha,h_⟩:∃e,es[i]? = some e/\∃a t,ys[i]=.ref a/\H5 a\.tup [.ref t,.int (e.2:Nat)]/\H5 t\.tup (sV e.1):=#[es[i]' Y0,aX Y0,dO ea5 i hi Y0];apply#[_,U,_,U,lS,_,i,_,U,U,.of Fm,L2.cZ (by rw[aX hi,eq]),a',_,U,.of ha,U,_,_,U,_,_,U,U,?_];have io:∀{σ:St} {Hb:Hp},σ[5]? = some (some (V.int i))->Go l σ Hb (yr (dh 5)) (some (i:Int)):=λh=>yu (p6 h λ_ _ _=>rfl);have ip:∀{σ:St} {Hb:Hp},σ[5]? = some (some (V.int i))->Go l σ Hb (yr (mU (sj λi j=>.int (i+j)) (dh 5) (tC (.int 1)))) (some ((i:Int)+1)):=λh=>yu λH' Q b st k=>#[_,h,_,_,U,U,k _ _ (aM.refl _ _) st U];obtain⟨xN,Cs⟩:∃os:List (Option Str),sV e.1=os.map oV:=#[e.1.map some,by rw[cy];rfl];have G8:kh 64 H5 (.ref t'):=#[t',xN,U,by rw[<- Cs];exact h_,by have:=eW List.length Cs;rw[aq,aq] at this;have:=(ec e (cB he)).1;omega];apply jS (i:=4) U F5 Y0 (tG (wd (n:=300) U Fm nS F5.st uO Y0 yx (io U)) (wd (n:=300) U Fm nS F5.st uO Y0 (ip U) yx) (by decide)) (by decide) λH6 Ek F6=>?_;let HJ:=Aq.trans Ek;apply#[_,U,_,_,U,U,_,U,_,_,U,U,zl,λlo KU=>?_];let#[s7,k7]:=aB (o:=.lst [.int ((e.2:Nat)+1),.int ((e.2:Nat) - 1),.int 0]) KU;have KP:lo≠l:=j0 F6.st KU
   have Qw:lo≠lf:=by
    let#[_,_,vs,e,_]:=F6;exact (bG e KU).symm
   have F7:ku K l lf (3+4 * i+1) (upd H6 lo (.lst [.int ((e.2:Nat)+1),.int ((e.2:Nat) - 1),.int 0])):=F6.but (aM.of s7) (F6.st.same s7);have uH:Kp l lf H4 (upd H6 lo (.lst [.int ((e.2:Nat)+1),.int ((e.2:Nat) - 1),.int 0])):=HJ.trans (Kp.but (aM.of s7));let Ej:=Ek.trans (Kp.but (l:=l) (f:=lf) (aM.of s7));generalize upd H6 lo (.lst [.int ((e.2:Nat)+1),.int ((e.2:Nat) - 1),.int 0])=H7 at s7 k7 F7 uH Ej ⊢;let#[_,_,vs5,ef5,_]:=id F5;apply#[lo,U,#[_,.of k7],ie (K:=K) (a:=lo) (xs:=[.int ((e.2:Nat)+1),.int ((e.2:Nat) - 1),.int 0]) (λj σ H'=>∃(v8:aI),σ=[some (.ref l),some (.ref lS),some (.ref lh),some vp,some (.ref lf),some (.int i),some (.ref t'),some (.int (e.2:Nat)),v8,none,none,none]/\Kp l lf H4 H'/\Kp l lf H5 H'/\H' lo\.lst [.int ((e.2:Nat)+1),.int ((e.2:Nat) - 1),.int 0]/\ku K l lf (3+4 * i+1+j) H') #[_,U,uH,Ej,k7,F7] (λj σ H' _ ⟨_,_,_,_,z,_⟩=>.of z) ?_ ?_]
   ·rintro j y σ H8 hy ⟨v8,rfl,pO,Ei,k8,F8⟩;have hj:j<3:=(cu.mp hy).1
    obtain⟨m,rfl⟩:∃m,y=.int m:=by
     have:=cB hy;simp only[cg,ig,or_false] at this;rcases this with rfl|rfl|rfl<;>exact#[_,U]
    let Ku:=G8.kp Ei F5.st ef5;apply jS (i:=4) U F8 Y0 (three U pO F8.st (io U) (Bb (p6 U λH' b st=>Ku.but b F8.st) (p6 U λ_ _ _=>#[some m,λ_=>rfl])) (ip U)) (by decide) λH9 Ap F9=>?_;exact#[_,U,pO.trans Ap,Ei.trans Ap,Ap _ _ k8 KP Qw,F9]
   rintro σ H8 ⟨v8,rfl,pO,_,_,F8⟩;exact#[_,_,_,_,U,pO,F8.more (by show 3+4 * i+1+3<=3+4 * (i+1);omega)]
  rintro σ H5 ⟨v5,v6,v7,v8,rfl,Aq,F5⟩;exact hN _ _ #[v5,v6,v7,v8,U,Aq,by rw[show ((ys.length:Nat):Int).toNat=es.length by omega] at F5;exact F5]
 rintro σ H5 ⟨v5,v6,v7,v8,rfl,Aq,F5⟩;let#[Fm,_,_,_,_]:=cA Aq;apply#[_,U,_,U,lS,ys,U,.inl (.of Fm),1,(ys.length:Int),U,l,_,U,by split<;>omega,by split<;>omega,F5.st,λa H6 a0 a1 b6 iN=>?_]
 let#[an,rfl]:=wZ a0;let F6:=F5.but b6 iN;let HJ:=Aq.trans (Kp.but (l:=l) (f:=lf) b6);lk;apply oM (λσ H'=>∃(v5 v6 v7 v8 v9 va vb:aI),σ=[some (.ref l),some (.ref lS),some (.ref lh),some vp,some (.ref lf),v5,v6,v7,v8,v9,va,vb]/\Kp l lf H4 H'/\ku K l lf 5000 H') ?An (λN hN=>?zW)
 case zW=>
  let#[hS6,_,_,_,_]:=cA HJ;apply#[_,U,zl,λle zY=>?_];let#[s7,k7]:=aB (o:=.lst []) zY;let F7:=F6.but (aM.of s7) (iN.same s7);let uH:=HJ.trans (Kp.but (l:=l) (f:=lf) (aM.of s7));generalize upd H6 le (.lst [])=H7 at s7 k7 F7 uH ⊢;let#[Fl,yo,wq,hlh7,Ka]:=cA uH;apply#[lS,le,ys,U,U,.of Fl,.of k7,_,U,?_];apply bH (λcn=>?_) (λcn=>?_);rotate_left 1
  ·exact hN _ _ #[_,_,_,_,_,_,_,U,uH,F7.more Y0]
  have hi:an<ys.length:=by
   have:ys.length≠0:=λz=>by
    rw[List.length_eq_zero_iff.mp z] at cn;cases cn
   split at a1<;>omega
  obtain⟨e,he,a',t',eq,ha,h_⟩:∃e,es[an]? = some e/\∃a t,ys[an]=.ref a/\H7 a\.tup [.ref t,.int (e.2:Nat)]/\H7 t\.tup (sV e.1):=#[es[an]' Y0,aX Y0,dO yo an hi Y0];apply#[_,U,_,U,lS,_,an,_,U,U,.of Fl,L2.cZ (by rw[aX hi,eq]),a',_,U,.of ha,U,_,_,U,_,_,U,U,?_];dsimp only[List.set];obtain⟨xN,Cs⟩:∃os:List (Option Str),sV e.1=os.map oV:=#[e.1.map some,by rw[cy];rfl]
  have B1:xN.length<=64:=by
   have:=eW List.length Cs;rw[aq,aq] at this;have:=(ec e (cB he)).1;omega
  have xx:kh 64 H7 (.ref t'):=#[t',xN,U,by rw[<- Cs];exact h_,B1];let#[_,_,BM,uQ,_]:=id F7;have ao:∀{σ:St} {Hb:Hp},σ[9]? = some (some (V.int an))->Go l σ Hb (yr (dh 9)) (some (an:Int)):=λh=>yu (p6 h λ_ _ _=>rfl);have ap:∀{σ:St} {Hb:Hp},σ[9]? = some (some (V.int an))->Go l σ Hb (yr (mU (sj λi j=>.int (i+j)) (dh 9) (tC (.int 1)))) (some ((an:Int)+1)):=λh=>yu λH' Q b st k=>#[_,h,_,_,U,U,k _ _ (aM.refl _ _) st U];have num:∀{σ:St} {Hb:Hp},σ[7]? = some (some (V.int (e.2:Nat)))->Ge l σ Hb (dh 7) λ_ v=>∃o,∀H',mN K H' v o:=λh=>p6 h λ_ _ _=>#[some _,λ_=>rfl];apply oM (λσ H'=>∃(v5 v8:aI),σ=[some (.ref l),some (.ref lS),some (.ref lh),some vp,some (.ref lf),v5,some (.ref t'),some (.int (e.2:Nat)),v8,some (.int an),none,none]/\Kp l lf H4 H'/\Kp l lf H7 H'/\ku K l lf (3+4 * es.length+xN.length) H') ?Am (λN3 Ck=>?zV)
  case zV=>
   have lsv:(sV e.1).length=xN.length:=by rw[Cs,aq]
   apply#[_,U,t',_,U,.inr (.of h_),_,U,by show (-(2 ^ 62):Int)<=((sV e.1).length:Int);omega,by show ((sV e.1).length:Int)<2 ^ 62;omega,?_];apply t7 (lo:=0) (n:=(((sV e.1).length:Nat):Int).toNat) (λi σ H'=>∃(v5 v8:aI),σ=[some (.ref l),some (.ref lS),some (.ref lh),some vp,some (.ref lf),v5,some (.ref t'),some (.int (e.2:Nat)),v8,some (.int an),none,none]/\Kp l lf H4 H'/\Kp l lf H7 H'/\ku K l lf (3+4 * es.length+i) H') #[_,_,U,uH,Kp.refl _ _ _,F7] ?_ ?_
   ·rintro i σ H8 hi ⟨v5,v8,rfl,pO,iX,F8⟩;let#[_,_,_,EV,GX]:=cA pO;rw[show (0:Int)+(i:Nat)=(i:Int) by omega];let ly:=bI GX;rw[aq] at ly;apply#[_,U,_,U,_,U,lh,_,U,.inl (.of EV),l,_,U,by omega,by omega,F8.st,λr H9 r0 r1 b9 il=>?_];let F9:=F8.but b9 il;let B3:=pO.trans (Kp.but (l:=l) (f:=lf) b9);let vQ:=iX.trans (Kp.but (l:=l) (f:=lf) b9);let#[_,_,_,AD,BO]:=cA B3
    let#[y,hy,u,x,rfl,hu]:=LX (p:=λy:V=>∃(u:Addr) (x:Str × Int),y=.ref u/\H9 u\.tup [.str x.1,.int x.2]) (xs:=yh) r0 r1 (λy hy=>by
     let#[j,hj,rfl]:=gB hy;let#[u,e,hu]:=dO BO j hj (by rw[aq];omega);rw[w6] at hu;exact#[u,_,e,uJ hu])
    apply#[lh,_,r,.ref u,U,U,.of AD,hy,u,_,0,_,U,U,.of hu,L2.cZ (j:=0) U,?_];lk[List.set];let vB:=xx.kp vQ F7.st uQ;have io:∀{σ:St} {Hb:Hp},σ[5]? = some (some (V.int i))->Go l σ Hb (yr (dh 5)) (some (i:Int)):=λh=>yu (p6 h λ_ _ _=>rfl);have ip:∀{σ:St} {Hb:Hp},σ[5]? = some (some (V.int i))->Go l σ Hb (yr (mU (sj λi j=>.int (i+j)) (dh 5) (tC (.int 1)))) (some ((i:Int)+1)):=λh=>yu λH' Q b st k=>#[_,h,_,_,U,U,k _ _ (aM.refl _ _) st U];apply jS (i:=4) U F9 Y0 (three U B3 F9.st (ao U) (Bb (FN (FN (oj U vB F9.st yx (io U)) (IM (p6 U λ_ _ _=>#[some x.1,U])) (by decide)) (oj U vB F9.st (ip U) yx) (by decide)) (num U)) (ap U)) (by decide) λHA HI FA=>?_;exact#[_,_,U,B3.trans HI,vQ.trans HI,FA]
   rintro σ H8 ⟨v5,v8,rfl,pO,iX,F8⟩;exact Ck _ _ #[_,_,U,pO,iX,by rw[show (((sV e.1).length:Nat):Int).toNat=xN.length by omega] at F8;exact F8]
  rintro σ H8 ⟨v5,v8,rfl,pO,iX,F8⟩;let#[hS8,_,el8,EV,GX]:=cA pO;let Ku:=xx.kp iX F7.st uQ;let#[m_,_,vs8,TZ,_]:=id F8;have qM:∀{σ:St},σ[6]? = some (some (V.ref t'))->Ge l σ H8 (dh 6) (kh 64):=λh=>p6 h λH' b st=>Ku.but b m_
  have x1:∀{σ:St},σ[6]? = some (some (V.ref t'))->Ge l σ H8 (dh 6) (λH2 v=>El K l lf H2 v):=λh=>p6 h λH' b st=>by
   let#[u,os,e1,hu,_]:=xx.kp iX F7.st uQ;cases e1
   have hu:H8 t'\.tup (sV e.1):=by
    let#[xs,e2]:=F7.st.some;exact iX _ _ h_ (bO h_ e2 nofun) (bO h_ uQ nofun)
   apply .tup t' _ (tupK m_ b hu) ?_;cases e.1 with
   |nil=>exact .inl (by show (0:Nat)≠2;decide)
   |cons x r=>exact .inr #[x,_,U]
  have HR:∀{H':Hp},aM l H8 H'->H' t'\.tup (sV e.1):=λb=>by
   let#[xs,e2]:=F7.st.some;exact tupK m_ b (iX _ _ h_ (bO h_ e2 nofun) (bO h_ uQ nofun))
  have tp:∀{σ:St} {t:TA} {n:Nat},(∀(H':Hp) (Q:af->Hp->Prop),aM l H8 H'->bJ H' l->(∀vs,vs.length=n->Q vs H')->t σ H' Q)->n<=3->n≠2->Ge l σ H8 (qA t) (λH2 v=>El K l lf H2 v):=λ{σ t n} h n3 n2 H' Q b st kk=>h H' _ b st λvs le=>by
   apply#[by omega,λq hq=>?_];let s9:=aa.new (o:=.tup vs) hq;exact kk _ _ (aM.of s9) (st.same s9) (.tup q vs ay (.inl Y0))
  have fr:∀{H':Hp} {q:Addr},aM l H8 H'->H' q=none->q≠lf:=λb hq z=>by
   rw[z,b _ _ TZ QA] at hq;cases hq
  apply yf (yi (f:=lf) (K:=K) (qk (AY λ_=>.non) (qk (x1 U) (qk (tp (n:=1) (λH' Q b st k=>#[_,U,k _ U]) (by decide) (by decide)) (qk (tp (n:=3) (λH' Q b st k=>#[_,U,_,U,k _ U]) (by decide) (by decide)) (qk ?o4 (qk ?o5 (qk (Bb (qM U) (AY λ_=>#[none,λ_=>.inl #[true,U]])) (qk (Bb (qM U) (AY λ_=>#[none,λ_=>.inr #[_,.str _,U]])) yj)))))))) (by decide)) m_ λv9 H9 b9 il r9=>?_
  case o4=>
   intro H' Q b st kk;apply#[_,U,_,U,zl,λq hq=>?_];let s9:=aa.new (o:=.lst [.ref t',.int (e.2:Nat)]) hq;exact kk _ _ (aM.of s9) (st.same s9) (.lst q _ (j0 st hq) (fr b hq) ay)
  case o5=>
   intro H' Q b st kk;apply#[_,U,t',_,U,.inr (.of (HR b)),λq hq=>?_];let#[s9,k9]:=aB (o:=.lst (sV e.1)) hq;let nq:=j0 st hq;let W9:=fr b hq;generalize upd H' q (.lst (sV e.1))=H9 at s9 k9 ⊢;apply#[_,U,zl,λu hu=>?_];let sA:=aa.new (o:=.tup [.ref q,.int (e.2:Nat)]) hu;exact kk _ _ (aM.of (s9.trans sA)) (st.same (s9.trans sA)) (.tupL u q _ _ ay nq W9 (sA _ _ k9))
  let#[lo,zo,rfl,KP,Qx,ho,Xw,elo]:=r9;let F9:=F8.but b9 il;let B3:=pO.trans (Kp.but (l:=l) (f:=lf) b9);let vQ:=iX.trans (Kp.but (l:=l) (f:=lf) b9);let#[hS9,_,yk,AD,BO]:=cA B3;let#[_,_,C9,ef9,_]:=id F9
  have Qw:lo≠lf:=λz=>by
   rw[z,TZ] at Qx;cases Qx
  let vB:=xx.kp vQ F7.st uQ;dsimp only[List.set];let Ht:=bI BO;rw[aq] at Ht
  have h00:∀{σ:St},σ[2]? = some (some (V.ref lh))->Ge l σ H9 (mU (jE K) (mU (vH K) (dh 2) (tC (.int 0))) (tC (.int 0))) λ_ v=>∃o,v=oV o:=λh2 H' Q b st kk=>by
   let#[u,eu,hu]:=dO BO 0 Y0 (by rw[aq];omega);rw[w6] at hu;apply#[_,h2,lh,_,0,_,U,U,.of (b _ _ AD nh),L2.cZ (j:=0) (by rw[aX Y0,eu]),u,_,0,_,U,U,.of (tupK il b (uJ hu)),L2.cZ (j:=0) U,?_];exact kk _ _ (aM.refl _ _) st #[some _,U]
  have Dx:∀{σ:St},σ[6]? = some (some (V.ref t'))->Ge l σ H9 (dh 6) (kh 64):=λh=>p6 h λH' b st=>vB.but b il;apply yf (tF (f:=lf) (K:=K) (i:=10) U ho KP il elo Xw (yi (qk (Bb (FN (Dx U) (IM (h00 U)) (by decide)) (num U)) (qk (Bb (FN (oj U vB il (yu (AY λ_=>rfl)) yx) (IM (AY λ_=>#[some _,U])) (by decide)) (num U)) (qk (Bb (FN (oj U vB il yx (yu (i:=-1) ?um)) (IM (AY λ_=>#[none,U])) (by decide)) (num U)) (qk (AY λ_=>.int 7) yj)))) (by decide)) (by decide)) il λvA HA bA Dv rA=>?_
  case um=>
   intro H' Q b st kk;exact#[_,U,kk _ _ (aM.refl _ _) st U]
  let#[lp,zp,rfl,W_,Qv,hp,lzp,TF]:=rA;let FA:=F9.but bA Dv;let HI:=B3.trans (Kp.but (l:=l) (f:=lf) bA)
  have Xc:lp≠lf:=λz=>by
   rw[z,ef9] at Qv;cases Qv
  dsimp only[List.set];let#[_,_,vsA,TY,_]:=id FA;apply#[_,U,lp,U,#[_,.of hp],ie (K:=K) (a:=lp) (xs:=zp) (λj σ H'=>∃(vb:aI),σ=[some (.ref l),some (.ref lS),some (.ref lh),some vp,some (.ref lf),v5,some (.ref t'),some (.int (e.2:Nat)),v8,some (.int an),some (.ref lp),vb]/\Kp l lf H4 H'/\Kp l lf HA H'/\ku K l lf (3+4 * es.length+xN.length+2 * j) H') #[_,U,HI,Kp.refl _ _ _,FA] (λj σ H' _ ⟨_,_,_,z,_⟩=>.of (z _ _ hp W_ Xc)) ?_ ?_]
  ·rintro j y σ HB hy ⟨vb,rfl,HG,Eh,FB⟩;let hj:=(cu.mp hy).1;let ey:=(TF y (cB hy)).kp Eh FA.st TY;apply jS (i:=4) U FB Y0 (three U HG FB.st (ao U) (p6 U λH' b st=>ey.but b FB.st) (ap U)) (by decide) λHC Ef FC=>?_;let QR:=HG.trans Ef;let Eg:=Eh.trans Ef;let#[hSC,_,IK,_,_]:=cA QR;let ey:=(TF y (cB hy)).kp Eg FA.st TY;apply jS (i:=4) U FC Y0 (tF (n:=300) (i:=1) U hSC nS FC.st IK Y0 (yg (p6 U λH' b st=>ey.but b FC.st)) (by decide)) (by decide) λHD Ee FD=>?_;exact#[_,U,QR.trans Ee,Eg.trans Ee,FD]
  rintro σ HB ⟨vb,rfl,HG,_,FB⟩;exact hN _ _ #[_,_,_,_,_,_,_,U,HG,FB.more Y0]
 rintro σ H7 ⟨v5,v6,v7,v8,v9,va,vb,rfl,uH,F7⟩;let#[Fl,yo,wq,_,_]:=cA uH;let#[gz,_,vs,uQ,lv,al7]:=id F7;have Xg:es.length<=1000:=by omega
 apply#[_,U,_,U,lS,ys,U,.inl #[.of Fl,λt nt=>?_]];let#[s8,k8]:=aB (o:=.tup ys) nt;generalize upd H7 t (.tup ys)=H8 at s8 k8 ⊢;apply#[_,U,lS,ys,gf es,U,s8 _ _ Fl,Jn (Paired.aQ yo λy e ⟨a,t,q,h1,h2⟩=>#[a,t,q,s8 _ _ h1,s8 _ _ h2]),by unfold gf;rw[aq];exact Xg,λnd iT=>?_];generalize hkv:yG _ _=kv;let#[s9,k9]:=aB (o:=.dT kv) iT;have K0:nd≠l:=j0 (gz.same s8) iT;have Xj:nd≠lf:=(bG (s8 _ _ uQ) iT).symm;generalize upd H8 nd (.dT kv)=H9 at s9 k9 ⊢;apply#[zl,λle zY=>?_];let#[sA,kA]:=aB (o:=.lst []) zY;have XN:le≠l:=j0 ((gz.same s8).same s9) zY;have XO:le≠lf:=(bG (s9 _ _ (s8 _ _ uQ)) zY).symm;generalize upd H9 le (.lst [])=HA at sA kA ⊢;apply#[zl,λl4 KW=>?_];let#[sB,kB]:=aB (o:=.lst [.non,.ref t,.ref nd,.ref le]) KW;generalize upd HA l4 (.lst [.non,.ref t,.ref nd,.ref le])=HB at sB kB ⊢;let KC:=(s8.trans s9).trans (sA.trans sB);apply#[lf,l4,vs,_,U,U,KC _ _ uQ,kB,by show vs.length+4<=sizeLine;omega,λr nr=>?_];let#[sC,kC]:=aB (o:=.lst (vs++[.non,.ref t,.ref nd,.ref le])) nr;have W8:r≠l:=j0 (gz.same KC) nr;generalize upd HB r (.lst (vs++[.non,.ref t,.ref nd,.ref le]))=HC at sC kC ⊢;let KA:=KC.trans sC;apply k r lf _ HC (λb o e n=>?_) (gz.same KA) kC W8 λz hz=>?_
 ·exact KA _ _ (uH _ _ (fI _ _ e) n (bG e hf0))
 rcases dB.mp hz with hz|hz
 ·exact (al7 z hz).but (aM.of KA) gz
 simp only[cg,ig,or_false] at hz;rcases hz with rfl|rfl|rfl|rfl
 ·exact .inl U
 ·exact .inr (.inl #[t,ys,U,sC _ _ (sB _ _ (sA _ _ (s9 _ _ k8)))])
 ·exact .inr (.inr (.inl #[nd,kv,U,K0,Xj,sC _ _ (sB _ _ (sA _ _ k9))]))
 exact .inr (.inr (.inr #[le,[],U,XN,XO,sC _ _ (sB _ _ kA),by decide,λz hz=>by cases hz]))
end
end Ev
namespace L2
open PySem PySem.Spec PyProof.Rows PySem.W qt eY
variable{prog:Ad}{w:Af}{A:Ag}{E:Aa->Ab->Prop}{s:Ab}{a:Addr}
theorem dW_{K:Type}[DecidableEq K]{knd:HeapKind prog w K}{nm:String}{xs:List (K × Addr × Aa)}{Q:Bool->Ab->Prop}(ha:(a == sysModules)=false)(da:s.heap.DictOfH knd a xs)(hu:knd.room A)(h:Q true s) :
  wpAny (model prog w) A (Builtin.Dict.samePairs nm a a) Q E s:=by
 let#[o,es,ep,ho,_,hd,he,RR,hn]:=id da;have hsz:es.size=xs.length:=size_of_entries he;unfold Builtin.Dict.samePairs Builtin.Dict.showsAll;rw[aC (show ¬(a == sysModules)=true by rw[ha];exact gr)];apply ae (aH (ae (aH ?_)));apply ae (wpAny_dictEntries ho hd ?_);dsimp only;apply ae (wpAny_dictEntries ho hd ?_);rw[aC Y1];apply ae (wpAny_dictEpoch ho hd ?_);apply ae ?_;rw[Std.Legacy.Range.forIn_eq_forIn_range'];simp only[Std.Legacy.Range.size,Nat.sub_zero,Nat.add_sub_cancel,Nat.div_one];apply wpAny_forIn_list _ (λrest q s'=>s'=s/\q=(none,())/\∃i,rest=List.range' i (es.size - i)/\i<=es.size) _ ?_ ?_ _ _ #[U,U,0,by simp,gN _]
 ·rintro x rest q s' ⟨rfl,rfl,i,hr,hi⟩
  have dQ:i<es.size:=by
   rcases Nat.lt_or_ge i es.size with h|h
   ·exact h
   rw[Nat.sub_eq_zero_of_le h] at hr;simp at hr
  obtain⟨rfl,EG⟩:x=i/\rest=List.range' (i+1) (es.size - (i+1)):=by
   have e:es.size - i=(es.size - (i+1))+1:=by omega
   rw[e,List.range'_succ] at hr
   injection hr with h1 h2
   exact#[h1,h2]
  apply ae (wpAny_dictEntries ho hd ?_);obtain⟨⟨k,ad,v⟩,hx⟩:∃p,xs[x]? = some p:=#[xs[x]' Y0,aX Y0];have hex:es[x]? = some (entryOfKey knd (k,ad,v)):=by rw[entry_at he,hx];rfl
  rw[hex];show wpAny _ _ (holding [Value.ref ad,v] _ >>= _) _ _ _;let AH:=RR _ (cB hx);apply ae (gR (ae (wpAny_dictFind_heap hu AH ho hd he RR hn (λno=>absurd hx (no x (ad,v))) λj p hj=>?_)))
  have ej:j=x:=by
   have:=(List.getElem?_inj (l:=xs.map (·.1)) (by rw[aq];exact (cu.mp hj).1) hn).mp (show (xs.map (·.1))[j]? = (xs.map (·.1))[x]? by rw[de,de,hj,hx];rfl);exact this
  subst ej;apply ae (wpAny_dictEntries ho hd ?_);rw[hex];apply gR (SeqAt.EqAt.same v prog w _ _ ?_);show wpAny _ _ (if (!true)=true then _ else _) _ _ _;rw[aC (by decide)];apply ae (wpAny_dictEpoch ho hd ?_);rw[aC Y1];exact aH #[U,U,j+1,EG,dQ]
 rintro q s' ⟨rfl,rfl,i,hr,hi⟩;exact aH h
theorem eK_{K:Type}[DecidableEq K]{knd:HeapKind prog w K}{xs:List (K × Addr × Aa)}{Q:Aa->Ab->Prop}(ha:(a == sysModules)=false)(da:s.heap.DictOfH knd a xs)(hu:A.units<cLine)(hr:knd.room A.in1)(h:Q (.bool false) s) :
  wpAny (model prog w) A (compareOp .NotEq (.ref a) (.ref a)) Q E s:=by
 apply wpAny_richCompare_same_room (op:=.NotEq) da.typeIs da.typeIs PySem.F.slot_dict_ne (tQ PySem.F.slot_dict_ne da.typeIs PySem.F.entry_dict_ne ?_ (PySem.F.args_dict_ne_2 _ _)) hu;show wpAny _ _ (Builtin.Dict.dictSlotArgs "__ne__" #[[.ref a,.ref a],[]] >>= _) _ _ s;apply ae ?_;unfold Builtin.Dict.dictSlotArgs;apply ae (wpAny_notOrdered_dict da.typeIs ?_);show wpAny _ _ (pure (Value.ref a,Value.ref a)) _ _ s;apply aH ?_;apply ae (wpAny_isInstance (T:="dict") da.typeIs PySem.F.sub_dict_dict ?_);simp only[Bool.not_true,pH,if_false];apply ae (aH (ae (aH ?_)));apply ae (dW_ ha da hr ?_);apply aH #[_,U,?_,?_]
 ·exact λx=>nomatch x
 simpa using h
def Own(v:V):Prop:=(∃a,v=.ref a)∨v=.non∨∃i,v=.int i
def DP(v:V):Rp Unit:=λ_ x _=>x=v
variable{v:V}{X:Cx}
theorem Bj(h:Own v):ji X 0 (DP v) where
 eq:=λ{pins σ H s A x y u w d e} I ru rv hx hy hu=>by
  have hx:x=v:=hx;have hy:y=v:=hy;subst hx;subst hy;rcases h with⟨a,rfl⟩|rfl|⟨i,rfl⟩
  ·cases ru;cases rv;exact SeqAt.EqAt.same _
  ·exact yE (A:=A) (s:=s) ru rv U U
  let q:=yE (A:=A) (s:=s) ru rv U U;have e2:pe (.int i) (.int i)=true:=by show (i == i)=true;simp
  rwa [e2] at q
 one:=λ{pins σ H s x d e} I hx hy=>rfl
theorem Zg{H:Hp}(h:Own v):JX X H v v:=#[0,Unit,inferInstance,DP v,(),by decide,Bj h,U,U]
def zN(X:Cx):V->V->Hp->VK->Prop:=λx y H Q=>(lY X x y H Q)∨(x=y/\(x=.non∨(∃a xs,x=.ref a/\H a\.tup xs)∨∃a kvs,x=.ref a/\H a\.dT kvs)/\Q (.bl false) H)
theorem _B(hu:X.A.units+8+1<cLine):dU X (compareOp .NotEq) (zN X):=by
 intro pins s σ H x y v u Q I rx ry h;rcases h with h|⟨rfl,h,q⟩
 ·exact Ub hu pins s σ H x y v u Q I rx ry h
 rcases h with rfl|⟨a,xs,rfl,ha⟩|⟨a,kvs,rfl,ha⟩
 ·exact om pins s σ H .non .non v u Q I rx ry #[U,q]
 ·cases rx;cases ry;let#[its,r,it,_]:=I.tuple (.of ha);apply SeqAt.RcNeAt.tuples (e:=λ_=>true) (wU it) (wU it) Y0 (λj g1 g2=>SeqAt.EqAt.same _) X.prog X.w _ _ #[.bl _,H,I,U,?_];rw[show (!((List.range (min its.toArray.size its.toArray.size)).all (λ_=>true)&&its.toArray.size == its.toArray.size))=false by simp];exact q
 cases rx;cases ry;let#[z,hd,xs,rel,dd]:=Ln I.aE ha;exact eK_ hd dd Y0 (tupleKind_room_in1 Y0) #[.bl _,H,I,U,q]
theorem Zd{n:Nat}{D:Type}[DecidableEq D]{R:Rp D}(c:ji X n R)(hu:X.A.units+n+1<cLine):dU X (compareOp .NotEq) (DS (KH X.K R) true):=by
 intro pins s σ H x y v u Q I rx ry h;let#[d,e,#[a,xs,rfl,t,q],#[b,ys,rfl,t',q'],hq]:=h;cases rx;cases ry;let#[us,r,pl,_]:=I.tuple t;let#[vs,r',uD,_]:=I.tuple t';let l1:=r.length;let l2:=r'.length;let l3:=bI q;let l4:=bI q';apply SeqAt.RcNeAt.tuples (wU pl) (wU uD) Y0 (M9 c I r r' q q' (A:=X.A.in1) (by show X.A.units+1+n<cLine;omega)) X.prog X.w _ _ #[.bl _,H,I,U,?_];rw[show us.toArray.size=d.length by simp only[cY];omega,show vs.toArray.size=e.length by simp only[cY];omega,Sr];exact hq
end L2
namespace Ev
open PySem L2
variable{H:Hp}
theorem _F{lo:Int}{n:Nat}{g:TG}{tc:TT}{te:TE}{own:Nat}{fv:List aI}{dec:V->Hp->List aI->Prop}{D:Addr}{Q:VK}{jk:St}(oZ:jk=List.replicate own none++fv)(G:BJ g own fv dec)(Pv:Nat->af->Hp->Prop)(h0:Pv 0 [] (upd H D (.lst [])))(hd:∀out H',Pv n out H'->Q (.ref D) H')(AL:∀i out H',i<n->Pv i out H'->∃o3,dec (.int (lo+i)) H' o3/\o3.length=own/\∀Nx:Hp->Prop,(∀iS H2,Pv (i+1) iS H2->Nx H2)->
   tc (o3++fv) H' λb H4=>if b=true then te (o3++fv) H4 λy H5=>∃eU,H5 D\.lst eU/\eU.length<sizeLine/\Nx (upd H5 D (.lst (eU++[y]))) else Nx H4) :
  yA (BI lo n) g tc te jk D H Q:=by
 apply IX oZ G n Pv h0 (λout H' p=>#[a9 _,hd out H' p]) λi out H' hi p=>#[hi,λx H2 y=>?_];let#[rfl,rfl]:=y;exact AL i out _ hi p
variable{LL:List (List ax)}{i:Nat}{L:List ax}
theorem Ym(hL:LL[i]? = some L)(j:Nat):((LL.take i).flatten++L.take j).length<=LL.flatten.length:=by
 let hi:=(cu.mp hL).1;let e:=List.take_append_drop i LL;rw[List.drop_eq_getElem_cons hi,(cu.mp hL).2] at e
 have:LL.flatten.length=(LL.take i).flatten.length+(L.length+(LL.drop (i+1)).flatten.length):=by
  conv=>lhs;rw[<- e]
  rw[List.flatten_append,List.flatten_cons,dM,dM]
 rw[dM,dJ];omega
theorem gs_(hL:LL[i]? = some L):(LL.take (i+1)).flatten=(LL.take i).flatten++L:=by
 rw[oB,hL,List.flatten_append];simp
theorem ft.ins{H:Hp}{ys:af}{l:List (ax × Nat)}(h:ft H ys l)(k:Nat){a t:Addr}{z:ax}{n:Nat}(h1:H a\.tup [.ref t,.int n])(h2:H t\.tup (sV z)):ft H (j5 ys k (.ref a)) (j5 l k (z,n)):=JJ k h #[a,t,U,h1,h2]
variable{H':Hp}{ys:af}
theorem ft.keep{es:List (ax × Nat)}(h:ft H ys es)(k:∀b xs,H b\.tup xs->H' b\.tup xs):ft H' ys es:=Paired.aQ h λy e ⟨a,t,q,h1,h2⟩=>#[a,t,q,k _ _ h1,k _ _ h2]
variable{v:V}{r:Flt}
theorem RF.same(h:RF H v r)(s:aa H H'):RF H' v r:=by
 match r,h with
 |none,e=>exact e
 |some (w,none),⟨t,e,h⟩=>exact#[t,e,s _ _ h]
 |some (w,some k),⟨t,e,h⟩=>exact#[t,e,s _ _ h]
theorem Q8{X:Cx}{w:V}(h:RF H v r)(h2:RF H w r):JX X H v w:=by
 match r,h,h2 with
 |none,e,e2=>exact#[0,Unit,inferInstance,rN,(),by decide,Og,e,e2]
 |some (x,none),⟨t,e,h⟩,⟨u,e2,h2⟩=>exact#[1,ag,inferInstance,KH X.K rS,[x],by decide,yF gJ,#[t,_,e,.of h,.cons U .nil],#[u,_,e2,.of h2,.cons U .nil]]
 |some (x,some k),⟨t,e,h⟩,⟨u,e2,h2⟩=>exact#[1,Str × Int,inferInstance,r2 X.K rS rZ,(x,k),by decide,Bk gJ Oe,#[t,_,_,e,.of h,U,U],#[u,_,_,e2,.of h2,U,U]]
variable{K:ai}{hs:Xa}{ts:Xb}{qs:aV}{s0:ax}
theorem tM.copy{c:Nat}{lim:Int × Int}{a b:Addr}(h:tM K H hs ts qs s0 c lim (.ref a) r)(ha:H a\.lst ys)(hb:H b\.lst ys):tM K H hs ts qs s0 c lim (.ref b) r:=by
 rcases h with⟨t,ty,e,er⟩|⟨lS,zs,l,k,e,hl,th,so,l3,bad,fst,er⟩|⟨lS,zs,es,e,hl,sh,l3,nd,hv,er⟩
 ·have:=ty H (aa.refl H);cases this with
  |lst e2=>exact (IZ e).elim
  |frz e2=>rw[ha] at e2;cases e2
  |tup e2=>rw[ha] at e2;cases e2
  |dK e2=>rw[ha] at e2;cases e2
  |dT e2=>rw[ha] at e2;cases e2
  |ins e2 _ _ _ _ _=>rw[ha] at e2;cases e2
 ·cases e;rw[ha] at hl;cases hl;exact .inr (.inl #[b,ys,l,k,U,hb,th,so,l3,bad,fst,er])
 cases e;rw[ha] at hl;cases hl;exact .inr (.inr #[b,ys,es,U,hb,sh,l3,nd,hv,er])
theorem SE{X:Cx}{H:Hp}:∀{xs:af},(∀x∈xs,Own x)->Paired (JX X H) xs xs
 |[],_=>.nil
 |x::xs,h=>.cons (Zg (h x fY)) (SE λy hy=>h y (fo _ hy))
theorem NL{H:Hp}:∀s:ax,Paired (rS H) (s.map V.str) s
 |[]=>.nil
 |_::r=>.cons U (NL r)
abbrev lN:ag:=[yy,"_law_cell",gK,j4,"_law_ties_here","_law_drawn","_law_stand_here",mw,"_law_goods","_law_first","_law_layers_here","_law_count","_law_limit","_law_shut","_law_k","_law_spot","_law_bad","_law_due_here","_law_handed","_law_told"]
theorem iD:bQ lN [yy] (a_ fe):=bZ
structure Dm (K:ai) (CG CW:Addr) (H:Hp) (l lh lt lz d g0 pw lL t0:Addr) (hs:Xa) (ts:Xb) (ss qs:aV) (fp:aw) (ns:ag) (f:bF) (s0:ax) (yL:af) (LL:List (List ax)):Prop where
 st:bJ H l
 hh:∃yh,H lh\.lst yh/\bS K H yh (hs.map kH)
 ht:∃zs,H lt\.lst zs/\bS K H zs (ts.map kT)
 hp:∃yp,H lz\.lst yp/\j3 K H yp ss
 n1:lh≠l
 n2:lt≠l
 n3:lz≠l
 n4:lL≠l
 fr:∀b,V.ref b∈yL->b≠l
 G:Good hs ts
 S:eM ts ss qs
 s8:ss.length<=8
 Gg:Gs K CG CW H g0 pw hs ts qs fp
 lfp:l∉fp
 Sd:Cp H d hs qs fp s0 ns f
 hL:H lL\.lst yL
 ly:hX H yL LL
 ok:jh (Nx hs ts qs) s0 LL
 fl:LL.flatten.length<=300
 h0:H t0\.tup (sV s0)
variable{CG CW d g0 l lL lh lt lz pw t0:Addr}{ss:aV}{fp:aw}{ns:ag}{f:bF}{yL:af}
theorem Dm.but(h:Dm K CG CW H l lh lt lz d g0 pw lL t0 hs ts ss qs fp ns f s0 yL LL)(b:aM l H H')(st:bJ H' l):Dm K CG CW H' l lh lt lz d g0 pw lL t0 hs ts ss qs fp ns f s0 yL LL:=by
 let#[a0,#[yh,a1,a2],#[zs,c1,c2],#[yp,b1,b2],n1,n2,n3,n4,fr,G,S,s8,Gg,lfp,Sd,hL,ly,ok,fl,h0]:=h;let#[xs,e]:=a0.some;exact#[st,#[yh,b _ _ a1 n1,ja a2 b e],#[zs,b _ _ c1 n2,ja c2 b e],#[yp,b _ _ b1 n3,Paired.aQ b2 λy p q=>q.but b a0],n1,n2,n3,n4,fr,G,S,s8,#[Gg.G.but b a0 lfp,Gg.Gd,Gg.nd,Gg.cQ,Gg.wp],lfp,#[b _ _ Sd.hd (bO Sd.hd e nofun),Sd.pX,Sd.ok,Sd.s0],b _ _ hL n4,ly.keep (λa m xs q=>b _ _ q (fr a m)) (λc xs q=>b _ _ q (bO q e nofun)),ok,fl,b _ _ h0 (bO h0 e nofun)]
theorem Dm.same(h:Dm K CG CW H l lh lt lz d g0 pw lL t0 hs ts ss qs fp ns f s0 yL LL)(s:aa H H'):Dm K CG CW H' l lh lt lz d g0 pw lL t0 hs ts ss qs fp ns f s0 yL LL:=h.but (aM.of s) (h.st.same s)
structure GT (P:Ad) (w:Af) (K:ai) (mg:Str->Option Aa) (base:Heap) (CG CW:Addr):Prop where
 cD:!bz 1 tT uW wO
 cU:!bz 3 "_law_due" uw (lE K)
 cS:!bz 8 "shut_fault" oH (Jw K CG CW)
 cC:!bz 2 "_law_changed" uq (N_ K)
 cP:!bz 7 "spread" yq (Nk K CG CW)
abbrev fB:List Stmt:=Fw (zU (f_ fe) 0)
variable{w:Af}{fl:Addr}{P:Ad}{mg:Str->Option Aa}{base:Heap}
theorem Je{cd:Aa}{A:Ag}{outer:List Env}{s:Ab}{Hi:Hp}{E:XK}(hr:aY 9 (A.deeper (PyProof.Rows.envOfC "law" (a_ fe) s.heap.objs.size fl cd)))(B:Bi mg)(sP:mg "min"=none)(C:GT P w K mg base CG CW):∃t,ki (i6 bc P w K mg base lN "law" (a_ fe) fl cd A outer s Hi E).xO (fB.drop 9) t /\
  ∀(D:Ends) (H:Hp) (w1 w2 w5:V) (vb vc vd ve vf vg vh vi vj:aI) (l lh lt lz d g0 pw lL t0:Addr) (hs:Xa) (ts:Xb) (ss qs:aV) (fp:aw) (ns:ag) (f:bF) (s0:ax) (yL:af) (LL:List (List ax)),Dm K CG CW H l lh lt lz d g0 pw lL t0 hs ts ss qs fp ns f s0 yL LL->
   (∀vb vc vd ve vf vg vh vi vj H',aM l H H'->D.nx [some w1,some w2,some (.ref l),some (.ref lh),some (.ref lt),some w5,some (.ref d),some (.ref lz),some (.ref g0),some (.ref t0),some (.ref lL),vb,vc,vd,ve,vf,vg,vh,vi,vj] H')->
   t D [some w1,some w2,some (.ref l),some (.ref lh),some (.ref lt),some w5,some (.ref d),some (.ref lz),some (.ref g0),some (.ref t0),some (.ref lL),vb,vc,vd,ve,vf,vg,vh,vi,vj] H:=by
 let hu:=fP hr;let sz:=cJ;have cSg:!bz 8 "shut_fault" oH (Nf K CG CW):=C.cS.imp _i;refine' #[_,?c0,?kk]
 case' c0=>refine' au ?q0 ?c1
 case' c1=>refine' au ?q1 ?c2
 case' c2=>refine' au ?q2 ?c3
 case' c3=>refine' au ?q3 ?c4
 case' c4=>refine' au ?q4 ?c5
 case' c5=>refine' aJ ?q5
 case q0=>exact bw 11 iD.nd (br fG av (bj C.cD hr %[2,av|0]))
 case' q1=>refine' Q9 (i:=12) ?y1 ?y2 ?y3 ?y4
 case y1=>exact iD.nd
 case y2=>exact U
 case y3=>exact Or.inr U
 case' y4=>refine' bg ?z1 ?z2 ?t5 ?z3
 case z1=>exact fX
 case z3=>exact λ_ _=>rfl
 case' z2=>refine' eI ?z4
 case' z4=>refine' d7 ?t1 ?z5
 case' z5=>refine' d7 ?t2 ?z6
 case' z6=>refine' d7 ?t3 ?z7
 case' z7=>refine' d7 ?t4 ?z8
 case z8=>exact bR
 case t1=>exact dA %[A_ Bl av,av|0]
 case t2=>exact dA %[av,av|0]
 case t3=>exact bj C.cP hr %[8,6|0]
 case t4=>exact dA %[av,av|0]
 case t5=>exact bj C.cD hr %[2,av|0]
 case q2=>exact bw 13 iD.nd (eI bR)
 case' q3=>refine' d8 dS U (ql (by rfl) B.range %[bT (hJ_ U) (by rfl) sP PyProof.Rows.Boot.«min» %[11,bT gx (by rfl) B.len fN %[10|0]|0]|0]) (bX 14 iD.nd) (aJ ?e1)
 case' e1=>refine' d8 dS U (d4 (bg fX (pv 10) (pv 14))) (bX 15 iD.nd) (aJ ?e2)
 case e2=>exact j8 (kQ kM PySem.F.slot_list_insert PySem.F.type_list_insert Oz (pv 13) %[bj C.cD hr %[2,br fG (bT gx (by rfl) B.len fN %[13|0]) av|0],dA %[15,14|0]|0])
 case' q4=>refine' d8 dS U (d4 (bj C.cC hr %[2,13,3,7|0])) (bX 16 iD.nd) ?f0
 case' f0=>refine' au ?f1 ?g1
 case' g1=>refine' au ?f2 ?g2
 case' g2=>refine' au ?f3 ?g3
 case' g3=>refine' au ?f4 ?g4
 case' g4=>refine' aJ ?f5
 case f1=>exact bw 17 iD.nd (bj C.cU hr %[dA %[3,7,4|0],9,12,11,16|0])
 case f2=>exact bw 18 iD.nd (pv 16)
 case f3=>exact b_ (d0 (bT gL (by rfl) B.gA gE %[16,gM (v:=.ty "list") (by rfl) B.list qe U|0])) (aJ (bw 18 iD.nd (gS Pd (by rfl) B.list qe %[16|0]))) cm
 case' f4=>refine' M4 (i:=19) yS 1 [11,8,18,12,6] iD.nd U (Or.inl U) (ql (by rfl) B.range %[av|0]) (λfp s H=>?h1) (λfp s H=>jx) (λfp s H=>?h2)
 case h1=>exact fu (i:=0) (show (yS:ag).Nodup by decide +kernel) U (Or.inl U)
 case h2=>exact bj cSg hr %[2,5,4,1,3|0]
 case f5=>exact b_ (iK (eO (Ub (kR hr 8)) (pv 19) (eI %[17,17|0])) (jY (eO (_B (kR hr 8)) (pv 18) (pv 16)))).pt (aJ (bp jv)) cm
 case' q5=>refine' b_ (eO (Zd gJ (kR hr 0)) (gS JI (by rfl) B.tuple oA %[jb oG 1 [6] (d4 (pv 7)) (λfp s H=>?g6) (λfp s H=>jx) (λfp s H=>?e6)|0]) (pv 9)) (aJ (bp jv)) cm
 case g6=>exact fu (i:=0) (show (oG:ag).Nodup by decide +kernel) U (Or.inl U)
 case e6=>exact j7 hu (pv 1) (bg (B4 (K:=K) jE cj) (pv 0) av)
 intro D H w1 w2 w5 vb vc vd ve vf vg vh vi vj l lh lt lz d g0 pw lL t0 hs ts ss qs fp ns f s0 yL LL Z k;have BN:Vs hs qs s0:=Z.Sd.vs;let ok:=Z.ok;let flZ:=Z.fl;let XG:=M0 ok.ne;let QK:=bI Z.ly;let nd:=ok.flat
 have tup:∀{Ha Hb:Hp},bJ Ha l->aM l Ha Hb->∀{c xs},Ha c\.tup xs->Hb c\.tup xs:=λ{Ha Hb} sa b {c xs} e=>by
  let#[xs,e2]:=sa.some;exact b _ _ e (bO e e2 nofun)
 apply#[_,U,l,5,U,by decide,by decide,Z.st,λr0 H1 u0 u1 b1 oK=>#[_,_,U,U,?_]];obtain⟨c,ec,c1,c5⟩:∃c:Nat,(1+r0:Int)=(c:Int)/\1<=c/\c<=5:=#[(1+r0).toNat,by omega,by omega,by omega];rw[ec];let Z1:=Z.but b1 oK;apply#[_,U,zl,λt1 pQ=>?_];let#[s2,e2]:=aB (o:=.tup [.int (-1),.int 2]) pQ;let Z2:=Z1.same s2;generalize upd H1 t1 (.tup [.int (-1),.int 2])=H2 at s2 e2 Z2 ⊢;apply#[zl,λt2 B8=>?_];let#[s3,e3]:=aB (o:=.tup [.int 0,.int 1]) B8;let Z3:=Z2.same s3;generalize upd H2 t2 (.tup [.int 0,.int 1])=H3 at s3 e3 Z3 ⊢;apply#[_,U,_,U,g0,pw,d,hs,ts,qs,fp,ns,f,U,#[Z3.Gg.G,Z3.Gg.Gd,Z3.Sd.pX,Z3.Sd.hd,Z3.Sd.ok,Z3.Gg.nd,Z3.Gg.cQ,λq hq=>(Z3.Gg.wp q hq).1],Z3.Gg.wp,λt3 rr H4 s4 is e4=>?_];let Z4:=Z3.same s4;apply#[zl,λt4 uI=>?_];let#[s5,e5]:=aB (o:=.tup [.int 1,.int 1000]) uI;let Z5:=Z4.same s5;generalize upd H4 t4 (.tup [.int 1,.int 1000])=H5 at s5 e5 Z5 ⊢;apply#[zl,λlc vX=>?_];let#[s6,e6]:=aB (o:=.lst [.ref t1,.ref t2,.ref t3,.ref t4]) vX;let Z6:=Z5.same s6;have XQ:lc≠l:=j0 Z5.st vX;generalize upd H5 lc (.lst [.ref t1,.ref t2,.ref t3,.ref t4])=H6 at s6 e6 Z6 ⊢;apply#[_,U,l,4,U,by decide,by decide,Z6.st,λr6 H7 p0 p1 b7 gz=>?_]
 let#[y,hy,tl,lim,ey,A2,lo]:=LY (p:=λy:V=>∃(t:Addr) (lim:Int × Int),y=.ref t/\hY H7 t lim/\uZ lim) (xs:=[V.ref t1,.ref t2,.ref t3,.ref t4]) p0 p1 (λx hx=>by
  simp only[cg,ig,or_false] at hx;rcases hx with rfl|rfl|rfl|rfl
  ·exact#[t1,(-1,2),U,tup Z6.st b7 (s6 _ _ (s5 _ _ (s4 _ _ (s3 _ _ e2)))),by constructor<;>decide]
  ·exact#[t2,(0,1),U,tup Z6.st b7 (s6 _ _ (s5 _ _ (s4 _ _ e3))),by constructor<;>decide]
  ·exact#[t3,_,U,tup Z6.st b7 (s6 _ _ (s5 _ _ e4)),g1_ Z.G Z3.Gg.wp Z3.Gg.cQ is]
  exact#[t4,(1,1000),U,tup Z6.st b7 (s6 _ _ e5),by constructor<;>decide])
 subst ey;apply#[lc,_,_,_,U,U,.of (b7 _ _ e6 XQ),hy,?_];have b07:aM l H H7:=b1.trans ((aM.of (((s2.trans s3).trans s4).trans (s5.trans s6))).trans b7);let Z7:=Z6.but b7 gz;dsimp only[List.set];clear b1 s2 e2 Z2 s3 e3 Z3 s4 e4 is Z4 s5 e5 Z5 s6 e6 Z6 hy b7 pQ B8 uI vX;apply#[zl,λlx jN=>?_];let#[sX,eX]:=aB (o:=.lst []) jN;let ZX:=Z7.same sX;have Ah:lx≠l:=j0 gz jN;generalize upd H7 lx (.lst [])=HX at sX eX ZX ⊢;lk[List.set]
 obtain⟨m,em,mm⟩:∃m:Nat,(if (yL.length:Int)<(c:Int) then (yL.length:Int) else (c:Int))=(m:Int)/\m=min c LL.length:=by
  split
  ·exact#[yL.length,U,by omega]
  exact#[c,U,by omega]
 have vl:s0.length=qs.length:=BN.len;let KL:=Z.Gg.cQ
 let J:Nat->Hp->Prop:=λn H'=>∃(zs:af) (sh:List (ax × Nat)),aM l H7 H'/\bJ H' l/\H' lx\.lst zs/\ft H' zs sh/\sh.length<=n/\∀e∈sh,e.1.length<=64/\e.2<=100
 apply oM (R:=λσ H'=>∃(va vb:aI),σ=[some w1,some w2,some (.ref l),some (.ref lh),some (.ref lt),some w5,some (.ref d),some (.ref lz),some (.ref g0),some (.ref t0),some (.ref lL),some (.int c),some (.ref tl),some (.ref lx),va,vb,vg,vh,vi,vj]/\J 300 H') ?later (λN hN=>?now)
 case now=>
  apply#[_,U,_,U,lL,_,U,.inl (.of ZX.hL),_,_,U,?_];rw[em];apply#[_,U,by omega,by omega,?_];apply t7 (lo:=0) (n:=(m:Int).toNat) (λi σ H'=>∃(va vb:aI),σ=[some w1,some w2,some (.ref l),some (.ref lh),some (.ref lt),some w5,some (.ref d),some (.ref lz),some (.ref g0),some (.ref t0),some (.ref lL),some (.int c),some (.ref tl),some (.ref lx),va,vb,vg,vh,vi,vj]/\J (LL.take i).flatten.length H') ?_ ?_ ?_
  ·exact#[_,_,U,[],[],aM.of sX,ZX.st,eX,.nil,gN _,λe he=>by cases he]
  ·rintro i σ HC hi ⟨va,vb,rfl,jj⟩;have hi:i<yL.length:=by omega
   have hic:i<c:=by omega
   let#[a,ws,ea,ha,sp]:=dO Z7.ly i hi Y0;have Ij:LL[i]? = some (LL[i]' Y0):=aX Y0;obtain⟨Lr,eL⟩:∃L,L=LL[i]' Y0:=#[_,U];rw[<- eL] at Ij sp;let K9:=bI sp;have al:a≠l:=Z7.fr a (by rw[<- ea];exact j_ hi);rw[show (0:Int)+(i:Nat)=(i:Int) by omega];let#[zs3,sh3,b3,_]:=id jj;apply#[_,U,_,U,lL,_,i,_,U,U,.of (b3 _ _ Z7.hL Z7.n4),L2.cZ (by rw[aX hi,ea]),a,U,#[_,.of (b3 _ _ ha al)],?_];apply ie (K:=K) (a:=a) (xs:=ws) (λj σ H'=>∃(vb:aI),σ=[some w1,some w2,some (.ref l),some (.ref lh),some (.ref lt),some w5,some (.ref d),some (.ref lz),some (.ref g0),some (.ref t0),some (.ref lL),some (.int c),some (.ref tl),some (.ref lx),some (.int i),vb,vg,vh,vi,vj]/\J ((LL.take i).flatten++Lr.take j).length H') ?_ ?_ ?_ ?_
   ·exact#[_,U,by rw[List.take_zero,List.append_nil];exact jj]
   ·rintro j σ H' _ ⟨_,_,_,_,bq,_⟩;exact .of (bq _ _ ha al)
   ·rintro j y σ HD hy ⟨vb,rfl,zs,sh,bD,G6,L_,Qg,Ea,ecD⟩;have hj:j<ws.length:=(cu.mp hy).1
    obtain⟨z,hz,tz,rfl,htz⟩:∃z,Lr[j]? = some z/\∃t,y=V.ref t/\H7 t\.tup (sV z):=by
     have:=dO sp j hj Y0;rw[aX hj] at hy;cases hy;exact#[Lr[j]' Y0,aX Y0,this]
    let fle:=Ym Ij j;let K6:=bI Qg;have tk:Lr.take (j+1)=Lr.take j++[z]:=by rw[oB,hz];rfl
    dsimp only[List.set];apply#[_,U,.inl #[U,_,.of L_],_,U,_,U,lx,_,U,.inl (.of L_),_,_,U,U,l,_,U,by show (0:Int)<(zs.length:Int)+1;omega,by show (zs.length:Int)+1<1073741824;omega,G6,λra HE a0 a1 bE G5=>?_];have a1:ra<(zs.length:Int)+1:=a1;let U7:=bD.trans bE;have Lz:HE tz\.tup (sV z):=tup gz U7 htz;let hfE:=bE _ _ L_ Ah;let Wg:=Qg.keep λ_ _ e=>tup G6 bE e;apply#[_,U,_,U,zl,λte hte=>?_];let#[sF,eF]:=aB (o:=.tup [.ref tz,.int i]) hte;generalize upd HE te (.tup [.ref tz,.int i])=HF at sF eF ⊢;let RY:=sF _ _ hfE;apply#[lx,ra.toNat,zs,.ref te,U,by rw[Int.toNat_of_nonneg a0],RY,by omega,by omega,?_]
    have kt:∀b xs,HF b\.tup xs->upd HF lx (.lst (j5 zs ra.toNat (.ref te))) b\.tup xs:=λb xs e=>by
     rw[aA (bO e RY nofun)];exact e
    let pm:=CJ sh ra.toNat (z,i);apply#[_,U,j5 zs ra.toNat (.ref te),j5 sh ra.toNat (z,i),λb o e ne=>?_,?_,ay,?_,?_,λe he=>?_]
    ·rw[aA (bG e jN)];exact sF _ _ (U7 b o e ne)
    ·unfold bJ;rw[aA Ah.symm];exact G5.same sF
    ·exact ((Wg.keep λ_ _ e=>sF _ _ e).ins ra.toNat eF (sF _ _ Lz)).keep kt
    ·rw[tk,<- List.append_assoc,pm.length_eq,dM,jy];exact Nat.succ_le_succ Ea
    rcases cg.mp (pm.mem_iff.mp he) with rfl|he
    ·have v:Vs hs qs z:=(((ok.is i Lr Ij).2 z).mp (cB hz)).1.vs BN;have:=v.len;exact#[by show z.length<=64;omega,by show i<=100;omega]
    exact ecD e he
   rintro σ HD ⟨vb,rfl,jj⟩;rw[K9,d9,<- gs_ Ij] at jj;exact#[_,_,U,jj]
  rintro σ HC ⟨va,vb,rfl,zs,sh,bC,stC,hfC,Wh,Ea,ecC⟩;apply hN _ _ #[_,_,U,zs,sh,bC,stC,hfC,Wh,ic Ea (ic ?_ flZ),ecC];have:=List.sublist_append_left (LL.take (m:Int).toNat).flatten (LL.drop (m:Int).toNat).flatten;rw[<- List.flatten_append,List.take_append_drop] at this;exact this.length_le
 rintro σ H8 ⟨va,vb,rfl,zs,sh,b8,m_,hx8,Wi,Ea,ec8⟩;let Z8:=Z7.but b8 m_;let fr8:=tup gz b8 A2;let#[yh,a1,a2]:=Z8.hh;apply oM (R:=λσ H'=>∃(v6 v7 xf v9:aI),σ=[some w1,some w2,some (.ref l),some (.ref lh),some (.ref lt),some w5,some (.ref d),some (.ref lz),some (.ref g0),some (.ref t0),some (.ref lL),some (.int c),some (.ref tl),some (.ref lx),va,vb,v6,v7,xf,v9]/\aM l H8 H'/\bJ H' l) ?An (λN hN=>?zW)
 case zW=>
  apply#[_,U,_,U,_,U,_,U,l,lx,lh,.ref lz,yh,zs,hs,sh,U,m_,hx8,Ah,Wi,Ea,ec8,a1,Z.n1,a2,Z.G.h1,Z.G.h8,λr fx zb H9 b9 il e9 nr bd=>?_];let Z9:=Z8.but b9 il;let SS:=tup m_ b9 fr8;apply#[r,U,#[_,.of e9],ie (K:=K) (a:=r) (xs:=zb) (λi σ H'=>∃(v6 v7 xf v9:aI),σ=[some w1,some w2,some (.ref l),some (.ref lh),some (.ref lt),some w5,some (.ref d),some (.ref lz),some (.ref g0),some (.ref t0),some (.ref lL),some (.int c),some (.ref tl),some (.ref lx),va,vb,v6,v7,xf,v9]/\aa H9 H') #[_,_,_,_,U,aa.refl _] (λi σ H' _ ⟨_,_,_,_,_,sm⟩=>.of (sm _ _ e9)) ?_ ?_];rotate_left 1
  ·rintro σ H' ⟨v6,v7,xf,v9,rfl,sm⟩;exact hN _ _ #[_,_,_,_,U,b9.trans (aM.of sm),il.same sm]
  rintro i y σ HA hy ⟨v6,v7,xf,v9,rfl,s9⟩;let U4:=bd y (cB hy);dsimp only[List.set]
  obtain⟨rr,ff⟩:∃rr,tM K H9 hs ts qs s0 c lim y rr:=by
   rcases U4 with rfl|⟨a,xs,rfl,h⟩|⟨a,kvs,rfl,_,_,h⟩|⟨a,xs,rfl,_,_,h,le,al⟩
   ·exact#[_,.inl #[_,λH' _=>.non,U,U]]
   ·exact#[_,.inl #[_,λH' s'=>.tup (s' _ _ h),U,U]]
   ·exact#[_,.inl #[_,λH' s'=>.dT (s' _ _ h),U,U]]
   let#[ls,th,so]:=So al;have:=bI th;exact Yx h th so Y0
  apply#[_,U,_,U,_,U,zl,λlq Xe=>?_];let#[sB,eB]:=aB (o:=.tup [.ref lh,.ref lz,.ref lt]) Xe;let DK:=s9.trans sB;generalize upd HA lq (.tup [.ref lh,.ref lz,.ref lt])=HB at sB eB DK ⊢;let ZB:=Z9.same DK;apply#[_,U,_,U,_,U,_,U,lq,lh,lz,lt,t0,tl,y,hs,ts,ss,qs,s0,lim,c,rr,U,eB,ZB.h0,#[ZB.hh,ZB.hp,ZB.ht,DK _ _ SS,lo,Z.G,Z.S,Z.s8],BN,c1,by omega,ff.same DK,λvd HC sC WA=>?_];let lX:=DK.trans sC;lk[List.set];apply#[_,U,?_];lk[List.set];apply oM (R:=λσ H'=>∃(hv:V),σ=[some w1,some w2,some (.ref l),some (.ref lh),some (.ref lt),some w5,some (.ref d),some (.ref lz),some (.ref g0),some (.ref t0),some (.ref lL),some (.int c),some (.ref tl),some (.ref lx),va,vb,some y,some vd,some hv,v9]/\aa HC H'/\tM K H' hs ts qs s0 c lim hv rr/\((hv=y/\(hv=.non∨(∃a xs,hv=.ref a/\H' a\.tup xs)∨∃a kvs,hv=.ref a/\H' a\.dT kvs))∨∃a b xs,hv=.ref a/\y=.ref b/\H' a\.lst xs/\H' b\.lst xs/\∀x∈xs,Own x)) ?Am (λN3 Ck=>?zV)
  case zV=>
   let Iy:=ff.same lX;rcases U4 with rfl|⟨a,xs,rfl,h⟩|⟨a,kvs,rfl,_,_,h⟩|⟨a,xs,rfl,_,_,h,le,al⟩
   ·apply#[_,U,_,_,_,_,U,.non,U,_,U,aF ?_];exact Ck _ _ #[_,U,aa.refl _,Iy,.inl #[U,.inl U]]
   ·apply#[_,U,_,_,_,_,U,.tup (lX _ _ h),U,_,U,aF ?_];exact Ck _ _ #[_,U,aa.refl _,Iy,.inl #[U,.inr (.inl #[a,xs,U,lX _ _ h])]]
   ·apply#[_,U,_,_,_,_,U,.dT (lX _ _ h),U,_,U,aF ?_];exact Ck _ _ #[_,U,aa.refl _,Iy,.inl #[U,.inr (.inr #[a,kvs,U,lX _ _ h])]]
   apply#[_,U,_,_,_,_,U,.lst (lX _ _ h),U,_,U,bN ?_];apply#[_,U,a,xs,U,.inl (.of (lX _ _ h)),λq nq=>?_];let#[sD,eD]:=aB (o:=.lst xs) nq;generalize upd HC q (.lst xs)=HD at sD eD ⊢;let hD:=sD _ _ (lX _ _ h);apply Ck _ _ #[.ref q,U,sD,(Iy.same sD).copy hD eD,.inr #[q,a,xs,U,U,eD,hD,λx hx=>?_]];cases al x hx with
   |ent a t os nv o h1 h2 h3=>exact .inl #[a,U]
   |non=>exact .inr (.inl U)
   |int i=>exact .inr (.inr #[i,U])
   |tup a xs h1 h2=>exact .inl #[a,U]
   |tupL a b r xs h1 n1 n2 h2=>exact .inl #[a,U]
   |lst a xs n1 n2 h=>exact .inl #[a,U]
  rintro σ HD ⟨hv,rfl,sD,ffD,own⟩;let Kz:=lX.trans sD;apply#[2,U,by decide,by decide,λD' dq=>?_];apply _F (own:=1) (fv:=[some (.int c),some (.ref g0),some hv,some (.ref tl),some (.ref d)]) U fg (λj out H'=>aa HD H'/\H' D'\.lst out/\out.length=j/\∀v∈out,RF H' v rr) #[aa.new dq,ay,U,λv hv=>by cases hv] (λout HE ⟨sE,hE,Ec,al⟩=>?_) (λj out H' hj ⟨sm,oa,Ec,al⟩=>?_);rotate_left 1
  ·have hj:j<2:=hj;apply#[_,U,U,λNx hN=>eP ?_];let Zm:=Z9.same (Kz.trans sm);apply#[_,U,_,U,_,U,_,U,_,U,g0,pw,d,tl,hv,hs,ts,qs,fp,s0,ns,f,lim,c,rr,U,Zm.Gg,Zm.Sd,sm _ _ (Kz _ _ SS),lo,c1,by omega,ffD.same sm,λv HF sF rf=>?_];let Mq:=sF _ _ oa
   have ne:∀v,RF HF v rr->RF (upd HF D' (.lst (out++[v]))) v rr/\∀w,RF HF w rr->RF (upd HF D' (.lst (out++[v]))) w rr:=λv h=>by
    have key:∀w,RF HF w rr->RF (upd HF D' (.lst (out++[v]))) w rr:=λw h=>by
     match rr,h with
     |none,e=>exact e
     |some (x,none),⟨t,e,h⟩=>exact#[t,e,by rw[aA (bO h Mq nofun)];exact h]
     |some (x,some k),⟨t,e,h⟩=>exact#[t,e,by rw[aA (bO h Mq nofun)];exact h]
    exact#[key v h,key]
   apply#[out,Mq,by omega,hN _ _ #[fF (sm.trans sF) dq,ay,by rw[dM,Ec];rfl,λw hw=>?_]];rcases dB.mp hw with hw|hw
   ·exact (ne v rf).2 w ((al w hw).same sF)
   rw[fw.mp hw];exact (ne v rf).1
  let Wl:=Kz.trans sE;lk[List.set];apply#[_,U,_,U,_,U,zl,λlw Xd=>?_];let#[sF,eF]:=aB (o:=.lst [vd,vd]) Xd;let Ky:=Wl.trans sF;let hF:=sF _ _ hE;generalize upd HE lw (.lst [vd,vd])=HF at sF eF Ky hF ⊢;let Wj:=(sD.trans sE).trans sF
  match out,Ec,al with
  |[v1,v2],_,al=>
   let r1:=(al v1 Y1).same sF;let r2:=(al v2 Y1).same sF;let rd:=WA.same Wj;apply#[D',lw,[v1,v2],[vd,vd],U,U,.of hF,.of eF,.cons (Q8 r1 rd) (.cons (Q8 r2 rd) .nil),_,U,aF ?_];apply#[_,U,_,U,?_];rcases own with⟨e,o⟩|⟨a,b,xs,e,e',h1,h2,ox⟩
   ·apply .inr #[e,?_,_,U,aF #[_,_,_,_,U,Ky]];rcases o with o|⟨a,xs,o,h⟩|⟨a,kvs,o,h⟩
    ·exact .inl o
    ·exact .inr (.inl #[a,xs,o,sF _ _ (sE _ _ h)])
    exact .inr (.inr #[a,kvs,o,sF _ _ (sE _ _ h)])
   exact .inl #[a,b,xs,xs,e,e',.of (sF _ _ (sE _ _ h1)),.of (sF _ _ (sE _ _ h2)),SE ox,_,U,aF #[_,_,_,_,U,Ky]]
 rintro σ H9 ⟨v6,v7,xf,v9,rfl,b9,il⟩;let Z9:=Z8.but b9 il;let#[yz,O8,O3]:=Z9.hp;let Xx:=bI O3;let oR:=Z.s8;let perm:=Z.Sd.ok.perm;apply#[_,U,lz,U,#[_,.of O8],λD' dq=>?_];apply j9 (own:=1) (fv:=[some (.ref d)]) (xs:=yz) U fg (λi out H'=>aa H9 H'/\H' D'\.lst out/\out=((ss.take i).map λp=>f p.1).map V.str) #[aa.new dq,ay,U] (λi out H' _ ⟨sm,_,_⟩=>.of (sm _ _ O8)) (λout HB ⟨sB,Cm,eo⟩=>?_) (λj y out H' hy ⟨sm,oa,eo⟩=>?_);rotate_left 1
 ·have hj:j<yz.length:=(cu.mp hy).1
  obtain⟨q,hq,t,v,rfl,ht,_⟩:∃q,ss[j]? = some q/\iG K H9 y q:=by
   have:=dO O3 j hj Y0;rw[aX hj] at hy;cases hy;exact#[ss[j]' Y0,aX Y0,this]
  have qm:q.1∈ns:=perm.mem_iff.mpr (by rw[Z.S.vM];exact bx.mpr #[q,cB hq,U])
  have dg:cK H' d (.str q.1) (some (.str (f q.1))):=by
   have:=cK.k (k:=.inr q.1) (sm _ _ Z9.Sd.hd);rw[Bw (g:=λn=>V.str (f n)) qm] at this;exact this
  apply#[_,U,U,λNx hN=>eP ?_];apply#[_,U,_,U,t,_,0,_,U,U,.of (sm _ _ ht),L2.cZ (j:=0) U,d,_,U,dg,out,oa,?_,hN _ _ #[fF sm dq,ay,?_]]
  ·rw[eo,aq,aq,dJ];omega
  rw[u_ _ hq,eJ,eo];rfl
 rw[Xx,d9] at eo
 have wk:s0=ss.map λp=>f p.1:=by
  rw[Z.Sd.s0,Z.S.vM,cy];rfl
 rw[<- wk] at eo;subst eo;apply#[D',_,U,.inl #[.of Cm,λt nt=>?_]];let#[sC,eC]:=aB (o:=.tup (s0.map V.str)) nt;generalize upd HB t (.tup (s0.map V.str))=HC at sC eC ⊢;let lX:=sB.trans sC;apply#[_,U,s0,s0,#[t,_,U,.of eC,NL s0],#[t0,_,U,.of (lX _ _ Z9.h0),NL s0],_,U,?_];rw[Rc (U:s0=s0)];apply aF ?_;exact k _ _ _ _ _ _ _ _ _ HC (b07.trans (b8.trans (b9.trans (aM.of lX))))
structure PR (P:Ad) (w:Af) (K:ai) (mg:Str->Option Aa) (base:Heap) (CG CW:Addr):Prop where
 cD:!bz 1 tT uW wO
 cH:!bz 3 "_law_hands" [gK,"_law_most"] (Ts K)
 cT:!bz 2 "_law_ties" [gK,j4] (NM K)
 cP:!bz 3 "_law_pieces" uj (OV K)
 cS:!bz 2 "_law_stand" oJ (Nd K)
 cW:!mQ CW 5 "Web" ["self","hands","ties"] (IF K CW)
 cG:!mQ CG 7 "Goods" ["self","web","pieces"] (JG K CG CW)
 cL:!bz 2 "_law_layers" uo (OZ K)
def ng(K:ai)(T:Addr):Sp:=λvs H Q _=>∃(a:Addr) (ns:List Int),vs=[.ref a]/\H T\.tbl #[]/\d5 K H a (ns.map V.int)/\ns.length<=63/\∀H',Q (.bl true) H'
variable{T:Addr}
theorem YI{c0:Addr}{fd:Ae}(F:w_ K "law" "law" fe fl c0 fd)(B:Bi mg)(sP:mg "min"=none)(hC:PySem.W.CodeHd base c0 T)(hbm:base.BuiltinsAt mg T)(C:PR P w K mg base CG CW)(C2:GT P w K mg base CG CW):!ak bc 10 fl fd [yy] (ng K T):=by
 apply F.ok iD (λvs H Q E h=>?_) (λA outer s H vs Q E hr h=>?_)
 ·let#[a,ns,rfl,_]:=h;rfl
 let#[ls,ns,rfl,hT,LS,h63,k]:=h;let sz:=cJ;let hu:=fP hr;have B9:aY 3 _:=hr.mono (by decide);let#[tl,htl,later]:=Je (Hi:=H) (E:=E) (outer:=outer) hr B sP C2;refine' #[_,au ?s1 (aJ (bp jv)),?kk]
 case' s1=>refine' d8 dS U (d4 (br qi (eI %[av|0]) (jf tW (pv 0) jd (jc av)))) (bX 1 iD.nd) ?b0
 case' b0=>refine' au ?q0 ?c1
 case' c1=>refine' au ?q1 ?c2
 case' c2=>refine' au ?q2 ?c3
 case' c3=>refine' au ?q3 ?c4
 case' c4=>refine' au ?q4 ?c5
 case' c5=>refine' au ?q5 ?c6
 case' c6=>refine' au ?q6 ?c7
 case' c7=>refine' au ?q7 ?c8
 case' c8=>refine' au ?q8 ?c9
 case c9=>exact htl
 case q0=>exact bw 2 iD.nd (eI %[1|0])
 case q1=>exact bw 3 iD.nd (bj C.cH hr %[2,av|0])
 case q2=>exact bw 4 iD.nd (bj C.cT hr %[2,3|0])
 case q3=>exact bw 5 iD.nd (bj C.cP hr %[2,4,av|0])
 case q4=>exact bw 6 iD.nd (bj C.cS hr %[2,3,5|0])
 case q5=>exact bw 7 iD.nd (hd_ (px:="_law_piece") (dG:=[]) (cl:=[]) (is:=[]) (k:=1) U (by rfl) B.sorted %[5|0] (YR (X6 (P:=T) (c:=c0) U Oj U hC hbm) YF) Yl B9 (λ_ h=>by cases h) (λ_ h=>by cases h) (λ_ h=>by cases h) U)
 case q6=>exact bw 8 iD.nd (Ll C.cG hr %[Ll C.cW hr %[3,4|0],5|0])
 case' q7=>refine' bw 9 iD.nd (gS JI (by rfl) B.tuple oA %[jb oG 1 [6] (d4 (pv 7)) (λfp s H=>?g6) (λfp s H=>jx) (λfp s H=>?e6)|0])
 case q8=>exact bw 10 iD.nd (bj C.cL hr %[7,4,9,av|0])
 case g6=>exact fu (i:=0) (show (oG:ag).Nodup by decide +kernel) U (Or.inl U)
 case e6=>exact j7 hu (pv 1) (bg (B4 (K:=K) jE cj) (pv 0) av)
 have wk:mz H T qL:=#[[],hT,λe he=>by cases he];apply#[zl,λa1 n1=>?_];let#[s1,k1]:=aB (o:=.lst [.int 0]) n1;generalize upd H a1 (.lst [.int 0])=H1 at s1 k1 ⊢;apply#[_,U,_,U,ls,_,U,_b s1 LS,λa2 n2=>?_];let#[s2,k2]:=aB (o:=.lst (cq (ns.map V.int) none (some 3))) n2;generalize upd H1 a2 (.lst (cq (ns.map V.int) none (some 3)))=H2 at s2 k2 ⊢;let lc:=Gy (ns.map V.int) none (some 3);rw[aq] at lc;apply#[a1,a2,_,_,U,U,s2 _ _ k1,k2,by show 1+(cq (ns.map V.int) none (some 3)).length<=sizeLine;omega,λa3 n3=>?_];let#[s3,k3]:=aB (o:=.lst ([.int 0]++cq (ns.map V.int) none (some 3))) n3;generalize upd H2 a3 (.lst ([.int 0]++cq (ns.map V.int) none (some 3)))=H0 at s3 k3 ⊢;have Df:mz H0 T qL:=wk.same ((s1.trans s2).trans s3)
 have allI:∀y∈[V.int 0]++cq (ns.map V.int) none (some 3),∃n,y=.int n:=λy hy=>by
  rcases dB.mp hy with hy|hy
  ·exact#[0,fw.mp hy]
  have hy:y∈ns.map V.int:=by
   unfold cq at hy;exact List.mem_of_mem_drop (List.mem_of_mem_take hy)
  let#[n,_,rfl]:=bx.mp hy;exact#[n,U]
 let Iv:dD:=λi σ H2=>∃(v1 v2 v3 v4 v5 v6 v7 v8 v9 va vb vc vd ve vf vg vh vi vj:aI),σ=[some (.ref ls),v1,v2,v3,v4,v5,v6,v7,v8,v9,va,vb,vc,vd,ve,vf,vg,vh,vi,vj]/\NT H0 H2/\mz H2 T qL
 apply#[a3,U,#[_,.of k3],?_];apply ie (K:=K) (a:=a3) (xs:=[.int 0]++cq (ns.map V.int) none (some 3)) Iv ?_ ?_ ?_ ?_
 ·exact#[none,none,none,none,none,none,none,none,none,none,none,none,none,none,none,none,none,none,none,U,NT.refl H0,Df]
 ·rintro i σ H' _ ⟨_,_,_,_,_,_,_,_,_,_,_,_,_,_,_,_,_,_,_,_,nt,_⟩;exact .of (nt.lst k3)
 rotate_left 1
 ·rintro σ H' ⟨_,_,_,_,_,_,_,_,_,_,_,_,_,_,_,_,_,_,_,rfl,_,_⟩;exact k H'
 rintro i y σ H2 hy ⟨v1,v2,v3,v4,v5,v6,v7,v8,v9,va,vb,vc,vd,ve,vf,vg,vh,vi,vj,rfl,W5,Ki⟩;let#[n,rfl]:=allI y (cB hy);clear hy s1 k1 s2 k2 n1 n2 n3 s3 wk Df k;apply#[_,U,zl,λl nl=>?_];let s3:=aa.new (o:=.lst [.int n]) nl;have dW:bJ (upd H2 l (.lst [.int n])) l:=.inl #[n,ay];generalize upd H2 l (.lst [.int n])=H3 at s3 dW ⊢;apply#[_,U,l,3,U,by decide,by decide,dW,λlh yh hs H4 b4 gU pW eZ tu g nd h1 h8=>?_];let#[Vv,AG]:=dW.some;have uG:lh≠l:=(bG AG pW).symm;apply#[_,U,_,U,l,lh,yh,hs,U,gU,eZ,tu,λx hx=>?_,nd,by omega,uG,λlt yt ts H5 b5 iO o_ dQ tt tok G0 xu=>?_]
 ·let#[h,hh,rfl]:=bx.mp hx;exact (g h hh).1
 let#[Vu,EX]:=gU.some;have xT:lt≠l:=(bG EX o_).symm;have W:Good hs ts:=#[g,nd,h1,by omega,λt ht=>(tok t ht).1,G0,xu,λt ht=>(tok t ht).2];apply#[_,U,_,U,l,lt,2,yt,ts,U,by decide,iO,dQ,tt,xT,xu,W.tok,G0,λlp yp ps H6 b6 iN Io jo pc dp vI p3=>?_];let#[xs5,Ia]:=iO.some;have Eb:lp≠l:=(bG Ia Io).symm;let uB:=ja (ja tu b5 EX) b6 Ia;let AE:=b6 _ _ (b5 _ _ eZ uG) uG;apply#[_,U,_,U,_,U,l,lh,lp,yh,yp,hs,ps,U,iN,AE,uB,uG,h1,by omega,jo,pc,Eb,vI,by omega,λd f H7 b7 gz A2 hd fm=>?_];let#[P0,AF]:=iN.some;have D7:Dr K H7 l lh lt lp d hs ts ps f:=#[gz,#[yh,b7 _ _ AE uG,ja uB b7 AF],#[yt,b7 _ _ (b6 _ _ dQ xT) xT,ja (ja tt b6 Ia) b7 AF],#[yp,b7 _ _ jo Eb,Paired.aQ pc λy p q=>q.but b7 iN],hd,uG,xT,Eb];have Qj:aa H2 H7:=(((b4.trans b5).trans b6).trans b7).same nl s3;have De:mz H7 T qL:=Ki.same Qj;clear b4 b5 b6 b7 dW gU iO iN gz pW o_ Io A2 AG EX Ia AF tu uB eZ AE dQ tt jo pc hd s3;apply#[_,U,KY (FX ?_)];apply Yv De U U U U λIp c' H8 b8 Kh L8 Ih=>?_;let#[tv,hT7]:=Y8 De;have DW:NT H7 H8:=b8.nt hT7;let D8:=D7.nt DW;let#[Vn,LU,Hj]:=D8.hp;let BZ:=bI Hj;apply#[.ref lp,Ip,c',Vn,KS H8,[],U,U,L8,Ih,.inl #[lp,U,.of LU],by omega,U,λH' x sm hx=>?_,λlz zs H9 s9 W0 W2 pz ek=>?_]
 ·let#[j,hj,rfl]:=gB hx;let#[t,v,e,ht,_]:=dO Hj j hj Y0;rw[e];apply#[t,_,_,U,U,sm _ _ ht,aa.refl _,?_];show V.str _=V.str (match H8 t with|some (.tup (.str n::_))=>n|_=>(⟨#[]⟩:Str));rw[ht]
 let#[ss,sp,Qo]:=eL_ pz Hj
 have esn:ss.map (·.1)=iE (ps.map (·.1)):=by
  rw[<- MZ Qo,<- MZ Hj];exact ek
 have sA:aa H8 (upd H9 lz (.lst zs)):=s9.trans (aa.new W0);have eA:upd H9 lz (.lst zs) lz\.lst zs:=ay;generalize upd H9 lz (.lst zs)=HA at sA eA ⊢;have Qp:j3 K HA zs ss:=Bm Qo sA;let DA:=D8.same sA;let Kg:=Kh.same sA;have W3:NT H2 HA:=((NT.of Qj).trans DW).trans (NT.of sA)
 have Hr:lz≠l:=by
  let#[xs,e]:=D8.st.some;exact (bG e W2).symm
 have jm:(ss.map (·.1)).Nodup:=(sp.map (·.1)).nodup_iff.mpr vI;have XB:ss.length=ps.length:=sp.length_eq;let K6:=bI Qp;let#[#[yhC,hhC,VU],#[ztC,htC,VY],#[ypC,hpC,WS]]:=And.intro DA.hh (And.intro DA.ht DA.hp);apply#[_,U,_,U,?_];apply YB W hhC VU htC VY (λpw dz HD sD Wb SO=>?_);apply#[_,U,?_];apply _P Wb W (sD _ _ hpC) (Bm WS sD) (λq hq=>(dp q hq).g) vI Y0 (λg0 qs SX HE sE GA Qq SQ=>?_);let#[fp,GA,has,sub]:=GA.Dz;have S:eM ts ss qs:=Ys Qq vI sp esn dp;let QI:=S.len
 have lfp:l∉fp:=λm=>by
  let#[xs,e]:=DA.st.some;rcases SQ l (sub l m) with z|z
  ·have:=SO l z;rw[e] at this;cases this
  rw[sD _ _ e] at z;cases z
 let DJ:=sD.trans sE;let DE:=DA.same DJ;have Kf:mz HE T qL:=Kg.same DJ;let IU:=DJ _ _ eA;let BS:=Bm Qp DJ;have Qy:qs.map (·.1)=ss.map (·.1):=S.vM;apply#[_,U,lz,U,#[_,.of IU],λD hD=>?_];apply j9 (own:=1) (fv:=[some (.ref d)]) (xs:=zs) U fg (λi out H'=>aa HE H'/\H' D\.lst out/\out=((ss.take i).map λp=>f p.1).map V.str) #[aa.new hD,ay,U] (λi out H' _ ⟨sm,_,_⟩=>.of (sm _ _ IU)) (λout HB ⟨sB,Cm,eo⟩=>?_) (λj y out H' hy ⟨sm,dq,eo⟩=>?_);rotate_left 1
 ·have hj:j<zs.length:=(cu.mp hy).1
  obtain⟨q,hq,t,v,rfl,ht,_⟩:∃q,ss[j]? = some q/\iG K HE y q:=by
   have:=dO BS j hj Y0;rw[aX hj] at hy;cases hy;exact#[ss[j]' Y0,aX Y0,this]
  have qm:q.1∈ps.map (·.1):=bx.mpr #[q,sp.mem_iff.mp (cB hq),U]
  have dg:cK H' d (.str q.1) (some (.str (f q.1))):=by
   have:=cK.k (k:=.inr q.1) (sm _ _ DE.hd);rw[Bw (g:=λn=>V.str (f n)) qm] at this;exact this
  apply#[_,U,U,λNx hN=>eP ?_];apply#[_,U,_,U,t,_,0,_,U,U,.of (sm _ _ ht),L2.cZ (j:=0) U,d,_,U,dg,out,dq,?_,hN _ _ #[fF sm hD,ay,?_]]
  ·rw[eo,aq,aq,dJ];omega
  rw[u_ _ hq,eJ,eo];rfl
 rw[K6,d9] at eo;subst eo;obtain⟨s0,wk⟩:∃s0:ax,s0=ss.map λp=>f p.1:=#[_,U];rw[<- wk] at Cm;apply#[D,_,U,.inl #[.of Cm,λt0 W7=>?_]];let#[sC,eC]:=aB (o:=.tup (sV s0)) W7;let DG:=sB.trans sC;generalize upd HB t0 (.tup (sV s0))=HC at sC eC DG ⊢;let DC:=DE.same DG
 have BN:Vs hs qs s0:=by
  apply#[by rw[wk,aq,QI],λh hh=>?_];rw[wk] at hh;let#[q,hq,rfl]:=bx.mp hh;exact (gv hs).mem_iff.mpr (fm _ (bx.mpr #[q,sp.mem_iff.mp hq,U]))
 have KW:(aU hs).length<=3:=by rw[W.iU];omega
 have WW:(aU hs).length ^ qs.length<=300:=by
  have a1:(aU hs).length ^ qs.length<=3 ^ qs.length:=Nat.pow_le_pow_left KW _;have a2:(3:Nat) ^ qs.length<=3 ^ 2:=Nat.pow_le_pow_right (by decide) Y0;omega
 let#[#[Vg,Lz,VX],_]:=And.intro DC.ht DC.hp;let eAC:=DG _ _ IU;apply#[_,U,_,U,_,U,lz,lt,t0,300,zs,Vg,hs,ts,ss,qs,s0,U,eAC,Bm BS DG,Lz,VX,W,S,by omega,eC,BN,WW,by decide,λlL yL LL HF sF Xf eL QG frL ok Fx=>?_];let DF:=DC.same sF
 have XS:lL≠l:=by
  let#[xs,e]:=DC.st.some;exact (bG e Xf).symm
 have frl:∀b,V.ref b∈yL->b≠l:=λb hb=>by
  let#[xs,e]:=DC.st.some;exact (bG e (frL b hb)).symm
 let XG:=M0 ok.ne;let QK:=bI QG;have WR:(ps.map (·.1)).Perm (qs.map (·.1)):=by rw[Qy];exact (sp.map (·.1)).symm
 have MO:s0=(qs.map (·.1)).map f:=by rw[wk,Qy,cy];rfl
 let DD:=DG.trans sF
 have pX:d∉fp:=λm=>by
  rcases SQ d (sub d m) with z|z
  ·have:=SO d z;rw[DA.hd] at this;cases this
  rw[sD _ _ DA.hd] at z;cases z
 have GgF:Gs K CG CW HF g0 pw hs ts qs fp:=#[GA.same DD,W,by rw[S.vM];exact jm,by omega,S.wp];have Zn:Dm K CG CW HF l lh lt lz d g0 pw lL t0 hs ts ss qs fp (ps.map (·.1)) f s0 yL LL:=#[DF.st,DF.hh,DF.ht,#[zs,DD _ _ IU,Bm BS DD],uG,xT,Hr,XS,frl,W,S,by omega,GgF,lfp,#[DF.hd,pX,#[WR,fm],MO],eL,QG,ok,Fx,sF _ _ eC];apply later _ HF (.ref ls) (.int n) (.ref lp) _ _ _ _ _ _ _ _ _ l lh lt lz d g0 pw lL t0 hs ts ss qs fp (ps.map (·.1)) f s0 yL LL Zn (λvb vc vd ve vf vg vh vi vj HL bL=>?_);have nt:NT H2 HL:=λb o e no=>bL _ _ (DD _ _ (DJ _ _ (W3 _ _ e no))) (bG e nl);let#[xsF,hlF]:=DF.st.some;exact#[_,_,_,_,_,_,_,_,_,_,_,_,_,_,_,_,_,_,_,U,W5.trans nt,mz.Pa (Kf.same DD) bL hlF]
structure Fd (K:ai) (mg:Str->Option Aa) (x:Str) (st:Stmt):Prop where
 ex:∃f fd,bu K x x st f fd/\mg x\.ref f/\PySem.W.keepIn K (.ref f)=true
variable{f:Addr}{h:Heap}{x:Str}{st:Stmt}{aO ct doc oc pm:Aa}{an od:Option Addr}{kE:Array (Option Aa)}
theorem Fy(X:K.In h)(G:h.Ns mainGlobals mg){kV:Aa}(a:PySem.W.nsIn K mainGlobals x\some (.ref f))(l:K.lookup f=some #[oc,od,.func (PySem.W.fnOf x x (gQ st) (f_ st) (a_ st) .none kV doc pm an aO ct),kE])(c:PySem.W.codeIn K aO x=true)(k:PySem.W.keepIn K (.ref f)=true):Fd K mg x st:=#[_,_,Rb l c k,PySem.W.mg_of X G a,k]
structure Md (K:ai) (C:Addr) (m qual:Str) (st:Stmt):Prop where
 ex:∃f fd,bu K m qual st f fd/\Meth K C m f
variable{C:Addr}{m qual:Str}
theorem D5{kV:Aa}(a:PySem.W.findIn K (.ref C) m\some (.ref f))(i:PySem.W.isFn K (.ref f)=true)(l:K.lookup f=some #[oc,od,.func (PySem.W.fnOf m qual (gQ st) (f_ st) (a_ st) .none kV doc pm an aO ct),kE])(c:PySem.W.codeIn K aO qual=true)(k:PySem.W.keepIn K (.ref f)=true):Md K C m qual st:=#[_,_,Rb l c k,a,i,k]
variable{k:Nat}{ps:ag}{sp:Sp}
theorem F0(d:Fd K mg x st)(ok:∀f fd,bu K x x st f fd->!ak bc k f fd ps sp)(h:∀(kV doc pm:Aa) (an:Option Addr) (aO ct:Aa) (us:aj),us.length=ps.length->bindArgs (PySem.W.fnOf x x (gQ st) (f_ st) (a_ st) .none kV doc pm an aO ct) #[us,[]]=pure (ps.zip us)):!bz k x ps sp:=by
 let#[f,fd,F,m,kp]:=d.ex;exact#[f,fd,ok f fd F,m,kp,F.binds h]
theorem wF(d:Md K C m qual st)(ok:∀f fd,bu K m qual st f fd->!ak bc k f fd ps sp)(h:∀(kV doc pm:Aa) (an:Option Addr) (aO ct:Aa) (us:aj),us.length=ps.length->bindArgs (PySem.W.fnOf m qual (gQ st) (f_ st) (a_ st) .none kV doc pm an aO ct) #[us,[]]=pure (ps.zip us)):!bY C k m ps sp:=by
 let#[f,fd,F,m]:=d.ex;exact#[f,fd,ok f fd F,m,F.binds h]
theorem Os(d:Md K C "__init__" qual st)(hx:mg x\.ref C)(mk:PySem.W.makesIn K C=true)(kc:PySem.W.keepIn K (.ref C)=true)(ok:∀f fd,bu K "__init__" qual st f fd->!ak bc k f fd ps sp)(h:∀(kV doc pm:Aa) (an:Option Addr) (aO ct:Aa) (us:aj),us.length=ps.length->bindArgs (PySem.W.fnOf "__init__" qual (gQ st) (f_ st) (a_ st) .none kV doc pm an aO ct) #[us,[]]=pure (ps.zip us)):!mQ C k x ps sp:=by
 let#[f,fd,F,m]:=d.ex;exact#[f,fd,ok f fd F,#[mk,m.1,m.2,kc],hx,F.binds h]
structure Tg (P:Ad) (w:Af) (b:Heap):Prop where
theorem gm(q:Tg P w base)(d:Fd K mg x st)(ok:∀f fd,bu K x x st f fd->!ak bc k f fd ps sp)(h:∀(kV doc pm:Aa) (an:Option Addr) (aO ct:Aa) (us:aj),us.length=ps.length->bindArgs (PySem.W.fnOf x x (gQ st) (f_ st) (a_ st) .none kV doc pm an aO ct) #[us,[]]=pure (ps.zip us):=by exact λ_ _ _ _ _ _ us (hl:us.length=1)=>match us,hl with | [_],_=>rfl):!bz k x ps sp:=F0 d ok h
theorem dR(q:Tg P w base)(d:Fd K mg x st)(ok:∀f fd,bu K x x st f fd->!ak bc k f fd ps sp)(h:∀(kV doc pm:Aa) (an:Option Addr) (aO ct:Aa) (us:aj),us.length=ps.length->bindArgs (PySem.W.fnOf x x (gQ st) (f_ st) (a_ st) .none kV doc pm an aO ct) #[us,[]]=pure (ps.zip us):=by exact λ_ _ _ _ _ _ us (hl:us.length=2)=>match us,hl with | [_,_],_=>rfl):!bz k x ps sp:=F0 d ok h
theorem iA(q:Tg P w base)(d:Fd K mg x st)(ok:∀f fd,bu K x x st f fd->!ak bc k f fd ps sp)(h:∀(kV doc pm:Aa) (an:Option Addr) (aO ct:Aa) (us:aj),us.length=ps.length->bindArgs (PySem.W.fnOf x x (gQ st) (f_ st) (a_ st) .none kV doc pm an aO ct) #[us,[]]=pure (ps.zip us):=by exact λ_ _ _ _ _ _ us (hl:us.length=3)=>match us,hl with | [_,_,_],_=>rfl):!bz k x ps sp:=F0 d ok h
theorem tO(q:Tg P w base)(d:Fd K mg x st)(ok:∀f fd,bu K x x st f fd->!ak bc k f fd ps sp)(h:∀(kV doc pm:Aa) (an:Option Addr) (aO ct:Aa) (us:aj),us.length=ps.length->bindArgs (PySem.W.fnOf x x (gQ st) (f_ st) (a_ st) .none kV doc pm an aO ct) #[us,[]]=pure (ps.zip us):=by exact λ_ _ _ _ _ _ us (hl:us.length=4)=>match us,hl with | [_,_,_,_],_=>rfl):!bz k x ps sp:=F0 d ok h
theorem F1(q:Tg P w base)(d:Fd K mg x st)(ok:∀f fd,bu K x x st f fd->!ak bc k f fd ps sp)(h:∀(kV doc pm:Aa) (an:Option Addr) (aO ct:Aa) (us:aj),us.length=ps.length->bindArgs (PySem.W.fnOf x x (gQ st) (f_ st) (a_ st) .none kV doc pm an aO ct) #[us,[]]=pure (ps.zip us):=by exact λ_ _ _ _ _ _ us (hl:us.length=5)=>match us,hl with | [_,_,_,_,_],_=>rfl):!bz k x ps sp:=F0 d ok h
theorem F2(q:Tg P w base)(d:Md K C m qual st)(ok:∀f fd,bu K m qual st f fd->!ak bc k f fd ps sp)(h:∀(kV doc pm:Aa) (an:Option Addr) (aO ct:Aa) (us:aj),us.length=ps.length->bindArgs (PySem.W.fnOf m qual (gQ st) (f_ st) (a_ st) .none kV doc pm an aO ct) #[us,[]]=pure (ps.zip us):=by exact λ_ _ _ _ _ _ us (hl:us.length=1)=>match us,hl with | [_],_=>rfl):!bY C k m ps sp:=wF d ok h
theorem l_(q:Tg P w base)(d:Md K C m qual st)(ok:∀f fd,bu K m qual st f fd->!ak bc k f fd ps sp)(h:∀(kV doc pm:Aa) (an:Option Addr) (aO ct:Aa) (us:aj),us.length=ps.length->bindArgs (PySem.W.fnOf m qual (gQ st) (f_ st) (a_ st) .none kV doc pm an aO ct) #[us,[]]=pure (ps.zip us):=by exact λ_ _ _ _ _ _ us (hl:us.length=2)=>match us,hl with | [_,_],_=>rfl):!bY C k m ps sp:=wF d ok h
theorem Ou(q:Tg P w base)(d:Md K C m qual st)(ok:∀f fd,bu K m qual st f fd->!ak bc k f fd ps sp)(h:∀(kV doc pm:Aa) (an:Option Addr) (aO ct:Aa) (us:aj),us.length=ps.length->bindArgs (PySem.W.fnOf m qual (gQ st) (f_ st) (a_ st) .none kV doc pm an aO ct) #[us,[]]=pure (ps.zip us):=by exact λ_ _ _ _ _ _ us (hl:us.length=3)=>match us,hl with | [_,_,_],_=>rfl):!bY C k m ps sp:=wF d ok h
theorem Ot(q:Tg P w base)(d:Md K C m qual st)(ok:∀f fd,bu K m qual st f fd->!ak bc k f fd ps sp)(h:∀(kV doc pm:Aa) (an:Option Addr) (aO ct:Aa) (us:aj),us.length=ps.length->bindArgs (PySem.W.fnOf m qual (gQ st) (f_ st) (a_ st) .none kV doc pm an aO ct) #[us,[]]=pure (ps.zip us):=by exact λ_ _ _ _ _ _ us (hl:us.length=4)=>match us,hl with | [_,_,_,_],_=>rfl):!bY C k m ps sp:=wF d ok h
theorem Ov(q:Tg P w base)(d:Md K C "__init__" qual st)(hx:mg x\.ref C)(mk:PySem.W.makesIn K C=true)(kc:PySem.W.keepIn K (.ref C)=true)(ok:∀f fd,bu K "__init__" qual st f fd->!ak bc k f fd ps sp)(h:∀(kV doc pm:Aa) (an:Option Addr) (aO ct:Aa) (us:aj),us.length=ps.length->bindArgs (PySem.W.fnOf "__init__" qual (gQ st) (f_ st) (a_ st) .none kV doc pm an aO ct) #[us,[]]=pure (ps.zip us):=by exact λ_ _ _ _ _ _ us (hl:us.length=3)=>match us,hl with | [_,_,_],_=>rfl):!mQ C k x ps sp:=Os d hx mk kc ok h
variable{l:PySem.W.OpenLaw}
theorem all_mk{fa CR c:Addr}(X:K.In h)(G:h.Ns mainGlobals mg)(hfa:mg "law"\.ref fa)(f0:Fd K mg "is_whole" vF)(f1:Fd K mg "is_whole_from" Nu)(f2:Fd K mg "is_whole_within" II)(f3:Fd K mg "is_name" rH)(f4:Fd K mg "lesser_first" NO)(f5:Fd K mg "is_pair_of_names" rF)(f6:Fd K mg "sorted_ties" Nv)(f7:Fd K mg Ct Kw)(f8:Fd K mg "least_multiple" Kv)(f9:Fd K mg "fraction_of" rV)(f10:Fd K mg "is_fraction" rM)(f11:Fd K mg "is_less" rK)(f12:Fd K mg "is_hand_with_strength" rQ)(f13:Fd K mg "checked_strengths" zF)(f14:Fd K mg "checked_ties" rq)(f15:Fd K mg "neighbours_of_all" rG)(f16:Fd K mg "checked_ways" lW)(f17:Fd K mg "checked_piece" MU)(f18:Fd K mg "checked_pieces" OF)(f19:Fd K mg "checked_stand" NX)(f20:Fd K mg "loads_at" Ng)(f21:Fd K mg kj rJ)(f22:Fd K mg "levels_at" N7)(f23:Fd K mg "rise_at" rC)(f24:Fd K mg "spread_at" OR)(f25:Fd K mg "check_limit" r_)(f26:Fd K mg "exits_of" lU)(f27:Fd K mg "placed_by" rE)(f28:Fd K mg "is_even" Nt)(f29:Fd K mg "spread" MS)(f30:Fd K mg "checked_shut_start" zH)(f31:Fd K mg "is_entry" Nj)(f32:Fd K mg "place_of_wrong_form" zG)(f33:Fd K mg "leads_out" lM)(f34:Fd K mg "shut_fault" lH)(f35:Fd K mg tT lV)(f36:Fd K mg "_law_name" lP)(f37:Fd K mg "_law_hands" NH)(f38:Fd K mg "_law_ties" lO)(f39:Fd K mg "_law_pieces" Nm)(f40:Fd K mg "_law_stand" NK)(f41:Fd K mg "_law_loads" NY)(f42:Fd K mg "_law_even" lQ)(f43:Fd K mg "_law_moves" NG)(f44:Fd K mg "_law_layers" NA)(f45:Fd K mg "_law_form" rW)(f46:Fd K mg "_law_due" rX)(f47:Fd K mg "_law_changed" Oy)(m0:Md K CW "__init__" "Web.__init__" rP)(m1:Md K CW "has_hand" "Web.has_hand" vG)(m2:Md K CW "hands" "Web.hands" lR)(m3:Md K CW "strength" "Web.strength" N8)(m4:Md K CW "neighbours" "Web.neighbours" lK)(m5:Md K CW "are_tied" "Web.are_tied" rB)(m6:Md K CG "__init__" "Goods.__init__" lT)(m7:Md K CG "has_piece" "Goods.has_piece" rT)(m8:Md K CG "names" "Goods.names" MT)(m9:Md K CG "weight" "Goods.weight" Nb)(Xv:Md K CG "may_go" "Goods.may_go" rR)(Xu:Md K CR "__init__" "Reach.__init__" lJ)(Xt:Md K CR "one_move_on" "Reach.one_move_on" lI){WZ QS UA Qk UJ:Aa}{WY Pq:Option Addr}{Wc:Array (Option Aa)}{t8 t9 V7 V6 V5:Tok}(al:W.nsIn K mainGlobals "law"\some (.ref fl))(ll:K.lookup fl=some #[WZ,WY,.func (W.fnOf "law" "law" (gQ fe) (f_ fe) (a_ fe) .none QS UA Qk Pq (.ref c) UJ),Wc])(cl:W.codeIn K (.ref c) "law"=true)(kl:W.keepIn K (.ref fl)=true)(ch:W.codeHdIn K c T=true)(aW:W.nsIn K mainGlobals "Web"\some (.ref CW))(aG:W.nsIn K mainGlobals "Goods"\some (.ref CG))(aR:W.nsIn K mainGlobals "Reach"\some (.ref CR))(c8_:W.nsIn K mainGlobals "MOST_LETTERS"\some (.int 8 t8))(c9_:W.nsIn K mainGlobals "MOST_HANDS"\some (.int 8 t9))(O7:W.nsIn K mainGlobals "MOST_STRENGTH"\some (.int 1000 V7))(O6:W.nsIn K mainGlobals "MOST_WEIGHT"\some (.int 1000000000 V6))(O5:W.nsIn K mainGlobals "MOST_COUNT"\some (.int 100 V5))(VE:W.plainGet K CW Str.empty=true)(VN:W.hasDictIn K CW=true)(VD:W.plainOver K CW=true)(VC:W.findIn K (.ref CW) "__setattr__"\some (.builtin "object.__setattr__"))(VL:W.makesIn K CW=true)(VM:W.keepIn K (.ref CW)=true)(VJ:W.findIn K (.ref CW) uY\none)(VI:W.findIn K (.ref CW) "sorted_pairs"\none)(VH:W.findIn K (.ref CW) Cv\none)(gpg:W.plainGet K CG Str.empty=true)(ghd:W.hasDictIn K CG=true)(gpo:W.plainOver K CG=true)(gsa:W.findIn K (.ref CG) "__setattr__"\some (.builtin "object.__setattr__"))(gmk:W.makesIn K CG=true)(gkc:W.keepIn K (.ref CG)=true)(gn0:W.findIn K (.ref CG) "web"\none)(gn1:W.findIn K (.ref CG) p_\none)(gn2:W.findIn K (.ref CG) Ba\none)(Ws:W.plainGet K CR Str.empty=true)(Wz:W.hasDictIn K CR=true)(Wr:W.plainOver K CR=true)(Wq:W.findIn K (.ref CR) "__setattr__"\some (.builtin "object.__setattr__"))(Wx:W.makesIn K CR=true)(Wy:W.keepIn K (.ref CR)=true)(Ww:W.findIn K (.ref CR) j2\none)(Wu:W.findIn K (.ref CR) uV\none)(Wt:W.findIn K (.ref CR) "newest"\none)(_n:W.findIn K (.ref CW) "__class__"\some (.builtin "object.__class__"))(_m:W.specialIn K (.builtin "object.__class__") "__get__"\some (.builtin "getset_descriptor.__get__"))(ZW:W.takesIn K (.builtin "object.__class__")\true)(_g:W.mroIn K CW (.type "object")\true)(C6:W.nsIn K mainGlobals "abs"\none)(C5:W.nsIn K mainGlobals "min"\none)(C4:W.nsIn K mainGlobals "zip"\none)(z0:W.nsIn K mainGlobals "isinstance"\none)(z1:W.nsIn K mainGlobals "int"\none)(z2:W.nsIn K mainGlobals "bool"\none)(z3:W.nsIn K mainGlobals "str"\none)(z4:W.nsIn K mainGlobals "tuple"\none)(z5:W.nsIn K mainGlobals "list"\none)(z6:W.nsIn K mainGlobals "dict"\none)(z7:W.nsIn K mainGlobals "len"\none)(z8:W.nsIn K mainGlobals "all"\none)(z9:W.nsIn K mainGlobals "sorted"\none)(Vl:W.nsIn K mainGlobals "max"\none)(Vk:W.nsIn K mainGlobals "range"\none)(Vj:W.nsIn K mainGlobals "any"\none)(Vi:W.nsIn K mainGlobals "enumerate"\none) :
  ∃fd:Ae,(∀(s:Ab) (v:Aa),BindsTo s fd #[[v],[]] [(yy,v)])/\(∀T'∈[T],isCodeTable h T')/\∀base:Heap,K.In base->base.Ns mainGlobals mg->(∀T'∈[T],base.BuiltinsAt mg T')->ak l.prog w K mg base bc 10 fa fd [yy] (ng K T):=by
 let e:=hfa.symm.trans (W.mg_of X G al);cases e;have B:Bi mg:=#[jZ X G z0,jZ X G z1,jZ X G z2,jZ X G z3,jZ X G z4,jZ X G z5,jZ X G z6,jZ X G z7,jZ X G z8,jZ X G z9,jZ X G Vl,jZ X G Vk,jZ X G Vj,jZ X G Vi];have TW:Txt K mg CW:=#[#[VE,VN,VD,VC],VJ,VI,VH];have TG:gy K CG:=#[#[gpg,ghd,gpo,gsa],gn0,gn1,gn2];have TR:ug K CR:=#[#[Ws,Wz,Wr,Wq],Ww,Wu,Wt];have IW:GQ K CW:=#[_n,_m,ZW,_g];let D3:=jZ X G C6;let xQ:=jZ X G C5;let D0:=jZ X G C4;have FL:w_ K "law" "law" fe _ c _:=#[#[_,_,_,_,_,_,_,_,U,ll,cl],kl];apply#[W.fnOf "law" "law" (gQ fe) (f_ fe) (a_ fe) .none QS UA Qk Pq (.ref c) UJ,λs v=>.of_eq U,λT' AX=>?_,λbase KB _ hbm=>?_]
 ·obtain rfl:T'=T:=⇑AX
  let#[o,J3,file,tf,flags,tg,inF,text,tt,h1,h2,h3,h4,_]:=W.codeHd_of_K X ch;exact#[c,o,J3,h1,h2,h3,h4]
 have q:Tg l.prog w base:=⟨⟩;let Bs:=gm q f0 λ_ _ F=>Ye F B;let md:=iA q f2 λ_ _ F=>_A F Bs;let OB:=dR q f1 λ_ _ F=>gp_ F Bs;let tS:=gm q f3 λ_ _ F=>Zv F B (W.mg_of X G c8_);let Bq:=dR q f4 λ_ _ F=>h5_ F;let Gf:=gm q f5 λ_ _ F=>YV F B tS;let yH:=gm q f6 λ_ _ F=>g6_ F B Gf Bq;let Gm:=gm q f12 λ_ _ F=>Zw F B tS md (W.mg_of X G O7);let cStr:=gm q f13 λ_ _ F=>X3 F B Gm (W.mg_of X G c9_);let F_:=dR q f14 λ_ _ F=>ZF F B yH;let Gh:=dR q f15 λ_ _ F=>ZO F Bq;let OD:=Ov q m0 (W.mg_of X G aW) VL VM λ_ _ F=>Y_ F TW B cStr F_ Gh;let Ac:=l_ (mg:=mg) q m1 λ_ _ F=>X0 F TW B;let xS:=l_ (mg:=mg) q m1 λ_ _ F=>YZ F TW B;let lZ:=F2 (mg:=mg) q m2 λ_ _ F=>hR_ F TW B;let D6:=l_ (mg:=mg) q m3 λ_ _ F=>eC_ F TW Ac;let K4:=l_ (mg:=mg) q m4 λ_ _ F=>ZU F TW B Ac;let xR:=Ou (mg:=mg) q m5 λ_ _ F=>_R F TW xS;let OT:=dR q f16 λ_ _ F=>hZ_ F TW yH xR;let cCP:=dR q f17 λ_ _ F=>gC_ F B tS md OT (W.mg_of X G O6);let OU:=dR q f18 λ_ _ F=>fM_ F B cCP;let Bt:=Ov q m6 (W.mg_of X G aG) gmk gkc λ_ _ F=>ZQ F TG TW IW B (W.mg_of X G aW) OU;let AZ:=l_ (mg:=mg) q m7 λ_ _ F=>YO (CW:=CW) F TG B;let iZ:=F2 (mg:=mg) q m8 λ_ _ F=>hu_ (CW:=CW) F TG B;let we:=l_ (mg:=mg) q m9 λ_ _ F=>fP_ (CP:=CW) F TG AZ;let MC:=Ot (mg:=mg) q Xv λ_ _ F=>ZJ (CP:=CW) F TG TW AZ xR Bq;let OP:=dR q f7 λ_ _ F=>XZ F;let cLM:=gm q f8 λ_ _ F=>XX F OP;let cFr:=dR q f9 λ_ _ F=>ZH F OP;let cIF:=gm q f10 λ_ _ F=>Zf F B D3 Bs OB OP;let Gj:=dR q f11 λ_ _ F=>Yq F;let UZ:=dR q f19 λ_ _ F=>hp_ F B TG TW AZ Ac iZ;let cLA:=dR q f20 λ_ _ F=>fV_ F B TG TW lZ we;let UU:=gm q f21 λ_ _ F=>Zo F TW cLM lZ D6;let cLv:=dR q f22 λ_ _ F=>gf_ F TG TW cLA UU D6;let Gc:=dR q f23 λ_ _ F=>ZA F B xQ cLv;let Gb:=dR q f24 λ_ _ F=>ez_ F TG Gc UU cFr;let OH:=dR q f29 λ_ _ F=>h0_ F UZ Gb;let cCL:=gm q f25 λ_ _ F=>Y9 F cIF;let cEx:=gm q f26 λ_ _ F=>ZT F TG TW iZ lZ K4 MC;let cPB:=dR q f27 λ_ _ F=>Yp F B D0 TG iZ;let cIE:=iA q f28 λ_ _ F=>hl_ F Gj Gb cPB;let cRe:=Ov q Xu (W.mg_of X G aR) Wx Wy λ_ _ F=>ZS F TR B cEx;let WC:=l_ (mg:=mg) q Xt λ_ _ F=>hX_ F TR B;let jW:=dR q f35 λ_ _ F=>_Q F B;let UV:=gm q f36 λ_ _ F=>hN_ F B jW;let cLH:=dR q f37 λ_ _ F=>gG_ F B jW UV;let cLT:=dR q f38 λ_ _ F=>_N F B jW;let cLP:=iA q f39 λ_ _ F=>fz_ F B jW UV;let cLS:=iA q f40 λ_ _ F=>h1_ F B jW;let cLL:=iA q f41 λ_ _ F=>hG_ F B;let cLE:=tO q f42 λ_ _ F=>ZP F cLL;let Gk:=iA q f43 λ_ _ F=>hb_ F B;let OL:=tO q f44 λ_ _ F=>g9_ F B Gk;let OO:=gm q f0 λ_ _ F=>Zk F B;let OC:=iA q f2 λ_ _ F=>gm_ F OO;let cCC:=tO q f30 λ_ _ F=>YM F (W.mg_of X G O5) cCL UZ md;let cEn:=iA q f31 λ_ _ F=>eR_ F B TG TW iZ xS OC;let cPW:=iA q f32 λ_ _ F=>Zr F B cEn;let cLO:=iA q f33 λ_ _ F=>hU_ F TR B WC;let cSF:=F1 q f34 λ_ _ F=>gM_ F B TR cCC cPW cRe cIE cLO;let cFm:=tO q f45 λ_ _ F=>Za F B;let cDu:=F1 q f46 λ_ _ F=>Y4 F B cFm cLE Gk;let cCh:=tO q f47 λ_ _ F=>fO_ F B jW;exact YI FL B xQ (W.codeHd_of_K KB ch) (hbm T Y1) #[jW,cLH,cLT,cLP,cLS,OD,Bt,OL] #[jW,cDu,cSF,cCh,OH]
theorem walk{q:Ad}{loose:ag}{XP:(Str->Option Aa)->Heap->Prop}{d:DefRec}{K:Params->ai}{as:aw}{IR:∀P:Params,as=(K P).map (·.1)}(hn:l.most\63)(E_:d.params.defaults=[])(Ly:([T].all λT=>!as.contains T)=true)(F:∀(w:Af) (mg:Str->Option Aa) (fa:Addr) (h:Heap),(K w.params).In h->h.Ns mainGlobals mg->mg d.name\.ref fa->
   ∃fd:Ae,(∀(s:Ab) (u:Aa),BindsTo s fd #[[u],[]] [(yy,u)])/\(∀T'∈[T],isCodeTable h T')/\∀base:Heap,(K w.params).In base->base.Ns mainGlobals mg->(∀T'∈[T],base.BuiltinsAt mg T')->ak l.prog w (K w.params) mg base bc 10 fa fd [yy] (ng (K w.params) T)) :
  PySem.W.WalkO q loose XP (PySem.W.kmHook K as IR [T]).says l.row.toRowW d [] (λf vs=>PySem.call f vs):=
 L2.qv (n:=63) (k:=10) (x:=yy) (CX:=λ_=>bc) (sp:=λw=>ng (K w.params) T) hn (by decide) E_ #[U,by decide,by decide] Ly F (λ_ _ a ns hl hT hS=>#[a,ns,U,hT T Y1,hS,hl,λ_=>rfl]) λ_ _ _ _ _ z=>z
end Ev
namespace PySem.W.Fast
universe tw1355241163432711264 tw17602375159598538880 tw214457492058358720 tw2861852894727613313 tw15847905355405885826 tw4812476714472468066 tw15556634213645560419 tw11906660249947767973 tw13209533703582526277 tw13898130287331705639 tw12364580859702976713 tw1056201003788696841 tw14156909677854555433 tw4910995854157711658 tw1124037256667788491 tw15268352991388039915 tw5620045942164176651 tw15677455954514909356 tw4925658174179293230 tw10703335866855945647 tw11441785151951107535 tw14068335084163795759 tw4327749393976700400 tw4813082816511874704 tw10296657136591986003 tw10052252886401905171 tw9024960077069749 tw306233449868337814 tw7172546095525448438 tw41106067494405207 tw3056795975312674328 tw11263792891722449274 tw9950839112269763258 tw16587102259160268379 tw3513906815575599902 tw14850414382434839326 tw9422574546111993343 tw13629447772320091775 tw10716101577560850207 tw3016945476064940259 tw4094017174621154421 tw14989181735889465068 tw8679524876756741136 tw8939662283005117101 tw7855256528895821912 tw15236611722521029618 tw7424475988061599454 tw16391688055561305517 tw2539984551304794044 tw6099576272305818965 tw13057107564041599455 tw14867063517040146619 tw11479385220182993094 tw13160498059332274681 tw17167691246119088640 tw10697906589376871373 tw2374382895479712108 tw14444631664093604443 tw1198548961368919063 tw10425868371539130332 tw16667528502235789744 tw9158203208365094390 tw5678647450643607521 tw3531729043961051567 tw17370461628683371320 tw5929111761525097178 tw6336694323147610287 tw5220050499814380880 tw16380388665131578383 tw8580427148845933155 tw13452866936290582623 tw6124350577255503567 tw8878059501903671783 tw14692401877244940972 tw9794717396647561188 tw6110046260590497954 tw12136483592790399278 tw17926124393069898324 tw17781340519283567319 tw4674691814101181955 tw5988600696348213740 tw4961894756347275888 tw9821554491824231485 tw4188695663303424547 tw4050430329122003176 tw8805306973270929027 tw945316726368635284 tw9717768101293441744 tw4356931946881013657 tw11286708915549968636 tw9280447206346937098 tw9610310764474576898 tw16848535232631294716 tw834372509189376795 tw1573918924101440572 tw14057600490295892616 tw1318801743727919258 tw12951149863416644137 tw16175306315981375149 tw5696234615029884441 tw11274922236488433582 tw1981780133802883023 tw1481809411402160029 tw10777522626489768502 tw2522620158115305614 tw1427825693968129312 tw4393343454729576317 tw13247343709712912534 tw16021747168949561409 tw13651320402938935596 tw18270204947230088454 tw12783404792361632723 tw9083423637415441918 tw7194605558439306574 tw3008118493353306885 tw15308461230516305619 tw18291862581320000339 tw7115814923728468908 tw11903214371005706765 tw16843540472088504030 tw8391946324356217927 tw7327360347862976310 tw16937949867045482399 tw3222835792546182602 tw8303239305740014909 tw13420083140060203732 tw11371961788520294776 tw4846096737875151574 tw12835049434854683583 tw15701212915447144480 tw4163421846232979088 tw12748209631986804407 tw5342036806049329688 tw1179766872512457508 tw5572957751330695859 tw10123721423738577851 tw5713713945185348541 tw16523284492677703689 tw7942395870231525331 tw4423965883068589286 tw2856646026535046526 tw13877977645488295623 tw10239590859607945694 tw11612584324677270669 tw16913463687496262411 tw16234493286371573382 tw15145710794926167837 tw16207942520954374758 tw3641389552443416138 tw4817260028575200763 tw6633555923850830256 tw6065929523140761934 tw4818602128262928739 tw12120523854761348702 tw12171030501787044014 tw3745138538114389687 tw17386986113116882863 tw17121708958567520742 tw12212414518332736851 tw15009332477628214342 tw9649996858250903994 tw13378013422110624630 tw8819869270808743585 tw6364434395523107505 tw9259106525182373822 tw15748504548128203054 tw12064727774708590692 tw8799679428714092310 tw12364756725579462815 tw7060319877574732914 tw67903106247956079 tw3298487747124955851 tw11541253214639995743 tw13468504983484435336 tw12084872827439064055 tw7168895446013743835 tw543184711796138492 tw12993242765308077004 tw15190115540316880832 tw18259602212068734734 tw10935540874636846386 tw13393020481399490942 tw1423273562302969767 tw11725616468093540571 tw4103128476498626556 tw15949799545003130145 tw13180191968160007887 tw4163687234461149637 tw11999354410779116176 tw17183127112644257349 tw3492904410418999777 tw4848523592810615129 tw7499553627668557790 tw12293394916792515124 tw3428641485254276108 tw18330826219424216117 tw12390364782865147999 tw14199212671736242512 tw10830024732186527492 tw6775049547347913093 tw4877858339277144912 tw17547839690337562273 tw17005960870112486331 tw12478180709255253643 tw18023631918838507695 tw10517289157566565421 tw3308694653717275505 tw9175524376684636852 tw8126227787138365758 tw6033736072289864861 tw17255533898861715441 tw15324205272445684935 tw11151591992112508880 tw1205898170771512233 tw12754765912450049692 tw17673491796254856005 tw16170824574483856375 tw212962672020277266 tw1162150095239724617 tw11710552585078793118 tw12057730829108277919 tw11652101443499610635 tw4958398591170317036 tw17415310403238624773 tw17662503407327003134 tw7252395627013132407 tw17739359242686168518 tw2477588103994997611 tw16737306720158515340 tw3431546455486060052 tw15741861297834543551 tw361639728626468698 tw14583114571438996971 tw16357662198612430402 tw13785441917308680632 tw14248117038402445194 tw4773791405286601471 tw9565903144759131850 tw15079902377958767104 tw13825664837487394157 tw12950959252549818739 tw2134860849186176415 tw3316437366267255705 tw17105183107956000852 tw17861715746520076968 tw2131826763667010737 tw14221104722659071233 tw15957674343907087401 tw8791828161999723266 tw7756858423345706574 tw2106736846368451533 tw1013494042418869354 tw5816975091677457803 tw4164849525121894261 tw15536620649776859816 tw13921448462874736749 tw272414263581641911 tw3497773372253265928 tw16693728492414285032 tw15287230221613057102 tw6324912700504511208 tw15872521089200453892 tw4719111046255612687 tw9765296036704809232 tw296262843040930869 tw17457345304404868010 tw16628169719673353965 tw16083555783399468722 tw5151750610738180919 tw13114469042229662497 tw868103388861650454 tw15571574503904149196 tw289767546540162554 tw5709787043765118628 tw17590180388856856984 tw12733748378084216977 tw4072369773853651577 tw10865647899704406788 tw5119889205137575656 tw15562389237745388258 tw4324359438516462838 tw7464683050685203 tw3150952962794321426 tw11940554057355454653 tw7101385962371954138 tw16545129124375012511 tw3044124254466529157 tw15829703038790716297 tw13947439928452426303 tw5954712605856342158 tw9333804105290257975 tw3310242226115218855 tw18186798011996913001 tw15789332296186301078 tw451896896656456719 tw11053163543581312609 tw4840759330349003853 tw13023867702422316369 tw14565770977726162148 tw11415374962946461265 tw11254348416154724200 tw14945234510021345942 tw15806718250935069500 tw11366333402858783840 tw16998537851997117354 tw1014016604844415040 tw15854267631632676791 tw10252706103139533139 tw3560564669833181499 tw14042011626868142329 tw4488247316043433651 tw4925560155469608486 tw3455606906283728356 tw14659103108205867166 tw947621890359164247 tw10416373081104623582 tw4590743932730156351 tw15564731515100355479 tw2535854525756223092 tw12967742625049929019 tw13008709672309485092 tw1428766181186384067 tw7442939528340545165 tw14672125144703555337 tw15013132008865825071 tw11306566246955899839 tw13403005998706308855 tw13749196391901818951 tw7377328997185430247 tw5549895966265718571 tw5101855380865823935 tw12677932043326348507 tw8713665015734833485 tw5958356050590017414 tw11086699651308108709 tw14048589657843178335 tw8765371618178333977 tw9301366682820647192 tw17710539217543843322 tw15516329219384965442 tw12225068758554753928 tw18390512678815752090 tw4986308716275473841 tw5711814467020415625 tw1826775379117150713 tw17426565711429224736 tw9521344018543197362 tw14809190545472783401 tw17390603616313492155 tw8709140099471809185 tw6357490695367473267 tw6505588052210609997 tw933012174022851228 tw2934988141605434565 tw3075249555828363542 tw723309909219885266 tw905164542602094814 tw3520028866735924541 tw15544172468821998334 tw14844549311381006856 tw6732933433470417162 tw4421108046139650788 tw11641765376682062230 tw7549184132346802864
end PySem.W.Fast
open PySem PySem.W PyProof.Rows
set_option maxRecDepth 100000 in
local macro_rules|`(%[|$k:num])=>let i:=Lean.mkIdent;if k.getNat==1 then`(Ev.Fy $(i `KX) $(i `G) ?_ ?_ ?_ ?_)else`(Ev.D5 ?_ ?_ ?_ ?_ ?_)
theorem PySem.Challenge.cw_evenpieces_k83_shuts_spoilt_holds : PySem.Challenge.rw_evenpieces_k83_shuts_spoilt.Holds := by
 w_on;o_law;k_head;(case hw=>w_witness2)
 k_fill
 apply Ev.walk (l:=PySem.Challenge.rw_evenpieces_k83_shuts_spoilt) rfl rfl (by rfl) ?F
 case F=>
  intro w mg fa h KX G hmg;refine' Ev.all_mk KX G hmg %[|1] %[|1] %[|1] %[|1] %[|1] %[|1] %[|1] %[|1] %[|1] %[|1] %[|1] %[|1] %[|1] %[|1] %[|1] %[|1] %[|1] %[|1] %[|1] %[|1] %[|1] %[|1] %[|1] %[|1] %[|1] %[|1] %[|1] %[|1] %[|1] %[|1] %[|1] %[|1] %[|1] %[|1] %[|1] %[|1] %[|1] %[|1] %[|1] %[|1] %[|1] %[|1] %[|1] %[|1] %[|1] %[|1] %[|1] %[|1] %[|2] %[|2] %[|2] %[|2] %[|2] %[|2] %[|2] %[|2] %[|2] %[|2] %[|2] %[|2] %[|2] ?_ ?_ ?_ ?_ ?ch ?aW ?aG ?aR ?_ ?_ ?_ ?_ ?_ ?_ ?_ ?_ ?_ ?_ ?_ ?_ ?_ ?_ ?_ ?_ ?_ ?_ ?_ ?_ ?_ ?_ ?_ ?_ ?_ ?_ ?_ ?_ ?_ ?_ ?_ ?_ ?_ ?_ ?_ ?_ ?_ ?_ ?_ ?_ ?_ ?_ ?_ ?_ ?_ ?_ ?_ ?_ ?_ ?_ ?_ ?_ ?_
  (case aW=>k_is);(case aG=>k_is);(case aR=>k_is)
  any_goals k_is
  (case ch=>kernel_rfl)

import PyProof.Rows.All
import Wide.All
import OpenK.AllK
import Wide.FinOn
import Lean
import PyProof.EqAt
import PyProof.EqKinds
import PyProof.TupleCall
import PyProof.TupleOfSeq
import PyProof.NeKinds
import KE.KLam
import KE.KSortTup
import KE.KEqDict
import PySem.Challenge.RW_evenpieces_k83_shuts_spoilt
set_option Elab.async false
set_option linter.all false
noncomputable section
local macro_rules|`(def $x:declId $s:optDeclSig $v:declVal)=>`(noncomputable def $x:declId $s:optDeclSig $v:declVal)
local macro_rules|`(abbrev $x:declId $s:optDeclSig $v:declVal)=>`(noncomputable abbrev $x:declId $s:optDeclSig $v:declVal)
local macro_rules|`(universe $x*)=>return Lean.mkNullNode (←x.mapM λa=>do return(←`(theorem $a:ident:True:=⟨⟩)).raw)
abbrev Xa:=List (PySem.Str × Int)
abbrev Xb:=List (PySem.Str × PySem.Str)
set_option compiler.extract_closed false
set_option maxRecDepth 100000
theorem ai:type_of% @PySem.wpAny_bind:=@PySem.wpAny_bind
theorem bo:type_of% @PySem.Heap.get?_push_of_some:=@PySem.Heap.get?_push_of_some
abbrev Aa:=PySem.Value
abbrev Ab:=PySem.Shared
theorem aI:type_of% @PySem.wpAny_pure:=@PySem.wpAny_pure
theorem dq:type_of% @PySem.Heap.get?_push_size:=@PySem.Heap.get?_push_size
theorem bI:type_of% @PySem.Paired.length:=@PySem.Paired.length
theorem bK:type_of% @PySem.Heap.lt_size:=@PySem.Heap.lt_size
abbrev Ad:=PySem.Program
theorem dc:type_of% @decide_eq_true:=@decide_eq_true
theorem dO:type_of% @Option.some.inj:=@Option.some.inj
theorem dU:type_of% @PySem.PassesOwn.never:=@PySem.PassesOwn.never
theorem cK:type_of% @PySem.sizeLine_eq:=@PySem.sizeLine_eq
theorem aD:type_of% @if_neg:=@if_neg
abbrev Ae:=PySem.FuncData
theorem aK:type_of% @if_pos:=@if_pos
theorem fO:type_of% @decide_eq_false:=@decide_eq_false
theorem fN:type_of% @PySem.boot_len:=@PySem.boot_len
abbrev Af:=PySem.World
theorem kP:type_of% @PySem.F.plainAttrs_list:=@PySem.F.plainAttrs_list
abbrev Ag:=PySem.Around
theorem j1:type_of% @PySem.W.mg_none_of:=@PySem.W.mg_none_of
theorem qj:type_of% @PySem.F.type_list_append:=@PySem.F.type_list_append
theorem qi:type_of% @PySem.F.slot_list_append:=@PySem.F.slot_list_append
theorem gR:type_of% @PySem.wpAny_holding:=@PySem.wpAny_holding
theorem pF:type_of% @PySem.wpAny_loadPart':=@PySem.wpAny_loadPart'
theorem qh:type_of% @PySem.mem_of_lookup:=@PySem.mem_of_lookup
theorem u7:type_of% @PySem.Heap.get?_update_other:=@PySem.Heap.get?_update_other
theorem hJ:type_of% @PySem.wpAny_field:=@PySem.wpAny_field
theorem wK:type_of% @PySem.wpAny_callSpecial?_slot:=@PySem.wpAny_callSpecial?_slot
theorem eY:type_of% @congrArg:=@congrArg
theorem dJ:type_of% @Ne.symm:=@Ne.symm
theorem qd:type_of% @PySem.wpAny_newObj_type:=@PySem.wpAny_newObj_type
theorem iB:type_of% @Sum.inr.inj:=@Sum.inr.inj
theorem tR:type_of% @PySem.wpAny_truthy_bool:=@PySem.wpAny_truthy_bool
theorem CJ:type_of% @PyProof.Rows.callWith_type1:=@PyProof.Rows.callWith_type1
theorem tQ:type_of% @PySem.wpAny_call_entry:=@PySem.wpAny_call_entry
theorem tP:type_of% @of_decide_eq_true:=@of_decide_eq_true
theorem uV:type_of% @decide_eq_true_eq:=@decide_eq_true_eq
theorem yw:type_of% @PySem.Around.under_plainId:=@PySem.Around.under_plainId
theorem tM:type_of% @PySem.W.kia_one:=@PySem.W.kia_one
theorem Z0{p:Prop}[Decidable p](h:decide p=true:=by decide +kernel):p:=of_decide_eq_true h
theorem Y0{p:Prop}(h:p:=by omega):p:=h
theorem Y1{p:Prop}(h:p:=by simp):p:=h
local macro_rules|`(tactic|let $x:ident:=$e)=>`(tactic|have $x:ident:=$e)
local macro_rules|`($a\$b)=>`($a=some $b)
local macro_rules|`(⇑$h)=>`(by simpa using $h)
local macro_rules|`(tactic|exists $e)=>let i:=Lean.mkIdent;`(tactic|refine $e λ$(i `aO) $(i `A) $(i `outer) $(i `s) $(i `H) $(i `vs) $(i `Q) $(i `E) $(i `hr) $(i `h)=>?_)
local macro_rules|`(section v)=>let i:=Lean.mkIdent;return Lean.mkNullNode #[←`(section),←`(variable{$(i `P):ident:$(i `Ad)}{$(i `w):ident:$(i `Af)}{$(i `K):ident:$(i `af)}{$(i `mg):ident:$(i `Str)->$(i `Option) $(i `Aa)}{$(i `base):ident:$(i `Heap)})]
local macro_rules|`(tactic|apply $e)=>`(tactic|refine $e)
local macro_rules|`(#[$x,$xs,*])=>`(⟨$x,$xs,*⟩)
local macro_rules|`(tactic|let $p:term:=$e)=>let g:=λ(x:Lean.Syntax)=>(if x.isIdent then`(rcasesPat|$(⟨x⟩):ident) else if x.isOfKind ``Lean.Parser.Term.hole then`(rcasesPat|_) else pure ⟨x⟩:Lean.MacroM (Lean.TSyntax `rcasesPat));p.raw.rewriteBottomUpM (λn=>if n.isOfKind `«term#[_,]» then n[1].getSepArgs.mapM (λx=>g x>>=λy=>`(Lean.Parser.Tactic.rcasesPatLo|$y:rcasesPat))>>=λs=>`(rcasesPat|⟨$s,*⟩)>>=λt=>pure t.raw else pure n)>>=λq=>`(tactic|obtain $(⟨q⟩):rcasesPat:=$e)
theorem U{α:Sort _}{a:α}:a=a:=rfl
abbrev af:=PySem.W.Frag
theorem aq:type_of% @List.length_map:=@List.length_map
theorem aX:type_of% @List.getElem?_eq_getElem:=@List.getElem?_eq_getElem
theorem cw:type_of% @List.getElem?_eq_some_iff:=@List.getElem?_eq_some_iff
theorem cJ:type_of% @List.mem_of_getElem?:=@List.mem_of_getElem?
theorem cY:type_of% @List.size_toArray:=@List.size_toArray
theorem a9:type_of% @Nat.le_refl:=@Nat.le_refl
theorem bx:type_of% @List.mem_map:=@List.mem_map
theorem df:type_of% @List.getElem?_map:=@List.getElem?_map
theorem dN:type_of% @List.length_append:=@List.length_append
theorem cg:type_of% @List.mem_cons:=@List.mem_cons
theorem dE:type_of% @List.mem_append:=@List.mem_append
theorem fo:type_of% @List.mem_cons_of_mem:=@List.mem_cons_of_mem
theorem dM:type_of% @List.length_take:=@List.length_take
theorem cA:type_of% @List.map_map:=@List.map_map
theorem d_:type_of% @List.take_length:=@List.take_length
theorem fw:type_of% @List.mem_singleton:=@List.mem_singleton
theorem eK:type_of% @List.map_append:=@List.map_append
theorem fY:type_of% @List.mem_cons_self:=@List.mem_cons_self
theorem gB:type_of% @List.getElem_of_mem:=@List.getElem_of_mem
theorem dH:type_of% @Nat.ne_of_lt:=@Nat.ne_of_lt
theorem gr:type_of% @Bool.false_ne_true:=@Bool.false_ne_true
theorem mG:type_of% @List.nodup_iff_pairwise_ne:=@List.nodup_iff_pairwise_ne
theorem fE:type_of% @List.map_cons:=@List.map_cons
theorem kg:type_of% @List.mem_append_right:=@List.mem_append_right
theorem ig:type_of% @List.not_mem_nil:=@List.not_mem_nil
theorem jA:type_of% @Nat.lt_of_lt_of_le:=@Nat.lt_of_lt_of_le
theorem oF:type_of% @List.length_singleton:=@List.length_singleton
theorem jz:type_of% @List.length_cons:=@List.length_cons
theorem ke:type_of% @List.getElem_mem:=@List.getElem_mem
theorem gO:type_of% @Nat.zero_le:=@Nat.zero_le
theorem ic:type_of% @Nat.le_trans:=@Nat.le_trans
theorem w6:type_of% @List.getElem?_append_left:=@List.getElem?_append_left
theorem pJ:type_of% @Bool.false_eq_true:=@Bool.false_eq_true
theorem kW:type_of% @List.nodup_cons:=@List.nodup_cons
theorem vk:type_of% @List.take_of_length_le:=@List.take_of_length_le
theorem iF:type_of% @Int.le_of_lt:=@Int.le_of_lt
theorem yP:type_of% @List.getElem?_append_right:=@List.getElem?_append_right
theorem w4:type_of% @Int.eq_ofNat_of_zero_le:=@Int.eq_ofNat_of_zero_le
theorem uf:type_of% @Array.length_toList:=@Array.length_toList
theorem jf:type_of% @Nat.ne_of_gt:=@Nat.ne_of_gt
theorem wZ:type_of% @Option.map_eq_some_iff:=@Option.map_eq_some_iff
theorem u9:type_of% @List.map_congr_left:=@List.map_congr_left
theorem qr:type_of% @List.lookup_cons:=@List.lookup_cons
theorem ud:type_of% @List.pairwise_map:=@List.pairwise_map
theorem uc:type_of% @List.take_add_one:=@List.take_add_one
theorem oE:type_of% @List.take_succ:=@List.take_succ
theorem ub:type_of% @List.mem_filter:=@List.mem_filter
theorem yO:type_of% @List.mem_filterMap:=@List.mem_filterMap
theorem wY:type_of% @List.length_drop:=@List.length_drop
theorem w9:type_of% @List.getElem_map:=@List.getElem_map
theorem yR:type_of% @Int.toNat_natCast:=@Int.toNat_natCast
theorem uh:type_of% @Nat.lt_irrefl:=@Nat.lt_irrefl
theorem CU:type_of% @List.length_replicate:=@List.length_replicate
theorem yQ:type_of% @Bool.and_eq_true:=@Bool.and_eq_true
abbrev aj:=List PySem.Value
abbrev bz:=PySem.Str->PySem.Str
abbrev av:=List PySem.Addr
abbrev ae:=List PySem.Str
namespace L2
open PySem PySem.Spec PyProof.Rows
abbrev Key:=Sum Int Str
def wx:Key->Aa->Bool
 |.inl k,v=>Value.isInt k v
 |.inr x,v=>Value.isStrOf x v
def Lk(w:Af):Key->Int
 |.inl k=>hashInt k
 |.inr x=>hashStr w x
theorem qt:∀{k:Key} {v:Aa},wx k v=true->(∃i t,k=Sum.inl i/\v=Value.int i t)∨(∃x t,k=Sum.inr x/\v=Value.str x t)
 |.inl i,v,h=>by
  let#[t,e]:=Value.isInt_shape (k:=i) (v:=v) h;exact .inl #[i,t,U,e]
 |.inr x,v,h=>by
  let#[t,e]:=Value.isStrOf_shape (x:=x) (v:=v) h;exact .inr #[x,t,U,e]
theorem gb_(i:Int)(t:Tok):wx (.inl i) (.int i t)=true:=by simp[wx,Value.isInt]
theorem g7_(x:Str)(t:Tok):wx (.inr x) (.str x t)=true:=by simp[wx,Value.isStrOf]
theorem Yh(a b:Int):decide ((Sum.inl a:Key)=Sum.inl b)=(a == b):=by
 by_cases e:a=b
 ·subst e;simp
 have h:¬(Sum.inl a:Key)=Sum.inl b:=λq=>e (Sum.inl.inj q);rw[fO h];exact (beq_eq_false_iff_ne.mpr e).symm
theorem Yg(a b:Str):decide ((Sum.inr a:Key)=Sum.inr b)=decide (a=b):=by
 by_cases e:a=b
 ·subst e;simp
 have h:¬(Sum.inr a:Key)=Sum.inr b:=λq=>e (iB q);rw[fO h,fO e]
theorem YK(a:Int)(b:Str):decide ((Sum.inl a:Key)=Sum.inr b)=false:=fO (λq=>nomatch q)
theorem Yb(a:Str)(b:Int):decide ((Sum.inr a:Key)=Sum.inl b)=false:=fO (λq=>nomatch q)
def d0(prog:Ad)(w:Af):PySem.KeyKind prog w Key where
 is:=wx
 hash:=Lk w
 inj:=λv a b ha hb=>by
  rcases qt ha with⟨i,t,rfl,rfl⟩|⟨x,t,rfl,rfl⟩
  ·rcases qt hb with⟨j,u,rfl,e⟩|⟨y,u,rfl,e⟩
   ·injection e with e1 _;rw[e1]
   exact nomatch e
  rcases qt hb with⟨j,u,rfl,e⟩|⟨y,u,rfl,e⟩
  ·exact nomatch e
  injection e with e1 _;rw[e1]
 byValue:=λk v h=>by
  rcases qt h with⟨i,t,rfl,rfl⟩|⟨x,t,rfl,rfl⟩<;>rfl
 pyHash:=λhv h=>by
  rcases qt hv with⟨i,t,rfl,rfl⟩|⟨x,t,rfl,rfl⟩
  ·exact wpAny_pyHash_int h
  exact wpAny_pyHash_str h
 eqBool:=λhu hv h=>by
  rcases qt hu with⟨i,t,rfl,rfl⟩|⟨x,t,rfl,rfl⟩
  ·rcases qt hv with⟨j,u,rfl,rfl⟩|⟨y,u,rfl,rfl⟩
   ·rw[Yh] at h;exact wpAny_eqBool_int h
   rw[YK] at h;exact SeqAt.EqAt.int_str i t y u _ _ _ _ h
  rcases qt hv with⟨j,u,rfl,rfl⟩|⟨y,u,rfl,rfl⟩
  ·rw[Yb] at h;exact SeqAt.EqAt.str_int x t j u _ _ _ _ h
  rw[Yg] at h;exact wpAny_eqBool_str h
 «strs»:=λk x t v h=>by
  rcases qt h with⟨i,u,rfl,e⟩|⟨y,u,rfl,e⟩
  ·exact nomatch e
  injection e with e1 _
  subst e1;cases v<;>rfl
theorem eM_(prog:Ad)(w:Af)(i:Int)(t:Tok):(d0 prog w).is (.inl i) (.int i t)=true:=gb_ i t
theorem eG_(prog:Ad)(w:Af)(x:Str)(t:Tok):(d0 prog w).is (.inr x) (.str x t)=true:=g7_ x t
end L2
abbrev aw:=List L2.Key
namespace L2
open PySem PySem.Spec PyProof.Rows
inductive V where
 |non|bl (b:Bool)|int (i:Int)|str (x:Str)|byt (b:Array UInt8)|flt (b:UInt64)|ref (a:Addr)|ty (n:String)
 deriving DecidableEq
def RelV:V->Aa->Prop
 |.non,u=>u=Value.none
 |.bl b,u=>u=Value.bool b
 |.int i,u=>∃t,u=Value.int i t
 |.str x,u=>∃t,u=Value.str x t
 |.byt b,u=>∃t,u=Value.bytes b t
 |.flt b,u=>∃t,u=Value.float b t
 |.ref a,u=>u=Value.ref a
 |.ty n,u=>u=Value.type n
abbrev Vals:List V->aj->Prop:=Paired RelV
theorem Vals.length{xs:List V}{us:aj}(r:Vals xs us):xs.length=us.length:=bI r
theorem Vals.get:∀{xs:List V} {us:aj} {i:Nat} {x:V},Vals xs us->xs[i]? = some x->∃u,us[i]? = some u/\RelV x u
 |_,_,_,_,.nil,e=>by simp at e
 |_,_,0,_,.cons r _,e=>by simp at e;subst e;exact#[_,U,r]
 |_,_,i+1,x,.cons _ t,e=>by
  let#[u,h1,h2]:=Vals.get (i:=i) (x:=x) t ⇑e;exact#[u,by simpa using h1,h2]
theorem Vals.set{x:V}{u:Aa}(r:RelV x u):∀{xs:List V} {us:aj} (i:Nat),Vals xs us->Vals (xs.set i x) (us.set i u)
 |_,_,_,.nil=>.nil
 |_,_,0,.cons _ t=>.cons r t
 |_,_,i+1,.cons q t=>.cons q (Vals.set r i t)
theorem Vals.append:∀{xs ys:List V} {us ws:aj},Vals xs us->Vals ys ws->Vals (xs++ys) (us++ws)
 |_,_,_,_,.nil,s=>s
 |_,_,_,_,.cons r t,s=>.cons r (Vals.append t s)
theorem Vals.take:∀{xs:List V} {us:aj} (n:Nat),Vals xs us->Vals (xs.take n) (us.take n)
 |_,_,0,_=>.nil
 |_,_,_+1,.nil=>.nil
 |_,_,n+1,.cons r t=>.cons r (Vals.take n t)
theorem Vals.drop:∀{xs:List V} {us:aj} (n:Nat),Vals xs us->Vals (xs.drop n) (us.drop n)
 |_,_,0,r=>r
 |_,_,_+1,.nil=>.nil
 |_,_,n+1,.cons _ t=>Vals.drop n t
def eO:Option V->Option Aa->Prop
 |some v,some u=>RelV v u
 |none,none=>True
 |_,_=>False
def KV{κ:Type}:List (κ × V)->List (κ × Aa)->Prop:=Paired λ(p:κ × V) (q:κ × Aa)=>p.1=q.1/\RelV p.2 q.2
def kV:Key->V
 |.inl i=>.int i
 |.inr x=>.str x
inductive HO where
  |lst (xs:List V)
  |tup (xs:List V)
  |dK (kvs:List (Key × V))|dT (kvs:List (aw × V))
  |set (S:Int->Bool) (n:Nat)
  |ins (C dx:Addr) (fs:List (Str × V))
  |own (x:Addr)
  |xd (fs:List (Str × V))
  |met (f x:Addr)
  |rng (lo hi:Int)
  |frz (o:Obj) (u:HO)
  |tbl (ps:Array Aa)
  |ext (φ:Heap->Prop)
abbrev Hp:=Addr->Option HO
def upd(H:Hp)(a:Addr)(o:HO):Hp:=λb=>if b=a then some o else H b
theorem aA{H:Hp}{a:Addr}{o:HO}:upd H a o a\o:=by unfold upd;rw[aK U]
theorem aB{H:Hp}{a b:Addr}{o:HO}(h:b≠a):upd H a o b=H b:=by unfold upd;rw[aD h]
theorem ZM{H:Hp}{a:Addr}{o u:HO}:upd (upd H a o) a u=upd H a u:=by
 funext b;unfold upd;split<;>rfl
theorem bO{H:Hp}{a b:Addr}{o u:HO}(h:H a\o)(h':H b\u)(d:o≠u):a≠b:=by
 intro e;subst e;rw[h] at h';exact d (dO h')
theorem bG{H:Hp}{a b:Addr}{o:HO}(h:H a\o)(h':H b=none):a≠b:=by
 intro e;subst e;rw[h] at h';cases h'
section
variable(P:Ad)(w:Af)
def fj(H:Hp)(h:Heap)(a:Addr):HO->Prop
 |.lst xs=>xs.length<=sizeLine/\∃(its:aj) (n:Nat),Vals xs its/\h.get? a=some { cls:=.type "list",data:=.seq its.toArray n }
 |.tup xs=>xs.length<=sizeLine/\∃its:aj,Vals xs its/\IsTup h a its.toArray/\∃o,h.get? a\o/\o.dict=none
 |.dK kvs=>kvs.length<=sizeLine/\(a == sysModules)=false/\∃vs,KV kvs vs/\h.DictOf (d0 P w) a vs
 |.dT kvs=>kvs.length<=sizeLine/\(a == sysModules)=false/\∃xs:List (aw × Addr × Aa),
   Paired (λ(p:aw × V) (q:aw × Addr × Aa)=>p.1=q.1/\H q.2.1\.tup (p.1.map kV)/\RelV p.2 q.2.2) kvs xs /\
   ∃o es ep,h.get? a\o/\o.ExactDict/\o.data=.dict es ep/\es.toList=xs.map (entryOfKey (tupleKind (d0 P w)))/\(xs.map (·.1)).Nodup
 |.set S n=>h.SetOf (intKind P w) a S n
 |.ins C dx fs=>H dx\.own a/\fs.length<=1000/\dx≠a/\h.get? a\PySem.W.instObj C dx /\
   ∃mA,h.Ns1 dx mA/\(∀f,eO (fs.lookup f) (mA f))/\PySem.Within mA (fs.map (·.1))
 |.own _=>∃o,h.get? a\o
 |.xd fs=>∃mA,h.Ns1 a mA/\∀f,eO (fs.lookup f) (mA f)
 |.rng lo hi=>∃t u v,h.get? a=some { cls:=.type "range",data:=.fields (List.toArray [.int lo t,.int hi u,.int 1 v]) }
 |.frz o u=>h.get? a\o/\fj H h a u
 |.tbl ps=>h.get? a=some { cls:=.none,data:=.fields ps }
 |.met f x=>h.get? a\PySem.W.methodObj (.ref f) (.ref x)
 |.ext φ=>φ h/\(∃o,h.get? a\o)/\∀h1 h2:Heap,φ h1->(∀o,h1.get? a\o->h2.get? a\o)->φ h2
def fQ(H:Hp)(h:Heap):Prop:=∀a o,H a\o->fj P w H h a o
end
section
variable{P:Ad}{w:Af}{H H':Hp}{h h':Heap}{a:Addr}{o:HO}
theorem fj.lt(x:fj P w H h a o):a<h.objs.size:=by
 cases o with
 |lst xs=>let#[_,_,_,_,e]:=x;exact bK e
 |tup xs=>let#[_,_,_,p,_]:=x;exact p.lt
 |dK kvs=>let#[_,_,_,_,o,_,_,e,_]:=x;exact bK e
 |dT kvs=>let#[_,_,_,_,o,_,_,e,_]:=x;exact bK e
 |set S n=>let#[o,_,_,_,e,_]:=x;exact bK e
 |ins C dx fs=>let#[_,_,_,e,_]:=x;exact bK e
 |own y=>let#[_,e]:=x;exact bK e
 |xd fs=>let#[_,#[_,_,_,e,_],_]:=x;exact bK e
 |rng lo hi=>let#[_,_,_,e]:=x;exact bK e
 |frz ob u=>let#[e,_]:=x;exact bK e
 |tbl ps=>exact bK (show h.get? a\_ from x)
 |met f y=>exact bK (show h.get? a\_ from x)
 |ext φ=>let#[_,#[_,e],_]:=x;exact bK e
theorem Paired.aQ{α β:Type}{F G:α->β->Prop}:∀{Ed:List α} {Ec:List β},Paired F Ed Ec->(∀a b,F a b->G a b)->Paired G Ed Ec
 |_,_,.nil,_=>.nil
 |_,_,.cons r t,f=>.cons (f _ _ r) (Paired.aQ t f)
theorem fj.cB(x:fj P w H h a o)(k:∀b u,(b=a∨H b\.own a)->h.get? b\u->h'.get? b\u)
  (ho:∀b,H b\.own a->H' b\.own a) (ht:∀b xs,H b\.tup xs->H' b\.tup xs):fj P w H' h' a o:=by
 induction o with
 |lst xs=>let#[z,its,n,r,e]:=x;exact#[z,its,n,r,k _ _ (.inl U) e]
 |tup xs=>let#[z,its,r,#[ob,e,c],o2,e2,c2]:=x;exact#[z,its,r,#[ob,k _ _ (.inl U) e,c],o2,k _ _ (.inl U) e2,c2]
 |dK kvs=>let#[z,y,vs,r,ob,es,ep,e,c]:=x;exact#[z,y,vs,r,ob,es,ep,k _ _ (.inl U) e,c]
 |dT kvs=>
  let#[z,y,xs,r,ob,es,ep,e,c]:=x;exact#[z,y,xs,Paired.aQ r λp q z=>#[z.1,ht _ _ z.2.1,z.2.2],ob,es,ep,k _ _ (.inl U) e,c]
 |set S n=>let#[ob,es,ep,t,e,c]:=x;exact#[ob,es,ep,t,k _ _ (.inl U) e,c]
 |ins C dx fs=>
  let#[d,z,ne,e,mA,#[od,es,ep,e2,c],r]:=x;exact#[ho _ d,z,ne,k _ _ (.inl U) e,mA,#[od,es,ep,k _ _ (.inr d) e2,c],r]
 |own y=>let#[ob,e]:=x;exact#[ob,k _ _ (.inl U) e]
 |xd fs=>let#[mA,#[od,es,ep,e,c],r]:=x;exact#[mA,#[od,es,ep,k _ _ (.inl U) e,c],r]
 |rng lo hi=>let#[t,u,v,e]:=x;exact#[t,u,v,k _ _ (.inl U) e]
 |frz ob u ih=>let#[e,q]:=x;exact#[k _ _ (.inl U) e,ih q]
 |tbl ps=>
  have e:h.get? a=some { cls:=.none,data:=.fields ps }:=x;show h'.get? a=some { cls:=.none,data:=.fields ps };exact k a _ (.inl U) e
 |met f y=>
  have e:h.get? a\PySem.W.methodObj (.ref f) (.ref y):=x;show h'.get? a\PySem.W.methodObj (.ref f) (.ref y);exact k a _ (.inl U) e
 |ext φ=>let#[p,#[o,e],st]:=x;exact#[st _ _ p λo q=>k _ _ (.inl U) q,#[o,k _ _ (.inl U) e],st]
theorem fQ.lt(x:fQ P w H h)(e:H a\o):a<h.objs.size:=(x a o e).lt
theorem fQ.fresh(x:fQ P w H h)(e:h.objs.size<=a):H a=none:=by
 cases q:H a with
 |none=>rfl
 |some u=>exact absurd (jA (x.lt q) e) (uh _)
theorem fQ.kept(x:fQ P w H h)(k:∀b u,h.get? b\u->h'.get? b\u):fQ P w H h':=λa o e=>
 (x a o e).cB (λb u _ q=>k b u q) (λ_ q=>q) λ_ _ q=>q
theorem fQ.laid(x:fQ P w H h)(k:∀b u,h.get? b\u->h'.get? b\u)(hp:h.objs.size<=a)(new:fj P w (upd H a o) h' a o):fQ P w (upd H a o) h':=λb u e=>by
 let hn:=x.fresh hp;by_cases hb:b=a
 ·subst hb;rw[aA] at e;cases e;exact new
 rw[aB hb] at e;exact (x b u e).cB (λc v _ q=>k c v q) (λc q=>by rw[aB (bG q hn)];exact q) λc xs q=>by rw[aB (bG q hn)];exact q
end
def Rd(H:Hp)(a:Addr)(u:HO):Prop:=H a=some u∨∃o,H a\.frz o u
theorem Rd.of{H:Hp}{a:Addr}{u:HO}(h:H a\u):Rd H a u:=.inl h
theorem Rd.ok{P:Ad}{w:Af}{H:Hp}{h:Heap}{a:Addr}{u:HO}(r:Rd H a u)(x:fQ P w H h):fj P w H h a u:=by
 rcases r with r|⟨o,r⟩
 ·exact x a u r
 let#[_,q]:=x a _ r;exact q
def GR:Option HO->Prop
 |some (.lst _)=>True
 |some (.dK _)=>True
 |some (.dT _)=>True
 |some (.set _ _)=>True
 |some (.ins _ _ _)=>True
 |some (.ext _)=>True
 |_=>False
section
variable{P:Ad}{w:Af}{H:Hp}{h h':Heap}{x e:Addr}{o':HO}
theorem fQ.write(ok:fQ P w H h)(mu:GR (H x))(he:e=x∨H e\.own x)(k:∀b u,b≠e->h.get? b\u->h'.get? b\u)(Cj:∃u,h'.get? e\u)
  (new:fj P w (upd H x o') h' x o'):fQ P w (upd H x o') h':=λb u q=>by
 have D3:∀c y,H c\.own y->c≠x:=λc y r z=>by subst z;rw[r] at mu;exact mu
 have KQ:∀c xs,H c\.tup xs->c≠x:=λc xs r z=>by subst z;rw[r] at mu;exact mu
 by_cases hb:b=x
 ·subst hb;rw[aA] at q;cases q;exact new
 rw[aB hb] at q;by_cases AV:b=e
 ·have q':H b\.own x:=by
   rcases he with z|z
   ·exact absurd (AV.trans z) hb
   rw[AV];exact z
  rw[q] at q';cases q';let#[v,hv]:=Cj;exact#[v,by rw[AV];exact hv]
 apply (ok b u q).cB (λc v hc r=>k c v ?_ r) (λc r=>by rw[aB (D3 c b r)];exact r) λc xs r=>by rw[aB (KQ c xs r)];exact r
 rcases hc with rfl|hc
 ·exact AV
 rintro rfl;rcases he with z|z
 ·exact D3 c b hc z
 rw[hc] at z;cases z;exact hb U
end
structure Un (fs ex:av) (H H':Hp) (h h':Heap):Prop where
 keep:∀b o,h.get? b\o->H b=none->b∉fs->b∉ex->h'.get? b\o
 slot:∀b o,h.get? b\o->H b=none->b∈fs->b∉ex->∃sl,h'.get? b=some { o with slots:=sl }
 free:∀b o,h.get? b\o->H b=none->b∉ex->H' b=none
 there:∀b o,h.get? b\o->b∉ex->∃o',h'.get? b\o'
 iN:∀b xs,H b\.tup xs->H' b\.tup xs
 hG:∀b o u,H b\.frz o u->H' b\.frz o u
 ik:∀b ps,H b\.tbl ps->∃more,H' b\.tbl (ps++more)
section
variable{fs fs' ex ex':av}{H H1 H2:Hp}{h h1 h2 h':Heap}{a x e:Addr}{o:HO}
theorem Un.any(u:Un fs ex H H1 h h1){b:Addr}{ob:Obj}(q:h.get? b\ob)(n:H b=none)(hx:b∉ex):∃sl,h1.get? b=some { ob with slots:=sl }:=by
 by_cases hb:b∈fs
 ·exact u.slot b ob q n hb hx
 exact#[ob.slots,u.keep b ob q n hb hx]
theorem Un.kept(k:∀b u,h.get? b\u->h'.get? b\u):Un fs ex H H h h':=
 #[λb ob q _ _ _=>k b ob q,λb ob q _ _ _=>#[ob.slots,k b ob q],λ_ _ _ n _=>n,λb ob q _=>#[ob,k b ob q],λ_ _ q=>q,λ_ _ _ q=>q,λ_ ps q=>#[#[],by rw[q];simp]]
theorem Un.refl:Un fs ex H H h h:=Un.kept λ_ _ q=>q
theorem Un.laid(k:∀b u,h.get? b\u->h'.get? b\u)(hp:h.objs.size<=a)(hn:H a=none):Un fs ex H (upd H a o) h h' where
 keep:=λb u q _ _ _=>k b u q
 slot:=λb u q _ _ _=>#[u.slots,k b u q]
 free:=λb u q n _=>by rw[aB (dH (jA (bK q) hp))];exact n
 there:=λb u q _=>#[u,k b u q]
 iN:=λb xs q=>by rw[aB (bG q hn)];exact q
 hG:=λb u xs q=>by rw[aB (bG q hn)];exact q
 ik:=λb ps q=>#[#[],by rw[aB (bG q hn),q];simp]
theorem Un.write(mu:GR (H x))(he:e=x∨H e\.own x)(k:∀b u,b≠e->h.get? b\u->h'.get? b\u)(Cj:∃u,h'.get? e\u):Un fs ex H (upd H x o) h h':=by
 have hx:∀b,H b=none->b≠x:=λb n z=>by subst z;rw[n] at mu;exact mu
 have hb:∀b,H b=none->b≠e:=λb n z=>by
  subst z;rcases he with r|r
  ·exact hx b n r
  rw[n] at r;cases r
 have hm:∀b u,H b\u->¬GR (some u)->b≠x:=λb u q nm z=>by subst z;rw[q] at mu;exact nm mu
 apply#[λb u q n _ _=>k b u (hb b n) q,λb u q n _ _=>#[u.slots,k b u (hb b n) q],λb u q n _=>by rw[aB (hx b n)];exact n,λb u q _=>?_,
  λb xs q=>by rw[aB (hm b _ q λz=>z)];exact q,λb u xs q=>by rw[aB (hm b _ q λz=>z)];exact q,λb ps q=>#[#[],by rw[aB (hm b _ q λz=>z),q];simp]]
 by_cases AV:b=e
 ·subst AV;exact Cj
 exact#[u,k b u AV q]
end
def G2(h:Heap)(H:Hp):av:=(List.range h.objs.size).filter λa=>(H a).isSome
def ix(h:Heap)(H:Hp):Heap:=PySem.W.hideAll h (G2 h H)
theorem he_(h:Heap)(H:Hp):(ix h H).objs.size=h.objs.size:=PySem.W.hideAll_size _ _
theorem hU_{h:Heap}{H:Hp}{b:Addr}{o:Obj}(e:h.get? b\o)(n:H b=none):(ix h H).get? b\o:=
 PySem.W.hideAll_get _ e λhm=>by
  have q:(H b).isSome=true:=(ub.mp hm).2;rw[n] at q;simp at q
theorem ZQ{h:Heap}{H:Hp}{b:Addr}{o:Obj}(e:(ix h H).get? b\o):h.get? b\o/\H b=none:=by
 have e':h.get? b\o:=PySem.W.of_hideAll (G2 h H) e;apply#[e',?_];cases q:H b with
 |none=>rfl
 |some x=>
  have hm:b∈G2 h H:=ub.mpr #[List.mem_range.mpr (bK e'),by simp[q]];have z:(ix h H).get? b=none:=PySem.W.hideAll_none (G2 h H) hm;rw[z] at e;cases e
end L2
abbrev ag:=List L2.V
abbrev aE:=Option L2.V
namespace L2
open PySem PySem.Spec PyProof.Rows
structure Mod (K:af) (mg:Str->Option Aa) (base:Heap):Prop where
 Es:K.In base
 glob:base.Ns mainGlobals mg
 blt:∃mb,base.Ns builtinsNs mb/\∀x:Str,x≠"__name__"->mb x=bootBuiltins x
 nolimit:base.NoLimit
structure Cx where
 prog:Ad
 w:Af
 K:af
 mg:Str->Option Aa
 base:Heap
 A:Ag
 N:ae
 dk:Ab
 ku:Hp
 env:Env
 outer:List Env
 stack:List Env
 ex:av
 fn:Str->Bool
 calm:Bool
 pn:List (Addr × Obj)
 xe:Aa->Ab->Prop
def pb(l:List Env):av:=l.filterMap (·.frame)
abbrev Cx.fs(X:Cx):av:=pb X.outer
def Py(sc:Scope)(x:Str):Prop:=sc.names.lookup x=some .local∨sc.names.lookup x\.cell∨sc.names.lookup x\.free
def Loc(sc:Scope)(x:Str):Prop:=sc.names.lookup x=some .local∨sc.names.lookup x\.cell
def Look(env:Env)(h:Heap)(m:Str->Option Aa)(x:Str)(u:Aa):Prop:=
 (env.kindOf x\.local/\m x\u)∨((env.kindOf x\.cell∨env.kindOf x\.free)/\∃c,env.cells.lookup x\c/\h.IsCell c (some u))
structure Cx.Ok (X:Cx):Prop where
 mod:Mod X.K X.mg X.base
 kind:X.env.scope.kind=.function
 glob:X.env.globals=mainGlobals
 blt:X.env.builtins=builtinsNs
 above:X.dk.heap.objs.size<=X.env.locals
 inj:∀x y c,X.env.cells.lookup x\c->X.env.cells.lookup y\c->x=y
 has:∀x,(X.env.kindOf x\.cell∨X.env.kindOf x\.free)->∃c,X.env.cells.lookup x\c
 CI:∀x c,X.fn x=true->X.env.cells.lookup x\c->X.dk.heap.objs.size<=c
 hd:X.calm=true->X.A.handled=none
 frames:X.A.frames\X.stack
 G7:X.stack=X.outer∨(X.stack=X.env::X.outer/\X.env.frame\X.env.locals)
 IH:∀b∈X.ex,b≠X.env.locals/\∀x c,X.env.cells.lookup x\c->c≠b
 bs:∀b o,X.base.get? b\o->X.dk.heap.get? b\o/\X.ku b=none
 tW:X.base.objs.size<=X.dk.heap.objs.size
 sM:∀b o,X.base.get? b\o->b∉X.ex
 tL:∀b∈X.ex,b∉X.fs
 fW:X.dk.heap.FunFrames X.base X.outer
 wk:∀b∈X.fs,X.ku b=none
structure Inv (X:Cx) (pins:List (Addr × Obj)) (σ:List aE) (H:Hp) (s:Ab):Prop where
 ok:X.Ok
 os:s.os=X.dk.os
 bare:AllBare s.gens
 base:Un X.fs X.ex X.ku H X.dk.heap s.heap
 loc:∃m,s.heap.Ns X.env.locals m/\∀(i:Nat) (x:Str) (v:V),X.N[i]? = some x->σ[i]? = some (some v)->Py X.env.scope x->∃u,RelV v u/\Look X.env s.heap m x u
 cell:∀x c,X.env.cells.lookup x\c->∃v,s.heap.IsCell c v
 free:H X.env.locals=none
 eI:∀x c,X.env.cells.lookup x\c->H c=none
 pin:∀p∈X.pn++pins,s.heap.get? p.1\p.2/\H p.1=none/\p.1≠X.env.locals/\p.1∉X.fs/\∀v,p.2.data≠.cell v
 aF:fQ X.prog X.w H s.heap
 len:σ.length=X.N.length
section
variable{X:Cx}{pins:List (Addr × Obj)}{σ:List aE}{H H':Hp}{s:Ab}{h':Heap}
theorem Cx.Ok.KU(ok:X.Ok){b:Addr}{o:Obj}(e:X.base.get? b\o):b∉X.fs:=λhb=>by
 have:=(ok.fW.mem hb).1;rw[e] at this;cases this
theorem Inv.bs(I:Inv X pins σ H s):∀b o,X.base.get? b\o->s.heap.get? b\o/\H b=none:=λb o e=>
 #[I.base.keep b o (I.ok.bs b o e).1 (I.ok.bs b o e).2 (I.ok.KU e) (I.ok.sM b o e),I.base.free b o (I.ok.bs b o e).1 (I.ok.bs b o e).2 (I.ok.sM b o e)]
theorem Inv.bk(I:Inv X pins σ H s):∀b o,X.base.get? b\o->s.heap.get? b\o:=λb o e=>(I.bs b o e).1
theorem Inv.mod(I:Inv X pins σ H s):Mod X.K X.mg X.base:=I.ok.mod
theorem Inv.gI(I:Inv X pins σ H s):X.K.In s.heap:=I.ok.mod.Es.keeps I.bk
theorem Inv.lt(I:Inv X pins σ H s):X.env.locals<s.heap.objs.size:=let #[_,hn,_]:=I.loc;hn.lt
theorem Inv.sz(I:Inv X pins σ H s):X.dk.heap.objs.size<=s.heap.objs.size:=ic I.ok.above (Nat.le_of_lt I.lt)
theorem Inv.KS(I:Inv X pins σ H s){a:Addr}(h:s.heap.objs.size<=a):a∉X.fs:=λhb=>by
 let#[_,o,ho,_]:=I.ok.fW.mem hb;exact absurd (jA (bK ho) (ic I.sz h)) (uh _)
theorem Inv.uU(I:Inv X pins σ H s):∀x c,X.env.cells.lookup x\c->c≠X.env.locals:=λx c e z=>by
 let#[v,o,ho,hd]:=I.cell x c e;let#[m,#[o',es,ep,n9,g9,_],_]:=I.loc;rw[z,n9] at ho;cases ho;rw[g9] at hd;cases hd
theorem Inv.fW(I:Inv X pins σ H s):s.heap.FunFrames X.base X.outer:=by
 have all:∀(l:List Env),(∀b∈pb l,b∈X.fs)->X.dk.heap.FunFrames X.base l->s.heap.FunFrames X.base l:=by
  intro l
  induction l with
  |nil=>intro _ _;trivial
  |cons env r ih=>
   intro hs hl;let#[hk,#[L,o,hf,hn,ho,hd],hr]:=hl;have hL:L∈X.fs:=hs L (by unfold pb;rw[List.filterMap_cons,hf];exact fY);let#[sl,e]:=I.base.slot L o ho (I.ok.wk L hL) hL λz=>I.ok.tL L z hL;exact#[hk,#[L,_,hf,hn,e,hd],ih (λb hb=>hs b (by unfold pb;rw[List.filterMap_cons,hf];exact fo _ hb)) hr]
 exact all X.outer (λ_ hb=>hb) I.ok.fW
theorem Inv.stack(I:Inv X pins σ H s):s.heap.FunFrames X.base X.stack:=by
 rcases I.ok.G7 with e|⟨e,hf⟩
 ·rw[e];exact I.fW
 rw[e];let#[m,hn,_]:=I.loc;apply .cons (by rw[I.ok.kind];decide) hf hn ?_ I.fW;exact Heap.get?_none_of_le (ic I.ok.tW I.ok.above)
theorem Inv.lg(I:Inv X pins σ H s):∀b∈pb X.stack,b∈X.env.locals::X.fs:=λb hb=>by
 rcases I.ok.G7 with e|⟨e,hf⟩
 ·rw[e] at hb;exact fo _ hb
 rw[e] at hb;unfold pb at hb;rw[List.filterMap_cons,hf] at hb;exact hb
theorem Inv.ng(I:Inv X pins σ H s):∀b∈pb X.stack,H b=none:=λb hb=>by
 rcases cg.mp (I.lg b hb) with e|hb
 ·rw[e];exact I.free
 let#[_,o,ho,_]:=I.ok.fW.mem hb;exact I.base.free b o ho (I.ok.wk b hb) λz=>I.ok.tL b z hb
theorem Inv.step{g':Array GenState}{t':Nat}{d':Drawn}{ch:av}(I:Inv X pins σ H s)
  (uM:∀b∈ch,(b∈X.ex∨X.dk.heap.objs.size<=b)/\b≠X.env.locals/\(∀x c,X.env.cells.lookup x\c->c≠b)/\∀p∈X.pn++pins,p.1≠b)
  (keep:∀b o,b≠X.env.locals->b∉X.fs->b∉ch->s.heap.get? b\o->H b=none->h'.get? b\o)
  (slot:∀b o,b≠X.env.locals->b∈X.fs->b∉ch->s.heap.get? b\o->H b=none->∃sl,h'.get? b=some { o with slots:=sl }) (free:∀b o,b∉ch->s.heap.get? b\o->H b=none->H' b=none)
  (there:∀b o,b∉ch->s.heap.get? b\o->∃o',h'.get? b\o')
  (iN:∀b xs,H b\.tup xs->H' b\.tup xs) (hG:∀b o u,H b\.frz o u->H' b\.frz o u) (ik:∀b ps,H b\.tbl ps->∃more,H' b\.tbl (ps++more))
  (ns:∀m,s.heap.Ns X.env.locals m->h'.Ns X.env.locals m) (aF:fQ X.prog X.w H' h') (hg:AllBare g') :
  Inv X pins σ H' { s with heap:=h',gens:=g',drawn:=d',toks:=t' }:=by
 have QD:∀b o,X.dk.heap.get? b\o->b≠X.env.locals:=λb o e=>dH (jA (bK e) I.ok.above)
 have Hr:∀b o,X.dk.heap.get? b\o->b∉X.ex->b∉ch:=λb o e hx hb=>by
  rcases (uM b hb).1 with z|z
  ·exact hx z
  exact absurd (jA (bK e) z) (uh _)
 have cellK:∀x c,X.env.cells.lookup x\c->∀v,s.heap.IsCell c v->h'.IsCell c v:=λx c e v ⟨o,ho,hd⟩=>by
  have D5:c∉ch:=λz=>(uM c z).2.2.1 x c e U;by_cases hc:c∈X.fs
  ·let#[sl,q]:=slot c o (I.uU x c e) hc D5 ho (I.eI x c e);exact#[_,q,hd]
  exact#[o,keep c o (I.uU x c e) hc D5 ho (I.eI x c e),hd]
 apply#[I.ok,I.os,hg,#[λb o e n hb hx=>?_,λb o e n hb hx=>?_,λb o e n hx=>?_,λb o e hx=>?_,λb xs e=>iN b xs (I.base.iN b xs e),λb o xs e=>hG b o xs (I.base.hG b o xs e),λb ps e=>?_],?_,λx c e=>?_,?_,λx c e=>?_,λp hp=>?_,aF,I.len]
 ·exact keep b o (QD b o e) hb (Hr b o e hx) (I.base.keep b o e n hb hx) (I.base.free b o e n hx)
 ·let#[sl,e1]:=I.base.slot b o e n hb hx;let#[Wg,e2]:=slot b _ (QD b o e) hb (Hr b o e hx) e1 (I.base.free b o e n hx);exact#[Wg,e2]
 ·let#[o',e1]:=I.base.there b o e hx;exact free b o' (Hr b o e hx) e1 (I.base.free b o e n hx)
 ·let#[o',e1]:=I.base.there b o e hx;exact there b o' (Hr b o e hx) e1
 ·let#[m1,e1]:=I.base.ik b ps e;let#[m2,e2]:=ik b _ e1;exact#[m1++m2,by rw[e2,Array.append_assoc]]
 ·let#[m,hn,hl]:=I.loc;apply#[m,ns m hn,λi x v e1 e2 e3=>?_];let#[u,r,l]:=hl i x v e1 e2 e3;apply#[u,r,?_];rcases l with l|⟨k,c,e,z⟩
  ·exact .inl l
  exact .inr #[k,c,e,cellK x c e _ z]
 ·let#[v,z]:=I.cell x c e;exact#[v,cellK x c e v z]
 ·let#[m,#[o,_,_,ho,_],_]:=I.loc;exact free _ o (λz=>(uM _ z).2.1 U) ho I.free
 ·let#[v,o,ho,hd]:=I.cell x c e;exact free c o (λz=>(uM c z).2.2.1 x c e U) ho (I.eI x c e)
 let#[e,n,ne,nf,d]:=I.pin p hp;have D5:p.1∉ch:=λz=>(uM p.1 z).2.2.2 p hp U;exact#[keep p.1 p.2 ne nf D5 e n,free p.1 p.2 D5 e n,ne,nf,d]
theorem Inv.un{t':Nat}(I:Inv X pins σ H s)(u:Un X.fs [] H H' s.heap h')(aF:fQ X.prog X.w H' h'):Inv X pins σ H' { s with heap:=h',toks:=t' }:=by
 let#[m,#[o,es,ep,ho,r],_]:=id I.loc;let#[sl,hL]:=u.any ho I.free Y1
 exact I.step (g':=s.gens) (d':=s.drawn) (ch:=[]) (λ_ z=>nomatch z) (λb o _ hb _ e n=>u.keep b o e n hb Y1) (λb o _ hb _ e n=>u.slot b o e n hb Y1) (λb o _ e n=>u.free b o e n Y1) (λb o _ e=>u.there b o e Y1) u.iN u.hG u.ik (λm' hm=>by
  let#[o',Ct,IM,n9,r']:=hm;rw[ho] at n9;cases n9;exact#[_,Ct,IM,hL,r']) aF I.bare
theorem Inv.call{g':Array GenState}{t':Nat}{d':Drawn}{ch:av}(I:Inv X pins σ H s)(u:Un (pb X.stack) ch H H' s.heap h')(aF:fQ X.prog X.w H' h')(hg:AllBare g')
  (uM:∀b∈ch,(b∈X.ex∨X.dk.heap.objs.size<=b)/\b≠X.env.locals/\(∀x c,X.env.cells.lookup x\c->c≠b)/\∀p∈X.pn++pins,p.1≠b) :
  Inv X pins σ H' { s with heap:=h',gens:=g',drawn:=d',toks:=t' }:=by
 let#[m,#[o,es,ep,ho,r],_]:=id I.loc;let#[sl,hL]:=u.any ho I.free λz=>(uM _ z).2.1 U
 exact I.step (ch:=ch) uM (λb o hL hb hc e n=>u.keep b o e n (λz=>(cg.mp (I.lg b z)).elim hL hb) hc) (λb o _ _ hc e n=>u.any e n hc) (λb o hc e n=>u.free b o e n hc) (λb o hc e=>u.there b o e hc) u.iN u.hG u.ik (λm' hm=>by
  let#[o',Ct,IM,n9,r']:=hm;rw[ho] at n9;cases n9;exact#[_,Ct,IM,hL,r']) aF hg
theorem Inv.turned{t':Nat}{it:Addr}(I:Inv X pins σ H s)(k:∀b o,b≠it->s.heap.get? b\o->h'.get? b\o)(hn:H it=none)(hL:it≠X.env.locals)
  (h1:it∈X.ex∨X.dk.heap.objs.size<=it) (h2:∀x c,X.env.cells.lookup x\c->c≠it) (h3:∀p∈X.pn++pins,p.1≠it):Inv X pins σ H { s with heap:=h',toks:=t' }:=by
 have QB:∀b u,H b\u->b≠it:=λb u e z=>by rw[z,hn] at e;cases e
 apply I.step (g':=s.gens) (d':=s.drawn) (ch:=[it]) (λb hb=>?_) (λb o _ _ hc e _=>k b o (λz=>hc (by simp[z])) e) (λb o _ _ hc e _=>#[o.slots,k b o (λz=>hc (by simp[z])) e]) (λ_ _ _ _ n=>n)
  (λb o hc e=>#[o,k b o (λz=>hc (by simp[z])) e]) (λ_ _ e=>e) (λ_ _ _ e=>e) (λb ps e=>#[#[],by rw[e];simp]) (λm hm=>?_) (λb u e=>?_) I.bare
 ·have e:b=it:=⇑hb
  subst e;exact#[h1,hL,h2,h3]
 ·let#[o,es,ep,ho,r]:=hm;exact#[o,es,ep,k _ o (dJ hL) ho,r]
 apply (I.aF b u e).cB (λc v hc q=>k c v ?_ q) (λ_ q=>q) λ_ _ q=>q;rcases hc with z|z
 ·rw[z];exact QB b u e
 exact QB c _ z
theorem Inv.tok(I:Inv X pins σ H s)(t:Nat):Inv X pins σ H { s with toks:=t }:=I.un (h':=s.heap) (t':=t) Un.refl I.aF
theorem Inv.kept{t':Nat}(I:Inv X pins σ H s)(k:∀b u,s.heap.get? b\u->h'.get? b\u):Inv X pins σ H { s with heap:=h',toks:=t' }:=I.un (Un.kept k) (I.aF.kept k)
theorem Inv.laid{a:Addr}{o:HO}{t':Nat}(I:Inv X pins σ H s)(k:∀b u,s.heap.get? b\u->h'.get? b\u)(hp:s.heap.objs.size<=a)(new:fj X.prog X.w (upd H a o) h' a o) :
  Inv X pins σ (upd H a o) { s with heap:=h',toks:=t' }:=I.un (Un.laid k hp (I.aF.fresh hp)) (I.aF.laid k hp new)
theorem Inv.write{x e:Addr}{o:HO}{t':Nat}(I:Inv X pins σ H s)(mu:GR (H x))(he:e=x∨H e\.own x)(k:∀b u,b≠e->s.heap.get? b\u->h'.get? b\u)(Cj:∃u,h'.get? e\u)
  (new:fj X.prog X.w (upd H x o) h' x o):Inv X pins σ (upd H x o) { s with heap:=h',toks:=t' }:=I.un (Un.write mu he k Cj) (I.aF.write mu he k Cj new)
theorem Inv.nQ{xM:List (Addr × Obj)}(I:Inv X pins σ H s)(h:∀p∈xM,s.heap.get? p.1\p.2/\H p.1=none/\p.1≠X.env.locals/\p.1∉X.fs/\∀v,p.2.data≠.cell v):Inv X xM σ H s:=
 #[I.ok,I.os,I.bare,I.base,I.loc,I.cell,I.free,I.eI,λp hp=>(dE.mp hp).elim (λz=>I.pin p (List.mem_append_left _ z)) (h p),I.aF,I.len]
theorem Th{N:ae}(hN:N.Nodup){i j:Nat}{x:Str}(a:N[i]? = some x)(b:N[j]? = some x):i=j:=by
 let#[h1,e1]:=cw.mp a;let#[h2,e2]:=cw.mp b;exact (List.getElem_inj hN).mp (e1.trans e2.symm)
theorem Uk{M:Model}{A:Ag}{E:Aa->Ab->Prop}{i:Nat}{x:Str}{v:V}{u:Aa}{Q:Unit->Ab->Prop}(I:Inv X pins σ H s)(hN:X.N.Nodup)(hi:X.N[i]? = some x)(hx:Loc X.env.scope x)(r:RelV v u)
  (h:∀s',Inv X pins (σ.set i (some v)) H s'->(∃a,Heap.SameBut a s.heap s'.heap/\(a=X.env.locals∨X.env.cells.lookup x\a))->Q () s') (hf:X.fn x=true∨X.env.scope.names.lookup x\.local:=by first|exact .inl U|exact .inr U|assumption):wpAny M A (storeName X.env x u) Q E s:=by
 let#[m,hn,hl]:=id I.loc;have Ml:(X.env.scope.kind == .class || (X.env.scope.kind == .module&&X.env.locals != X.env.globals))=false:=by rw[I.ok.kind];rfl
 have E8:i<σ.length:=by rw[I.len];exact (cw.mp hi).1
 let uU:=I.uU
 have tracked:∀{a:Addr} {h':Heap},(∃o,s.heap.get? a\o/\H a=none)->Heap.SameBut a s.heap h'->fQ X.prog X.w H h':=λ{a h'} ha hs b ob e=>by
  let#[_,_,x_]:=ha;apply (I.aF b ob e).cB (λc w' hc q=>(hs.2 c ?_).trans q) (λ_ q=>q) λ_ _ q=>q;rintro rfl;rcases hc with rfl|hc
  ·rw[x_] at e;cases e
  rw[x_] at hc;cases hc
 rcases hx with hk|hk
 ·apply wpAny_storeName_local hk hn (λh' EU hs=>?_) Ml;let#[oL,_,_,H_,_]:=id hn;apply h _ #[I.ok,I.os,I.bare,#[λb o e n hb hx=>?_,λb o e n hb hx=>?_,I.base.free,λb o e hx=>?_,I.base.iN,I.base.hG,I.base.ik],#[_,EU,λj y v' e1 e2 e3=>?_],λy c e=>?_,I.free,I.eI,λp hp=>?_,tracked #[oL,H_,I.free] hs,by simpa using I.len] #[_,hs,.inl U]
  ·exact (hs.2 b (dH (jA (bK e) I.ok.above))).trans (I.base.keep b o e n hb hx)
  ·let#[sl,e1]:=I.base.slot b o e n hb hx;exact#[sl,(hs.2 b (dH (jA (bK e) I.ok.above))).trans e1]
  ·let#[o',e1]:=I.base.there b o e hx;exact#[o',(hs.2 b (dH (jA (bK e) I.ok.above))).trans e1]
  ·by_cases hj:j=i
   ·subst hj;rw[hi] at e1;cases e1;rw[List.getElem?_set_self E8] at e2;cases e2;exact#[u,r,.inl #[hk,by simp]]
   rw[List.getElem?_set_ne (dJ hj)] at e2;let#[u',r',q]:=hl j y v' e1 e2 e3;apply#[u',r',?_];rcases q with⟨k,e⟩|⟨k,c,e,z⟩
   ·apply .inl #[k,?_];have:y≠x:=λe=>hj (Th hN e1 (e▸hi));simp[this,e]
   exact .inr #[k,c,e,z.sameBut hs (uU y c e)]
  ·let#[w',z]:=I.cell y c e;exact#[w',z.sameBut hs (uU y c e)]
  let#[e,n,ne,nf,d]:=I.pin p hp;exact#[(hs.2 p.1 ne).trans e,n,ne,nf,d]
 have L8:X.fn x=true:=by
  rcases hf with z|z
  ·exact z
  rw[z] at hk;cases hk
 let#[c,hc]:=I.ok.has x (.inl hk);let#[w',z]:=I.cell x c hc;apply wpAny_storeName_cell I.ok.kind hk hc z (λh' Ik hs=>?_);let#[oc,ER,LM]:=id z;apply h { s with heap:=h' } #[I.ok,I.os,I.bare,#[λb o e n hb hx=>?_,λb o e n hb hx=>?_,I.base.free,λb o e hx=>?_,I.base.iN,I.base.hG,I.base.ik],#[m,hn.sameBut hs (dJ (uU x c hc)),λj y v' e1 e2 e3=>?_],λy c' e=>?_,I.free,I.eI,λp hp=>?_,tracked #[oc,ER,I.eI x c hc] hs,by simpa using I.len] #[c,hs,.inr hc]
 ·exact (hs.2 b (dH (jA (bK e) (I.ok.CI x c L8 hc)))).trans (I.base.keep b o e n hb hx)
 ·let#[sl,e1]:=I.base.slot b o e n hb hx;exact#[sl,(hs.2 b (dH (jA (bK e) (I.ok.CI x c L8 hc)))).trans e1]
 ·let#[o',e1]:=I.base.there b o e hx;exact#[o',(hs.2 b (dH (jA (bK e) (I.ok.CI x c L8 hc)))).trans e1]
 ·by_cases hj:j=i
  ·subst hj;rw[hi] at e1;cases e1;rw[List.getElem?_set_self E8] at e2;cases e2;exact#[u,r,.inr #[.inl hk,c,hc,Ik]]
  rw[List.getElem?_set_ne (dJ hj)] at e2;let#[u',r',q]:=hl j y v' e1 e2 e3;apply#[u',r',?_];rcases q with q|⟨k,c',e,z'⟩
  ·exact .inl q
  apply .inr #[k,c',e,z'.sameBut hs ?_];rintro rfl;exact hj (Th hN e1 (I.ok.inj _ _ _ e hc▸hi))
 ·by_cases R4:c'=c
  ·subst R4;exact#[_,Ik]
  let#[w2,z2]:=I.cell y c' e;exact#[w2,z2.sameBut hs R4]
 let#[e,n,ne,nf,d]:=I.pin p hp;apply#[(hs.2 p.1 ?_).trans e,n,ne,nf,d];intro q;rw[q,ER] at e;have q':oc=p.2:=dO e;exact d w' (by rw[<- q'];exact LM)
theorem S6{M:Model}{A:Ag}{E:Aa->Ab->Prop}{i:Nat}{x:Str}{v:V}{u:Aa}{Q:Unit->Ab->Prop}(I:Inv X pins σ H s)(hN:X.N.Nodup)(hi:X.N[i]? = some x)(hx:Loc X.env.scope x)(r:RelV v u)
  (h:∀s',Inv X pins (σ.set i (some v)) H s'->Q () s') (hf:X.fn x=true∨X.env.scope.names.lookup x\.local:=by first|exact .inl U|exact .inr U|assumption):wpAny M A (storeName X.env x u) Q E s:=
 Uk I hN hi hx r (λs' I' _=>h s' I') hf
theorem Inv.F2{s':Ab}{ch:av}(I:Inv X pins σ H s)(ho:s'.os=s.os)(u:Un (pb X.stack) ch H H' s.heap s'.heap)(aF:fQ X.prog X.w H' s'.heap)(hg:AllBare s'.gens)
  (uM:∀b∈ch,(b∈X.ex∨X.dk.heap.objs.size<=b)/\b≠X.env.locals/\(∀x c,X.env.cells.lookup x\c->c≠b)/\∀p∈X.pn++pins,p.1≠b):Inv X pins σ H' s':=by
 let#[h',g',d',t',o']:=s';have e:o'=s.os:=ho;subst e;exact I.call (g':=g') (t':=t') (d':=d') u aF hg uM
end
abbrev XK:=Aa->Option Addr->Hp->Prop
abbrev St:=List aE
abbrev VK:=V->Hp->Prop
abbrev TE:=St->Hp->VK->Prop
abbrev TT:=St->Hp->(Bool->Hp->Prop)->Prop
abbrev TA:=St->Hp->(ag->Hp->Prop)->Prop
structure Ends where
 nx:St->Hp->Prop
 rt:VK
 bk:St->Hp->Prop:=λ_ _=>False
 ct:St->Hp->Prop:=λ_ _=>False
abbrev TS:=Ends->St->Hp->Prop
def EP(X:Cx)(pins:List (Addr × Obj))(σ:St)(Q:VK)(u:Aa)(s':Ab):Prop:=∃v H',Inv X pins σ H' s'/\RelV v u/\Q v H'
def TP(X:Cx)(pins:List (Addr × Obj))(σ:St)(Q:Bool->Hp->Prop)(b:Bool)(s':Ab):Prop:=∃H',Inv X pins σ H' s'/\Q b H'
def AP(X:Cx)(pins:List (Addr × Obj))(σ:St)(Q:ag->Hp->Prop)(us:aj)(s':Ab):Prop:=∃vs H',Inv X pins σ H' s'/\Vals vs us/\Q vs H'
def SP(X:Cx)(pins:List (Addr × Obj))(D:Ends)(f:Flow)(s':Ab):Prop:=
 match f with
 |.next=>∃bf H',Inv X pins bf H' s'/\D.nx bf H'
 |.brk=>∃bf H',Inv X pins bf H' s'/\D.bk bf H'
 |.cont=>∃bf H',Inv X pins bf H' s'/\D.ct bf H'
 |.ret u=>∃v bf H',Inv X pins bf H' s'/\RelV v u/\D.rt v H'
def PE(X:Cx)(e:Expr)(t:TE):Prop:=
 ∀(pins:List (Addr × Obj)) (s:Ab) (σ:St) (H:Hp) (Q:VK),Inv X pins σ H s->t σ H Q->wpAny (model X.prog X.w) X.A (eval e X.env) (EP X pins σ Q) X.xe s
def PT(X:Cx)(e:Expr)(t:TT):Prop:=
 ∀(pins:List (Addr × Obj)) (s:Ab) (σ:St) (H:Hp) (Q:Bool->Hp->Prop),Inv X pins σ H s->t σ H Q->wpAny (model X.prog X.w) X.A (isTrue e X.env (eval e X.env)) (TP X pins σ Q) X.xe s
def PW(X:Cx)(e:Expr)(t:TT):Prop:=
 ∀(whole:Sem Aa) (pins:List (Addr × Obj)) (s:Ab) (σ:St) (H:Hp) (Q:Bool->Hp->Prop),Inv X pins σ H s->t σ H Q->wpAny (model X.prog X.w) X.A (isTrue e X.env whole) (TP X pins σ Q) X.xe s
theorem PW.pt{X:Cx}{e:Expr}{t:TT}(h:PW X e t):PT X e t:=h _
def PA(X:Cx)(es:List Expr)(t:TA):Prop:=
 ∀(pos:Pos) (pins:List (Addr × Obj)) (s:Ab) (σ:St) (H:Hp) (Q:ag->Hp->Prop),Inv X pins σ H s->t σ H Q->wpAny (model X.prog X.w) X.A (spliced (backTo pos (starEach es X.env))) (AP X pins σ Q) X.xe s
def PS(X:Cx)(st:Stmt)(t:TS):Prop:=
 ∀(pins:List (Addr × Obj)) (s:Ab) (σ:St) (H:Hp) (D:Ends),Inv X pins σ H s->t D σ H->wpAny (model X.prog X.w) X.A (exec st X.env) (SP X pins D) X.xe s
def km(X:Cx)(st:List Stmt)(t:TS):Prop:=
 ∀(pins:List (Addr × Obj)) (s:Ab) (σ:St) (H:Hp) (D:Ends),Inv X pins σ H s->t D σ H->wpAny (model X.prog X.w) X.A (execs st X.env) (SP X pins D) X.xe s
theorem aU{α:Type}{t:Sem α}{Q Q':α->Ab->Prop}{M:Model}{A:Ag}{E:Aa->Ab->Prop}{s:Ab}(h:wpAny M A t Q E s)(hQ:∀a s,Q a s->Q' a s):wpAny M A t Q' E s:=wpAny_mono h hQ λ_ _ x=>x
end L2
abbrev kq:=L2.St->L2.Hp->Prop
abbrev dG:=Nat->L2.St->L2.Hp->Prop
namespace L2
open PySem PySem.Spec PyProof.Rows
section
variable{X:Cx}
inductive dj (i:Nat) (σ:St) (H:Hp) (Q:VK):Prop
 |mk:∀v,σ[i]? = some (some v)->Q v H->dj i σ H Q
def tC(v:V):TE:=λ_ H Q=>Q v H
theorem YL{i:Nat}{x:Str}{pos:Pos}(hN:X.N[i]? = some x)(hv:Py X.env.scope x)(hd:(x == ("__debug__":Str))=false:=by decide)(iy:(x == ("__classdict__":Str))=false:=by decide):PE X (.Name x pos) (dj i):=by
 intro pins s σ H Q I h;let#[v,e,h]:=h;let#[m,hn,hl]:=I.loc;let#[u,r,l]:=hl i x v hN e hv;have fin:EP X pins σ Q u s:=#[v,H,I,r,h];rcases l with⟨hk,hm⟩|⟨hk,c,hc,og⟩
 ·exact wpAny_Name (wpAny_loadName_local I.ok.kind hk hn hm fin) hd
 rcases hk with hk|hk
 ·exact wpAny_Name (wpAny_loadName_cell I.ok.kind hk hc og fin) hd
 exact wpAny_Name (wpAny_loadName_free I.ok.kind hk hc og fin iy) hd
theorem ay{i j pos}:PE X (.Constant (.int i) j pos) (tC (.int i)):=λ_ _ _ H _ I h=>wpAny_Constant_int #[.int i,H,I.tok _,#[_,U],h]
theorem jw{b j pos}:PE X (.Constant (.bool b) j pos) (tC (.bl b)):=λ_ _ _ H _ I h=>Constant_bool #[.bl b,H,I,U,h]
theorem ow{j pos}:PE X (.Constant .none j pos) (tC .non):=λ_ _ _ H _ I h=>Constant_none #[.non,H,I,U,h]
theorem j0{x j pos}:PE X (.Constant (.str x) j pos) (tC (.str x)):=λ_ _ _ H _ I h=>Calls.Constant_str #[.str x,H,I.tok _,#[_,U],h]
def Gl(X:Cx)(x:Str):Prop:=X.env.kindOf x=some .globalImplicit
theorem M4{E:Aa->Ab->Prop}{pins:List (Addr × Obj)}{s:Ab}{σ:St}{H:Hp}{x:Str}{u:Aa}{pos:Pos}{Q:Aa->Ab->Prop}(I:Inv X pins σ H s)(hg:Gl X x)(hm:X.mg x\u)(h:Q u s)
  (hd:(x == ("__debug__":Str))=false:=by decide):wpAny (model X.prog X.w) X.A (eval (.Name x pos) X.env) Q E s:=
 Calls.Name_function_global I.ok.kind hg (Calls.loadGlobal_global (by rw[I.ok.glob];exact I.mod.glob.keeps I.bk) hm h) hd
theorem wJ{E:Aa->Ab->Prop}{pins:List (Addr × Obj)}{s:Ab}{σ:St}{H:Hp}{x:Str}{u:Aa}{pos:Pos}{Q:Aa->Ab->Prop}(I:Inv X pins σ H s)(hg:Gl X x)(hm:X.mg x=none)(hv:bootBuiltins x\u)(h:Q u s)
  (hn:x≠"__name__":=by decide) (hd:(x == ("__debug__":Str))=false:=by decide):wpAny (model X.prog X.w) X.A (eval (.Name x pos) X.env) Q E s:=by
 let#[mb,h1,h2]:=I.mod.blt;exact Calls.Name_function_global I.ok.kind hg (Calls.loadGlobal_builtin (by rw[I.ok.glob];exact I.mod.glob.keeps I.bk) hm (by rw[I.ok.blt];exact h1.keeps I.bk) ((h2 x hn).trans hv) h) hd
theorem CF{x:Str}{v:V}{u:Aa}{pos:Pos}(hg:Gl X x)(hm:X.mg x\u)(r:RelV v u)(hd:(x == ("__debug__":Str))=false:=by decide):PE X (.Name x pos) (tC v):=
 λ_ _ _ H _ I h=>M4 I hg hm #[v,H,I,r,h] hd
theorem gN{x:Str}{v:V}{u:Aa}{pos:Pos}(hg:Gl X x)(hm:X.mg x=none)(hv:bootBuiltins x\u)(r:RelV v u)(hn:x≠"__name__":=by decide)(hd:(x == ("__debug__":Str))=false:=by decide):PE X (.Name x pos) (tC v):=
 λ_ _ _ H _ I h=>wJ I hg hm hv #[v,H,I,r,h] hn hd
variable{a b:Expr}{ta tb:TE}{pos:Pos}
def PC(X:Cx)(op:CmpOp)(a b:Expr)(t:TE):Prop:=
 ∀(pins:List (Addr × Obj)) (s:Ab) (σ:St) (H:Hp) (Q:VK),Inv X pins σ H s->t σ H Q->
  wpAny (model X.prog X.w) X.A (eval a X.env) (λv aL=>wpAny (model X.prog X.w) X.A (eval b X.env) (λu jB=>wpAny (model X.prog X.w) X.A (compareOp op v u) (EP X pins σ Q) X.xe jB) X.xe aL) X.xe s
theorem jH(b:Expr){op:CmpOp}(h:op≠.In)(h2:op≠.NotIn):behindInMarks op b=false:=by
 have e1:(op == CmpOp.In)=false:=by cases op<;>first|rfl|exact absurd U h
 have e2:(op == CmpOp.NotIn)=false:=by cases op<;>first|rfl|exact absurd U h2
 cases b<;>simp[behindInMarks,e1,e2]
def Ko(ta:TE):TE:=λσ H Q=>ta σ H λx H1=>Q (.bl (decide (x=.non))) H1
theorem RelV.sJ{x:V}{v:Aa}(r:RelV x v):(v == Value.none)=decide (x=.non):=by
 cases x with
 |non=>cases r;rfl
 |bl _=>cases r;rfl
 |int _=>let#[t,rfl]:=r;rfl
 |str _=>let#[t,rfl]:=r;rfl
 |byt _=>let#[t,rfl]:=r;rfl
 |flt _=>let#[t,rfl]:=r;rfl
 |ref _=>cases r;rfl
 |ty _=>cases r;rfl
theorem IB{j pos'}(ha:PE X a ta):PC X .Is a (.Constant .none j pos') (Ko ta):=by
 intro pins s σ H Q I h;apply aU (ha pins s σ H _ I h) λv s1 ⟨x,H1,I1,r1,q1⟩=>?_;exact Constant_none (is_none_gen #[.bl _,H1,I1,by rw[r1.sJ];rfl,q1])
inductive Qe (Q:Bool->Hp->Prop) (x:V) (H1:Hp):Prop
 |mk:∀c,x=.bl c->Q c H1->Qe Q x H1
def tB(t:TE):TT:=λσ H Q=>t σ H λx H1=>Qe Q x H1
theorem IC{op:CmpOp}{t:TE}(h:PC X op a b t)(h1:behindInMarks op b=false:=by first|exact jH _ (by decide) (by decide)|rfl):PE X (.Compare a [op] [b] pos) t:=λpins s σ H Q I hw=>wpAny_Compare1 (h pins s σ H Q I hw) h1
theorem qk{op:CmpOp}{t:TE}(h:PC X op a b t)(h1:behindInMarks op b=false:=by first|exact jH _ (by decide) (by decide)|rfl):PT X (.Compare a [op] [b] pos) (tB t):=by
 intro pins s σ H Q I hw;apply wpAny_isTrue_Compare1 (aU (h pins s σ H _ I hw) λv s1 h1=>aU h1 λu s2 h2=>aU h2 λc s3 ⟨x,H1,I1,r1,q1⟩=>?_) h1;let#[d,rfl,q]:=q1;cases r1;exact tR #[H1,I1,q]
theorem d4{e:Expr}{t:TE}(h:PE X e t)(he:∀whole,isTrue e X.env whole=(do let v <- whole;standAt e.pos;holding [v] (truthy v)):=by intro _;rfl):PT X e (tB t):=by
 intro pins s σ H Q I hw;apply isTrue_plain (aU (h pins s σ H _ I hw) λv s1 ⟨x,H1,I1,r1,q1⟩=>?_) (he _);let#[d,rfl,q]:=q1;cases r1;exact tR #[H1,I1,q]
variable{tA G6:TT}{rest:List Expr}
def Kt(t u:TT):TT:=λσ H Q=>t σ H λc H1=>if c=true then u σ H1 Q else Q false H1
def V5(t u:TT):TT:=λσ H Q=>t σ H λc H1=>if c=true then Q true H1 else u σ H1 Q
def Kn(t:TT):TT:=λσ H Q=>t σ H λc H1=>Q (!c) H1
theorem SB(ha:PT X a tA):PW X (.BoolOp .And [a] pos) tA:=by
 intro wh pins s σ H Q I h;apply isTrue_and (aU (ha pins s σ H Q I h) λc s1 e=>?_);cases c with
 |true=>exact isTrue_and_nil e
 |false=>exact e
theorem jZ(ha:PT X a tA):PW X (.BoolOp .Or [a] pos) tA:=by
 intro wh pins s σ H Q I h;apply isTrue_or (aU (ha pins s σ H Q I h) λc s1 e=>?_);cases c with
 |false=>exact isTrue_or_nil e
 |true=>exact e
theorem Q4(ha:PT X a tA)(hb:PW X (.BoolOp .And (b::rest) pos) G6):PW X (.BoolOp .And (a::b::rest) pos) (Kt tA G6):=by
 intro wh pins s σ H Q I h;apply isTrue_and (aU (ha pins s σ H _ I h) λc s1 ⟨H1,I1,q1⟩=>?_);cases c with
 |true=>exact hb wh pins s1 σ H1 Q I1 q1
 |false=>exact#[H1,I1,q1]
theorem iK(ha:PT X a tA)(hb:PW X (.BoolOp .Or (b::rest) pos) G6):PW X (.BoolOp .Or (a::b::rest) pos) (V5 tA G6):=by
 intro wh pins s σ H Q I h;apply isTrue_or (aU (ha pins s σ H _ I h) λc s1 ⟨H1,I1,q1⟩=>?_);cases c with
 |true=>exact#[H1,I1,q1]
 |false=>exact hb wh pins s1 σ H1 Q I1 q1
theorem eM(ha:PT X a tA):PT X (.UnaryOp .Not a pos) (Kn tA):=by
 intro pins s σ H Q I h;exact isTrue_not (ha pins s σ H (λc H1=>Q (!c) H1) I h)
inductive qM (tb:TE) (σ:St) (Q:VK) (x:V) (H1:Hp):Prop
 |mk:∀c,x=.bl c->(if c=true then tb σ H1 Q else Q (.bl false) H1)->qM tb σ Q x H1
def Dx(ta tb:TE):TE:=λσ H Q=>ta σ H λx H1=>qM tb σ Q x H1
inductive xm (tb:TE) (σ:St) (Q:VK) (x:V) (H1:Hp):Prop
 |mk:∀c,x=.bl c->(if c=true then Q (.bl true) H1 else tb σ H1 Q)->xm tb σ Q x H1
def Km(ta tb:TE):TE:=λσ H Q=>ta σ H λx H1=>xm tb σ Q x H1
inductive qG (Q:VK) (x:V) (H1:Hp):Prop
 |mk:∀c,x=.bl c->Q (.bl (!c)) H1->qG Q x H1
def Dp(ta:TE):TE:=λσ H Q=>ta σ H λx H1=>qG Q x H1
theorem pB{op}{t:TE}(h:PE X a t):PE X (.BoolOp op [a] pos) t:=λpins s σ H Q I hw=>BoolOp_one (h pins s σ H Q I hw)
theorem oy(ha:PE X a ta)(hb:PE X (.BoolOp .And (b::rest) pos) tb):PE X (.BoolOp .And (a::b::rest) pos) (Dx ta tb):=by
 intro pins s σ H Q I h;apply BoolOp_and (aU (ha pins s σ H _ I h) λv s1 ⟨x,H1,I1,r1,q1⟩=>?_);let#[c,rfl,q1]:=q1;cases r1;apply tR ?_;cases c with
 |true=>exact hb pins s1 σ H1 Q I1 q1
 |false=>exact#[.bl false,H1,I1,U,q1]
theorem X0(ha:PE X a ta)(hb:PE X (.BoolOp .Or (b::rest) pos) tb):PE X (.BoolOp .Or (a::b::rest) pos) (Km ta tb):=by
 intro pins s σ H Q I h;apply BoolOp_or (aU (ha pins s σ H _ I h) λv s1 ⟨x,H1,I1,r1,q1⟩=>?_);let#[c,rfl,q1]:=q1;cases r1;apply tR ?_;cases c with
 |false=>exact hb pins s1 σ H1 Q I1 q1
 |true=>exact#[.bl true,H1,I1,U,q1]
theorem Mz(ha:PE X a ta):PE X (.UnaryOp .Not a pos) (Dp ta):=by
 intro pins s σ H Q I h;apply UnaryOp_ (aU (ha pins s σ H _ I h) λv s1 ⟨x,H1,I1,r1,q1⟩=>?_);let#[c,rfl,q1]:=q1;cases r1;exact not_of (tR #[.bl (!c),H1,I1,U,q1])
def V6(t:TT)(ta tb:TE):TE:=λσ H Q=>t σ H λc H1=>if c=true then ta σ H1 Q else tb σ H1 Q
theorem _z{c:Expr}(hc:PT X c tA)(ha:PE X a ta)(hb:PE X b tb):PE X (.IfExp c a b pos) (V6 tA ta tb):=by
 intro pins s σ H Q I h;apply wpAny_IfExp (aU (hc pins s σ H _ I h) λd s1 ⟨H1,I1,q1⟩=>?_);cases d with
 |true=>exact ha pins s1 σ H1 Q I1 q1
 |false=>exact hb pins s1 σ H1 Q I1 q1
end
end L2
namespace L2
open PySem PySem.Spec PyProof.Rows
def d6(K:af)(H:Hp)(a:Addr)(xs:ag):Prop:=
 Rd H a (.lst xs) ∨
  ∃(o:Obj) (its:Array Aa) (n:Nat),K.lookup a\o/\o.cls=.type "list"/\o.dict=none/\o.data=.seq its n/\its.size<=sizeLine/\Vals xs its.toList
def fH(K:af)(H:Hp)(a:Addr)(xs:ag):Prop:=
 Rd H a (.tup xs) ∨
  ∃(o:Obj) (its:Array Aa) (n:Nat),K.lookup a\o/\o.cls=.type "tuple"/\o.data=.seq its n/\its.size<=sizeLine/\Vals xs its.toList
def Px:Aa->aE
 |.none=>some .non
 |.bool b=>some (.bl b)
 |.int i _=>some (.int i)
 |.str x _=>some (.str x)
 |.bytes b _=>some (.byt b)
 |.float b _=>some (.flt b)
 |.ref a=>some (.ref a)
 |.type n=>some (.ty n)
 |_=>none
theorem RelV.abs{x:V}{u:Aa}(r:RelV x u):Px u\x:=by
 cases x with
 |non=>cases r;rfl
 |bl _=>cases r;rfl
 |int _=>let#[t,rfl]:=r;rfl
 |str _=>let#[t,rfl]:=r;rfl
 |byt _=>let#[t,rfl]:=r;rfl
 |flt _=>let#[t,rfl]:=r;rfl
 |ref _=>cases r;rfl
 |ty _=>cases r;rfl
theorem RelV.inj{x y:V}{u:Aa}(r:RelV x u)(q:RelV y u):x=y:=dO (r.abs.symm.trans q.abs)
theorem Vals.inj:∀{xs ys:ag} {us:aj},Vals xs us->Vals ys us->xs=ys
 |_,_,_,.nil,.nil=>rfl
 |_,_,_,.cons r t,.cons r' t'=>by rw[r.inj r',Vals.inj t t']
section
variable{X:Cx}{pins:List (Addr × Obj)}{σ:St}{H:Hp}{s:Ab}{a:Addr}{xs ys:ag}
theorem d6.of{K:af}(h:H a\.lst xs):d6 K H a xs:=.inl (.inl h)
theorem fH.of{K:af}(h:H a\.tup xs):fH K H a xs:=.inl (.inl h)
theorem Inv.list(I:Inv X pins σ H s)(h:d6 X.K H a xs):∃its:aj,Vals xs its/\PlainL s.heap a its.toArray/\xs.length<=sizeLine:=by
 rcases h with h|⟨o,its,n,hk,hc,hd,hs,hz,r⟩
 ·let#[z,its,n,r,e]:=h.ok I.aF;exact#[its,r,#[_,n,e,U,U,U],z]
 apply#[its.toList,r,#[o,n,I.gI a o hk,hc,hd,by simpa using hs],?_];let e:=r.length;simp only[uf] at e;omega
theorem Inv.tuple(I:Inv X pins σ H s)(h:fH X.K H a xs):∃its:aj,Vals xs its/\IsTup s.heap a its.toArray/\xs.length<=sizeLine:=by
 rcases h with h|⟨o,its,n,hk,hc,hs,hz,r⟩
 ·let#[z,its,r,p,_]:=h.ok I.aF;exact#[its,r,p,z]
 apply#[its.toList,r,#[o,I.gI a o hk,hc,n,by simpa using hs],?_];let e:=r.length;simp only[uf] at e;omega
theorem Inv.jK(I:Inv X pins σ H s)(h:d6 X.K H a xs)(h':d6 X.K H a ys):xs=ys:=by
 let#[its,r,#[o,n,e,_,_,d],_]:=I.list h;let#[its',r',#[o',n',e',_,_,d'],_]:=I.list h';rw[e] at e';cases e';rw[d] at d'
 injection d' with d1 _
 have:its=its':=⇑(eY Array.toList d1)
 subst this;exact r.inj r'
theorem Inv.dz(I:Inv X pins σ H s)(h:fH X.K H a xs)(h':fH X.K H a ys):xs=ys:=by
 let#[its,r,#[o,e,_,n,d],_]:=I.tuple h;let#[its',r',#[o',e',_,n',d'],_]:=I.tuple h';rw[e] at e';cases e';rw[d] at d'
 injection d' with d1 _
 have:its=its':=⇑(eY Array.toList d1)
 subst this;exact r.inj r'
end
abbrev Cx.ij(X:Cx)(E:Aa->Ab->Prop):Cx:={ X with xe:=E }
abbrev Cx.xO(X:Cx):Cx:=X.ij λ_ _=>False
theorem Cx.Ok.ij{X:Cx}(ok:X.Ok)(E:Aa->Ab->Prop):(X.ij E).Ok:=
 #[ok.mod,ok.kind,ok.glob,ok.blt,ok.above,ok.inj,ok.has,ok.CI,ok.hd,ok.frames,ok.G7,ok.IH,ok.bs,ok.tW,ok.sM,ok.tL,ok.fW,ok.wk]
theorem Cx.Ok.eR{X:Cx}{E:Aa->Ab->Prop}(ok:(X.ij E).Ok):X.Ok:=
 #[ok.mod,ok.kind,ok.glob,ok.blt,ok.above,ok.inj,ok.has,ok.CI,ok.hd,ok.frames,ok.G7,ok.IH,ok.bs,ok.tW,ok.sM,ok.tL,ok.fW,ok.wk]
section
variable{X:Cx}{pins:List (Addr × Obj)}{σ:St}{H:Hp}{s:Ab}{E:Aa->Ab->Prop}
theorem Inv.ij(I:Inv X pins σ H s)(E:Aa->Ab->Prop):Inv (X.ij E) pins σ H s:=#[I.ok.ij E,I.os,I.bare,I.base,I.loc,I.cell,I.free,I.eI,I.pin,I.aF,I.len]
theorem Inv.eR(I:Inv (X.ij E) pins σ H s):Inv X pins σ H s:=#[I.ok.eR,I.os,I.bare,I.base,I.loc,I.cell,I.free,I.eI,I.pin,I.aF,I.len]
theorem SP.eR{D:Ends}{f:Flow}{s':Ab}(h:SP (X.ij E) pins D f s'):SP X pins D f s':=by
 cases f with
 |next=>let#[bf,H',I,q]:=h;exact#[bf,H',I.eR,q]
 |brk=>let#[bf,H',I,q]:=h;exact#[bf,H',I.eR,q]
 |cont=>let#[bf,H',I,q]:=h;exact#[bf,H',I.eR,q]
 |ret u=>let#[v,bf,H',I,r,q]:=h;exact#[v,bf,H',I.eR,r,q]
theorem km.xO{st:List Stmt}{t:TS}(h:km X.xO st t):km X st t:=λpins s σ H D I hw=>
 wpAny_mono (h pins s σ H D (I.ij _) hw) (λ_ _ q=>q.eR) λ_ _ z=>False.elim z
end
section
variable{X:Cx}{st:Stmt}{rest:List Stmt}{t u:TS}{e:Expr}{te:TE}{pos:Pos}
def Dq:TS:=λD σ H=>D.nx σ H
def qE(t u:TS):TS:=λD σ H=>t { D with nx:=u D } σ H
theorem cm:km X [] Dq:=λ_ _ σ H _ I h=>wpAny_execs_nil #[σ,H,I,h]
theorem ax(h1:PS X st t)(h2:km X rest u):km X (st::rest) (qE t u):=by
 intro pins s σ H D I h;apply wpAny_execs_cons (aU (h1 pins s σ H { D with nx:=u D } I h) λf s1 q=>?_);cases f with
 |next=>
  let#[bf,H',I',q]:=q;exact h2 pins s1 bf H' D I' q
 |ret v=>exact q
 |brk=>exact q
 |cont=>exact q
theorem aJ(h1:PS X st t):km X [st] t:=by
 intro pins s σ H D I h;apply wpAny_execs_cons (aU (h1 pins s σ H D I h) λf s1 q=>?_);cases f with
 |next=>exact wpAny_execs_nil q
 |ret v=>exact q
 |brk=>exact q
 |cont=>exact q
theorem Inv.quiet{pins:List (Addr × Obj)}{σ:St}{H:Hp}{s:Ab}(I:Inv X pins σ H s):interactive X.env=false:=by simp[interactive,I.ok.kind]
def xq(te:TE):TS:=λD σ H=>te σ H λ_ H1=>D.nx σ H1
theorem j9(he:PE X e te)(hs:swapsWith e none pos.line X.env=pure false:=by rfl):PS X (.Expr e pos) (xq te):=by
 intro pins s σ H D I h;exact wpAny_Expr_any (aU (he pins s σ H _ I h) λv s1 ⟨x,H1,I1,r1,q1⟩=>#[σ,H1,I1,q1]) I.quiet hs
def Kl(te:TE):TS:=λD σ H=>te σ H D.rt
theorem bp(he:PE X e te):PS X (.Return (some e) pos) (Kl te):=by
 intro pins s σ H D I h;exact wpAny_Return_some (aU (he pins s σ H _ I h) λv s1 ⟨x,H1,I1,r1,q1⟩=>#[x,σ,H1,I1,r1,q1])
def Kq(c:TT)(t u:TS):TS:=λD σ H=>c σ H λb H1=>if b=true then t D σ H1 else u D σ H1
theorem b_{c:Expr}{a b:List Stmt}{tc:TT}(hc:PT X c tc)(ha:km X a t)(hb:km X b u):PS X (.If c a b pos) (Kq tc t u):=by
 intro pins s σ H D I h;apply wpAny_If (aU (hc pins s σ H _ I h) λd s1 ⟨H1,I1,q1⟩=>?_);cases d with
 |true=>exact ha pins s1 σ H1 D I1 q1
 |false=>exact hb pins s1 σ H1 D I1 q1
def y6:TS:=λ_ _ _=>False
theorem gC{Wa:List Stmt}:km X Wa y6:=λ_ _ _ _ _ _ h=>h.elim
end
abbrev TG:=V->St->Hp->(St->Hp->Prop)->Prop
abbrev BL:=ag->St->Hp->(St->Hp->Prop)->Prop
def PG(X:Cx)(target:Expr)(t:TG):Prop:=
 ∀(pins:List (Addr × Obj)) (s:Ab) (σ:St) (H:Hp) (v:V) (u:Aa) (Q:kq),Inv X pins σ H s->RelV v u->t v σ H Q->
  wpAny (model X.prog X.w) X.A (assign target X.env u) (λ_ s'=>∃bf H',Inv X pins bf H' s'/\Q bf H') X.xe s
def GP(X:Cx)(ts:List Expr)(t:BL):Prop:=
 ∀(pins:List (Addr × Obj)) (s:Ab) (σ:St) (H:Hp) (vs:ag) (us:aj) (Q:kq),Inv X pins σ H s->Vals vs us->t vs σ H Q->
  wpAny (model X.prog X.w) X.A (assignInOrder ((assignEach ts X.env).map (·.2)) us) (λ_ s'=>∃bf H',Inv X pins bf H' s'/\Q bf H') X.xe s
abbrev BK:=V->V->V->Hp->(Hp->Prop)->Prop
def GO(X:Cx)(t:BK):Prop:=
 ∀(pins:List (Addr × Obj)) (s:Ab) (σ:St) (H:Hp) (o i v:V) (ov iv u:Aa) (Q:Hp->Prop),Inv X pins σ H s->RelV o ov->RelV i iv->RelV v u->t o i v H Q->
  wpAny (model X.prog X.w) X.A (setItem ov iv u) (λ_ s'=>∃H',Inv X pins σ H' s'/\Q H') X.xe s
section
variable{X:Cx}{pos:Pos}
def jx(i:Nat):TG:=λv σ H Q=>Q (σ.set i (some v)) H
theorem fu{i:Nat}{x:Str}(hN:X.N.Nodup)(hi:X.N[i]? = some x)(hx:Loc X.env.scope x)(hf:X.fn x=true∨X.env.scope.names.lookup x\.local:=by first|exact .inl U|exact .inr U|assumption):PG X (.Name x pos) (jx i):=by
 intro pins s σ H v u Q I r h;exact wpAny_assign_Name (S6 I hN hi hx r (λs' I'=>#[_,H,I',h]) hf)
theorem gE:type_of% PyProof.Rows.Boot.«isinstance»:=PyProof.Rows.Boot.«isinstance»
theorem FJ:type_of% PyProof.Rows.Boot.«int»:=PyProof.Rows.Boot.«int»
theorem M5:type_of% PyProof.Rows.Boot.«bool»:=PyProof.Rows.Boot.«bool»
theorem Iu:type_of% PyProof.Rows.Boot.«str»:=PyProof.Rows.Boot.«str»
theorem oC:type_of% PyProof.Rows.Boot.«tuple»:=PyProof.Rows.Boot.«tuple»
theorem qf:type_of% PyProof.Rows.Boot.«list»:=PyProof.Rows.Boot.«list»
theorem JJ:type_of% PyProof.Rows.Boot.«sorted»:=PyProof.Rows.Boot.«sorted»
theorem qg:type_of% PyProof.Rows.Boot.«dict»:=PyProof.Rows.Boot.«dict»
theorem Qo(i:Nat){x:Str}(hN:X.N.Nodup:=by first|(show ([_]:List Str).Nodup;decide +kernel)|(show ([_,_]:List Str).Nodup;decide +kernel)|(show ([_,_,_]:List Str).Nodup;decide +kernel)|(show ([_,_,_,_]:List Str).Nodup;decide +kernel))(hi:X.N[i]? = some x:=by rfl)(hx:Loc X.env.scope x:=by first|exact Or.inl U|exact Or.inr U)(hf:X.fn x=true∨X.env.scope.names.lookup x\.local:=by first|exact .inl U|exact .inr U|assumption):PG X (.Name x pos) (jx i):=fu hN hi hx hf
theorem bX(i:Nat){x:Str}(hN:X.N.Nodup)(hi:X.N[i]? = some x:=by rfl)(hx:Loc X.env.scope x:=by first|exact Or.inl U|exact Or.inr U)(hf:X.fn x=true∨X.env.scope.names.lookup x\.local:=by first|exact .inl U|exact .inr U|assumption):PG X (.Name x pos) (jx i):=fu hN hi hx hf
def tJ:BL:=λvs σ H Q=>vs=[]/\Q σ H
inductive qa (t:TG) (u:BL) (vs:ag) (σ:St) (H:Hp) (Q:kq):Prop
 |mk:∀v r,vs=v::r->(t v σ H λbf H'=>u r bf H' Q)->qa t u vs σ H Q
theorem hW:GP X [] tJ:=by
 intro pins s σ H vs us Q I r h;let#[e,h]:=h;subst e;cases r;exact assignInOrder_nil ⟨σ,H,I,h⟩
theorem di{e:Expr}{es:List Expr}{t:TG}{u:BL}(h1:PG X e t)(h2:GP X es u)
  (hs:(assignEach (e::es) X.env).map (·.2)=assign e X.env::(assignEach es X.env).map (·.2):=by rfl):GP X (e::es) (qa t u):=by
 intro pins s σ H vs us Q I r h;let#[v,vr,e1,h]:=h;subst e1;cases r with
 |cons r rr=>
  rw[hs];apply assignInOrder_cons (aU (h1 pins s σ H _ _ _ I r h) λ_ s1 ⟨mU,H1,I1,q1⟩=>?_);exact h2 pins s1 mU H1 _ _ Q I1 rr q1
inductive gi (K:af) (n:Nat) (t:BL) (v:V) (σ:St) (H:Hp) (Q:kq):Prop
 |mk:∀a xs,v=.ref a->fH K H a xs->xs.length=n->t xs σ H Q->gi K n t v σ H Q
theorem jv{es:List Expr}{k:Nat}{t:BL}{n:Nat}(hc:X.calm=true)(h:GP X es t)
  (hn:(assignEach es X.env).length=n:=by rfl) (AA:(assignEach es X.env).findIdx? (·.1)=none:=by rfl):PG X (.Tuple es k pos) (gi X.K n t):=by
 intro pins s σ H v u Q I r hw;let#[a,xs,e1,hq,hl,hw]:=hw;subst e1;cases r;let#[its,rv,ht,hz]:=I.tuple hq;apply assign_Tuple_tuple (I.ok.hd hc) ht (by simp[hn,<- hl,rv.length]) AA λh' hx=>?_;have I1:Inv X pins σ H { s with heap:=h' }:=I.kept (t':=s.toks) λb o e=>hx b o (dH (bK e)) e;exact h pins _ σ H xs _ Q I1 ⇑rv hw
def MD(to ti:TE)(t:BK):TG:=λv σ H Q=>to σ H λo H1=>ti σ H1 λi H2=>t o i v H2 λH3=>Q σ H3
theorem Ro{o i:Expr}{to ti:TE}{t:BK}(ho:PE X o to)(hi:PE X i ti)(hs:GO X t)
  (ha:∀v,assign (.Subscript o i pos) X.env v=(do
   let ov <- holding [v] (eval o X.env)
   let iv <- holding [v,ov] (eval i X.env)
   standAt pos
   holding [v,ov,iv] (setItem ov iv v)
   release [v,ov,iv] []):=by intro _;rfl):PG X (.Subscript o i pos) (MD to ti t):=by
 intro pins s σ H v u Q I r h;rw[ha];apply ai (gR (aU (ho pins s σ H _ I h) λov s1 ⟨x,H1,I1,r1,q1⟩=>?_));apply ai (gR (aU (hi pins s1 σ H1 _ I1 q1) λiv s2 ⟨y,H2,I2,r2,q2⟩=>?_));apply ai (wpAny_standAt (ai (gR (aU (hs pins s2 σ H2 x y v ov iv u _ I2 r1 r2 r q2) λ_ s3 ⟨H3,I3,q3⟩=>?_))));exact wpAny_release #[σ,H3,I3,q3]
def vz(te:TE)(g:TG):TS:=λD σ H=>te σ H λx H1=>g x σ H1 D.nx
theorem Br{tg e:Expr}{te:TE}{g:TG}(he:PE X e te)(hg:PG X tg g)(hs:swapsWithSole [tg] e pos.line X.env=pure false:=by rfl)(hw:swappedStores [tg] e X.env=pure none:=by rfl)
  (h1:(assignEach [tg] X.env).map (·.2)=[assign tg X.env]:=by rfl):PS X (.Assign [tg] e pos) (vz te g):=by
 intro pins s σ H D I h;apply wpAny_Assign_stores (aU (he pins s σ H _ I h) λv s1 ⟨x,H1,I1,r1,q1⟩=>?_) hs hw;rw[h1];exact aU (hg pins s1 σ H1 x v _ I1 r1 q1) λ_ s2 q=>q
theorem Q9{i:Nat}{x:Str}{e:Expr}{te:TE}{pos':Pos}(hN:X.N.Nodup)(hi:X.N[i]? = some x)(hx:Loc X.env.scope x)(he:PE X e te)(hs:swapsWith e (some (.Name x pos')) pos.line X.env=pure false:=by rfl)(hf:X.fn x=true∨X.env.scope.names.lookup x\.local:=by first|exact .inl U|exact .inr U|assumption) :
  PS X (.Assign [.Name x pos'] e pos) (vz te (jx i)):=by
 intro pins s σ H D I h;apply wpAny_Assign_Name (aU (he pins s σ H _ I h) λv s1 ⟨y,H1,I1,r1,q1⟩=>?_) hs;exact S6 I1 hN hi hx r1 (λs2 I2=>#[_,H1,I2,q1]) hf
theorem bw(i:Nat){x:Str}{e:Expr}{te:TE}{pos':Pos}(hN:X.N.Nodup)(he:PE X e te)(hi:X.N[i]? = some x:=by rfl)(hx:Loc X.env.scope x:=by first|exact Or.inl U|exact Or.inr U)(hs:swapsWith e (some (.Name x pos')) pos.line X.env=pure false:=by rfl)(hf:X.fn x=true∨X.env.scope.names.lookup x\.local:=by first|exact .inl U|exact .inr U|assumption):PS X (.Assign [.Name x pos'] e pos) (vz te (jx i)):=Q9 hN hi hx he hs hf
end
section
variable{X:Cx}{pos:Pos}
def qz(c:TT)(tb:TS):TS:=λD σ H=>∃W:Nat->St->Hp->Prop,(∃m,W m σ H)/\∀m σ H,W m σ H->
 c σ H λb H1=>if b=true then ∃N:St->Hp->Prop,(∀bf H',N bf H'->∃m',m'<m/\W m' bf H')/\tb { D with nx:=N,ct:=N,bk:=D.nx } σ H1 else D.nx σ H1
theorem Tn{c:Expr}{body:List Stmt}{tc:TT}{tb:TS}(hp:PassesOwn (model X.prog X.w) X.A X.env X.xe)(hc:PT X c tc)(hb:km X body tb):PS X (.While c body [] pos) (qz tc tb):=by
 intro pins s σ H D I h;let#[W,#[m0,w0],turn]:=h;apply wpAny_While (codeAny_whileLoop (λn s'=>∃bf H',Inv X pins bf H' s'/\W n bf H') ?_ m0 #[σ,H,I,w0]);rintro n s1 ⟨mU,H1,I1,w1⟩;apply wpAny_passesOwn hp (aU (hc pins s1 mU H1 _ I1 (turn n mU H1 w1)) λb s2 ⟨H2,I2,q2⟩=>?_);cases b with
 |true=>
  let#[N,hN,q2]:=q2;rw[aK U];apply wpAny_passesOwn hp (aU (hb pins s2 mU H2 _ I2 q2) λf s3 q3=>?_);cases f with
  |next=>
   let#[kF,H3,I3,n3]:=q3;let#[m',hm,w3]:=hN kF H3 n3;exact#[m',hm,kF,H3,I3,w3]
  |cont=>
   let#[kF,H3,I3,n3]:=q3;let#[m',hm,w3]:=hN kF H3 n3;exact#[m',hm,kF,H3,I3,w3]
  |brk=>exact q3
  |ret v=>exact q3
 |false=>
  rw[aD gr];exact wpAny_execs_nil #[mU,H2,I2,q2]
end
structure It where
 go:Nat->Hp->Prop
 vq:Nat->Hp->V->Hp->Prop
 stop:Nat->Hp->Prop
def du(X:Cx)(pins:List (Addr × Obj))(H:Hp)(b:Addr):Prop:=
 H b=none/\b≠X.env.locals/\b∉X.fs/\(b∈X.ex∨X.dk.heap.objs.size<=b)/\(∀x c,X.env.cells.lookup x\c->c≠b)/\∀p∈X.pn++pins,p.1≠b
theorem Inv.i5{X:Cx}{pins:List (Addr × Obj)}{σ:St}{H H':Hp}{s:Ab}{b:Addr}(I:Inv X pins σ H s)(hb:s.heap.objs.size<=b)(hn:H' b=none):du X pins H' b:=by
 apply#[hn,jf (jA I.lt hb),I.KS hb,.inr (ic I.sz hb),λx c e z=>?_,λp hp z=>?_]
 ·let#[v,q]:=I.cell x c e;exact absurd (jA q.lt (by rw[z];exact hb)) (uh _)
 exact absurd (jA (bK (I.pin p hp).1) (by rw[z];exact hb)) (uh _)
structure Turn (P:Ad) (w:Af) (K:af) (tg:Expr) (J:It) (fp:av) (it:Addr) (tn:Nat->Heap->Prop):Prop where
 mem:it∈fp
 obj:∀i h,tn i h->∀b∈fp,∃o,h.get? b\o/\∀v,o.data≠.cell v
 keep:∀i h h',tn i h->(∀b∈fp,∀o,h.get? b\o->h'.get? b\o)->tn i h'
 item:∀(X:Cx),X.prog=P->X.w=w->X.K=K->X.calm=true->∀(i:Nat) (pins:List (Addr × Obj)) (s:Ab) (σ:St) (H:Hp) (E:Aa->Ab->Prop),Inv X pins σ H s->(∀b∈fp,du X pins H b)->tn i s.heap->J.go i H->
  wpAny (model P w) X.A (pyNext (.ref it)) (λr s1=>∃u,r\u /\
   wpAny (model P w) X.A (letOwnedTupleGo tg (.ref it) u) (λ_ s2=>∃x H',Inv X pins σ H' s2/\RelV x u/\J.vq i H x H'/\tn (i+1) s2.heap/\∀b∈fp,H' b=none) E s1) E s
 done:∀(X:Cx),X.prog=P->X.w=w->X.K=K->X.calm=true->∀(i:Nat) (pins:List (Addr × Obj)) (s:Ab) (σ:St) (H:Hp) (E:Aa->Ab->Prop),Inv X pins σ H s->(∀b∈fp,du X pins H b)->tn i s.heap->J.stop i H->
  wpAny (model P w) X.A (pyNext (.ref it)) (λr s1=>r=none/\Inv X pins σ H s1) E s
 self:∀(A:Ag) (i:Nat) (s:Ab) (Q:Aa->Ab->Prop) (E:Aa->Ab->Prop),tn i s.heap->Q (.ref it) s->wpAny (model P w) A (pyIter (.ref it)) Q E s
abbrev TI:=St->Hp->(It->Hp->Prop)->Prop
def Vf(X:Cx)(pins:List (Addr × Obj))(σ:St)(tg:Expr)(R:It->Hp->Prop)(HQ:Aa)(s2:Ab):Prop:=
 ∃(it:Addr) (fp:av) (tn:Nat->Heap->Prop) (J:It) (H':Hp),HQ=.ref it/\Inv X pins σ H' s2/\Turn X.prog X.w X.K tg J fp it tn/\tn 0 s2.heap/\(∀b∈fp,du X pins H' b)/\R J H'
def PI(X:Cx)(tg iter:Expr)(wi:TI):Prop:=
 ∀(pins:List (Addr × Obj)) (s:Ab) (σ:St) (H:Hp) (R:It->Hp->Prop),Inv X pins σ H s->wi σ H R->
  wpAny (model X.prog X.w) X.A (eval iter X.env) (λv s1=>wpAny (model X.prog X.w) X.A (pyIter v) (Vf X pins σ tg R) X.xe s1) X.xe s
theorem Fw{M:Model}{A:Ag}{E:Aa->Ab->Prop}{s:Ab}{tg:Expr}{it:Addr}{u:Aa}{o:Obj}{n:String}{vs:Array Aa}{Q:Unit->Ab->Prop}(ho:s.heap.get? it\o)(hc:o.cls=.type n)(hd:o.data=.fields vs)
  (hn:["enumerate","zip","dict_itemiterator","dict_reverseitemiterator","odict_iterator","itertools.zip_longest","itertools.pairwise"].contains n=false) (hQ:Q () s):wpAny M A (letOwnedTupleGo tg (.ref it) u) Q E s:=by
 unfold letOwnedTupleGo
 cases tg<;>first
  |exact aI hQ
  |(cases u<;>first
    |exact aI hQ
    |(apply ai (wpAny_load ho ?_)
      rw[hc,hd];show wpAny M A (if (["enumerate","zip","dict_itemiterator","dict_reverseitemiterator","odict_iterator","itertools.zip_longest","itertools.pairwise"].contains n&&vs[0]? == some (rawInt _))=true then _ else _) Q E s;rw[aD (by intro h;rw[hn,Bool.false_and] at h;cases h)];exact aI hQ))
def yT(K:af)(a:Addr):It:=
 ⟨λi H=>∃xs x,d6 K H a xs/\xs[i]? = some x,λi H x H'=>H'=H/\∀xs,d6 K H a xs->xs[i]? = some x,λi H=>∃xs,d6 K H a xs/\xs.length<=i⟩
def PL(K:af)(a:Addr):It:=
 ⟨λi H=>∃xs x,fH K H a xs/\xs[i]? = some x,λi H x H'=>H'=H/\∀xs,fH K H a xs->xs[i]? = some x,λi H=>∃xs,fH K H a xs/\xs.length<=i⟩
def BM(lo:Int)(n:Nat):It:=⟨λi _=>i<n,λi H x H'=>H'=H/\x=.int (lo+i),λi _=>n<=i⟩
theorem h2_{P:Ad}{w:Af}{K:af}{tg:Expr}(a it:Addr):Turn P w K tg (yT K a) [it] it (λi h=>h.IsListIter it a i) where
 mem:=by simp
 obj:=λi h st b hb=>by
  have e:b=it:=⇑hb
  subst e;let#[o,e,c,d]:=st;exact#[o,e,λv z=>by rw[d] at z;cases z]
 keep:=λi h h' st k=>st.at λo e=>k it Y1 o e
 item:=by
  intro X hP hw hK hc i pins s σ H E I hf st hg;subst hP hw hK;let#[xs,x,hq,hx]:=hg;let#[its,rv,p,hz]:=I.list hq;let#[u,hu,ru]:=rv.get hx;let#[f0,f1,f2,f3,f4,f5]:=hf it Y1;apply wpAny_pyNext_list_item st p.isList (x:=u) ⇑hu λh' dY sb=>?_;have I1:Inv X pins σ H { s with heap:=h' }:=I.turned (t':=s.toks) (λb o hb e=>(sb.2 b hb).trans e) f0 f1 f3 f4 f5;let#[o,e,c,d]:=id dY;exact#[u,U,Fw (s:={ s with heap:=h' }) e c d (by decide) #[x,H,I1,ru,#[U,λys hy=>by rw[I.jK hy hq];exact hx],dY,λb hb=>(hf b hb).1]]
 done:=by
  intro X hP hw hK hc i pins s σ H E I hf st hg;subst hP hw hK;let#[xs,hq,hx]:=hg;let#[its,rv,p,hz]:=I.list hq;let#[f0,f1,f2,f3,f4,f5]:=hf it Y1;let hl:=rv.length;exact wpAny_pyNext_list_end (I.ok.hd hc) st p.isList (by simp;omega) λh' eb=>#[U,I.turned (t':=s.toks) (λb o hb e=>eb b o hb e) f0 f1 f3 f4 f5]
 self:=λ_ _ _ _ _ st h=>wpAny_pyIter_listiter st h
theorem fW_{P:Ad}{w:Af}{K:af}{tg:Expr}(a it:Addr):Turn P w K tg (PL K a) [it] it (λi h=>h.IsTupleIter it a i) where
 mem:=by simp
 obj:=λi h st b hb=>by
  have e:b=it:=⇑hb
  subst e;let#[o,e,c,d]:=st;exact#[o,e,λv z=>by rw[d] at z;cases z]
 keep:=λi h h' st k=>st.at λo e=>k it Y1 o e
 item:=by
  intro X hP hw hK hc i pins s σ H E I hf st hg;subst hP hw hK;let#[xs,x,hq,hx]:=hg;let#[its,rv,p,hz]:=I.tuple hq;let#[u,hu,ru]:=rv.get hx;let#[f0,f1,f2,f3,f4,f5]:=hf it Y1;apply wpAny_pyNext_tuple_item st (show s.heap.IsTuple a its.toArray from p) (x:=u) ⇑hu λh' dY sb=>?_;have I1:Inv X pins σ H { s with heap:=h' }:=I.turned (t':=s.toks) (λb o hb e=>(sb.2 b hb).trans e) f0 f1 f3 f4 f5;let#[o,e,c,d]:=id dY;exact#[u,U,Fw (s:={ s with heap:=h' }) e c d (by decide) #[x,H,I1,ru,#[U,λys hy=>by rw[I.dz hy hq];exact hx],dY,λb hb=>(hf b hb).1]]
 done:=by
  intro X hP hw hK hc i pins s σ H E I hf st hg;subst hP hw hK;let#[xs,hq,hx]:=hg;let#[its,rv,p,hz]:=I.tuple hq;let#[f0,f1,f2,f3,f4,f5]:=hf it Y1;let hl:=rv.length;exact wpAny_pyNext_tuple_end (I.ok.hd hc) st (show s.heap.IsTuple a its.toArray from p) (by simp;omega) λh' eb=>#[U,I.turned (t':=s.toks) (λb o hb e=>eb b o hb e) f0 f1 f3 f4 f5]
 self:=λ_ _ _ _ _ st h=>wpAny_pyIter_tupleiter st h
theorem fB_{P:Ad}{w:Af}{K:af}{tg:Expr}(it:Addr)(lo:Int)(n:Nat):Turn P w K tg (BM lo n) [it] it (λi h=>IsRangeIter h it (lo+(i:Nat) * 1) ((n:Int) - (i:Nat)) 1) where
 mem:=by simp
 obj:=λi h st b hb=>by
  have e:b=it:=⇑hb
  subst e
  exact#[_,st,λv z=>by
   have z':Data.fields _=Data.cell v:=z;cases z']
 keep:=λi h h' st k=>k it Y1 _ st
 item:=by
  intro X hP hw hK hc i pins s σ H E I hf st hg;subst hP hw hK;let#[f0,f1,f2,f3,f4,f5]:=hf it Y1;let W:=Walks.range (prog:=X.prog) (w:=X.w) (I.ok.hd hc) it lo 1 n;apply W.item i s _ _ hg st λv h' tk hv dY kk=>?_;let#[t,rfl]:=hv;have I1:Inv X pins σ H { s with heap:=h',toks:=tk }:=I.turned (λb o hb e=>kk b o ⇑hb e) f0 f1 f3 f4 f5;apply#[_,U,Fw (s:={ s with heap:=h',toks:=tk }) (n:="range_iterator") dY U U (by decide) #[.int (lo+i),H,I1,#[t,?_],#[U,U],dY,λb hb=>(hf b hb).1]];rw[Int.mul_one]
 done:=by
  intro X hP hw hK hc i pins s σ H E I hf st hg;subst hP hw hK;let#[f0,f1,f2,f3,f4,f5]:=hf it Y1;exact wpAny_pyNext_range_end (I.ok.hd hc) st (by have:n<=i:=hg;omega) λh' eb=>#[U,I.turned (t':=s.toks) (λb o hb e=>eb b o hb e) f0 f1 f3 f4 f5]
 self:=λ_ _ _ _ _ st h=>wpAny_pyIter_rangeiter st h
end L2
namespace L2
open PySem PySem.Spec PyProof.Rows
section
variable{X:Cx}{tg:Expr}
inductive sU (K:af) (R:It->Hp->Prop) (x:V) (H1:Hp):Prop
 |mk:∀a,x=.ref a->(∃xs,d6 K H1 a xs)->R (yT K a) H1->sU K R x H1
def Ey(K:af)(tl:TE):TI:=λσ H R=>tl σ H λx H1=>sU K R x H1
inductive xW (K:af) (R:It->Hp->Prop) (x:V) (H1:Hp):Prop
 |mk:∀a,x=.ref a->(∃xs,fH K H1 a xs)->R (PL K a) H1->xW K R x H1
def Lq(K:af)(tl:TE):TI:=λσ H R=>tl σ H λx H1=>xW K R x H1
theorem d5{l:Expr}{tl:TE}(hl:PE X l tl):PI X tg l (Ey X.K tl):=by
 intro pins s σ H R I h;apply aU (hl pins s σ H _ I h) λv s1 ⟨x,H1,I1,r1,q1⟩=>?_;let#[a,e,#[xs,hq],q]:=q1;subst e;cases r1;let#[its,rv,p,hz]:=I1.list hq;apply wpAny_pyIter_list p.isList ?_;apply#[s1.heap.objs.size,[s1.heap.objs.size],_,_,H1,U,I1.kept (t':=s1.toks) λb o e=>bo _ e,h2_ a _,#[_,dq _ U,U,U],λb hb=>?_,q];have e:b=s1.heap.objs.size:=⇑hb
 subst e;exact I1.i5 (a9 _) (I1.aF.fresh (a9 _))
theorem Q6{l:Expr}{tl:TE}(hl:PE X l tl):PI X tg l (Lq X.K tl):=by
 intro pins s σ H R I h;apply aU (hl pins s σ H _ I h) λv s1 ⟨x,H1,I1,r1,q1⟩=>?_;let#[a,e,#[xs,hq],q]:=q1;subst e;cases r1;let#[its,rv,p,hz]:=I1.tuple hq;apply wpAny_pyIter_tuple (show s1.heap.IsTuple a its.toArray from p) ?_;apply#[s1.heap.objs.size,[s1.heap.objs.size],_,_,H1,U,I1.kept (t':=s1.toks) λb o e=>bo _ e,fW_ a _,#[_,dq _ U,U,U],λb hb=>?_,q];have e:b=s1.heap.objs.size:=⇑hb
 subst e;exact I1.i5 (a9 _) (I1.aF.fresh (a9 _))
theorem _o{pins:List (Addr × Obj)}{σ:St}{H:Hp}{s:Ab}{R:It->Hp->Prop}{E:Aa->Ab->Prop}{lo hi:Int}{t u v:Tok}{tk:Nat}(I:Inv X pins σ H s)(h1:-(2 ^ 62)<=lo)(h2:lo<2 ^ 62)(h3:-(2 ^ 62)<=hi)(h4:hi<2 ^ 62)
  (q:R (BM lo (hi - lo).toNat) H):wpAny (model X.prog X.w) X.A (pyIter (.ref s.heap.objs.size)) (Vf X pins σ tg R) E { s with heap:=s.heap.push { cls:=.type "range",data:=.fields (List.toArray [.int lo t,.int hi u,.int 1 v]) },toks:=tk }:=by
 apply wpAny_pyIter_range (IsRange.new ..) (small_one h1 h2 h3 h4) ?_;have I1:Inv X pins σ H { s with heap:=s.heap.push { cls:=.type "range",data:=.fields (List.toArray [.int lo t,.int hi u,.int 1 v]) },toks:=tk }:=I.kept λb o e=>bo _ e
 apply#[(s.heap.push { cls:=.type "range",data:=.fields (List.toArray [.int lo t,.int hi u,.int 1 v]) }).objs.size,[(s.heap.push { cls:=.type "range",data:=.fields (List.toArray [.int lo t,.int hi u,.int 1 v]) }).objs.size],_,_,H,U,
  I1.kept (t':=tk) λb o e=>bo _ e,fB_ _ lo (hi - lo).toNat,?_,λb hb=>?_,q]
 ·have e1:lo+((0:Nat):Int) * 1=lo:=by simp
  have e2:(((hi - lo).toNat:Nat):Int) - ((0:Nat):Int)=Builtin.Range.rangeSize lo hi 1:=by rw[rangeSize_one];split<;>omega
  show IsRangeIter _ _ (lo+((0:Nat):Int) * 1) ((((hi - lo).toNat:Nat):Int) - ((0:Nat):Int)) 1;rw[e1,e2];exact dq _ U
 have e:b=(s.heap.push { cls:=.type "range",data:=.fields (List.toArray [.int lo t,.int hi u,.int 1 v]) }).objs.size:=⇑hb
 subst e;exact I1.i5 (a9 _) (I1.aF.fresh (a9 _))
inductive sT (R:It->Hp->Prop) (vs:ag) (H1:Hp):Prop
 |mk:∀j:Int,vs=[.int j]->-(2 ^ 62)<=j->j<2 ^ 62->R (BM 0 j.toNat) H1->sT R vs H1
def Ex(ta:TA):TI:=λσ H R=>ta σ H λvs H1=>sT R vs H1
theorem qq{a:Expr}{ta:TA}{p pos:Pos}(hg:Gl X "range")(hm:X.mg "range"=none)(ha:PA X [a] ta)(hs:starEach [a] X.env=[(false,eval a X.env)]:=by rfl):PI X tg (.Call (.Name "range" p) [a] [] pos) (Ex ta):=by
 intro pins s σ H R I h;apply Call_ (wJ I hg hm boot_range (CJ (aU (ha pos pins s σ H _ I h) λus s1 ⟨vs,H1,I1,r1,q1⟩=>?_) hs U));let#[j,e,q1,q2,q]:=q1;subst e;cases r1 with
 |cons r rr=>
  cases rr;let#[t,rfl]:=r;exact call_range_1 (_o I1 Y0 Y0 q1 q2 ⇑q)
def Kr(wi:TI)(g:TG)(tb:TS):TS:=λD σ H=>wi σ H λJ H1=>∃W:Nat->Nat->St->Hp->Prop,(∃m,W 0 m σ H1)/\∀i m σ H,W i m σ H->
 (J.stop i H/\D.nx σ H)∨(J.go i H/\∃N:St->Hp->Prop,(∀bf H',N bf H'->∃m',m'<m/\W (i+1) m' bf H')/\∀x H',J.vq i H x H'->g x σ H' λgc H2=>tb { D with nx:=N,ct:=N,bk:=D.nx } gc H2)
def wW(fp:av)(h:Heap):List (Addr × Obj):=fp.filterMap λb=>(h.get? b).map λo=>(b,o)
theorem JN{fp:av}{h:Heap}{b:Addr}{o:Obj}(hb:b∈fp)(e:h.get? b\o):(b,o)∈wW fp h:=yO.mpr #[b,hb,by rw[e];rfl]
theorem gN_{fp:av}{h:Heap}{p:Addr × Obj}(hp:p∈wW fp h):p.1∈fp/\h.get? p.1\p.2:=by
 let#[b,hb,e]:=yO.mp hp;cases q:h.get? b with
 |none=>rw[q] at e;cases e
 |some o=>
  rw[q] at e;have e':(b,o)=p:=dO e;subst e';exact#[hb,q]
theorem Inv.pinned{pins:List (Addr × Obj)}{σ:St}{H:Hp}{s:Ab}{fp:av}(I:Inv X pins σ H s)(hf:∀b∈fp,du X pins H b)(ho:∀b∈fp,∃o,s.heap.get? b\o/\∀v,o.data≠.cell v):Inv X (pins++wW fp s.heap) σ H s:=
 I.nQ λp hp=>(dE.mp hp).elim (λz=>I.pin p (kg _ z)) λz=>by
  let#[hb,e]:=gN_ z;let#[f0,f1,f2,_]:=hf p.1 hb;let#[o,e',d]:=ho p.1 hb;rw[e] at e';cases e';exact#[e,f0,f1,f2,d]
theorem Inv.eS{pins pl:List (Addr × Obj)}{σ:St}{H:Hp}{s:Ab}(I:Inv X (pins++pl) σ H s):Inv X pins σ H s:=I.nQ λp hp=>I.pin p (kg _ (List.mem_append_left _ hp))
theorem d9{iter:Expr}{body:List Stmt}{wi:TI}{g:TG}{tb:TS}{pos:Pos}(hp:PassesOwn (model X.prog X.w) X.A X.env X.xe)(hc:X.calm=true)(hi:PI X tg iter wi)(hg:PG X tg g)(hb:km X body tb)
  (hs:∀x,foldedSetIterable iter X.env x=pure x:=by intro _;rfl):PS X (.For tg iter body [] pos) (Kr wi g tb):=by
 intro pins s σ H D I h;apply wpAny_For (aU (hi pins s σ H _ I h) λv s1 h1=>aU h1 λHQ s2 h2=>?_) hs;let#[it,fp,tn,J,H2,e,I2,T,cQ,f2,W,#[m0,w0],turn]:=h2;subst e;have zf:∀{H':Hp},(∀b∈fp,H' b=none)->∀b∈fp,du X pins H' b:=λhn b hb=>#[hn b hb,(f2 b hb).2];apply codeAny_forLoop_any (λn s'=>∃i bf H',Inv X pins bf H' s'/\tn i s'.heap/\(∀b∈fp,H' b=none)/\W i n bf H') ?_ m0 #[0,σ,H2,I2,cQ,λb hb=>(f2 b hb).1,w0];rintro n s3 ⟨i,kF,H3,I3,dX,SU,w3⟩;rcases turn i n kF H3 w3 with⟨stop,qn⟩|⟨go,N,hN,step⟩
 ·apply wpAny_passesOwn hp (aU (T.done X U U U hc i pins s3 kF H3 X.xe I3 (zf SU) dX stop) λr s4 ⟨hr,I4⟩=>?_);subst hr;exact wpAny_execs_nil #[kF,H3,I4,qn]
 apply wpAny_passesOwn hp (aU (T.item X U U U hc i pins s3 kF H3 X.xe I3 (zf SU) dX go) λr s4 ⟨u,hr,h4⟩=>?_);subst hr;apply wpAny_passesOwn hp (aU h4 λ_ s5 ⟨x,H5,I5,r5,y5,iP,pe⟩=>?_);let I5':=I5.pinned (zf pe) (T.obj _ _ iP);apply wpAny_passesOwn hp (aU (hg _ s5 kF H5 x u _ I5' r5 (step x H5 y5)) λ_ s6 ⟨Vh,H6,I6,q6⟩=>?_);apply wpAny_passesOwn hp (aU (hb _ s6 Vh H6 _ I6 q6) λf s7 q7=>?_)
 have again:∀{qv:St} {H7:Hp},Inv X (pins++wW fp s5.heap) qv H7 s7->N qv H7->∃m,m<n/\∃i bf H',Inv X pins bf H' s7/\tn i s7.heap/\(∀b∈fp,H' b=none)/\W i m bf H':=λ{qv H7} I7 n7=>by
  let#[m',hm,w7]:=hN qv H7 n7;apply#[m',hm,i+1,qv,H7,I7.eS,T.keep _ _ _ iP λb hb o e=>(I7.pin (b,o) (kg _ (kg _ (JN hb e)))).1,λb hb=>?_,w7];let#[o,e,d]:=T.obj _ _ iP b hb;exact (I7.pin (b,o) (kg _ (kg _ (JN hb e)))).2.1
 cases f with
 |next=>let#[qv,H7,I7,n7]:=q7;exact again I7 n7
 |cont=>let#[qv,H7,I7,n7]:=q7;exact again I7 n7
 |brk=>let#[qv,H7,I7,q7]:=q7;exact#[qv,H7,I7.eS,q7]
 |ret v=>let#[x7,qv,H7,I7,r7,q7]:=q7;exact#[x7,qv,H7,I7.eS,r7,q7]
end
theorem ie{K:af}{a:Addr}{xs:ag}{g:TG}{tb:TS}{D:Ends}{σ:St}{H:Hp}(Pv:dG)(h0:Pv 0 σ H)(hl:∀i σ H,i<=xs.length->Pv i σ H->d6 K H a xs)
  (hs:∀i x σ H,xs[i]? = some x->Pv i σ H->g x σ H λgc H2=>tb { D with nx:=Pv (i+1),ct:=Pv (i+1),bk:=D.nx } gc H2) (hd:∀σ H,Pv xs.length σ H->D.nx σ H) :
  ∃W:Nat->Nat->St->Hp->Prop,(∃m,W 0 m σ H)/\∀i m σ H,W i m σ H->
   ((yT K a).stop i H/\D.nx σ H)∨((yT K a).go i H/\∃N:St->Hp->Prop,(∀bf H',N bf H'->∃m',m'<m/\W (i+1) m' bf H')/\∀x H',(yT K a).vq i H x H'->g x σ H' λgc H2=>tb { D with nx:=N,ct:=N,bk:=D.nx } gc H2):=by
 apply#[λi m σ H=>m=xs.length - i/\i<=xs.length/\Pv i σ H,#[xs.length,by simp,gO _,h0],?_];rintro i m σ H ⟨rfl,hi,p⟩;let q:=hl i σ H hi p;by_cases dR:i<xs.length
 ·apply .inr #[#[xs,xs[i],q,by simp[dR]],Pv (i+1),λbf H' p'=>#[xs.length - (i+1),by omega,U,dR,p'],λx H' y=>?_];let#[e,y]:=y;subst e;exact hs i x σ _ (y xs q) p
 have e:i=xs.length:=by omega
 subst e;exact .inl #[#[xs,q,a9 _],hd σ H p]
theorem ua{lo:Int}{n:Nat}{g:TG}{tb:TS}{D:Ends}{σ:St}{H:Hp}(Pv:dG)(h0:Pv 0 σ H)
  (hs:∀i σ H,i<n->Pv i σ H->g (.int (lo+i)) σ H λgc H2=>tb { D with nx:=Pv (i+1),ct:=Pv (i+1),bk:=D.nx } gc H2) (hd:∀σ H,Pv n σ H->D.nx σ H) :
  ∃W:Nat->Nat->St->Hp->Prop,(∃m,W 0 m σ H)/\∀i m σ H,W i m σ H->
   ((BM lo n).stop i H/\D.nx σ H)∨((BM lo n).go i H/\∃N:St->Hp->Prop,(∀bf H',N bf H'->∃m',m'<m/\W (i+1) m' bf H')/\∀x H',(BM lo n).vq i H x H'->g x σ H' λgc H2=>tb { D with nx:=N,ct:=N,bk:=D.nx } gc H2):=by
 apply#[λi m σ H=>m=n - i/\i<=n/\Pv i σ H,#[n,by simp,gO _,h0],?_];rintro i m σ H ⟨rfl,hi,p⟩;by_cases dR:i<n
 ·apply .inr #[dR,Pv (i+1),λbf H' p'=>#[n - (i+1),by omega,U,dR,p'],λx H' y=>?_];let#[e,y]:=y;subst e y;exact hs i σ _ dR p
 have e:i=n:=by omega
 subst e;exact .inl #[a9 _,hd σ H p]
theorem _T{c:TT}{tb:TS}{D:Ends}{σ:St}{H:Hp}(Pv:kq)(μ:St->Hp->Nat)(h0:Pv σ H)
  (hs:∀σ H,Pv σ H->c σ H λb H1=>if b=true then tb { D with nx:=λbf H'=>Pv bf H'/\μ bf H'<μ σ H,ct:=λbf H'=>Pv bf H'/\μ bf H'<μ σ H,bk:=D.nx } σ H1 else D.nx σ H1)
  (mono:∀σ H Q Q',(∀b H1,Q b H1->Q' b H1)->c σ H Q->c σ H Q'):qz c tb D σ H:=by
 apply#[λm σ H=>m=μ σ H/\Pv σ H,#[_,U,h0],?_];rintro m σ H ⟨rfl,p⟩;apply mono σ H _ _ (λb H1 q=>?_) (hs σ H p);cases b with
 |true=>exact#[_,λbf H' ⟨p',l⟩=>#[_,l,U,p'],q]
 |false=>exact q
end L2
namespace L2
open PySem PySem.Spec PyProof.Rows
abbrev R2:=V->V->Hp->VK->Prop
def dW(X:Cx)(f:Aa->Aa->Sem Aa)(r:R2):Prop:=
 ∀(pins:List (Addr × Obj)) (s:Ab) (σ:St) (H:Hp) (x y:V) (v u:Aa) (Q:VK),Inv X pins σ H s->RelV x v->RelV y u->r x y H Q->
  wpAny (model X.prog X.w) X.A (f v u) (EP X pins σ Q) X.xe s
def Pz(X:Cx)(f:Aa->Sem Aa)(r:V->Hp->VK->Prop):Prop:=
 ∀(pins:List (Addr × Obj)) (s:Ab) (σ:St) (H:Hp) (x:V) (v:Aa) (Q:VK),Inv X pins σ H s->RelV x v->r x H Q->
  wpAny (model X.prog X.w) X.A (f v) (EP X pins σ Q) X.xe s
def gn(X:Cx)(f:Aa)(r:ag->Hp->VK->Prop):Prop:=
 ∀(pins:List (Addr × Obj)) (s:Ab) (σ:St) (H:Hp) (xs:ag) (us:aj) (Q:VK),Inv X pins σ H s->Vals xs us->r xs H Q->
  wpAny (model X.prog X.w) X.A (call f us) (EP X pins σ Q) X.xe s
def mX(r:R2)(ta tb:TE):TE:=λσ H Q=>ta σ H λx H1=>tb σ H1 λy H2=>r x y H2 Q
def V4(r:V->Hp->VK->Prop)(ta:TE):TE:=λσ H Q=>ta σ H λx H1=>r x H1 Q
inductive rI (C:Int->Int->Prop) (g:Int->Int->V) (x:V) (y:V) (H:Hp) (Q:VK):Prop
 |mk:∀i j,x=.int i->y=.int j->C i j->Q (g i j) H->rI C g x y H Q
inductive sr (g:Int->Int->V) (x:V) (y:V) (H:Hp) (Q:VK):Prop
 |mk:∀i j,x=.int i->y=.int j->Q (g i j) H->sr g x y H Q
inductive rU (g:Int->V) (x:V) (H:Hp) (Q:VK):Prop
 |mk:∀i,x=.int i->Q (g i) H->rU g x H Q
section
variable{X:Cx}{a b c:Expr}{ta tb tc:TE}{pos:Pos}
theorem BC(ha:PE X a ta)(hb:PE X b tb){pins:List (Addr × Obj)}{s:Ab}{σ:St}{H:Hp}{R:V->V->Hp->Prop}(I:Inv X pins σ H s)
  (h:ta σ H λx H1=>tb σ H1 λy H2=>R x y H2) {Q:Aa->Ab->Prop} {f:Aa->Aa->Sem Aa}
  (hf:∀v u s2 x y H2,Inv X pins σ H2 s2->RelV x v->RelV y u->R x y H2->wpAny (model X.prog X.w) X.A (f v u) Q X.xe s2) :
  wpAny (model X.prog X.w) X.A (eval a X.env) (λv aL=>wpAny (model X.prog X.w) X.A (eval b X.env) (λu jB=>wpAny (model X.prog X.w) X.A (f v u) Q X.xe jB) X.xe aL) X.xe s:=by
 apply aU (ha pins s σ H _ I h) λv s1 ⟨x,H1,I1,r1,q1⟩=>?_;apply aU (hb pins s1 σ H1 _ I1 q1) λu s2 ⟨y,H2,I2,r2,q2⟩=>?_;exact hf v u s2 x y H2 I2 r1 r2 q2
theorem br{op:Operator}{r:R2}(ho:dW X (binaryOp op) r)(ha:PE X a ta)(hb:PE X b tb):PE X (.BinOp a op b pos) (mX r ta tb):=by
 intro pins s σ H Q I h;exact wpAny_BinOp (BC ha hb I h λv u s2 x y H2 I2 rx ry q=>ho pins s2 σ H2 x y v u Q I2 rx ry q)
theorem Be{op:UnaryOp}{r:V->Hp->VK->Prop}(ho:Pz X (unaryOp op) r)(ha:PE X a ta):PE X (.UnaryOp op a pos) (V4 r ta):=by
 intro pins s σ H Q I h;exact UnaryOp_ (aU (ha pins s σ H _ I h) λv s1 ⟨x,H1,I1,r1,q1⟩=>ho pins s1 σ H1 x v Q I1 r1 q1)
theorem BY{f:Aa->Aa->Sem Aa}{C:Int->Int->Prop}{g:Int->Int->Int}
  (rule:∀(i j:Int) (t u:Tok) (s:Ab) (Q:Aa->Ab->Prop) (E:Aa->Ab->Prop),C i j->Q (.int (g i j) s.toks) { s with toks:=s.toks+1 }->wpAny (model X.prog X.w) X.A (f (.int i t) (.int j u)) Q E s) :
  dW X f (rI C λi j=>.int (g i j)):=by
 intro pins s σ H x y v u Q I rx ry h;let#[i,j,rfl,rfl,hc,q]:=h;let#[t,rfl]:=rx;let#[t',rfl]:=ry;exact rule i j t t' s _ _ hc #[.int (g i j),H,I.tok _,#[_,U],q]
theorem DY{f:Aa->Aa->Sem Aa}{g:Int->Int->Int}
  (rule:∀(i j:Int) (t u:Tok) (s:Ab) (Q:Aa->Ab->Prop) (E:Aa->Ab->Prop),Q (.int (g i j) s.toks) { s with toks:=s.toks+1 }->wpAny (model X.prog X.w) X.A (f (.int i t) (.int j u)) Q E s) :
  dW X f (sr λi j=>.int (g i j)):=by
 intro pins s σ H x y v u Q I rx ry h;let#[i,j,rfl,rfl,q]:=h;let#[t,rfl]:=rx;let#[t',rfl]:=ry;exact rule i j t t' s _ _ #[.int (g i j),H,I.tok _,#[_,U],q]
theorem zS{f:Aa->Aa->Sem Aa}{g:Int->Int->Bool}
  (rule:∀(i j:Int) (t u:Tok) (s:Ab) (Q:Aa->Ab->Prop) (E:Aa->Ab->Prop),Q (.bool (g i j)) s->wpAny (model X.prog X.w) X.A (f (.int i t) (.int j u)) Q E s) :
  dW X f (sr λi j=>.bl (g i j)):=by
 intro pins s σ H x y v u Q I rx ry h;let#[i,j,rfl,rfl,q]:=h;let#[t,rfl]:=rx;let#[t',rfl]:=ry;exact rule i j t t' s _ _ #[.bl (g i j),H,I,U,q]
def PY(i j:Int):Prop:=0<j/\j<1073741824
def PX(i j:Int):Prop:=0<=j/\j<=1000000/\i.natAbs<2 ^ 64
def BP(i j:Int):Prop:=(-(2 ^ 64)<i/\i<2 ^ 64)∨(-(2 ^ 64)<j/\j<2 ^ 64)
theorem BP.ok{i j:Int}(h:BP i j):IntMulOk i j:=by
 rcases h with⟨h1,h2⟩|⟨h1,h2⟩
 ·exact .of_left (intBits_le_64 h1 h2)
 exact .of_right (intBits_le_64 h1 h2)
theorem fG:dW X (binaryOp .Add) (sr λi j=>.int (i+j)):=DY λ_ _ _ _ _ _ _ q=>add_int q
theorem CB:dW X (binaryOp .Sub) (sr λi j=>.int (i - j)):=DY λ_ _ _ _ _ _ _ q=>sub_int q
theorem tZ:dW X (binaryOp .Mult) (rI BP λi j=>.int (i * j)):=BY λ_ _ _ _ _ _ _ hc q=>mul_int q hc.ok
theorem Gk:dW X (binaryOp .FloorDiv) (rI PY λi j=>.int (i / j)):=BY λi j _ _ _ _ _ hc q=>by
 have h1:(0:Int)<j:=hc.1;have h2:j<1073741824:=hc.2;exact floordiv_int Y0 (by rw[Int.fdiv_eq_ediv_of_nonneg i Y0];exact q) (.inl (PyProof.noPylong_small Y0))
theorem Bq:dW X (binaryOp .Mod) (rI (λ_ j=>0<j) λi j=>.int (i % j)):=BY λi j _ _ _ _ _ hc q=>by
 have h1:(0:Int)<j:=hc;exact mod_int' Y0 (by rw[Int.fmod_eq_emod_of_nonneg i Y0];exact q)
theorem Yz:dW X (binaryOp .Pow) (rI PX λi j=>.int (i ^ j.toNat)):=BY λ_ _ _ _ _ _ _ hc q=>pow_int_small hc.1 hc.2.1 hc.2.2 q
theorem VT{f:Aa->Sem Aa}{g:Int->Int}
  (rule:∀(i:Int) (t:Tok) (s:Ab) (Q:Aa->Ab->Prop) (E:Aa->Ab->Prop),Q (.int (g i) s.toks) { s with toks:=s.toks+1 }->wpAny (model X.prog X.w) X.A (f (.int i t)) Q E s) :
  Pz X f (rU λi=>.int (g i)):=by
 intro pins s σ H x v Q I rx h;let#[i,rfl,q]:=h;let#[t,rfl]:=rx;exact rule i t s _ _ #[.int (g i),H,I.tok _,#[_,U],q]
theorem Bp:Pz X (unaryOp .USub) (rU λi=>.int (-i)):=VT λ_ _ _ _ _ q=>neg_int q
end
def zq:V->V->Bool
 |.non,.non=>true | .non,.int _=>true | .int _,.non=>true | .non,.bl _=>true | .bl _,.non=>true | .non,.str _=>true | .str _,.non=>true
 |.int _,.int _=>true | .bl _,.bl _=>true | .str _,.str _=>true | .byt _,.byt _=>true
 |.int _,.str _=>true | .str _,.int _=>true | .bl _,.str _=>true | .str _,.bl _=>true
 |_,_=>false
def WG:R2:=λx y H Q=>zq x y=true/\Q (.bl (decide (x=y))) H
def WD:R2:=λx y H Q=>zq x y=true/\Q (.bl (!decide (x=y))) H
theorem SH{i j:Int}:decide (V.int i=V.int j)=(i == j):=by
 rw[Bool.eq_iff_iff];simp
theorem Rf{i j:Bool}:decide (V.bl i=V.bl j)=(i == j):=by
 rw[Bool.eq_iff_iff];simp
theorem Sn{i j:Str}:decide (V.str i=V.str j)=(i == j):=by
 rw[Bool.eq_iff_iff];simp
theorem SC{i j:Array UInt8}:decide (V.byt i=V.byt j)=(i.toList == j.toList):=by
 rw[Bool.eq_iff_iff];cases i;cases j;simp
section
variable{X:Cx}{a b c:Expr}{ta tb tc:TE}{pos:Pos}
theorem fq{pins:List (Addr × Obj)}{σ:St}{H:Hp}{s:Ab}{Q:VK}{k k':Bool}(I:Inv X pins σ H s)(q:Q (.bl k) H)(e:k=k'):EP X pins σ Q (.bool k') s:=by
 subst e;exact#[.bl k,H,I,U,q]
theorem Lp:dW X (compareOp .Eq) WG:=by
 intro pins s σ H x y v u Q I rx ry h;let#[hs,q]:=h;cases x with
 |non=>
  cases rx;cases y with
  |non=>cases ry;exact PySem.EqNone.eq_none_none (fq I q Y1)
  |bl j=>cases ry;exact PySem.EqNone.eq_none_bool (fq I q Y1)
  |int j=>let#[t',rfl]:=ry;exact PySem.EqNone.eq_none_int (fq I q Y1)
  |str j=>let#[t',rfl]:=ry;exact PySem.EqNone.eq_none_str (fq I q Y1)
  |_=>exact absurd (show false=true from hs) gr
 |bl i=>
  cases rx;cases y with
  |non=>cases ry;exact PySem.EqNone.eq_bool_none (fq I q Y1)
  |bl j=>cases ry;exact eq_bool (fq I q Rf)
  |str j=>let#[t',rfl]:=ry;exact PySem.EqMixed.eq_bool_str (fq I q Y1)
  |_=>exact absurd (show false=true from hs) gr
 |int i=>
  let#[t,rfl]:=rx;cases y with
  |non=>cases ry;exact PySem.EqNone.eq_int_none (fq I q Y1)
  |int j=>let#[t',rfl]:=ry;exact eq_int (fq I q SH)
  |str j=>let#[t',rfl]:=ry;exact PySem.EqMixed.eq_int_str (fq I q Y1)
  |_=>exact absurd (show false=true from hs) gr
 |str i=>
  let#[t,rfl]:=rx;cases y with
  |non=>cases ry;exact PySem.EqNone.eq_str_none (fq I q Y1)
  |bl j=>cases ry;exact PySem.EqMixed.eq_str_bool (fq I q Y1)
  |int j=>let#[t',rfl]:=ry;exact PySem.EqMixed.eq_str_int (fq I q Y1)
  |str j=>let#[t',rfl]:=ry;exact eq_str (fq I q Sn)
  |_=>exact absurd (show false=true from hs) gr
 |byt i=>
  let#[t,rfl]:=rx;cases y with
  |byt j=>let#[t',rfl]:=ry;exact PySem.W.eq_bytes (fq I q SC)
  |_=>exact absurd (show false=true from hs) gr
 |_=>cases y<;>exact absurd (show false=true from hs) gr
theorem ou:dW X (compareOp .NotEq) WD:=by
 intro pins s σ H x y v u Q I rx ry h;let#[hs,q]:=h;cases x with
 |non=>
  cases rx;cases y with
  |non=>cases ry;exact PySem.EqNone.ne_none_none (fq I q Y1)
  |bl j=>cases ry;exact PySem.EqNone.ne_none_bool (fq I q Y1)
  |int j=>let#[t',rfl]:=ry;exact PySem.EqNone.ne_none_int (fq I q Y1)
  |str j=>let#[t',rfl]:=ry;exact PySem.EqNone.ne_none_str (fq I q Y1)
  |_=>exact absurd (show false=true from hs) gr
 |bl i=>
  cases rx;cases y with
  |non=>cases ry;exact PySem.EqNone.ne_bool_none (fq I q Y1)
  |bl j=>cases ry;exact ne_bool (fq I q (eY not Rf))
  |str j=>let#[t',rfl]:=ry;exact PySem.EqMixed.ne_bool_str (fq I q Y1)
  |_=>exact absurd (show false=true from hs) gr
 |int i=>
  let#[t,rfl]:=rx;cases y with
  |non=>cases ry;exact PySem.EqNone.ne_int_none (fq I q Y1)
  |int j=>let#[t',rfl]:=ry;exact ne_int (fq I q (eY not SH))
  |str j=>let#[t',rfl]:=ry;exact PySem.EqMixed.ne_int_str (fq I q Y1)
  |_=>exact absurd (show false=true from hs) gr
 |str i=>
  let#[t,rfl]:=rx;cases y with
  |non=>cases ry;exact PySem.EqNone.ne_str_none (fq I q Y1)
  |bl j=>cases ry;exact PySem.EqMixed.ne_str_bool (fq I q Y1)
  |int j=>let#[t',rfl]:=ry;exact PySem.EqMixed.ne_str_int (fq I q Y1)
  |str j=>let#[t',rfl]:=ry;exact ne_str (fq I q (eY not Sn))
  |_=>exact absurd (show false=true from hs) gr
 |byt i=>
  let#[t,rfl]:=rx;cases y with
  |byt j=>let#[t',rfl]:=ry;exact PySem.W.ne_bytes (fq I q (eY not SC))
  |_=>exact absurd (show false=true from hs) gr
 |_=>cases y<;>exact absurd (show false=true from hs) gr
theorem Fv:dW X (compareOp .Lt) (sr λi j=>.bl (decide (i<j))):=zS λ_ _ _ _ _ _ _ q=>lt_int q
theorem tS:dW X (compareOp .LtE) (sr λi j=>.bl (decide (i<=j))):=zS λ_ _ _ _ _ _ _ q=>le_int q
theorem Ft:dW X (compareOp .Gt) (sr λi j=>.bl (decide (j<i))):=zS λ_ _ _ _ _ _ _ q=>gt_int q
inductive UT (x:V) (y:V) (H:Hp) (Q:VK):Prop
 |mk:∀i j,x=.str i->y=.str j->Q (.bl (decide (i.cps.toList<j.cps.toList))) H->UT x y H Q
theorem hb_:dW X (compareOp .Lt) UT:=by
 intro pins s σ H x y v u Q I rx ry h;let#[i,j,rfl,rfl,q]:=h;let#[t,rfl]:=rx;let#[t',rfl]:=ry;exact lt_str (fq I q rfl)
theorem Yf:dW X (compareOp .Is) (λx y H Q=>y=.non/\Q (.bl (decide (x=.non))) H):=by
 intro pins s σ H x y v u Q I rx ry h;let#[rfl,q]:=h;cases ry;apply is_none_gen (fq I q ?_)
 cases x<;>first
  |(cases rx;rfl)
  |(let#[t,rfl]:=rx;rfl)
theorem SA:dW X (compareOp .IsNot) (λx y H Q=>y=.non/\Q (.bl (!decide (x=.non))) H):=by
 intro pins s σ H x y v u Q I rx ry h;let#[rfl,q]:=h;cases ry;apply isnot_none_gen (fq I q ?_)
 cases x<;>first
  |(cases rx;rfl)
  |(let#[t,rfl]:=rx;rfl)
theorem sL(b:Expr){op:CmpOp}(h:op≠.In:=by decide)(h2:op≠.NotIn:=by decide):behindInMarks op b=false:=by
 have e1:(op == CmpOp.In)=false:=by cases op<;>first|rfl|exact absurd rfl h
 have e2:(op == CmpOp.NotIn)=false:=by cases op<;>first|rfl|exact absurd rfl h2
 cases b<;>simp[behindInMarks,e1,e2]
theorem wQ{op:CmpOp}{r:R2}(ho:dW X (compareOp op) r)(ha:PE X a ta)(hb:PE X b tb)(hm:behindInMarks op b=false:=by exact sL _):PE X (.Compare a [op] [b] pos) (mX r ta tb):=by
 intro pins s σ H Q I h;exact wpAny_Compare1 (BC ha hb I h λv u s2 x y H2 I2 rx ry q=>ho pins s2 σ H2 x y v u Q I2 rx ry q) hm
inductive qD (Q:Bool->Hp->Prop) (x:V) (H':Hp):Prop
 |mk:∀k,x=.bl k->Q k H'->qD Q x H'
def xk(t:TE):TT:=λσ H Q=>t σ H λx H'=>qD Q x H'
theorem eP{op:CmpOp}{r:R2}(ho:dW X (compareOp op) r)(ha:PE X a ta)(hb:PE X b tb)(hm:behindInMarks op b=false:=by exact sL _):PT X (.Compare a [op] [b] pos) (xk (mX r ta tb)):=by
 intro pins s σ H Q I h
 apply wpAny_isTrue_Compare1 (aU (ha pins s σ H _ I h) λv s1 ⟨x,H1,I1,r1,q1⟩=>aU (hb pins s1 σ H1 _ I1 q1) λu s2 ⟨y,H2,I2,r2,q2⟩=>
  aU (ho pins s2 σ H2 x y v u _ I2 r1 r2 q2) λc s3 ⟨z,H3,I3,r3,k,e,q3⟩=>?_) hm
 subst e;cases r3;exact tR #[H3,I3,q3]
inductive m_ (r':R2) (tc:TE) (σ:St) (Q:VK) (y:V) (z:V) (H3:Hp):Prop
 |mk:∀k,z=.bl k->(if k=true then tc σ H3 λw' H4=>r' y w' H4 Q else Q (.bl false) H3)->m_ r' tc σ Q y z H3
def qK(r r':R2)(ta tb tc:TE):TE:=λσ H Q=>ta σ H λx H1=>tb σ H1 λy H2=>r x y H2 λz H3=>m_ r' tc σ Q y z H3
theorem Nr{op zU:CmpOp}{r r':R2}(ho:dW X (compareOp op) r)(n9:dW X (compareOp zU) r')(ha:PE X a ta)(hb:PE X b tb)(hc:PE X c tc)
  (hm:lastMarks [op,zU] [b,c]=false:=by with_unfolding_all rfl):PE X (.Compare a [op,zU] [b,c] pos) (qK r r' ta tb tc):=by
 intro pins s σ H Q I h
 apply Compare_chain (aU (ha pins s σ H _ I h) λv s1 ⟨x,H1,I1,r1,q1⟩=>chain_link (aU (hb pins s1 σ H1 _ I1 q1) λu s2 ⟨y,H2,I2,r2,q2⟩=>
  aU (ho pins s2 σ H2 x y v u _ I2 r1 r2 q2) λd s3 ⟨z,H3,I3,r3,k,e,q3⟩=>?_)) hm
 subst e;cases r3;apply tR ?_;cases k with
 |false=>exact ite_ff #[.bl false,H3,I3,U,q3]
 |true=>exact ite_tt (chain_last (aU (hc pins s3 σ H3 _ I3 q3) λw' s4 ⟨z',H4,I4,r4,q4⟩=>n9 pins s4 σ H4 y z' u w' Q I4 r2 r4 q4))
theorem NP{op zU:CmpOp}{r r':R2}(ho:dW X (compareOp op) r)(n9:dW X (compareOp zU) r')(ha:PE X a ta)(hb:PE X b tb)(hc:PE X c tc)
  (hm:lastMarks [op,zU] [b,c]=false:=by with_unfolding_all rfl):PT X (.Compare a [op,zU] [b,c] pos) (xk (qK r r' ta tb tc)):=by
 intro pins s σ H Q I h
 apply isTrue_chain (aU (ha pins s σ H _ I h) λv s1 ⟨x,H1,I1,r1,q1⟩=>test_link (aU (hb pins s1 σ H1 _ I1 q1) λu s2 ⟨y,H2,I2,r2,q2⟩=>
  aU (ho pins s2 σ H2 x y v u _ I2 r1 r2 q2) λd s3 ⟨z,H3,I3,r3,k,e,q3⟩=>?_)) hm
 subst e;cases r3;apply tR ?_;cases k with
 |false=>
  let#[k',e',q']:=q3;cases e';exact ite_ff #[H3,I3,q']
 |true=>
  apply ite_tt (test_last (aU (hc pins s3 σ H3 _ I3 q3) λw' s4 ⟨z',H4,I4,r4,q4⟩=>aU (n9 pins s4 σ H4 y z' u w' _ I4 r2 r4 q4) λd' s5 ⟨z2,H5,I5,r5,k2,e2,q5⟩=>?_));subst e2;cases r5;exact tR #[H5,I5,q5]
theorem gg:(sizeLine:Nat)<2 ^ 63:=by rw[cK];decide
inductive U1 (x:V) (y:V) (H:Hp) (Q:VK):Prop
 |mk:∀i j,x=.str i->y=.str j->i.length+j.length<=sizeLine->Q (.str (i++j)) H->U1 x y H Q
theorem fR_:dW X (binaryOp .Add) U1:=by
 intro pins s σ H x y v u Q I rx ry h;let#[i,j,rfl,rfl,hz,q]:=h;let#[t,rfl]:=rx;let#[t',rfl]:=ry;exact add_str (λt' tk=>⟨.str (i++j),H,I.tok _,⟨_,rfl⟩,q⟩) hz
theorem vals1{x:V}{us:aj}(r:Vals [x] us):∃u,us=[u]/\RelV x u:=by
 cases r with
 |cons r1 r2=>cases r2;exact#[_,U,r1]
theorem vals2{x y:V}{us:aj}(r:Vals [x,y] us):∃u w',us=[u,w']/\RelV x u/\RelV y w':=by
 cases r with
 |cons r1 r2=>
  cases r2 with
  |cons r3 r4=>cases r4;exact#[_,_,U,r1,r3]
inductive Um (xs:ag) (H:Hp) (Q:VK):Prop
 |mk:∀i,xs=[.int i]->Q (.int (if i<0 then -i else i)) H->Um xs H Q
theorem _u:gn X (.builtin "abs") Um:=by
 intro pins s σ H xs us Q I r h;let#[i,rfl,q]:=h;let#[u,rfl,t,rfl]:=vals1 r;exact call_abs_int λu tk=>#[.int (if i<0 then -i else i),H,I.tok _,#[_,U],q]
inductive UR (xs:ag) (H:Hp) (Q:VK):Prop
 |mk:∀i j,xs=[.int i,.int j]->Q (.int (if j > i then j else i)) H->UR xs H Q
theorem gv_(hc:X.calm=true):gn X (.builtin "max") UR:=by
 intro pins s σ H xs us Q I r h;let#[i,j,rfl,q]:=h;let#[u,w',rfl,#[t,rfl],#[t',rfl]]:=vals2 r;apply max_two_ints (I.ok.hd hc) λh' tk k=>#[_,H,I.kept k,?_,q];by_cases hj:j > i
 ·rw[aK hj,aK hj];exact#[_,U]
 rw[aD hj,aD hj];exact#[_,U]
inductive UU (xs:ag) (H:Hp) (Q:VK):Prop
 |mk:∀i j,xs=[.int i,.int j]->Q (.int (if j<i then j else i)) H->UU xs H Q
theorem hh_(hc:X.calm=true):gn X (.builtin "min") UU:=by
 intro pins s σ H xs us Q I r h;let#[i,j,rfl,q]:=h;let#[u,w',rfl,#[t,rfl],#[t',rfl]]:=vals2 r;apply min_two_ints (I.ok.hd hc) λh' tk k=>#[_,H,I.kept k,?_,q];by_cases hj:j<i
 ·rw[aK hj,aK hj];exact#[_,U]
 rw[aD hj,aD hj];exact#[_,U]
theorem Uh:gn X (.type "int") (λxs H Q=>(∃i,xs=[.int i]/\Q (.int i) H)∨∃k,xs=[.bl k]/\Q (.int (if k then 1 else 0)) H):=by
 intro pins s σ H xs us Q I r h;rcases h with⟨i,rfl,q⟩|⟨k,rfl,q⟩
 ·let#[u,rfl,t,rfl]:=vals1 r;exact call_int_int #[.int i,H,I,#[_,U],q]
 let#[u,rfl,r1]:=vals1 r;cases r1;exact call_int_bool #[.int (if k then 1 else 0),H,I.tok _,#[_,U],q]
end
end L2
namespace L2
open PySem PySem.Spec PyProof.Rows
structure mO (h:Heap) (x dx C:Addr) (mA:Str->Option Aa):Prop where
 obj:h.get? x\PySem.W.instObj C dx
 ns:h.Ns1 dx mA
 ne:dx≠x
theorem hr_{h:Heap}{dx:Addr}{mA:Str->Option Aa}(n:h.Ns1 dx mA):∃od,h.get? dx\od/\∀name,PySem.W.lookIn name od\mA name:=by
 let#[o,es,ep,ho,hd,hk,_,hm]:=n;apply#[o,ho,λname=>?_];let e:=hm name;unfold nsFind findBy at e;rw[<- Array.find?_toList] at e;unfold PySem.W.lookIn;rw[hd];dsimp only;split
 ·rename_i y q
  rw[q] at e;exact eY some e
 rename_i q
 rw[q] at e
 have a:es.toList.any (·.refKey)=false:=by
  rw[List.any_eq_false];intro y hy;let#[z,t,AK]:=hk y (Array.mem_toList_iff.mp hy);simp[DictEntry.refKey,AK]
 have a':¬es.toList.any (·.refKey)=true:=by rw[a];exact gr
 rw[aD a'];exact eY some e
theorem mO.look{h:Heap}{x dx C:Addr}{mA:Str->Option Aa}(I:mO h x dx C mA):∃od,PySem.W.InstAt h x (PySem.W.instObj C dx) C (some od)/\∀name,PySem.W.lookIn name od\mA name:=
 let #[od,ho,hl]:=hr_ I.ns
 #[od,#[I.obj,U,U,ho],hl]
section
variable{prog:Ad}{w:Af}{A:Ag}{E:Aa->Ab->Prop}{s:Ab}{K:af}{x dx C f:Addr}{mA:Str->Option Aa}{name:Str}{v:Aa}
theorem Zu{expr:Bool}{Q:Aa->Ab->Prop}(X:K.In s.heap)(I:mO s.heap x dx C mA)(hg:PySem.W.plainGet K C name=true)(hh:PySem.W.hasDictIn K C=true)
  (ha:PySem.W.findIn K (.ref C) name\none) (hv:mA name\v) (EB:PySem.W.handedIn v=true) (h:Q v { s with toks:=s.toks+1 }) :
  wpAny (model prog w) A (getAttr (.ref x) name expr) Q E s:=by
 let#[od,J,hl]:=I.look;exact PySem.W.get_value X J (PySem.W.plainGet_of hg).1 (PySem.W.findObj_own hh ha U (by rw[hl,hv])) EB h
theorem hR_{pl:Sem Bool}{Q:Aa × aj->Ab->Prop}(X:K.In s.heap)(I:mO s.heap x dx C mA)(hg:PySem.W.plainGet K C name=true)
  (hf:PySem.W.findIn K (.ref C) name\some (.ref f)) (ht:PySem.W.isFn K (.ref f)=true) (hv:mA name=none) (h:Q (.ref f,[.ref x]) s) :
  wpAny (model prog w) A (getMethod (.ref x) name pl) Q E s:=by
 let#[od,J,hl]:=I.look;exact PySem.W.method_fn X J (PySem.W.plainGet_of hg).1 (PySem.W.plainGet_of hg).2 hf (beq_iff_eq.mp ht) (by show (PySem.W.lookIn name od).map (·.isSome)=some false;rw[hl,hv];rfl) h
theorem YX{ns:ae}{Q:Unit->Ab->Prop}(X:K.In s.heap)(I:mO s.heap x dx C mA)
  (hs:PySem.W.findIn K (.ref C) "__setattr__"\some (.builtin "object.__setattr__")) (hp:PySem.W.plainOver K C=true) (ht:PySem.W.takerIn K C name\none) (hh:PySem.W.hasDictIn K C=true)
  (hw:PySem.Within mA ns) (hsz:ns.length<=sizeLine)
  (h:∀h',mO h' x dx C (λy=>if y=name then some v else mA y)->Heap.SameBut dx s.heap h'->Q () { s with heap:=h',toks:=s.toks+2 }) :
  wpAny (model prog w) A (setAttr (.ref x) name v) Q E s:=by
 let#[od,J,hl]:=I.look;apply PySem.W.set_plain X J hs (PySem.W.osa_open (s:={ s with toks:=s.toks+1 }) (r:=none) X J hp ht λb=>?_);let#[cd,hc,g9]:=PySem.W.any_some hh;have hx:s.heap.get? x=some #[.ref C,some dx,.plain,#[]]:=I.obj;apply ai (aI (ai (ai (wpAny_loadPart hx (ai (PySem.W.Looks.here (s:={ s with toks:=s.toks+1 }) (PySem.W.looks_clsIn X hc) ?_))))));rw[g9];apply aI (a:=some dx) (ai (aI (ai ?_)));apply wpAny_nsSet1 (s:={ s with toks:=s.toks+1 }) I.ns λh' x6 pT=>?_;let#[oD,esD,epD,hoD,hdD,hcD]:=x6.count (PySem.Within.cons name v hw);apply ai (wpAny_lookBehind hoD (by rw[hdD];exact pastItsLine_dict (ic hcD (by rw[jz];omega))) ?_);exact aI (h _ #[(pT.2 _ (dJ I.ne)).trans I.obj,x6,I.ne] pT)
theorem hY_{R:Result->Ab->Prop}{vs:aj}{kw:List (Str × Aa)}(X:K.In s.heap)(hm:PySem.W.makesIn K C=true)
  (hi:PySem.W.findIn K (.ref C) "__init__"\some (.ref f)) (hf:PySem.W.typeIn K (.ref f)\.type "function")
  (h:codeAny (model prog w) (A.under (.builtin "type.__call__" #[.ref C::vs,kw])) (.call (.ref f) #[.ref (s.heap.objs.size+1)::vs,kw]) (PySem.W.InitBack (s.heap.objs.size+1) R)
   { s with heap:=(s.heap.push PySem.W.emptyDict).push (PySem.W.instObj C s.heap.objs.size) }) :
  codeAny (model prog w) A (.call (.ref C) #[vs,kw]) R s:=by
 let#[hh,g,d,t,os]:=s;exact PySem.W.make_core (PySem.W.makes_of X hm) (PySem.W.looks_findIn X hi) (λself=>PySem.W.bind_fn X self hf) (.inl U) h
end
def aP(f:Str)(v:V):List (Str × V)->List (Str × V)
 |[]=>[(f,v)]
 |(g,x)::r=>if g=f then (g,v)::r else (g,x)::aP f v r
theorem gT(f g:Str)(v:V):∀fs:List (Str × V),(aP f v fs).lookup g=if g=f then some v else fs.lookup g
 |[]=>by
  show List.lookup g [(f,v)]=_;by_cases h:g=f
  ·have hb:(g == f)=true:=beq_iff_eq.mpr h;simp only[List.lookup,hb,aK h]
  ·have hb:(g == f)=false:=beq_eq_false_iff_ne.mpr h;simp only[List.lookup,hb,aD h]
 |(k,x)::r=>by
  let ih:=gT f g v r;rw[show aP f v ((k,x)::r)=(if k=f then (k,v)::r else (k,x)::aP f v r) from U];by_cases hk:k=f
  ·rw[aK hk];by_cases h:g=k
   ·have hb:(g == k)=true:=beq_iff_eq.mpr h;simp only[List.lookup,hb,aK (h.trans hk)]
   have hb:(g == k)=false:=beq_eq_false_iff_ne.mpr h;simp only[List.lookup,hb,aD (λe:g=f=>h (e.trans hk.symm))]
  rw[aD hk];by_cases h:g=k
  ·have hb:(g == k)=true:=beq_iff_eq.mpr h;simp only[List.lookup,hb,aD (λe:g=f=>hk (h.symm.trans e))]
  have hb:(g == k)=false:=beq_eq_false_iff_ne.mpr h;simp only[List.lookup,hb];exact ih
theorem N1(f:Str)(v:V):∀fs:List (Str × V),f∈(aP f v fs).map (·.1)/\∀g,g∈fs.map (·.1)->g∈(aP f v fs).map (·.1)
 |[]=>#[by simp[aP],λg h=>by simp at h]
 |(k,x)::r=>by
  let#[i1,i2]:=N1 f v r;rw[show aP f v ((k,x)::r)=(if k=f then (k,v)::r else (k,x)::aP f v r) from U];by_cases hk:k=f
  ·rw[aK hk];subst hk;exact#[by simp,λg h=>by simpa using h]
  rw[aD hk];apply#[?_,λg h=>?_]
  ·rw[fE];exact fo _ i1
  rw[fE] at h ⊢;rcases cg.mp h with e|e
  ·exact cg.mpr (.inl e)
  exact fo _ (i2 g e)
theorem UF(f:Str)(v:V):∀fs:List (Str × V),(aP f v fs).length<=fs.length+1
 |[]=>by simp[aP]
 |(k,x)::r=>by
  let ih:=UF f v r;rw[show aP f v ((k,x)::r)=(if k=f then (k,v)::r else (k,x)::aP f v r) from U];by_cases hk:k=f
  ·rw[aK hk,jz,jz];omega
  rw[aD hk,jz,jz];omega
theorem eO.some_of{v:V}{o:Option Aa}(r:eO (some v) o):∃u,o\u/\RelV v u:=by
 cases o with
 |none=>exact (show False from r).elim
 |some u=>exact#[u,U,r]
theorem eO.none_of{o:Option Aa}(r:eO none o):o=none:=by
 cases o with
 |none=>rfl
 |some u=>exact (show False from r).elim
theorem hd_{v:V}{u:Aa}(r:RelV v u):PySem.W.handedIn u=true:=by
 cases v with
 |non=>cases (show u=Value.none from r);rfl
 |bl b=>cases (show u=Value.bool b from r);rfl
 |int i=>let#[t,e]:=(show ∃t,u=Value.int i t from r);cases e;rfl
 |str x=>let#[t,e]:=(show ∃t,u=Value.str x t from r);cases e;rfl
 |byt b=>let#[t,e]:=(show ∃t,u=Value.bytes b t from r);cases e;rfl
 |flt b=>let#[t,e]:=(show ∃t,u=Value.float b t from r);cases e;rfl
 |ref a=>cases (show u=Value.ref a from r);rfl
 |ty n=>cases (show u=Value.type n from r);rfl
section
variable{P:Ad}{w:Af}{H H':Hp}{h h':Heap}{a C dx:Addr}{fs fs':List (Str × V)}
theorem I0(aF:fQ P w H h)(e:H a\.ins C dx fs):∃mA,mO h a dx C mA/\(∀f,eO (fs.lookup f) (mA f))/\PySem.Within mA (fs.map (·.1))/\fs.length<=1000/\H dx\.own a:=by
 let#[d,z,ne,ob,mA,n,r,q]:=(show fj P w H h a (.ins C dx fs) from aF a _ e);exact#[mA,#[ob,n,ne],r,q,z,d]
end
structure mR (K:af) (C:Addr):Prop where
 pg:PySem.W.plainGet K C Str.empty=true
 hd:PySem.W.hasDictIn K C=true
 po:PySem.W.plainOver K C=true
 sa:PySem.W.findIn K (.ref C) "__setattr__"\some (.builtin "object.__setattr__")
theorem mR.get{K:af}{C:Addr}(c:mR K C)(f:Str):PySem.W.plainGet K C f=true:=c.pg
def ml(K:af)(C:Addr)(f:Str):Prop:=PySem.W.findIn K (.ref C) f=some none
theorem ml.Dh{K:af}{C:Addr}{f:Str}(n:ml K C f):PySem.W.takerIn K C f\none:=by
 unfold PySem.W.takerIn;rw[show PySem.W.findIn K (.ref C) f\none from n];rfl
structure Con (K:af) (C:Addr) (f:Str) (v:V) (u:Aa):Prop where
 at_:PySem.W.findIn K (.ref C) f\some u
 rel:RelV v u
 get:PySem.W.specialIn K u "__get__"\none
 cp:PySem.W.copiedNames.contains f=false
structure Meth (K:af) (C:Addr) (m:Str) (f:Addr):Prop where
 at_:PySem.W.findIn K (.ref C) m\some (.ref f)
 fn:PySem.W.isFn K (.ref f)=true
 kp:PySem.W.keepIn K (.ref f)=true
section
variable{X:Cx}{pins:List (Addr × Obj)}{σ:St}{H:Hp}{s:Ab}{a C dx:Addr}{fs:List (Str × V)}{f:Str}{v:V}{A:Ag}{E:Aa->Ab->Prop}
theorem fC_{b:Bool}{Q:Aa->Ab->Prop}(I:Inv X pins σ H s)(e:H a\.ins C dx fs)(c:mR X.K C)(n:ml X.K C f)(l:fs.lookup f\v)
  (h:∀u s',Inv X pins σ H s'->RelV v u->Q u s'):wpAny (model X.prog X.w) A (getAttr (.ref a) f b) Q E s:=by
 let#[mA,O,r,_,_,_]:=I0 I.aF e;let#[u,hu,ru]:=eO.some_of (v:=v) (o:=mA f) (by rw[<- l];exact r f);exact Zu I.gI O (c.get f) c.hd n hu (hd_ ru) (h u _ (I.tok _) ru)
theorem Ur{m:Str}{g:Addr}{pl:Sem Bool}{Q:Aa × aj->Ab->Prop}(I:Inv X pins σ H s)(e:H a\.ins C dx fs)(c:mR X.K C)(k:Meth X.K C m g)(l:fs.lookup m=none)
  (h:Q (.ref g,[.ref a]) s):wpAny (model X.prog X.w) A (getMethod (.ref a) m pl) Q E s:=by
 let#[mA,O,r,_,_,_]:=I0 I.aF e;have hn:mA m=none:=eO.none_of (by rw[<- l];exact r m);exact hR_ I.gI O (c.get m) k.at_ k.fn hn h
theorem g2_{y:V}{u:Aa}{Q:Unit->Ab->Prop}(I:Inv X pins σ H s)(e:H a\.ins C dx fs)(c:mR X.K C)(n:ml X.K C f)(hl:fs.length<1000)(ry:RelV y u)
  (h:∀s',Inv X pins σ (upd H a (.ins C dx (aP f y fs))) s'->Q () s'):wpAny (model X.prog X.w) A (setAttr (.ref a) f u) Q E s:=by
 let#[mA,O,r,wi,_,ho]:=I0 I.aF e;have hz:(fs.map (·.1)).length<=sizeLine:=by rw[aq,cK];omega
 apply YX I.gI O c.sa c.po n.Dh c.hd wi hz λh' O' sb=>h _ ?_;have hd:∃o,h'.get? dx\o:=let #[o,_,_,e',_]:=O'.ns;#[o,e'];apply I.write (x:=a) (e:=dx) (by rw[e];exact True.intro) (.inr ho) (λb q hb z=>(sb.2 b hb).trans z) hd ?_;apply#[by rw[aB O.ne];exact ho,?_,O.ne,O'.obj,_,O'.ns,λg=>?_,λg hg=>?_]
 ·have:=UF f y fs;omega
 ·show eO ((aP f y fs).lookup g) (if g=f then some u else mA g);rw[gT];by_cases q:g=f
  ·rw[aK q,aK q];exact ry
  rw[aD q,aD q];exact r g
 by_cases q:g=f
 ·rw[q];exact (N1 f y fs).1
 apply (N1 f y fs).2 g (wi g λz=>hg ?_);show (if g=f then some u else mA g)=none;rw[aD q];exact z
theorem Inv.made(I:Inv X pins σ H s):Inv X pins σ (upd (upd H s.heap.objs.size (.own (s.heap.objs.size+1))) (s.heap.objs.size+1) (.ins C s.heap.objs.size []))
  { s with heap:=(s.heap.push PySem.W.emptyDict).push (PySem.W.instObj C s.heap.objs.size) }:=by
 have e1:(s.heap.push PySem.W.emptyDict).get? s.heap.objs.size\PySem.W.emptyDict:=dq s.heap U
 have e2:((s.heap.push PySem.W.emptyDict).push (PySem.W.instObj C s.heap.objs.size)).get? (s.heap.objs.size+1)\PySem.W.instObj C s.heap.objs.size:=by
  have:=dq (s.heap.push PySem.W.emptyDict) (o:=PySem.W.instObj C s.heap.objs.size) U;rwa [Heap.size_push] at this
 have e3:(s.heap.push PySem.W.emptyDict).Ns s.heap.objs.size (λ_=>none):=#[PySem.W.emptyDict,#[],_,e1,U,(λe he=>absurd he Y1),λ_=>rfl];let I1:=I.laid (a:=s.heap.objs.size) (o:=.own (s.heap.objs.size+1)) (h':=s.heap.push PySem.W.emptyDict) (t':=s.toks) (λb u q=>bo _ q) (a9 _) #[_,e1];apply I1.laid (a:=s.heap.objs.size+1) (o:=.ins C s.heap.objs.size []) (t':=s.toks) (λb u q=>bo _ q) (Nat.le_of_eq (Heap.size_push _ _)) ?_;have ne:s.heap.objs.size≠s.heap.objs.size+1:=dH (Nat.lt_succ_self _);apply#[by rw[aB ne,aA],gO _,ne,e2,λ_=>none,(Heap.Ns1.of_empty e3).at λo q=>bo _ q,λ_=>True.intro,λy hy=>absurd U hy]
theorem Zs{prog:Ad}{w:Af}{env:Env}{e:Expr}{f:Str}{pos:Pos}{s:Ab}{Q:Aa->Ab->Prop}(hb:attributeBase e f env (eval e env)=eval e env)
  (h:wpAny (model prog w) A (eval e env) (λo aL=>wpAny (model prog w) A (getAttr o f true) Q E aL) E s):wpAny (model prog w) A (eval (.Attribute e f pos) env) Q E s:=
 Attribute_any_ h (by rw[arm_eval_Attribute,hb])
end
inductive xp (K:af) (f:Str) (Q:VK) (x:V) (H1:Hp):Prop
 |mk:∀a C dx fs v,x=.ref a->H1 a\.ins C dx fs->mR K C->ml K C f->fs.lookup f\v->Q v H1->xp K f Q x H1
def Du(K:af)(ta:TE)(f:Str):TE:=λσ H Q=>ta σ H λx H1=>xp K f Q x H1
inductive xD (K:af) (f:Str) (D:Ends) (σ:St) (y:V) (x:V) (H2:Hp):Prop
 |mk:∀a C dx fs,x=.ref a->H2 a\.ins C dx fs->mR K C->ml K C f->fs.length<1000->D.nx σ (upd H2 a (.ins C dx (aP f y fs)))->xD K f D σ y x H2
def Kz(K:af)(ta tv:TE)(f:Str):TS:=λD σ H=>tv σ H λy H1=>ta σ H1 λx H2=>xD K f D σ y x H2
section
variable{X:Cx}{o e value:Expr}{f:Str}{pos pos' Dg:Pos}{ta tv:TE}
theorem ja(he:PE X e ta)(hb:attributeBase e f X.env (eval e X.env)=eval e X.env):PE X (.Attribute e f pos) (Du X.K ta f):=by
 intro pins s σ H Q I h;apply Zs hb (aU (he pins s σ H _ I h) λu s1 ⟨x,H1,I1,rx,a,C,dx,fs,v,ex,ea,c,n,l,q⟩=>?_);subst ex;obtain rfl:u=Value.ref a:=rx;exact fC_ I1 ea c n l λu' s2 I2 ru=>#[v,H1,I2,ru,q]
theorem wF(ha:PE X o ta)(hv:PE X value tv)(hs:swapsWith value (some (.Attribute o f pos')) pos.line X.env=pure false):PS X (.Assign [.Attribute o f pos'] value pos) (Kz X.K ta tv f):=by
 intro pins s σ H D I h;apply plainObj_wpAny_Assign_Attribute (aU (hv pins s σ H _ I h) λu s1 ⟨y,H1,I1,ry,q⟩=>aU (ha pins s1 σ H1 _ I1 q) λov s2 ⟨x,H2,I2,rx,a,C,dx,fs,ex,ea,c,n,l,q2⟩=>?_) hs;subst ex;obtain rfl:ov=Value.ref a:=rx;exact g2_ I2 ea c n l ry λs3 I3=>#[σ,_,I3,q2]
end
section
variable{X:Cx}{pins:List (Addr × Obj)}{σ:St}{H:Hp}{s:Ab}{A:Ag}{E:Aa->Ab->Prop}{Q:Aa->Ab->Prop}{c:Aa}{b:Bool}
inductive dF (K:af) (H:Hp):V->Aa->Prop where
 |non:dF K H .non (.type "NoneType")
 |bl (x:Bool):dF K H (.bl x) (.type "bool")
 |int (i:Int):dF K H (.int i) (.type "int")
 |str (x:Str):dF K H (.str x) (.type "str")
 |flt (x:UInt64):dF K H (.flt x) (.type "float")
 |lst {a:Addr} {xs:ag} (e:H a\.lst xs):dF K H (.ref a) (.type "list")
 |frz {a:Addr} {o:Obj} {xs:ag} (e:H a\.frz o (.lst xs)):dF K H (.ref a) (.type "list")
 |tup {a:Addr} {xs:ag} (e:H a\.tup xs):dF K H (.ref a) (.type "tuple")
 |dK {a:Addr} {kvs:List (Key × V)} (e:H a\.dK kvs):dF K H (.ref a) (.type "dict")
 |dT {a:Addr} {kvs:List (aw × V)} (e:H a\.dT kvs):dF K H (.ref a) (.type "dict")
 |ins {a C dx:Addr} {fs:List (Str × V)} (e:H a\.ins C dx fs) (cl:mR K C) (ha:PySem.W.findIn K (.ref C) "__class__"\some (.builtin "object.__class__"))
   (hn:PySem.W.specialIn K (.builtin "object.__class__") "__get__"\some (.builtin "getset_descriptor.__get__")) (B_:PySem.W.takesIn K (.builtin "object.__class__")\true)
   (hm:PySem.W.mroIn K C (.type "object")\true):dF K H (.ref a) (.ref C)
theorem Uj{x:V}{u t:Aa}(I:Inv X pins σ H s)(rx:RelV x u)(ty:dF X.K H x t)(e:PySem.W.kitOne X.K t c\b)(h:∀tk,Q (.bool b) { s with toks:=tk }) :
  wpAny (model X.prog X.w) A (call (.builtin "isinstance") [u,c]) Q E s:=by
 cases ty with
 |non=>cases (show u=Value.none from rx);exact tM PySem.W.kitx_none I.gI True.intro e nofun h
 |bl y=>cases (show u=Value.bool y from rx);exact tM PySem.W.kitx_bool I.gI True.intro e nofun h
 |int i=>let#[t,q]:=(show ∃t,u=Value.int i t from rx);cases q;exact tM PySem.W.kitx_int I.gI True.intro e nofun h
 |str y=>let#[t,q]:=(show ∃t,u=Value.str y t from rx);cases q;exact tM PySem.W.kitx_str I.gI True.intro e nofun h
 |flt y=>let#[t,q]:=(show ∃t,u=Value.float y t from rx);cases q;exact tM PySem.W.kitx_float I.gI True.intro e nofun h
 |@lst a xs ea=>
  cases (show u=Value.ref a from rx);let#[_,_,n,_,h1]:=(show fj X.prog X.w H s.heap a (.lst xs) from I.aF a _ ea);exact tM PySem.W.kitx_list I.gI #[_,h1,U] e nofun h
 |@frz a ob xs ea=>
  cases (show u=Value.ref a from rx);let#[_,_,_,n,_,h1]:=(show fj X.prog X.w H s.heap a (.frz ob (.lst xs)) from I.aF a _ ea);exact tM PySem.W.kitx_list I.gI #[_,h1,U] e nofun h
 |@tup a xs ea=>
  cases (show u=Value.ref a from rx);let#[_,_,_,p,_]:=(show fj X.prog X.w H s.heap a (.tup xs) from I.aF a _ ea);let#[o,h1,h2,_]:=p;exact tM PySem.W.kitx_tuple I.gI #[o,h1,h2] e nofun h
 |@dK a kvs ea=>
  cases (show u=Value.ref a from rx);let#[_,_,vs,_,p]:=(show fj X.prog X.w H s.heap a (.dK kvs) from I.aF a _ ea);let#[o,es,ep,h1,h2,_]:=p;exact tM PySem.W.kitx_dict I.gI #[o,h1,h2.1] e nofun h
 |@dT a kvs ea=>
  cases (show u=Value.ref a from rx);let#[_,_,xs,_,o,es,ep,h1,h2,_]:=(show fj X.prog X.w H s.heap a (.dT kvs) from I.aF a _ ea);exact tM PySem.W.kitx_dict I.gI #[o,h1,h2.1] e nofun h
 |@ins a C dx fs ea cl ha hn B_ hm=>
  cases (show u=Value.ref a from rx);let#[mA,O,_]:=I0 I.aF ea;let#[od,J,_]:=O.look;exact tM (PySem.W.kitx_own (cl.get _) cl.hd ha hn B_ hm) I.gI J e nofun h
end
end L2
namespace L2
open PySem PySem.Spec PyProof.Rows
structure aY (k:Nat) (A:Ag):Prop where
 hd:A.handled=none
 dp:A.depth+3 * k+5<recursionLimit
 un:A.units+16 * k+200<cLine
theorem aY.mono{j k:Nat}{A:Ag}(r:aY k A)(h:j<=k):aY j A:=#[r.hd,by have:=r.dp;omega,by have:=r.un;omega]
theorem aY.deeper{k:Nat}{A:Ag}(r:aY (k+1) A)(env:Env):aY k (A.deeper env):=
 #[r.hd,by have:=r.dp;show A.depth+1+3 * k+5<_;omega,by have:=r.un;show A.units+3+16 * k+200<_;omega]
theorem aY.in1{k:Nat}{A:Ag}(r:aY (k+1) A):aY k A.in1:=
 #[r.hd,by have:=r.dp;show A.depth+3 * k+5<_;omega,by have:=r.un;show A.units+1+16 * k+200<_;omega]
theorem fD_{A:Ag}{C:Addr}{us:aj}{kw:List (Str × Aa)}:(A.under (.builtin "type.__call__" #[.ref C::us,kw])).depth=A.depth+1:=by
 first|rfl|simp[Around.under,Code.weight,Code.isCreation,Code.isGuard,Code.isCaller,Code.frames,Code.isFrame,guardIds]
theorem fI_{A:Ag}{C:Addr}{us:aj}{kw:List (Str × Aa)}:(A.under (.builtin "type.__call__" #[.ref C::us,kw])).units=A.units+1:=by
 first|rfl|simp[Around.under,Code.cUnits,Code.frames,Code.isFrame]
theorem aY.make{k:Nat}{A:Ag}(r:aY (k+1) A)(C:Addr)(us:aj)(kw:List (Str × Aa)):aY k (A.under (.builtin "type.__call__" #[.ref C::us,kw])):=
 #[r.hd,by have:=r.dp;rw[fD_];omega,by have:=r.un;rw[fI_];omega]
theorem aY.depth{k:Nat}{A:Ag}(r:aY k A):A.depth<recursionLimit:=by have:=r.dp;omega
theorem aY.units{k:Nat}{A:Ag}(r:aY k A):A.units+64<cLine:=by have:=r.un;omega
def gG:TA:=λ_ H Q=>Q [] H
def p7(ta:TE)(tr:TA):TA:=λσ H Q=>ta σ H λx H1=>tr σ H1 λxs H2=>Q (x::xs) H2
section
variable{X:Cx}{e:Expr}{es:List Expr}{te:TE}{t:TA}{pos:Pos}
theorem bR:PA X [] gG:=λ_ _ _ _ H Q I h=>Calls.spliced_nil #[[],H,I,.nil,h]
theorem d8(ha:PE X e te)(hr:PA X es t)(hs:starEach (e::es) X.env=(false,eval e X.env)::starEach es X.env:=by rfl):PA X (e::es) (p7 te t):=by
 intro pos pins s σ H Q I h;rw[hs];show wpAny _ _ (spliced ((false,eval e X.env)::backTo pos (starEach es X.env))) _ _ s;apply Calls.spliced_cons (aU (ha pins s σ H _ I h) λu s1 ⟨x,H1,I1,r1,q1⟩=>?_);exact aU (hr pos pins s1 σ H1 _ I1 q1) λus s2 ⟨xs,H2,I2,r2,q2⟩=>#[x::xs,H2,I2,.cons r1 r2,q2]
def qB(t:TA):TE:=λσ H Q=>t σ H λxs H1=>xs.length<=sizeLine/\∀p,H1 p=none->Q (.ref p) (upd H1 p (.tup xs))
def vx(t:TA):TE:=λσ H Q=>t σ H λxs H1=>xs.length<=sizeLine/\∀p,H1 p=none->Q (.ref p) (upd H1 p (.lst xs))
theorem dD{x1}(h:PA X es t):PE X (.Tuple es x1 pos) (qB t):=by
 intro pins s σ H Q I hq;apply wpAny_Tuple_spliced (aU (h pos pins s σ H _ I hq) λus s1 ⟨xs,H1,I1,r,z,q⟩=>#[by rw[<- r.length];exact z,?_]);have hf:H1 s1.heap.objs.size=none:=I1.aF.fresh (a9 _);apply#[.ref s1.heap.objs.size,upd H1 s1.heap.objs.size (.tup xs),I1.laid (t':=s1.toks) (λb u e=>bo _ e) (a9 _) ?_,U,q _ hf];exact#[z,us,r,#[_,dq _ U,U,_,U],_,dq _ U,U]
theorem eJ(h:PA X es t):PE X (.List es pos) (vx t):=by
 intro pins s σ H Q I hq;apply wpAny_List_spliced (aU (h pos pins s σ H _ I hq) λus s1 ⟨xs,H1,I1,r,z,q⟩=>#[by rw[<- r.length];exact z,?_]);have hf:H1 s1.heap.objs.size=none:=I1.aF.fresh (a9 _);apply#[.ref s1.heap.objs.size,upd H1 s1.heap.objs.size (.lst xs),I1.laid (t':=s1.toks) (λb u e=>bo _ e) (a9 _) ?_,U,q _ hf];exact#[z,us,0,r,dq _ U]
end
abbrev Sp:=ag->Hp->VK->XK->Prop
abbrev kZ:=List Env->Hp->Ab->XK->Aa->Ab->Prop
structure iH (P:Ad) (w:Af) (K:af) (mg:Str->Option Aa) (base:Heap) (A:Ag) (outer:List Env) (s:Ab) (H:Hp):Prop where
 frames:A.frames\outer
 mod:Mod K mg base
 bs:∀b o,base.get? b\o->s.heap.get? b\o/\H b=none
 tW:base.objs.size<=s.heap.objs.size
 fW:s.heap.FunFrames base outer
 wk:∀b∈pb outer,H b=none
 aF:fQ P w H s.heap
 bare:AllBare s.gens
def CE(outer:List Env)(P:Ad)(w:Af)(H:Hp)(s:Ab)(Q:VK)(u:Aa)(s':Ab):Prop:=
 ∃v H',s'.os=s.os/\AllBare s'.gens/\Un (pb outer) [] H H' s.heap s'.heap/\fQ P w H' s'.heap/\RelV v u/\Q v H'
def CR(CX:kZ)(outer:List Env)(P:Ad)(w:Af)(H:Hp)(s:Ab)(Q:VK)(E:XK)(r:Result)(s':Ab):Prop:=
 match r with
 |.ok (.ret u)=>CE outer P w H s Q u s'
 |.ok _=>False
 |.error e=>CX outer H s E e s'
structure ak (P:Ad) (w:Af) (K:af) (mg:Str->Option Aa) (base:Heap) (CX:kZ) (k:Nat) (f:Addr) (fd:Ae) (ps:ae) (sp:Sp):Prop where
 len:∀vs H Q E,sp vs H Q E->vs.length=ps.length
 run:∀(A:Ag) (outer:List Env) (s:Ab) (H:Hp) (args:Args) (us:aj) (vs:ag) (Q:VK) (E:XK),aY k A->iH P w K mg base A outer s H->BindsTo s fd args (ps.zip us)->Vals vs us->sp vs H Q E->
  codeAny (model P w) A (.call (.ref f) args) (CR CX outer P w H s Q E) s
theorem ak.imp{P:Ad}{w:Af}{K:af}{mg:Str->Option Aa}{base:Heap}{CX:kZ}{k:Nat}{f:Addr}{fd:Ae}{ps:ae}{sp BV:Sp}(F:ak P w K mg base CX k f fd ps sp)
  (h:∀vs H Q E,BV vs H Q E->sp vs H Q E):ak P w K mg base CX k f fd ps BV:=
 #[λvs H Q E q=>F.len vs H Q E (h _ _ _ _ q),λA outer s H args us vs Q E hr he hb hv hs=>F.run A outer s H args us vs Q E hr he hb hv (h _ _ _ _ hs)]
theorem iH.make{P:Ad}{w:Af}{K:af}{mg:Str->Option Aa}{base:Heap}{A:Ag}{outer:List Env}{s:Ab}{H:Hp}(e:iH P w K mg base A outer s H)(C:Addr)(us:aj)(kw:List (Str × Aa)) :
  iH P w K mg base (A.under (.builtin "type.__call__" #[.ref C::us,kw])) outer s H:=#[by first|exact e.frames|(simpa [Around.under,Code.envs,Code.isFrame,pushEnvs] using e.frames),e.mod,e.bs,e.tW,e.fW,e.wk,e.aF,e.bare]
section
variable{X:Cx}{pins:List (Addr × Obj)}{σ:St}{H:Hp}{s s':Ab}
theorem Inv.A_(I:Inv X pins σ H s):iH X.prog X.w X.K X.mg X.base X.A X.stack s H:=
 #[I.ok.frames,I.ok.mod,I.bs,ic I.ok.tW I.sz,I.stack,I.ng,I.aF,I.bare]
theorem Inv.after{Q:VK}{u:Aa}(I:Inv X pins σ H s)(h:CE X.stack X.prog X.w H s Q u s'):EP X pins σ Q u s':=by
 let#[v,H',os,bare,un,aF,r,q]:=h;let#[hh,g,d,t,KO]:=s';obtain rfl:KO=s.os:=os;exact#[v,H',I.call (h':=hh) (g':=g) (d':=d) (t':=t) (ch:=[]) un aF bare (λb z=>absurd z Y1),r,q]
end
def xu(sp:Sp)(gJ:ag)(E:XK)(t:TA):TE:=λσ H Q=>t σ H λvs H1=>sp (vs++gJ) H1 Q E
inductive qH (C:Addr) (m:Str) (sp:Sp) (gJ:ag) (E:XK) (t:TA) (σ:St) (Q:VK) (x:V) (H1:Hp):Prop
 |mk:∀a dx fs,x=.ref a->H1 a\.ins C dx fs->fs.lookup m=none->(t σ H1 λvs H2=>sp (x::(vs++gJ)) H2 Q E)->qH C m sp gJ E t σ Q x H1
def mY(C:Addr)(m:Str)(sp:Sp)(gJ:ag)(E:XK)(ta:TE)(t:TA):TE:=λσ H Q=>ta σ H λx H1=>qH C m sp gJ E t σ Q x H1
def xn(C:Addr)(sp:Sp)(gJ:ag)(E:XK)(t:TA):TE:=λσ H Q=>t σ H λvs H1=>∀x dx,H1 x=none->H1 dx=none->dx≠x->
 sp (.ref x::(vs++gJ)) (upd (upd H1 dx (.own x)) x (.ins C dx [])) (λv H2=>v=.non/\Q (.ref x) H2) E
def p9(K:af)(fd:Ae)(ps:ae)(ds:aj):Prop:=
 ∀(s:Ab) (us:aj),K.In s.heap->(us++ds).length=ps.length->BindsTo s fd #[us,[]] (ps.zip (us++ds))
theorem p9.all{K:af}{fd:Ae}{ps:ae}(h:∀us:aj,us.length=ps.length->bindArgs fd #[us,[]]=pure (ps.zip us)):p9 K fd ps []:=λs us _ hl=>by
 rw[List.append_nil] at hl ⊢;exact .of_eq (h us hl)
def wU(CX:kZ)(X:Cx)(E:XK):Prop:=∀(pins:List (Addr × Obj)) (σ:St) (H:Hp) (s:Ab) (e:Aa) (s':Ab),Inv X pins σ H s->CX X.stack H s E e s'->X.xe e s'
section
variable{X:Cx}{CX:kZ}{k:Nat}{f C:Addr}{fd:Ae}{ps:ae}{sp:Sp}{gJ:ag}{ds:aj}{E:XK}{x m:Str}{p pos apos:Pos}{e o:Expr}{es:List Expr}{ta:TE}{t:TA}
theorem MG{pins:List (Addr × Obj)}{σ:St}{H:Hp}{s:Ab}{Q:VK}{us:aj}{vs:ag}(F:ak X.prog X.w X.K X.mg X.base CX k f fd ps sp)(hr:aY k X.A)(hb:p9 X.K fd ps ds)(hd:Vals gJ ds)(hx:wU CX X E)
  (I:Inv X pins σ H s) (r:Vals vs us) (h:sp (vs++gJ) H Q E):wpAny (model X.prog X.w) X.A (call (.ref f) us) (EP X pins σ Q) X.xe s:=by
 have r2:Vals (vs++gJ) (us++ds):=r.append hd;have hl:(us++ds).length=ps.length:=by rw[<- r2.length];exact F.len _ _ _ _ h
 apply wpAny_call (codeAny_mono (F.run X.A X.stack s H #[us,[]] (us++ds) (vs++gJ) Q E hr I.A_ (hb s us I.gI hl) r2 h) λr s' hq=>?_);cases r with
 |error e=>exact hx pins σ H s e s' I hq
 |ok fl=>
  cases fl with
  |ret u=>exact I.after hq
  |next=>exact False.elim hq
  |brk=>exact False.elim hq
  |cont=>exact False.elim hq
theorem Yo(F:ak X.prog X.w X.K X.mg X.base CX k f fd ps sp)(hr:aY k X.A)(hg:Gl X x)(hm:X.mg x\.ref f)(hk:PySem.W.keepIn X.K (.ref f)=true)(hb:p9 X.K fd ps ds)(hd:Vals gJ ds)(hx:wU CX X E)
  (ha:PA X (e::es) t) (tj:(x == ("__debug__":Str))=false:=by decide) (he:starEach (e::es) X.env=(false,eval e X.env)::starEach es X.env:=by rfl) (iZ:(backTo pos (starEach es X.env)).any (·.1)=false:=by rfl) :
  PE X (.Call (.Name x p) (e::es) [] pos) (xu sp gJ E t):=by
 intro pins s σ H Q I h;apply wpAny_Call_Name_kw (M4 I hg hm ?_ tj);apply PySem.W.callWith_K (h₀:=X.base) I.ok.mod.Es hk (aU (ha pos pins s σ H _ I h) λus s1 ⟨vs,H1,I1,r,q⟩=>#[I1.gI,?_]) he iZ;exact MG F hr hb hd hx I1 r q
theorem ZI{pl:Sem Bool}(he:PE X o ta)(c:mR X.K C)(hm:Meth X.K C m f)(F:ak X.prog X.w X.K X.mg X.base CX k f fd ps sp)(hr:aY k X.A)(hb:p9 X.K fd ps ds)(hd:Vals gJ ds)(hx:wU CX X E)(ha:PA X (e::es) t)
  (AA:starEach (e::es) X.env=(false,eval e X.env)::starEach es X.env:=by rfl) (iZ:(backTo pos (starEach es X.env)).any (·.1)=false:=by rfl)
  (ht:eval (.Call (.Attribute o m apos) (e::es) [] pos) X.env=(do
   let ov <- eval o X.env
   standAt apos.atName
   let (f,first) <- holding [ov] (getMethod ov m pl)
   callWith pos f first (backTo pos (starEach (e::es) X.env)) (backToKw pos (keywordEach [] X.env))):=by rfl) :
  PE X (.Call (.Attribute o m apos) (e::es) [] pos) (mY C m sp gJ E ta t):=by
 intro pins s σ H Q I h;apply PySem.W.methodCall_KW (pl:=pl) (aU (he pins s σ H _ I h) λu s1 ⟨x,H1,I1,rx,a,dx,fs,ex,ea,l,q⟩=>?_) ht;subst ex;obtain rfl:u=Value.ref a:=rx;apply Ur I1 ea c hm l ?_;apply PySem.W.callWith_K (first:=[.ref a]) (h₀:=X.base) I.ok.mod.Es hm.kp (aU (ha pos pins s1 σ H1 _ I1 q) λus s2 ⟨vs,H2,I2,r,q2⟩=>#[I2.gI,?_]) AA iZ;exact MG (us:=.ref a::us) (vs:=.ref a::vs) F hr hb hd hx I2 (.cons U r) q2
theorem _w{pl:Sem Bool}(he:PE X o ta)(c:mR X.K C)(hm:Meth X.K C m f)(F:ak X.prog X.w X.K X.mg X.base CX k f fd ps sp)(hr:aY k X.A)(hb:p9 X.K fd ps ds)(hd:Vals gJ ds)(hx:wU CX X E)
  (ht:eval (.Call (.Attribute o m apos) [] [] pos) X.env=(do
   let ov <- eval o X.env
   standAt apos.atName
   let (f,first) <- holding [ov] (getMethod ov m pl)
   callWith pos f first (backTo pos (starEach [] X.env)) (backToKw pos (keywordEach [] X.env))):=by rfl) :
  PE X (.Call (.Attribute o m apos) [] [] pos) (mY C m sp gJ E ta gG):=by
 intro pins s σ H Q I h;apply PySem.W.methodCall_KW (pl:=pl) (aU (he pins s σ H _ I h) λu s1 ⟨x,H1,I1,rx,a,dx,fs,ex,ea,l,q⟩=>?_) ht;subst ex;obtain rfl:u=Value.ref a:=rx;apply Ur I1 ea c hm l ?_;exact PySem.W.callWith_K0 (first:=[.ref a]) I1.gI hm.kp (MG (us:=[.ref a]) (vs:=[.ref a]) F hr hb hd hx I1 (.cons U .nil) q)
structure Mk (K:af) (C f:Addr):Prop where
 makes:PySem.W.makesIn K C=true
 init:PySem.W.findIn K (.ref C) "__init__"\some (.ref f)
 fn:PySem.W.isFn K (.ref f)=true
 kp:PySem.W.keepIn K (.ref C)=true
theorem hX_{pins:List (Addr × Obj)}{σ:St}{H:Hp}{s:Ab}{Q:VK}{us:aj}{vs:ag}(M:Mk X.K C f)(F:ak X.prog X.w X.K X.mg X.base CX k f fd ps sp)(hr:aY (k+1) X.A)(hb:p9 X.K fd ps ds)(hd:Vals gJ ds)
  (hx:wU CX X E) (I:Inv X pins σ H s) (r:Vals vs us)
  (h:∀x dx,H x=none->H dx=none->dx≠x->sp (.ref x::(vs++gJ)) (upd (upd H dx (.own x)) x (.ins C dx [])) (λv H2=>v=.non/\Q (.ref x) H2) E) :
  wpAny (model X.prog X.w) X.A (call (.ref C) us) (EP X pins σ Q) X.xe s:=by
 let hq:=h (s.heap.objs.size+1) s.heap.objs.size (I.aF.fresh (Nat.le_succ _)) (I.aF.fresh (a9 _)) (dH (Nat.lt_succ_self _));let I2:=Inv.made (C:=C) I;have r2:Vals (V.ref (s.heap.objs.size+1)::(vs++gJ)) (Value.ref (s.heap.objs.size+1)::(us++ds)):=.cons U (r.append hd)
 have hl:(Value.ref (s.heap.objs.size+1)::us++ds).length=ps.length:=by
  let e:=r2.length;rw[F.len _ _ _ _ hq] at e;exact e.symm
 apply wpAny_call (hY_ (f:=f) I.gI M.makes M.init (beq_iff_eq.mp M.fn) (codeAny_mono (F.run _ X.stack _ _ #[Value.ref (s.heap.objs.size+1)::us,[]] (Value.ref (s.heap.objs.size+1)::(us++ds)) _ _ E (hr.make C us [])
  (I2.A_.make C us []) (hb _ (Value.ref (s.heap.objs.size+1)::us) I2.gI hl) r2 hq) λr s' hq'=>?_))
 cases r with
 |error e=>exact hx pins σ _ _ e s' I2 hq'
 |ok fl=>
  cases fl with
  |ret u=>
   let#[v,H',I3,rv,ev,q3]:=I2.after hq';subst ev;exact#[rv,#[V.ref (s.heap.objs.size+1),H',I3,U,q3]]
  |next=>exact False.elim hq'
  |brk=>exact False.elim hq'
  |cont=>exact False.elim hq'
theorem Zv(M:Mk X.K C f)(F:ak X.prog X.w X.K X.mg X.base CX k f fd ps sp)(hr:aY (k+1) X.A)(hg:Gl X x)(hm:X.mg x\.ref C)(hb:p9 X.K fd ps ds)(hd:Vals gJ ds)(hx:wU CX X E)
  (ha:PA X (e::es) t) (tj:(x == ("__debug__":Str))=false:=by decide) (he:starEach (e::es) X.env=(false,eval e X.env)::starEach es X.env:=by rfl) (iZ:(backTo pos (starEach es X.env)).any (·.1)=false:=by rfl) :
  PE X (.Call (.Name x p) (e::es) [] pos) (xn C sp gJ E t):=by
 intro pins s σ H Q I h;apply wpAny_Call_Name_kw (M4 I hg hm ?_ tj);apply PySem.W.callWith_K (h₀:=X.base) I.ok.mod.Es M.kp (aU (ha pos pins s σ H _ I h) λus s1 ⟨vs,H1,I1,r,q⟩=>#[I1.gI,?_]) he iZ;exact hX_ M F hr hb hd hx I1 r q
end
def PK(X:Cx)(B5:List Keyword)(t:TA):Prop:=
 ∀(pos:Pos) (pins:List (Addr × Obj)) (s:Ab) (σ:St) (H:Hp) (Q:ag->Hp->Prop),Inv X pins σ H s->t σ H Q->wpAny (model X.prog X.w) X.A (evalAll ((backToKw pos (keywordEach B5 X.env)).map (·.2))) (AP X pins σ Q) X.xe s
section
variable{X:Cx}{CX:kZ}{k:Nat}{f C:Addr}{fd:Ae}{ps ks:ae}{sp:Sp}{E:XK}{x m:Str}{p pos apos Lj:Pos}{e o:Expr}{es:List Expr}{B5:List Keyword}{te ta:TE}{t tk:TA}{nm:Option Str}
theorem YJ:PK X [] gG:=λ_ _ _ _ H Q I h=>wpAny_evalAll_nil #[[],H,I,.nil,h]
theorem Zx(ha:PE X e te)(hr:PK X B5 t):PK X (#[nm,e,Lj]::B5) (p7 te t):=by
 intro pos pins s σ H Q I h;show wpAny _ _ (evalAll ((do let v <- eval e X.env;standAt pos;pure v)::(backToKw pos (keywordEach B5 X.env)).map (·.2))) _ _ s;apply wpAny_evalAll_cons (ai (aU (ha pins s σ H _ I h) λu s1 ⟨x,H1,I1,r1,q1⟩=>ai (wpAny_standAt (aI ?_))));exact aU (hr pos pins s1 σ H1 _ I1 q1) λus s2 ⟨xs,H2,I2,r2,q2⟩=>#[x::xs,H2,I2,.cons r1 r2,q2]
structure PJ (K:af) (fd:Ae) (ps ks:ae) (g:aj->aj->aj) (gV:ag->ag->ag):Prop where
 to:∀(s:Ab) (us ws:aj),K.In s.heap->(g us ws).length=ps.length->BindsTo s fd #[us,ks.zip ws] (ps.zip (g us ws))
 rel:∀{vs:ag} {us:aj} {zs:ag} {ws:aj},Vals vs us->Vals zs ws->Vals (gV vs zs) (g us ws)
variable{g:aj->aj->aj}{gV:ag->ag->ag}
end
structure bQ (N P:ae) (sc:Scope):Prop where
 kind:sc.kind=.function
 co:sc.isCoroutine=false
 gen:sc.isGenerator=false
 nd:N.Nodup
 pre:N.take P.length=P
 par:∀x∈P,sc.names.lookup x\.local∨sc.names.lookup x\.cell
 zY:∀y∈sc.names,y.2≠.free
theorem TY{kindOf:Str->Option NameKind}{x:Str}:∀{binds:List (Str × Aa)} {m:Str->Option Aa},(∀v,(x,v)∉binds)->bindL kindOf binds m x=m x
 |[],_,_=>rfl
 |(n,v)::r,m,h=>by
  unfold bindL;rw[TY λw hw=>h w (fo _ hw)];split
  ·have:x≠n:=by rintro rfl;exact h v fY
   simp[this]
  rfl
theorem Ue{kindOf:Str->Option NameKind}{x:Str}:∀{binds:List (Str × Aa)} {m:Str->Option Aa},(∀v,(x,v)∉binds)->bindC kindOf binds m x=m x
 |[],_,_=>rfl
 |(n,v)::r,m,h=>by
  unfold bindC;rw[Ue λw hw=>h w (fo _ hw)];split
  ·rfl
  have:x≠n:=by rintro rfl;exact h v fY
  simp[this]
theorem Tu{kindOf:Str->Option NameKind}{x:Str}{v:Aa}:∀{P:ae} {vs:aj} {i:Nat} {m:Str->Option Aa},P.Nodup->P[i]? = some x->vs[i]? = some v->kindOf x\.local->
  bindL kindOf (P.zip vs) m x\v
 |[],_,_,_,_,h,_,_=>by simp at h
 |_::_,[],_,_,_,_,h,_=>by simp at h
 |p::P,w::vs,0,m,nd,h1,h2,hk=>by
  simp at h1 h2;subst h1;subst h2;show bindL kindOf ((p,w)::P.zip vs) m p=_;unfold bindL;rw[TY λv hv=>(kW.mp nd).1 (List.of_mem_zip hv).1,aK hk];simp
 |p::P,w::vs,i+1,m,nd,h1,h2,hk=>by
  show bindL kindOf ((p,w)::P.zip vs) m x=_;unfold bindL;exact Tu (i:=i) (kW.mp nd).2 ⇑h1 ⇑h2 hk
theorem TX{kindOf:Str->Option NameKind}{x:Str}{v:Aa}:∀{P:ae} {vs:aj} {i:Nat} {m:Str->Option Aa},P.Nodup->P[i]? = some x->vs[i]? = some v->kindOf x≠some .local->
  bindC kindOf (P.zip vs) m x\v
 |[],_,_,_,_,h,_,_=>by simp at h
 |_::_,[],_,_,_,_,h,_=>by simp at h
 |p::P,w::vs,0,m,nd,h1,h2,hk=>by
  simp at h1 h2;subst h1;subst h2;show bindC kindOf ((p,w)::P.zip vs) m p=_;unfold bindC;rw[Ue λv hv=>(kW.mp nd).1 (List.of_mem_zip hv).1,aD hk];simp
 |p::P,w::vs,i+1,m,nd,h1,h2,hk=>by
  show bindC kindOf ((p,w)::P.zip vs) m x=_;unfold bindC;exact TX (i:=i) (kW.mp nd).2 ⇑h1 ⇑h2 hk
def start(N:ae)(vs:ag):St:=vs.map some++List.replicate (N.length - vs.length) none
def i7(CX:kZ)(P:Ad)(w:Af)(K:af)(mg:Str->Option Aa)(base:Heap)(N:ae)(qual:Str)(scope:Scope)(f:Addr)(cd:Aa)(A:Ag)(outer:List Env)(s:Ab)(H:Hp)(E:XK):Cx where
 prog:=P
 w:=w
 K:=K
 mg:=mg
 base:=base
 A:=A.deeper (envOfC qual scope s.heap.objs.size f cd)
 N:=N
 dk:=s
 ku:=H
 env:=envOfC qual scope s.heap.objs.size f cd
 outer:=outer
 stack:=envOfC qual scope s.heap.objs.size f cd::outer
 ex:=[]
 calm:=true
 fn:=λ_=>true
 pn:=[]
 xe:=λe s'=>wpAny (model P w) (A.deeper (envOfC qual scope s.heap.objs.size f cd)) (leaving (envOfC qual scope s.heap.objs.size f cd) e) (λ_ pM=>CX outer H s E e pM) (λe' pM=>CX outer H s E e' pM) s'
theorem S3{sc:Scope}{n:Nat}{x:Str}(h:sc.names.lookup x\.cell):∃c,(cellsFrom n sc.names []).lookup x\c:=by
 let q:=PySem.W.cellsFrom_some sc.names n [] (.inl h);exact Option.isSome_iff_exists.mp q
theorem gM_{CX:kZ}{P:Ad}{w:Af}{K:af}{mg:Str->Option Aa}{base:Heap}{N ps:ae}{qual:Str}{scope:Scope}{f:Addr}{cd:Aa}{A:Ag}{outer:List Env}{s s1:Ab}{H:Hp}{E:XK}{us:aj}{vs:ag}
  (S:bQ N ps scope) (hd:A.handled=none) (e0:iH P w K mg base A outer s H) (hl:vs.length=ps.length) (r:Vals vs us)
  (x:InCallC s s.heap.objs.size (bindL (envOfC qual scope s.heap.objs.size f cd).kindOf (ps.zip us) λ_=>none) (cellsFrom (s.heap.objs.size+1) scope.names []) (bindC (envOfC qual scope s.heap.objs.size f cd).kindOf (ps.zip us) λ_=>none) s1) :
  Inv (i7 CX P w K mg base N qual scope f cd A outer s H E) [] (start N vs) H s1:=by
 have iZ:ps.length<=N.length:=by have:=eY List.length S.pre;rw[dM] at this;omega
 let#[h1,tk,rfl,hk]:=x.done;have vM:∀b:Addr,b∉(i7 CX P w K mg base N qual scope f cd A outer s H E).ex:=λb z=>absurd (show b∈([]:av) from z) Y1
 apply#[#[e0.mod,S.kind,U,U,a9 _,λy z c h1 h2=>?_,λy hy=>?_,λy c _ h=>?_,λ_=>hd,Around.frames_deeper e0.frames,.inr #[U,U],λb z=>absurd z (vM b),e0.bs,e0.tW,λb _ _=>vM b,λb z=>absurd z (vM b),e0.fW,e0.wk],
  rfl,e0.bare,Un.kept hk,#[_,x.toInCall.ns,λi y v h1 h2 h3=>?_],λy c h=>#[_,x.cell y c h],e0.aF.fresh (a9 _),λy c h=>?_,λp hp=>absurd (show p∈([]:List (Addr × Obj)) from hp) Y1,e0.aF.kept hk,?_]
 ·exact name_of_addr x.apart (qh h1) (qh h2)
 ·have hy:scope.names.lookup y\.cell∨scope.names.lookup y\.free:=hy;rcases hy with hy|hy
  ·exact S3 hy
  exact absurd U (S.zY _ (qh hy))
 ·exact Nat.le_of_lt (x.above y c (qh h))
 ·have hi:i<vs.length:=by
   unfold start at h2;by_cases hi:i<vs.length
   ·exact hi
   rw[yP ⇑hi] at h2;rw[List.getElem?_replicate] at h2;split at h2<;>cases h2
  have ha:vs[i]? = some v:=by
   unfold start at h2;rw[w6 ⇑hi,df] at h2;cases e:vs[i]? with
   |none=>rw[e] at h2;cases h2
   |some a=>rw[e] at h2;cases h2;rfl
  let#[u,hu,rv]:=r.get ha
  have hp:ps[i]? = some y:=by
   rw[<- S.pre,List.getElem?_take_of_lt Y0];exact h1
  have Hs:ps.Nodup:=by rw[<- S.pre];exact S.nd.sublist (List.take_sublist _ _)
  apply#[u,rv,?_];rcases S.par y (cJ hp) with k|k
  ·exact .inl #[k,Tu Hs hp hu k]
  let#[c,e]:=S3 (n:=s.heap.objs.size+1) k;apply .inr #[.inl k,c,e,?_];let q:=x.cell y c e;rw[TX Hs hp hu (by show scope.names.lookup y≠_;rw[k];decide)] at q;exact q
 ·exact e0.aF.fresh (Nat.le_of_lt (x.above y c (qh h)))
 unfold start;show _=N.length;rw[dN,aq,CU];omega
theorem QT{CX:kZ}{P:Ad}{w:Af}{K:af}{mg:Str->Option Aa}{base:Heap}{k:Nat}{f:Addr}{name qual:Str}{params:Arguments}{body:List Stmt}{scope:Scope}{dV kV doc pm aO ct oc:Aa}{an od:Option Addr}
  {jG:Array (Option Aa)} {N ps:ae} {sp:Sp} (lk:K.lookup f=some #[oc,od,.func (PySem.W.fnOf name qual params body scope dV kV doc pm an aO ct),jG]) (iy:PySem.W.codeIn K aO qual=true) (S:bQ N ps scope)
  (len:∀vs H Q E,sp vs H Q E->vs.length=ps.length)
  (fU:∀(A:Ag) (outer:List Env) (s:Ab) (H:Hp) (vs:ag) (Q:VK) (E:XK),aY k (A.deeper (envOfC qual scope s.heap.objs.size f aO))->sp vs H Q E->
   ∃t,km (i7 CX P w K mg base N qual scope f aO A outer s H E) body t/\t { nx:=λ_ H'=>Q .non H',rt:=Q } (start N vs) H) :
  ak P w K mg base CX (k+1) f (PySem.W.fnOf name qual params body scope dV kV doc pm an aO ct) ps sp:=by
 apply#[len,λA outer s H args us vs Q E hr e0 hb r kG=>?_];let hl:=len _ _ _ _ kG;have KX:K.In s.heap:=e0.mod.Es.keeps λb o e=>(e0.bs b o e).1;have lim:s.heap.NoLimit:=e0.mod.nolimit.keeps λb o e=>(e0.bs b o e).1
 have E6:∀y∈ps.zip us,scope.names.lookup y.1\.local∨(scope.names.lookup y.1\.cell/\((cellsFrom (s.heap.objs.size+1) scope.names []).lookup y.1).isSome=true):=λ⟨n,v⟩ hy=>by
  rcases S.par n (List.of_mem_zip hy).1 with q|q
  ·exact .inl q
  exact .inr #[q,PySem.W.cellsFrom_some _ _ _ (.inl q)]
 apply codeAny_call_function hr.depth (KX _ _ lk) U S.co S.gen U (PySem.W.codeRec_of KX iy) (hb _ _ _ _ ?_);apply wpAny_newFunctionEnv_cells S.kind E6 λenv he s1 x=>?_;subst he;apply#[lim.keeps x.toInCall.keep,codeAny_func ?_];let#[t,ht,hq]:=fU A outer s H vs Q E (hr.deeper _) kG;have I:Inv (i7 CX P w K mg base N qual scope f aO A outer s H E) [] (start N vs) H s1:=gM_ S hr.hd e0 hl r x;apply wpAny_mono (ht [] s1 (start N vs) H _ I hq) (λfl s' hs=>?_) λe s' hs=>hs
 have fin:∀{bf:St} {H':Hp} {v:V} {u:Aa},Inv (i7 CX P w K mg base N qual scope f aO A outer s H E) [] bf H' s'->RelV v u->Q v H'->CE outer P w H s Q u s':=
  λ{bf H' v u} J rv q=>#[v,H',J.os,J.bare,J.base,J.aF,rv,q]
 cases fl with
 |ret u=>
  let#[v,bf,H',J,rv,q]:=hs;exact fin J rv q
 |next=>
  let#[bf,H',J,q]:=hs;exact fin (v:=V.non) (u:=Value.none) J U q
 |brk=>
  let#[_,_,_,q]:=hs;exact False.elim q
 |cont=>
  let#[_,_,_,q]:=hs;exact False.elim q
end L2
local macro_rules|`(!$f:ident $a*)=>if [`bF,`mT,`bY,`ak,`kr].contains f.getId then let i:=Lean.mkIdent;`($f $(i `P) $(i `w) $(i `K) $(i `mg) $(i `base) $a*)else Lean.Macro.throwUnsupported
namespace L2
open PySem PySem.Spec PyProof.Rows
section
variable{X:Cx}{x:Str}{p pos:Pos}{e:Expr}{es:List Expr}{t:TA}{id T:String}{r:ag->Hp->VK->Prop}
def Qd(r:ag->Hp->VK->Prop)(t:TA):TE:=λσ H Q=>t σ H λvs H1=>r vs H1 Q
theorem bT(hc:gn X (.builtin id) r)(hg:Gl X x)(hm:X.mg x=none)(hv:bootBuiltins x\.builtin id)(ha:PA X (e::es) t)(hn:x≠"__name__":=by decide)(tj:(x == ("__debug__":Str))=false:=by decide)
  (he:starEach (e::es) X.env=(false,eval e X.env)::starEach es X.env:=by rfl) (iZ:(backTo pos (starEach es X.env)).any (·.1)=false:=by rfl):PE X (.Call (.Name x p) (e::es) [] pos) (Qd r t):=by
 intro pins s σ H Q I h;apply wpAny_Call_Name_kw (wJ I hg hm hv ?_ hn tj);exact PyProof.Rows.callWith_builtin1 (aU (ha pos pins s σ H _ I h) λus s1 ⟨vs,H1,I1,r1,q1⟩=>hc pins s1 σ H1 vs us Q I1 r1 q1) he iZ
theorem gS(hc:gn X (.type T) r)(hg:Gl X x)(hm:X.mg x=none)(hv:bootBuiltins x\.type T)(ha:PA X (e::es) t)(hn:x≠"__name__":=by decide)(tj:(x == ("__debug__":Str))=false:=by decide)
  (he:starEach (e::es) X.env=(false,eval e X.env)::starEach es X.env:=by rfl) (iZ:(backTo pos (starEach es X.env)).any (·.1)=false:=by rfl):PE X (.Call (.Name x p) (e::es) [] pos) (Qd r t):=by
 intro pins s σ H Q I h;apply wpAny_Call_Name_kw (wJ I hg hm hv ?_ hn tj);exact CJ (aU (ha pos pins s σ H _ I h) λus s1 ⟨vs,H1,I1,r1,q1⟩=>hc pins s1 σ H1 vs us Q I1 r1 q1) he iZ
end
end L2
namespace HT
open PySem PyProof.Rows
section
open PySem.SeqAt
open PySem.AutoSeq1 (wpAny_loadPart')
open PySem.MeetsSeq PySem.MeetsSeq2 PySem.MeetsSeq3
end
section
variable{prog:Ad}{w:Af}{A:Ag}{E:Aa->Ab->Prop}{s:Ab}
theorem wH{t b:Addr}{vs ws:aj}{Q:Aa->Ab->Prop}(ht:IsTup s.heap t vs.toArray)(hb:IsTup s.heap b ws.toArray)(hv:vs≠[])
  (h1:ws=[]->Q (.ref t) s) (h2:ws≠[]->Q (.ref s.heap.objs.size) { s with heap:=s.heap.push { cls:=.type "tuple",data:=.seq (vs++ws).toArray } })
  (hsz:vs.length+ws.length<=sizeLine):wpAny (model prog w) A (binaryOp .Add (.ref t) (.ref b)) Q E s:=by
 let#[#[cls,dd,data,sl],ho,hc,n,hd]:=id ht;let#[#[Oo,Jf,data2,He],fK,jt,n2,hd2]:=id hb;simp only at hc hd jt hd2;subst hc hd jt hd2;have e:vs.toArray++ws.toArray=(vs++ws).toArray:=by simp
 by_cases hw:ws=[]
 ·exact concat_meets #[_,ho,U] #[_,fK,U] noFill_tuple_add seq_tuple_add PySem.F.slot_tuple_add PySem.F.entry_tuple_add (PySem.F.args_tuple_add_2 _ _)
   (tuple_addW1 t b vs.toArray ws.toArray n n2 dd Jf sl He ⇑hv (by simp[hw])) #[ho,fK,h1 hw]
 apply concat_meets #[_,ho,U] #[_,fK,U] noFill_tuple_add seq_tuple_add PySem.F.slot_tuple_add PySem.F.entry_tuple_add (PySem.F.args_tuple_add_2 _ _)
  (tuple_addW2 t b vs.toArray ws.toArray n n2 dd Jf sl He ⇑hv ⇑hw (by rw[cY,cY];exact hsz)) #[ho,fK,?_]
 rw[e];exact h2 hw
def bU(n d:Nat):Option Int->Nat
 |none=>d
 |some v=>if v<0 then (v+(n:Int)).toNat else min v.toNat n
theorem eU(n d:Nat):bU n d none=d:=rfl
theorem d7(n d k:Nat):bU n d (some (k:Int))=min k n:=by
 show (if (k:Int)<0 then ((k:Int)+(n:Int)).toNat else min (k:Int).toNat n)=min k n;rw[aD Y0,yR]
theorem YQ(n d:Nat)(hd:d<=n)(o:Option Int):bU n d o<=n:=by
 cases o with
 |none=>exact hd
 |some v=>
  show (if v<0 then (v+(n:Int)).toNat else min v.toNat n)<=n;by_cases hv:v<0
  ·rw[aK hv];omega
  rw[aD hv];exact Nat.min_le_right _ _
theorem So(v:Int)(n d:Nat):(if v<0 then max (v+(n:Int)) 0 else min v (n:Int))=((bU n d (some v):Nat):Int):=by
 show (if v<0 then max (v+(n:Int)) 0 else min v (n:Int))=(((if v<0 then (v+(n:Int)).toNat else min v.toNat n):Nat):Int);by_cases hv:v<0
 ·simp only[aK hv];omega
 simp only[aD hv];omega
theorem fQ_(lo hi:Option Int)(n:Nat):Builtin.Slice.sliceAdjust lo hi 1 (n:Int)=(((bU n 0 lo:Nat):Int),((bU n n hi:Nat):Int)):=by
 have h1:¬((1:Int)<0):=by omega
 unfold Builtin.Slice.sliceAdjust;simp only[h1,if_false];apply Prod.ext ?_ ?_
 ·cases lo with
  |none=>rfl
  |some v=>exact So v n 0
 cases hi with
 |none=>rfl
 |some v=>exact So v n n
theorem fK_(i j:Nat):Builtin.Slice.slicePlaces (i:Int) (j:Int) 1=j - i:=by
 unfold Builtin.Slice.slicePlaces;have h1:(1:Int) > 0:=by omega
 simp only[h1,if_true,Int.ediv_one];split<;>omega
theorem Uq{v:Aa}{o:Option Int}{Q:Option Int->Ab->Prop}(p:IsPart v o)(h:Q o s):wpAny (model prog w) A (Builtin.Slice.slicePartIndex v) Q E s:=by
 cases p with
 |none=>exact slicePart_none h
 |int i t=>exact slicePart_int h
theorem U9{sl:Addr}{vl vu:Aa}{lo hi:Option Int}{n:Nat}{Q:Int × Int × Nat->Ab->Prop}(hs:s.heap.IsSliceOf sl vl vu .none)(pl:IsPart vl lo)(pu:IsPart vu hi)
  (h:Q (((bU n 0 lo:Nat):Int),1,bU n n hi - bU n 0 lo) s):wpAny (model prog w) A (Builtin.Slice.sliceApplied (.ref sl) (pure (n:Int))) Q E s:=by
 let#[os,AD,Ii,AR]:=id hs;unfold Builtin.Slice.sliceApplied Builtin.Slice.sliceFields;apply ai (ai (hJ AD AR (x:=vl) U (ai (hJ AD AR (x:=vu) U (ai (hJ AD AR (x:=.none) U (aI ?_)))))));apply ai (slicePart_none ?_);show wpAny _ _ (if ((1:Int) == 0)=true then _ else _) _ _ s;rw[aD (by decide)];apply ai (Uq pl (ai (Uq pu (ai (aI ?_)))));show wpAny _ _ (match Builtin.Slice.sliceAdjust lo hi 1 (n:Int) with|(lo,hi)=>pure (lo,(1:Int),Builtin.Slice.slicePlaces lo hi 1)) _ _ s;rw[fQ_ lo hi n];show wpAny _ _ (pure (((bU n 0 lo:Nat):Int),(1:Int),Builtin.Slice.slicePlaces ((bU n 0 lo:Nat):Int) ((bU n n hi:Nat):Int) 1)) _ _ s;rw[fK_];exact aI h
theorem hN_(xs:Array Aa)(i k:Nat):((List.range k).filterMap λ(m:Nat)=>xs[((i:Int)+(m:Int) * 1).toNat]?).toArray=((xs.toList.drop i).take k).toArray:=by
 have e:(λ(m:Nat)=>xs[((i:Int)+(m:Int) * 1).toNat]?)=λm=>xs[i+m]?:=by
  funext m
  have:((i:Int)+(m:Int) * 1).toNat=i+m:=by omega
  rw[this]
 rw[e];have:=pick_run xs i k;rw[List.filterMap_map] at this;have e2:((λx=>xs[x]?) ∘ λx=>i+x)=λm=>xs[i+m]?:=rfl;rw[e2] at this;rw[this]
theorem fV{t sl:Addr}{items:Array Aa}{vl vu:Aa}{lo hi:Option Int}{Q:Aa->Ab->Prop}(ht:IsTup s.heap t items)(hs:s.heap.IsSliceOf sl vl vu .none)(pl:IsPart vl lo)(pu:IsPart vu hi)
  (hw:¬(bU items.size 0 lo=0/\bU items.size items.size hi=items.size))
  (h:Q (.ref s.heap.objs.size) { s with heap:=s.heap.push { cls:=.type "tuple",data:=.seq ((items.toList.drop (bU items.size 0 lo)).take (bU items.size items.size hi - bU items.size 0 lo)).toArray } })
  (hsz:items.size<=sizeLine):wpAny (model prog w) A (getItem (.ref t) (.ref sl)) Q E s:=by
 have n6:sizeOk (.seq ((items.toList.drop (bU items.size 0 lo)).take (bU items.size items.size hi - bU items.size 0 lo)).toArray):=by
  show ((items.toList.drop (bU items.size 0 lo)).take (bU items.size items.size hi - bU items.size 0 lo)).toArray.size<=sizeLine;rw[cY,dM,wY,uf];omega
 have hj:bU items.size items.size hi<=items.size:=YQ _ _ (a9 _) hi;let#[os,AD,Ii,AR]:=id hs;have Fo:s.TypeIs (.ref sl) "slice":=#[os,AD,Ii];unfold getItem
 try with_reducible apply gR ?_
 first|refine ai (aI ?_)|skip
 apply ai (wpAny_sequenceKey ht.typeIs (by decide) ?_)
 apply ai (wK (name:=Str.ofString "__getitem__") ht.typeIs PyProof.Rows.slot_tuple_getitem
  (tQ PyProof.Rows.slot_tuple_getitem ht.typeIs entry_tuple_getitem ?_ (args_tuple_getitem _ _)))
 show wpAny _ _ (Builtin.Tuple.tupleItemsOf (.ref t) >>= _) _ _ s;apply ai (tupleItemsOf_ ht ?_);apply ai (wpAny_typeOf Fo ?_);rw[aK (by decide)];apply ai (U9 hs pl pu ?_)
 have kJ:¬((((bU items.size 0 lo:Nat):Int) == 0&&(1:Int) == 1&&(bU items.size items.size hi - bU items.size 0 lo) == items.size)=true):=by
  intro q;rw[yQ,yQ] at q;have q1:((bU items.size 0 lo:Nat):Int)=0:=eq_of_beq q.1.1;have q2:bU items.size items.size hi - bU items.size 0 lo=items.size:=eq_of_beq q.2;exact hw #[by omega,by omega]
 show wpAny _ _ (if (((bU items.size 0 lo:Nat):Int) == 0&&(1:Int) == 1&&(bU items.size items.size hi - bU items.size 0 lo) == items.size)=true then _ else _) _ _ s;rw[aD kJ,hN_]
 first
  |exact ai (m:=Builtin.Tuple.tupleExact _) (qd (aI ⟨_,rfl,aI h⟩) n6)
  |exact ai (m:=Builtin.Tuple.tupleExact _) (qd (ai (aI (aI ⟨_,rfl,aI h⟩))) n6)
  |exact ai (ai (m:=Builtin.Tuple.tupleExact _) (qd (aI (aI ⟨_,rfl,aI h⟩)) n6))
  |exact ai (ai (m:=Builtin.Tuple.tupleExact _) (qd (aI ⟨_,rfl,aI h⟩) n6))
end
end HT
namespace L2
open PySem PySem.Spec PyProof.Rows
abbrev TO:=St->Hp->(Option Int->Hp->Prop)->Prop
def PO(X:Cx)(e:Option Expr)(t:TO):Prop:=
 ∀(pins:List (Addr × Obj)) (s:Ab) (σ:St) (H:Hp) (Q:Option Int->Hp->Prop),Inv X pins σ H s->t σ H Q->
  wpAny (model X.prog X.w) X.A (evalPart e X.env) (λu s'=>∃o H',Inv X pins σ H' s'/\IsPart u o/\Q o H') X.xe s
def Jd:TO:=λ_ H Q=>Q none H
inductive qF (Q:Option Int->Hp->Prop) (x:V) (H1:Hp):Prop
 |mk:∀i,x=.int i->Q (some i) H1->qF Q x H1
def yx(t:TE):TO:=λσ H Q=>t σ H λx H1=>qF Q x H1
section
variable{X:Cx}{e:Expr}{te:TE}{lo hi:Option Expr}{tl th:TO}{pos p2:Pos}
theorem jc:PO X none Jd:=by
 intro pins s σ H Q I h;rw[evalPart_none];exact aI #[none,H,I,.none,h]
theorem je(h:PE X e te):PO X (some e) (yx te):=by
 intro pins s σ H Q I hw;rw[evalPart_some];apply aU (h pins s σ H _ I hw) λu s1 ⟨x,H1,I1,r1,q1⟩=>?_;let#[i,rfl,q]:=q1;let#[t,rfl]:=r1;exact#[some i,H1,I1,.int i t,q]
def JW(X:Cx)(r:V->Option Int->Option Int->Hp->VK->Prop):Prop:=
 ∀(pins:List (Addr × Obj)) (s:Ab) (σ:St) (H:Hp) (x:V) (v vl vu:Aa) (lo hi:Option Int) (sl:Addr) (Q:VK),Inv X pins σ H s->RelV x v->s.heap.IsSliceOf sl vl vu .none->IsPart vl lo->IsPart vu hi->r x lo hi H Q->
  ∃T id,typeLookup (.type T) "__getitem__"=pure (some (.builtin id))/\s.TypeIs v T/\wpAny (model X.prog X.w) X.A (getItem v (.ref sl)) (EP X pins σ Q) X.xe s
def Dk(r:V->Option Int->Option Int->Hp->VK->Prop)(te:TE)(tl th:TO):TE:=λσ H Q=>te σ H λx H1=>tl σ H1 λl H2=>th σ H2 λu H3=>r x l u H3 Q
theorem jg{r:V->Option Int->Option Int->Hp->VK->Prop}(hr:JW X r)(he:PE X e te)(hl:PO X lo tl)(hu:PO X hi th):PE X (.Subscript e (.Slice lo hi none p2) pos) (Dk r te tl th):=by
 intro pins s σ H Q I h;apply Subscript_ (aU (he pins s σ H _ I h) λv s1 ⟨x,H1,I1,r1,q1⟩=>?_);apply wpAny_Slice (aU (hl pins s1 σ H1 _ I1 q1) λvl s2 ⟨l,H2,I2,pl,q2⟩=>aU (hu pins s2 σ H2 _ I2 q2) λvu s3 ⟨u,H3,I3,pu,q3⟩=>?_);rw[evalPart_none];apply aI ?_;have I4:Inv X pins σ H3 { s3 with heap:=s3.heap.push { cls:=.type "slice",data:=.fields (List.toArray [vl,vu,.none]) } }:=I3.kept (t':=s3.toks) λb ob q=>bo _ q;let#[T,id,hT,ht,hg]:=hr pins { s3 with heap:=s3.heap.push { cls:=.type "slice",data:=.fields (List.toArray [vl,vu,.none]) } } σ H3 x v vl vu l u s3.heap.objs.size Q I4 r1 (Heap.IsSliceOf.new ..) pl pu q3;show wpAny (model X.prog X.w) X.A (subscriptTail e (.Slice lo hi none p2) v (.ref s3.heap.objs.size)) (EP X pins σ Q) X.xe { s3 with heap:=s3.heap.push { cls:=.type "slice",data:=.fields (List.toArray [vl,vu,.none]) } };exact tail_any (ops:=[.ref s3.heap.objs.size,v]) ht hT hg (by with_unfolding_all rfl)
def cq(xs:ag)(lo hi:Option Int):ag:=(xs.drop (HT.bU xs.length 0 lo)).take (HT.bU xs.length xs.length hi - HT.bU xs.length 0 lo)
theorem GB(xs:ag)(lo hi:Option Int):(cq xs lo hi).length<=xs.length:=by
 unfold cq;rw[dM,wY];omega
inductive DS (K:af) (x:V) (lo:Option Int) (hi:Option Int) (H:Hp) (Q:VK):Prop
 |mk:∀a xs,x=.ref a->fH K H a xs->¬(HT.bU xs.length 0 lo=0/\HT.bU xs.length xs.length hi=xs.length)->(∀p,H p=none->Q (.ref p) (upd H p (.tup (cq xs lo hi))))->DS K x lo hi H Q
theorem FK:JW X (DS X.K):=by
 intro pins s σ H x v vl vu lo hi sl Q I rx hs pl pu h;let#[a,xs,rfl,hx,hw,q]:=h;cases rx;let#[its,r,ht,hz]:=I.tuple hx;have hlen:its.toArray.size=xs.length:=by rw[cY];exact r.length.symm
 apply⟨"tuple",_,PyProof.Rows.slot_tuple_getitem.lookup,ht.typeIs,?_⟩;apply HT.fV ht hs pl pu (by rw[hlen];exact hw) ?_ (by rw[hlen];exact hz);rw[hlen];apply⟨.ref s.heap.objs.size,_,I.laid (t':=s.toks) (o:=.tup (cq xs lo hi)) (λb ob q=>bo _ q) (a9 _) ?_,rfl,q _ (I.aF.fresh (a9 _))⟩;exact⟨ic (GB xs lo hi) hz,_,(r.drop (HT.bU xs.length 0 lo)).take (HT.bU xs.length xs.length hi - HT.bU xs.length 0 lo),IsTup.new _ _,_,dq _ rfl,rfl⟩
theorem Vals.nV{xs:ag}{us:aj}(r:Vals xs us):us=[] ↔ xs=[]:=by
 cases r with
 |nil=>simp
 |cons _ _=>simp
end
end L2
namespace L2
open PySem PySem.Spec PyProof.Rows
def vS(n:Nat)(i:Int):Option Nat:=if 0<=i then (if i<n then some i.toNat else none) else if -(n:Int)<=i then some (i+n).toNat else none
def ib{α:Type}(xs:List α)(i:Int):Option α:=(vS xs.length i).bind λj=>xs[j]?
theorem RL{n:Nat}{i:Int}{j:Nat}(h:vS n i\j):seqIndex? i n\j/\j<n/\-(n:Int)<=i/\i<n:=by
 unfold vS at h;by_cases h0:0<=i
 ·rw[aK h0] at h;by_cases h1:i<n
  ·rw[aK h1] at h;have e:i.toNat=j:=dO h;exact#[by rw[seqIndex_of h0 h1,e],by omega,by omega,h1]
  rw[aD h1] at h;cases h
 rw[aD h0] at h;by_cases h1:-(n:Int)<=i
 ·rw[aK h1] at h;have e:(i+n).toNat=j:=dO h;exact#[by rw[seqIndex_neg Y0 h1,e],by omega,h1,by omega]
 rw[aD h1] at h;cases h
theorem MO{α:Type}{xs:List α}{i:Int}{v:α}(h:ib xs i\v):∃j,seqIndex? i xs.length\j/\xs[j]? = some v/\j<xs.length/\-(xs.length:Int)<=i/\i<xs.length:=by
 unfold ib at h;cases e:vS xs.length i with
 |none=>rw[e] at h;cases h
 |some j=>
  rw[e] at h;let#[h1,h2,h3,h4]:=RL e;exact#[j,h1,h,h2,h3,h4]
theorem cZ{α:Type}{xs:List α}{j:Nat}{v:α}(h:xs[j]? = some v):ib xs (j:Int)\v:=by
 have hj:j<xs.length:=(cw.mp h).1
 have e:vS xs.length (j:Int)\j:=by
  unfold vS;rw[aK Y0,aK Y0];simp
 unfold ib;rw[e];exact h
def w_(b:Expr):Prop:=∀o i,subscripted b false o i=operate [o,i] (getItem o i)
def CV(X:Cx)(r:R2):Prop:=
 ∀(value slice:Expr) (pins:List (Addr × Obj)) (s:Ab) (σ:St) (H:Hp) (x y:V) (v u:Aa) (Q:VK),Inv X pins σ H s->RelV x v->RelV y u->r x y H Q->
  subscripted slice false v u=operate [v,u] (getItem v u)->wpAny (model X.prog X.w) X.A (subscriptTail value slice v u) (EP X pins σ Q) X.xe s
def MtR(X:Cx)(id:String)(r:V->ag->Hp->VK->Prop):Prop:=
 ∀(pins:List (Addr × Obj)) (s:Ab) (σ:St) (H:Hp) (x:V) (xs:ag) (v:Aa) (us:aj) (Q:VK),Inv X pins σ H s->RelV x v->Vals xs us->r x xs H Q->
  wpAny (model X.prog X.w) X.A (call (.builtin id) (v::us)) (EP X pins σ Q) X.xe s
section
variable{X:Cx}{a b:Expr}{ta tb:TE}{pos:Pos}
theorem bg{r:R2}(hr:CV X r)(ha:PE X a ta)(hb:PE X b tb)(hs:w_ b:=by exact λ_ _=>rfl):PE X (.Subscript a b pos) (mX r ta tb):=by
 intro pins s σ H Q I h;exact Subscript_ (BC ha hb I h λv u s2 x y H2 I2 rx ry q=>hr a b pins s2 σ H2 x y v u Q I2 rx ry q (hs _ _))
inductive vI (K:af) (x:V) (y:V) (H:Hp) (Q:VK):Prop
 |mk:∀p xs i v,x=.ref p->y=.int i->d6 K H p xs->ib xs i\v->Q v H->vI K x y H Q
inductive jF (K:af) (x:V) (y:V) (H:Hp) (Q:VK):Prop
 |mk:∀p xs i v,x=.ref p->y=.int i->fH K H p xs->ib xs i\v->Q v H->jF K x y H Q
inductive DU (x:V) (y:V) (H:Hp) (Q:VK):Prop
 |mk:∀z i c,x=.str z->y=.int i->z.length<=sizeLine->ib z.cps.toList i\c->Q (.str ⟨(List.toArray [c])⟩) H->DU x y H Q
theorem fX:CV X (vI X.K):=by
 intro value slice pins s σ H x y v u Q I rx ry h hs;let#[p,xs,i,z,rfl,rfl,hq,he,q]:=h;cases rx;let#[t,rfl]:=ry;let#[its,r,pl,hz]:=I.list hq;let#[j,h1,h2,h3,h4,h5]:=MO he;let#[w,ew,iS]:=r.get h2;let hl:=r.length;let hn:=gg;have fin:EP X pins σ Q w s:=⟨z,H,I,iS,q⟩;by_cases h0:0<=i
 ·have hj:i.toNat=j:=by
   rw[seqIndex_of h0 h5] at h1;exact dO h1
  exact item_listR pl.isList h0 Y0 (by rw[hj];simpa using ew) fin hs
 have hj:(i+(its.toArray.size:Int)).toNat=j:=by
  rw[seqIndex_neg Y0 h4] at h1;rw[cY,<- hl];exact dO h1
 exact subscriptTail_builtinR (x:=w) pl.isList.typeIs slot_list_getitem.lookup
  (wpAny_getItem_list_neg (Q:=λr s'=>r=w/\EP X pins σ Q r s') pl.isList Y0 (by rw[cY]<;>omega) Y0 (by rw[hj];simpa using ew) ⟨rfl,fin⟩) hs
theorem cj:CV X (jF X.K):=by
 intro value slice pins s σ H x y v u Q I rx ry h hs;let#[p,xs,i,z,rfl,rfl,hq,he,q]:=h;cases rx;let#[t,rfl]:=ry;let#[its,r,pl,hz]:=I.tuple hq;let#[j,h1,h2,h3,h4,h5]:=MO he;let#[w,ew,iS]:=r.get h2;let hl:=r.length;let hn:=gg;have fin:EP X pins σ Q w s:=⟨z,H,I,iS,q⟩
 exact subscriptTail_builtinR (x:=w) pl.typeIs slot_tuple_getitem.lookup
  (getItem_tuple (j:=j) (Q:=λr s'=>r=w/\EP X pins σ Q r s') pl Y0 Y0 (by rw[cY,<- hl];exact h1) ⇑ew ⟨rfl,fin⟩) hs
theorem YB:CV X DU:=by
 intro value slice pins s σ H x y v u Q I rx ry h hs;let#[z,i,c,rfl,rfl,hz,he,q]:=h;let#[t,rfl]:=rx;let#[t',rfl]:=ry;let#[j,h1,h2,h3,h4,h5]:=MO he;have hl:z.cps.toList.length=z.length:=by simp[Str.length]
 rw[hl] at h1 h4 h5;let hn:=gg
 exact tail_any (typeIs_str s z t) slot_str_getitem.lookup (getItem_str (c:=c) (by
  have e1:decide (i < -(2 ^ 63:Int))=false:=fO Y0;have e2:decide (i ≥ 2 ^ 63)=false:=fO Y0;rw[e1,e2,Bool.or_false]) (by rw[h1];simpa using h2) ⟨.str ⟨(List.toArray [c])⟩,H,I.tok _,⟨_,rfl⟩,q⟩) hs
theorem g1_(its:aj)(n j:Nat)(u:Aa):Obj.mapSeq (·.setIfInBounds j u) { cls:=.type "list",data:=.seq its.toArray n }={ cls:=.type "list",data:=.seq (its.set j u).toArray n }:=by
 simp[Obj.mapSeq]
theorem Inv.lst{pins:List (Addr × Obj)}{σ:St}{H:Hp}{s:Ab}{p:Addr}{xs:ag}(I:Inv X pins σ H s)(h:H p\.lst xs) :
  ∃(its:aj) (n:Nat),Vals xs its/\s.heap.get? p=some { cls:=.type "list",data:=.seq its.toArray n }/\xs.length<=sizeLine:=by
 let#[z,its,n,r,e]:=I.aF p _ h;exact⟨its,n,r,e,z⟩
theorem Inv.Ak{pins:List (Addr × Obj)}{σ:St}{H:Hp}{s:Ab}{p:Addr}{xs ys:ag}{its its':aj}{n n':Nat}{f:Obj->Obj}(I:Inv X pins σ H s)(h:H p\.lst xs)
  (ho:s.heap.get? p=some { cls:=.type "list",data:=.seq its.toArray n }) (hf:f { cls:=.type "list",data:=.seq its.toArray n }={ cls:=.type "list",data:=.seq its'.toArray n' }) (r:Vals ys its') (hz:ys.length<=sizeLine) (t:Nat) :
  Inv X pins σ (upd H p (.lst ys)) { s with heap:=s.heap.update p f,toks:=t }:=by
 have e:(s.heap.update p f).get? p=some { cls:=.type "list",data:=.seq its'.toArray n' }:=by
  rw[Heap.get?_update_self f ho (by rw[hf]<;>rfl),hf]
 apply I.write (x:=p) (e:=p) (by rw[h];trivial) (.inl rfl) (λb u hb q=>(u7 _ _ (dJ hb)).trans q) ⟨_,e⟩ ?_;exact⟨hz,its',n',r,e⟩
inductive xH (o:V) (i:V) (v:V) (H:Hp) (Q:Hp->Prop):Prop
 |mk:∀p xs k j,o=.ref p->i=.int k->H p\.lst xs->vS xs.length k\j->Q (upd H p (.lst (xs.set j v)))->xH o i v H Q
theorem SZ:GO X xH:=by
 intro pins s σ H o i v ov iv u Q I ro ri rv h;let#[p,xs,k,j,rfl,rfl,hp,hj,q]:=h;cases ro;let#[t,rfl]:=ri;let#[its,n,r,ho,hz]:=I.lst hp;let#[h1,h2,h3,h4]:=RL hj;let hl:=r.length;let hn:=gg
 have I':Inv X pins σ (upd H p (.lst (xs.set j v))) { s with heap:=s.heap.update p (Obj.mapSeq (·.setIfInBounds j u)) }:=
  I.Ak hp ho (g1_ its n j u) (r.set rv j) (by rw[List.length_set];exact hz) s.toks
 by_cases h0:0<=k
 ·have hk:k.toNat=j:=by
   rw[seqIndex_of h0 h4] at h1;exact dO h1
  exact PySem.W.ki_setAt ho h0 Y0 (by rw[cY,<- hl];exact h4) (by rw[hk];exact⟨_,I',q⟩)
 have hk:(k+(its.toArray.size:Int)).toNat=j:=by
  rw[seqIndex_neg Y0 h3] at h1;rw[cY,<- hl];exact dO h1
 exact PySem.W.ki_setBack ho Y0 (by rw[cY,<- hl];exact h3) Y0 (by rw[hk];exact⟨_,I',q⟩)
theorem ed_(lo hi:Option Int)(n:Nat):(sliceBounds lo hi none n).1=((HT.bU n 0 lo:Nat):Int)/\(sliceBounds lo hi none n).2.1=((HT.bU n n hi:Nat):Int)/\(sliceBounds lo hi none n).2.2=1:=by
 apply⟨?_,?_,rfl⟩
 ·cases lo with
  |none=>simp[sliceBounds,HT.bU]
  |some i=>
   simp only[sliceBounds,HT.bU,Option.getD_none,show (1:Int) > 0 by decide,if_true];by_cases h:i<0
   ·simp only[h,if_true]<;>omega
   simp only[h,if_false]<;>omega
 cases hi with
 |none=>simp[sliceBounds,HT.bU]
 |some i=>
  simp only[sliceBounds,HT.bU,Option.getD_none,show (1:Int) > 0 by decide,if_true];by_cases h:i<0
  ·simp only[h,if_true]<;>omega
  simp only[h,if_false]<;>omega
theorem dM_(its:aj)(lo hi:Option Int):slicePick its.toArray lo hi none=((its.drop (HT.bU its.length 0 lo)).take (HT.bU its.length its.length hi - HT.bU its.length 0 lo)).toArray:=by
 let#[h1,h2,h3]:=ed_ lo hi its.toArray.size;unfold slicePick;rw[h1,h2,h3];simp only[sliceRange_one,pick_run,cY]<;>rfl
inductive si (K:af) (x:V) (lo:Option Int) (hi:Option Int) (H:Hp) (Q:VK):Prop
 |mk:∀a xs,x=.ref a->d6 K H a xs->(∀p,H p=none->Q (.ref p) (upd H p (.lst (cq xs lo hi))))->si K x lo hi H Q
theorem tY:JW X (si X.K):=by
 intro pins s σ H x v vl vu lo hi sl Q I rx hs pl pu h;let#[a,xs,rfl,hx,q]:=h;cases rx;let#[its,r,ht,hz]:=I.list hx;let hlen:=r.length;apply⟨"list",_,slot_list_getitem.lookup,ht.isList.typeIs,?_⟩;apply wpAny_getItem_list_slice ht.isList hs pl pu .none Y1 ?_ (by rw[cY]<;>omega)
 rw[dM_,<- hlen];apply⟨.ref s.heap.objs.size,_,I.laid (t':=s.toks) (o:=.lst (cq xs lo hi)) (λb ob q=>bo _ q) (a9 _) ?_,rfl,q _ (I.aF.fresh (a9 _))⟩;exact⟨ic (GB xs lo hi) hz,_,0,(r.drop (HT.bU xs.length 0 lo)).take (HT.bU xs.length xs.length hi - HT.bU xs.length 0 lo),dq _ rfl⟩
def qb:V->Bool
 |.non=>true
 |.bl _=>true
 |.int _=>true
 |.str _=>true
 |_=>false
def ph:V->V->Bool
 |.non,.non=>true
 |.bl a,.bl b=>a == b
 |.bl a,.int b=>(if a then 1 else 0) == b
 |.int a,.bl b=>a == (if b then 1 else 0)
 |.int a,.int b=>a == b
 |.str a,.str b=>a == b
 |_,_=>false
theorem yE{A:Ag}{s:Ab}{y x:V}{u v:Aa}(ry:RelV y u)(rx:RelV x v)(fy:qb y=true)(fx:qb x=true):SeqAt.EqAt A s u v (ph y x):=by
 cases y with
 |non=>
  cases ry;cases x with
  |non=>cases rx;exact SeqAt.EqAt.same _
  |bl b=>cases rx;exact SeqAt.EqAt.none_bool b
  |int b=>let#[t,rfl]:=rx;exact SeqAt.EqAt.none_int b t
  |str b=>let#[t,rfl]:=rx;exact SeqAt.EqAt.none_str b t
  |_=>exact absurd (show false=true from fx) gr
 |bl a=>
  cases ry;cases x with
  |non=>cases rx;exact SeqAt.EqAt.bool_none a
  |bl b=>cases rx;exact SeqAt.EqAt.bool_bool a b
  |int b=>let#[t,rfl]:=rx;exact SeqAt.EqAt.bool_int a b t
  |str b=>let#[t,rfl]:=rx;exact SeqAt.EqAt.bool_str a b t
  |_=>exact absurd (show false=true from fx) gr
 |int a=>
  let#[t',rfl]:=ry;cases x with
  |non=>cases rx;exact SeqAt.EqAt.int_none a t'
  |bl b=>cases rx;exact SeqAt.EqAt.int_bool a t' b
  |int b=>let#[t,rfl]:=rx;exact SeqAt.EqAt.int_int a t' b t
  |str b=>let#[t,rfl]:=rx;exact SeqAt.EqAt.int_str a t' b t
  |_=>exact absurd (show false=true from fx) gr
 |str a=>
  let#[t',rfl]:=ry;cases x with
  |non=>cases rx;exact SeqAt.EqAt.str_none a t'
  |bl b=>cases rx;exact SeqAt.EqAt.str_bool a t' b
  |int b=>let#[t,rfl]:=rx;exact SeqAt.EqAt.str_int a t' b t
  |str b=>let#[t,rfl]:=rx;exact SeqAt.EqAt.str_str a t' b t
  |_=>exact absurd (show false=true from fx) gr
 |_=>exact absurd (show false=true from fy) gr
def wo(x:V)(u:Aa):Bool:=match u with
 |.none=>ph .non x
 |.bool b=>ph (.bl b) x
 |.int i _=>ph (.int i) x
 |.str z _=>ph (.str z) x
 |_=>false
theorem Q3{x y:V}{u:Aa}(r:RelV y u)(f:qb y=true):wo x u=ph y x:=by
 cases y with
 |non=>cases r;rfl
 |bl b=>cases r;rfl
 |int i=>let#[t,rfl]:=r;rfl
 |str z=>let#[t,rfl]:=r;rfl
 |_=>exact absurd (show false=true from f) gr
theorem M3{x:V}:∀{xs:ag} {us:aj},Vals xs us->xs.all qb=true->us.any (wo x)=xs.any λy=>ph y x
 |_,_,.nil,_=>rfl
 |y::xs,u::us,.cons r t,f=>by
  rw[List.all_cons,yQ] at f;rw[List.any_cons,List.any_cons,Q3 r f.1,M3 t f.2]
theorem NR{A:Ag}{s:Ab}{x:V}{v:Aa}(rx:RelV x v)(fx:qb x=true):∀{xs:ag} {us:aj},Vals xs us->xs.all qb=true->∀u∈us,SeqAt.EqAt A s u v (wo x u)
 |_,_,.nil,_=>λu hu=>by cases hu
 |y::xs,u::us,.cons r t,f=>λu' hu=>by
  rw[List.all_cons,yQ] at f;rcases cg.mp hu with rfl|hu
  ·rw[Q3 r f.1];exact yE r rx f.1 fx
  exact NR rx fx t f.2 u' hu
def HR(x:V)(xs:ag):Bool:=xs.any λy=>ph y x
inductive KM (K:af) (neg:Bool) (x:V) (y:V) (H:Hp) (Q:VK):Prop
 |mk:∀p xs,y=.ref p->(d6 K H p xs∨fH K H p xs)->qb x=true->xs.all qb=true->Q (.bl (if neg then !HR x xs else HR x xs)) H->KM K neg x y H Q
theorem e3_:dW X (compareOp .NotIn) (KM X.K true):=by
 intro pins s σ H x y v u Q I rx ry h;let#[p,xs,rfl,hq,fx,fs,q]:=h;cases ry;rcases hq with hq|hq
 ·let#[its,r,pl,hz]:=I.list hq;apply SeqAt.notIn_listAt (wo x) pl.isList (λw hw=>NR rx fx r fs w ⇑hw) ⟨.bl _,H,I,rfl,?_⟩;rw[show its.toArray.any (wo x)=its.any (wo x) by simp,M3 r fs];exact q
 let#[its,r,pl,hz]:=I.tuple hq;apply SeqAt.notIn_tupleAt (wo x) pl (λw hw=>NR rx fx r fs w ⇑hw) ⟨.bl _,H,I,rfl,?_⟩;rw[show its.toArray.any (wo x)=its.any (wo x) by simp,M3 r fs];exact q
inductive Pk (K:af) (xs:ag) (H:Hp) (Q:VK):Prop
 |mk:∀p ys,xs=[.ref p]->(d6 K H p ys∨fH K H p ys)->Q (.int ys.length) H->Pk K xs H Q
theorem gx:gn X (.builtin "len") (Pk X.K):=by
 intro pins s σ H xs us Q I r h;let#[p,ys,rfl,hq,q]:=h;let#[u,rfl,rx]:=vals1 r;cases rx;let hn:=gg;rcases hq with hq|hq
 ·let#[its,r',pl,hz]:=I.list hq;let hlen:=r'.length;exact Calls.call_len_list pl.isList (by simp only[cY]<;>omega) ⟨.int ys.length,H,I.tok _,⟨s.toks+1,by rw[cY,hlen]⟩,q⟩
 let#[its,r',pl,hz]:=I.tuple hq;let hlen:=r'.length;exact len_tuple pl (by simp only[cY]<;>omega) ⟨.int ys.length,H,I.tok _,⟨s.toks+1,by rw[cY,hlen]⟩,q⟩
inductive Va (xs:ag) (H:Hp) (Q:VK):Prop
 |mk:∀z,xs=[.str z]->z.length<=sizeLine->Q (.int z.length) H->Va xs H Q
theorem eu_:gn X (.builtin "len") Va:=by
 intro pins s σ H xs us Q I r h;let#[z,rfl,hz,q]:=h;let#[u,rfl,t,rfl]:=vals1 r;let hn:=gg;exact len_str Y0 ⟨.int z.length,H,I.tok _,⟨_,rfl⟩,q⟩
inductive UO (K:af) (xs:ag) (H:Hp) (Q:VK):Prop
 |mk:∀p ys,xs=[.ref p]->(d6 K H p ys∨fH K H p ys)->(∀l,H l=none->Q (.ref l) (upd H l (.lst ys)))->UO K xs H Q
theorem Pe:gn X (.type "list") (UO X.K):=by
 intro pins s σ H xs us Q I r h;let#[p,ys,rfl,hq,q]:=h;let#[u,rfl,rx]:=vals1 r;cases rx
 have fin:∀(its:aj),Vals ys its->ys.length<=sizeLine->∀(h':Heap) (c':Nat),(∀b o',s.heap.get? b\o'->h'.get? b\o')->
   h'.get? s.heap.objs.size=some { cls:=.type "list",dict:=none,data:=.seq its.toArray c',slots:=#[] }->EP X pins σ Q (.ref s.heap.objs.size) { s with heap:=h' }:=λits r' hz h' c' kp e=>
  #[.ref s.heap.objs.size,_,I.laid (t':=s.toks) kp (a9 _) (show fj X.prog X.w _ h' _ (.lst ys) from #[hz,its,c',r',e]),U,q _ (I.aF.fresh (a9 _))]
 rcases hq with hq|hq
 ·let#[its,r',pl,hz]:=I.list hq;let hlen:=r'.length;let#[o,ho,hc,n,hd]:=pl.isList;exact call_list_seq p (.inl U) ho hc hd (λh' c' kp e=>fin its r' hz h' c' kp e) (by simp only[cY]<;>omega)
 let#[its,r',pl,hz]:=I.tuple hq;let hlen:=r'.length;let#[o,ho,hc,n,hd]:=pl;exact call_list_seq p (.inr U) ho hc hd (λh' c' kp e=>fin its r' hz h' c' kp e) (by simp only[cY]<;>omega)
inductive U8 (K:af) (xs:ag) (H:Hp) (Q:VK):Prop
 |mk:∀p ys,xs=[.ref p]->((d6 K H p ys/\∀l,H l=none->Q (.ref l) (upd H l (.tup ys)))∨(fH K H p ys/\Q (.ref p) H))->U8 K xs H Q
theorem JM:gn X (.type "tuple") (U8 X.K):=by
 intro pins s σ H xs us Q I r h;let#[p,ys,rfl,h]:=h;let#[u,rfl,rx]:=vals1 r;cases rx;rcases h with⟨hq,q⟩|⟨hq,q⟩
 ·let#[its,r',pl,hz]:=I.list hq;let hlen:=r'.length;apply call_tuple_list pl.isList (λh' kp=>?_) (by simp only[cY]<;>omega)
  have I1:Inv X pins σ H { s with heap:=h' }:=I.kept (t':=s.toks) kp
  have I2:Inv X pins σ (upd H h'.objs.size (.tup ys)) { s with heap:=h'.push { cls:=.type "tuple",data:=.seq its.toArray } }:=
   I1.laid (t':=s.toks) (λb o e=>bo _ e) (a9 _) (show fj X.prog X.w _ _ _ (.tup ys) from ⟨hz,its,r',IsTup.new _ _,_,dq _ rfl,rfl⟩)
  exact⟨.ref h'.objs.size,_,I2,rfl,q _ (I1.aF.fresh (a9 _))⟩
 let#[its,r',pl,hz]:=I.tuple hq;exact call_tuple_same pl ⟨.ref p,H,I,rfl,q⟩
def P7(K:af)(T:String)(x:V)(H:Hp):Prop:=match x with
 |.str _=>T="str"
 |.int _=>T="int"
 |.ref p=>(T="list"/\∃xs,d6 K H p xs)∨(T="tuple"/\∃o,K.lookup p\o/\o.cls=.type "tuple"/\o.dict=none) ∨
   (T="dict"/\((∃kvs,H p\.dK kvs)∨∃kvs,H p\.dT kvs))∨(T="set"/\∃S n,H p\.set S n)
 |_=>False
theorem X7{pins:List (Addr × Obj)}{σ:St}{H:Hp}{s:Ab}{T:String}{x:V}{v:Aa}(I:Inv X pins σ H s)(r:RelV x v)(ty:P7 X.K T x H) :
  s.TypeIs v T/\∀a,v=.ref a->∃ob,s.heap.get? a\ob/\ob.dict=none:=by
 cases x with
 |str z=>
  let#[t,rfl]:=r;cases (show T="str" from ty);exact#[typeIs_str s z t,λ_ e=>nomatch e]
 |int i=>
  let#[t,rfl]:=r;cases (show T="int" from ty);exact#[typeIs_int s i t,λ_ e=>nomatch e]
 |ref p=>
  cases r;rcases ty with⟨rfl,xs,hq⟩|⟨rfl,o,hk,hc,hd⟩|⟨rfl,hk⟩|⟨rfl,S,n,hk⟩
  ·let#[its,_,pl,_]:=I.list hq;apply#[pl.isList.typeIs,λa e=>?_];cases e;let#[o,n,e,c,hd,_]:=pl;exact#[o,e,hd]
  ·apply#[#[o,I.gI p o hk,hc],λa e=>?_];cases e;exact#[o,I.gI _ o hk,hd]
  ·have z:∃o,s.heap.get? p\o/\o.ExactDict:=by
    rcases hk with⟨kvs,hk⟩|⟨kvs,hk⟩
    ·let#[_,_,_,_,o,_,_,e,ex,_]:=I.aF p _ hk;exact#[o,e,ex]
    let#[_,_,_,_,o,_,_,e,ex,_]:=I.aF p _ hk;exact#[o,e,ex]
   let#[o,e,ex]:=z;apply#[#[o,e,ex.1],λa e2=>?_];cases e2;exact#[o,e,ex.2.1]
  ·let#[o,_,_,_,e,ex,_]:=I.aF p _ hk;apply#[#[o,e,ex.1],λa e2=>?_];cases e2;exact#[o,e,ex.2.1]
 |_=>exact False.elim ty
def Qf(K:af)(T:String)(r:V->ag->Hp->VK->Prop)(to:TE)(t:TA):TE:=λσ H Q=>to σ H λx H1=>P7 K T x H1/\t σ H1 λxs H2=>r x xs H2 Q
variable{o e:Expr}{es:List Expr}{to:TE}{t:TA}{name:Str}{apos cu:Pos}{T id:String}{r:V->ag->Hp->VK->Prop}
theorem kQ(pa:PlainAttrs T)(slot:Slot T name id)(hty:typeOf (.builtin id)=pure (.type "method_descriptor"))(hm:MtR X id r)(ho:PE X o to)(ha:PA X (e::es) t)
  (jS:attributeBase o name X.env (eval o X.env)=eval o X.env:=by rfl)
  (L_:((backTo cu (starEach (e::es) X.env)).all (λx=>!x.1)&&(backToKw cu (keywordEach [] X.env)).all (λx=>x.1.isSome)
   && decide ((e::es).length+([]:List Keyword).length+(if ([]:List Keyword).isEmpty then 0 else 1)<30))=true:=by rfl)
  (jQ:(apos.endLine == cu.line)=true:=by rfl) (hs:starEach (e::es) X.env=(false,eval e X.env)::starEach es X.env:=by rfl) (AC:(backTo cu (starEach es X.env)).any (·.1)=false:=by rfl) :
  PE X (.Call (.Attribute o name apos) (e::es) [] cu) (Qf X.K T r to t):=by
 intro pins s σ H Q I h;apply wpAny_Call_method_late jS L_ jQ U (aU (ho pins s σ H _ I h) λv s1 ⟨x,H1,I1,r1,ty,q1⟩=>?_);let#[h1,h2]:=X7 I1 r1 ty;apply#[T,id,pa,slot,hty,h1,h2,?_];let hA:=ha cu pins s1 σ H1 _ I1 q1;rw[hs] at hA ⊢;apply Calls.callWith_builtin (by show (false || (backTo cu (starEach es X.env)).any (·.1))=false;rw[AC]<;>rfl) (Calls.evalArgs_plain ?_)
 exact aU hA λus s2 ⟨vs,H2,I2,r2,q2⟩=>hm pins s2 σ H2 x vs v us Q I2 r1 r2 q2
end
end L2
namespace L2
open PySem PySem.Spec PyProof.Rows
def PF(X:Cx)(id:String)(r:V->ag->Hp->VK->Prop):Prop:=
 ∀(pins:List (Addr × Obj)) (s:Ab) (σ:St) (H:Hp) (x:V) (xs:ag) (v:Aa) (us:aj) (Q:VK),Inv X pins σ H s->RelV x v->Vals xs us->r x xs H Q->
  wpAny (model X.prog X.w) X.A (call (.builtin id) (v::us)) (EP X pins σ Q) X.xe s
theorem Vals.one:∀{x:V} {us:aj},Vals [x] us->∃u,us=[u]/\RelV x u
 |_,_,.cons r .nil=>#[_,U,r]
theorem Vals.two:∀{x y:V} {us:aj},Vals [x,y] us->∃u v,us=[u,v]/\RelV x u/\RelV y v
 |_,_,_,.cons r (.cons q .nil)=>#[_,_,U,r,q]
section
variable{X:Cx}{pins:List (Addr × Obj)}{σ:St}{H:Hp}{s:Ab}{l b:Addr}{xs ys zs:ag}
theorem Inv.Al{its its':aj}{n:Nat}{f:Array Aa->Array Aa}{t':Nat}(I:Inv X pins σ H s)(hH:H l\.lst xs)
  (e:s.heap.get? l=some { cls:=.type "list",data:=.seq its.toArray n }) (hf:f its.toArray=its'.toArray) (hv:Vals ys its') (hz:ys.length<=sizeLine) :
  Inv X pins σ (upd H l (.lst ys)) { s with heap:=s.heap.update l (Obj.mapSeq f),toks:=t' }:=by
 let q:=PySem.IsL.update e f;rw[hf] at q;apply I.write (x:=l) (e:=l) (by rw[hH];exact trivial) (.inl U) (λb' u hb hu=>(u7 s.heap (Obj.mapSeq f) (dJ hb)).trans hu) #[_,q] ?_;exact#[hz,its',_,hv,q]
theorem Inv.Am{its:aj}{t':Nat}(I:Inv X pins σ H s)(hv:Vals ys its)(hz:ys.length<=sizeLine) :
  Inv X pins σ (upd H s.heap.objs.size (.lst ys)) { s with heap:=s.heap.push { cls:=.type "list",data:=.seq its.toArray },toks:=t' }:=
 I.laid (λ_ _ q=>bo _ q) (a9 _) #[hz,its,0,hv,dq _ U]
theorem Inv.fresh(I:Inv X pins σ H s):H s.heap.objs.size=none:=I.aF.fresh (a9 _)
theorem Inv.jJ(I:Inv X pins σ H s)(hH:H l\.lst xs):xs.length<=sizeLine/\∃(its:aj) (n:Nat),Vals xs its/\xs.length=its.length/\s.heap.get? l=some { cls:=.type "list",data:=.seq its.toArray n }:=by
 let#[z,its,n,r,e]:=I.aF l _ hH;exact#[z,its,n,r,r.length,e]
theorem sI{n:Nat}(h:n<=sizeLine):Builtin.List.listTooLong n=false:=by
 unfold Builtin.List.listTooLong;exact fO Y0
end
section
variable{X:Cx}
inductive N0 (x:V) (vs:ag) (H:Hp) (Q:VK):Prop
 |mk:∀l xs y,x=.ref l->vs=[y]->H l\.lst xs->xs.length<sizeLine->Q .non (upd H l (.lst (xs++[y])))->N0 x vs H Q
theorem pI:PF X "list.append" N0:=by
 intro pins s σ H x vs v us Q I rx rv h;let#[l,xs,y,rfl,rfl,hH,hz,q]:=h;cases rx;let#[u,rfl,ru]:=rv.one;let#[z,its,n,r,hl,e]:=I.jJ hH;apply call_meets F.slot_list_append ⟨_,e,rfl⟩ F.entry_list_append (F.args_list_append_2 _ _) (PySem.list_append l its.toArray n u (by rw[cY];omega)) ⟨e,?_⟩;apply⟨.non,_,I.Al (its':=its++[u]) hH e Y1 (r.append (.cons ru .nil)) ?_,rfl,q⟩;rw[dN,oF];omega
inductive nM (x:V) (vs:ag) (H:Hp) (Q:VK):Prop
 |mk:∀l b xs zs,x=.ref l->vs=[.ref b]->H l\.lst xs->H b\.lst zs->xs.length+zs.length<=sizeLine->Q .non (upd H l (.lst (xs++zs)))->nM x vs H Q
theorem gC_:PF X "list.extend" nM:=by
 intro pins s σ H x vs v us Q I rx rv h;let#[l,b,xs,zs,rfl,rfl,hH,hB,hz,q]:=h;cases rx;let#[u,rfl,ru]:=rv.one;cases ru;let#[z,its,n,r,hl,e]:=I.jJ hH;let#[z2,iw,n2,r2,jr,e2]:=I.jJ hB;have hsz:its.toArray.size+iw.toArray.size<=sizeLine:=by rw[cY,cY];omega
 have EY:¬(!its.toArray.isEmpty&&Builtin.List.listTooLong (its.toArray.size+iw.toArray.size))=true:=by
  rw[sI hsz,Bool.and_false];exact gr
 apply call_meets F.slot_list_extend ⟨_,e,rfl⟩ F.entry_list_extend (F.args_list_extend_2 _ _)
  (AutoSeq1.list_extend_list_list_0 l its.toArray n b iw.toArray n2 EY (by rw[cY];omega) Y0) ⟨e,e2,?_⟩
 apply⟨.non,_,I.Al (its':=its++iw) hH e Y1 (r.append r2) ?_,rfl,q⟩;rw[dN];omega
inductive oU (x:V) (y:V) (H:Hp) (Q:VK):Prop
 |mk:∀l b xs zs,x=.ref l->y=.ref b->H l\.lst xs->H b\.lst zs->xs.length+zs.length<=sizeLine->(∀p,H p=none->Q (.ref p) (upd H p (.lst (xs++zs))))->oU x y H Q
theorem ql:dW X (binaryOp .Add) oU:=by
 intro pins s σ H x y v u Q I rx ry h;let#[l,b,xs,zs,rfl,rfl,hH,hB,hz,q]:=h;cases rx;cases ry;let#[z,its,n,r,hl,e]:=I.jJ hH;let#[z2,iw,n2,r2,jr,e2]:=I.jJ hB;apply PySem.P.add_list e e2 ?_ (by rw[cY,cY];omega);have ea:its.toArray++iw.toArray=(its++iw).toArray:=by simp
 rw[ea];exact⟨.ref _,_,I.Am (t':=s.toks) (r.append r2) (by rw[dN];omega),rfl,q _ I.fresh⟩
end
section
variable{prog:Ad}{w:Af}{A:Ag}{E:Aa->Ab->Prop}{s:Ab}
end
section
variable{X:Cx}
end
end L2
namespace L2
open PySem PySem.Spec PyProof.Rows
section
variable{κ:Type}[DecidableEq κ]
def aZ(kvs:List (κ × V))(k:κ):aE:=(kvs.find? λkv=>decide (kv.1=k)).map (·.2)
def putK(kvs:List (κ × V))(k:κ)(v:V):List (κ × V):=
 if (kvs.any λkv=>decide (kv.1=k))=true then kvs.map (λkv=>if kv.1=k then (kv.1,v) else kv) else kvs++[(k,v)]
theorem yK{p:κ × V}{r:List (κ × V)}{k:κ}(e:p.1=k):aZ (p::r) k\p.2:=by simp[aZ,List.find?_cons,e]
theorem yI{p:κ × V}{r:List (κ × V)}{k:κ}(e:¬p.1=k):aZ (p::r) k=aZ r k:=by simp[aZ,List.find?_cons,e]
theorem CN(k:κ):∀kvs:List (κ × V),(kvs.any λkv=>decide (kv.1=k))=(aZ kvs k).isSome
 |[]=>rfl
 |p::r=>by
  rw[List.any_cons];by_cases e:p.1=k
  ·simp only[yK e,dc e,Bool.true_or,Option.isSome_some]
  rw[yI e,fO e,Bool.false_or];exact CN k r
theorem JS(kvs:List (κ × V))(k:κ)(v:V):(putK kvs k v).length<=kvs.length+1:=by
 unfold putK;split
 ·rw[aq];omega
 rw[dN,jz,List.length_nil];omega
theorem yJ{kvs:List (κ × V)}{k:κ}(v:V)(h:aZ kvs k=none):putK kvs k v=kvs++[(k,v)]:=by
 unfold putK;rw[CN,h];exact aD (by decide)
theorem eO.dQ{o:aE}{u:Option Aa}(r:eO o u):o.isSome=u.isSome:=by
 cases o with
 |none=>cases u with
  |none=>rfl
  |some _=>exact (show False from r).elim
 |some _=>cases u with
  |none=>exact (show False from r).elim
  |some _=>rfl
theorem eO.getD{o:aE}{u:Option Aa}{d:V}{d':Aa}(r:eO o u)(rd:RelV d d'):RelV (o.getD d) (u.getD d'):=by
 cases o with
 |none=>cases u with
  |none=>exact rd
  |some _=>exact (show False from r).elim
 |some _=>cases u with
  |none=>exact (show False from r).elim
  |some _=>exact r
theorem KV.val{kvs:List (κ × V)}{vs:List (κ × Aa)}(r:KV kvs vs)(k:κ):eO (aZ kvs k) (valueAt vs k):=by
 unfold KV at r
 induction r with
 |nil=>exact True.intro
 |@cons p q ps qs h t ih=>
  let#[h1,h2]:=h;by_cases e:p.1=k
  ·have e':q.1=k:=h1.symm.trans e;have b:valueAt (q::qs) k\q.2:=by simp[valueAt,List.find?_cons,e']
   rw[yK e,b];exact h2
  have e':¬q.1=k:=λz=>e (h1.trans z);have b:valueAt (q::qs) k=valueAt qs k:=by simp[valueAt,List.find?_cons,e']
  rw[yI e,b];exact ih
theorem KV.any{kvs:List (κ × V)}{vs:List (κ × Aa)}(r:KV kvs vs)(k:κ):(kvs.any λkv=>decide (kv.1=k))=vs.any λkv=>decide (kv.1=k):=by
 unfold KV at r
 induction r with
 |nil=>rfl
 |cons h t ih=>rw[List.any_cons,List.any_cons,ih,h.1]
theorem KV.zL{kvs:List (κ × V)}{vs:List (κ × Aa)}(r:KV kvs vs)(k:κ){y:V}{u:Aa}(ry:RelV y u) :
  KV (kvs.map λkv=>if kv.1=k then (kv.1,y) else kv) (vs.map λkv=>if kv.1=k then (kv.1,u) else kv):=by
 unfold KV at r ⊢
 induction r with
 |nil=>exact .nil
 |@cons p q ps qs h t ih=>
  rw[fE,fE];apply .cons ?_ ih;let#[h1,h2]:=h;by_cases e:p.1=k
  ·rw[aK e,aK (h1.symm.trans e)];exact#[h1,ry]
  rw[aD e,aD (λz=>e (h1.trans z))];exact#[h1,h2]
theorem KV.put{kvs:List (κ × V)}{vs:List (κ × Aa)}(r:KV kvs vs)(k:κ){y:V}{u:Aa}(ry:RelV y u):KV (putK kvs k y) (stored vs k u):=by
 unfold putK stored;rw[r.any k];by_cases e:(vs.any λkv=>decide (kv.1=k))=true
 ·rw[aK e,aK e];exact r.zL k ry
 rw[aD e,aD e];exact Paired.snoc r #[U,ry]
theorem KV.keys{kvs:List (κ × V)}{vs:List (κ × Aa)}(r:KV kvs vs):kvs.map (·.1)=vs.map (·.1):=by
 unfold KV at r
 induction r with
 |nil=>rfl
 |cons h t ih=>rw[fE,fE,ih,h.1]
theorem KV.length{kvs:List (κ × V)}{vs:List (κ × Aa)}(r:KV kvs vs):kvs.length=vs.length:=bI r
end
theorem wD{P:Ad}{w:Af}{k:Key}{u:Aa}(r:RelV (kV k) u):(d0 P w).is k u=true:=by
 cases k with
 |inl i=>let#[t,e]:=(show ∃t,u=Value.int i t from r);subst e;exact eM_ P w i t
 |inr x=>let#[t,e]:=(show ∃t,u=Value.str x t from r);subst e;exact eG_ P w x t
theorem TN{P:Ad}{w:Af}:∀{ks:aw} {us:aj},Vals (ks.map kV) us->ItemsAre (d0 P w) ks us
 |[],_,r=>by rw[List.map_nil] at r;cases r;exact .nil
 |k::ks,_,r=>by
  rw[fE] at r;cases r with
  |cons h t=>exact .cons (wD h) (TN t)
abbrev KT(H:Hp):List (aw × V)->List (aw × Addr × Aa)->Prop:=Paired λp q=>p.1=q.1/\H q.2.1\.tup (p.1.map kV)/\RelV p.2 q.2.2
theorem KT.val{H:Hp}{kvs:List (aw × V)}{xs:List (aw × Addr × Aa)}(r:KT H kvs xs)(k:aw):eO (aZ kvs k) ((atKey xs k).map (·.2)):=by
 induction r with
 |nil=>exact True.intro
 |@cons p q ps qs h t ih=>
  let#[h1,_,h2]:=h;by_cases e:p.1=k
  ·have e':q.1=k:=h1.symm.trans e;have b:atKey (q::qs) k\q.2:=by simp[atKey,List.find?_cons,e']
   rw[yK e,b];exact h2
  have e':¬q.1=k:=λz=>e (h1.trans z);have b:atKey (q::qs) k=atKey qs k:=by simp[atKey,List.find?_cons,e']
  rw[yI e,b];exact ih
theorem KT.zL{H:Hp}{kvs:List (aw × V)}{xs:List (aw × Addr × Aa)}(r:KT H kvs xs)(k:aw){y:V}{u:Aa}(ry:RelV y u) :
  KT H (kvs.map λkv=>if kv.1=k then (kv.1,y) else kv) (xs.map (putAt k u)):=by
 induction r with
 |nil=>exact .nil
 |@cons p q ps qs h t ih=>
  rw[fE,fE];apply .cons ?_ ih;let#[h1,h2,h3]:=h;unfold putAt;by_cases e:p.1=k
  ·rw[aK e,aK (h1.symm.trans e)];exact#[h1,h2,ry]
  rw[aD e,aD (λz=>e (h1.trans z))];exact#[h1,h2,h3]
theorem KT.put{H:Hp}{kvs:List (aw × V)}{xs:List (aw × Addr × Aa)}(r:KT H kvs xs)(k:aw){b:Addr}{y:V}{u:Aa}(hb:H b\.tup (k.map kV))(ry:RelV y u) :
  KT H (putK kvs k y) (storedH xs k b u):=by
 have e:(kvs.any λkv=>decide (kv.1=k))=(atKey xs k).isSome:=by
  rw[CN,(r.val k).dQ,Option.isSome_map]
 unfold putK storedH;rw[e];by_cases q:(atKey xs k).isSome=true
 ·rw[aK q,aK q];exact r.zL k ry
 rw[aD q,aD q];exact Paired.snoc r #[U,hb,ry]
theorem KT.keeps{H H':Hp}{kvs:List (aw × V)}{xs:List (aw × Addr × Aa)}(r:KT H kvs xs)(ht:∀b ys,H b\.tup ys->H' b\.tup ys):KT H' kvs xs:=
 Paired.aQ r λ_ _ z=>#[z.1,ht _ _ z.2.1,z.2.2]
section
variable{P:Ad}{w:Af}{H:Hp}{h:Heap}{a:Addr}
theorem QX{u:HO}(ok:fQ P w H h)(e:Rd H a u):fj P w H h a u:=e.ok ok
theorem kR{kvs:List (Key × V)}(ok:fQ P w H h)(e:Rd H a (.dK kvs)):kvs.length<=sizeLine/\(a == sysModules)=false/\∃vs,KV kvs vs/\h.DictOf (d0 P w) a vs:=
 show fj P w H h a (.dK kvs) from QX ok e
theorem EA{kvs:List (Key × V)}(ok:fQ P w H h)(e:H a\.dK kvs):kvs.length<=sizeLine/\(a == sysModules)=false/\∃vs,KV kvs vs/\h.DictOf (d0 P w) a vs:=kR ok (.inl e)
theorem wG{ks:aw}(ok:fQ P w H h)(e:H a\.tup (ks.map kV)):(tupleKind (d0 P w)).is h ks a:=by
 let#[_,its,r,#[o,h1,h2,n,h3],_]:=(show fj P w H h a (.tup (ks.map kV)) from ok a _ e);exact#[o,its.toArray,n,h1,h2,h3,by simpa using TN r]
theorem yl{kvs:List (aw × V)}(ok:fQ P w H h)(e:Rd H a (.dT kvs)):kvs.length<=sizeLine/\(a == sysModules)=false /\
  ∃xs,KT H kvs xs/\h.DictOfH (tupleKind (d0 P w)) a xs:=by
 let#[z,y,xs,r,o,es,ep,h1,h2,h3,h4,h5]:=(show fj P w H h a (.dT kvs) from QX ok e);apply#[z,y,xs,r,o,es,ep,h1,h2,h3,h4,λx hx=>?_,h5]
 have all:∀{l:List (aw × V)} {m:List (aw × Addr × Aa)},KT H l m->∀x∈m,(tupleKind (d0 P w)).is h x.1 x.2.1:=by
  intro l m q
  induction q with
  |nil=>intro x hx;exact nomatch hx
  |@cons p q ps qs hq t ih=>
   intro x hx;rcases cg.mp hx with e|hx
   ·subst e;exact wG ok (by rw[<- hq.1];exact hq.2.1)
   exact ih x hx
 exact all r x hx
theorem Ll{kvs:List (aw × V)}(ok:fQ P w H h)(e:H a\.dT kvs):kvs.length<=sizeLine/\(a == sysModules)=false /\
  ∃xs,KT H kvs xs/\h.DictOfH (tupleKind (d0 P w)) a xs:=yl ok (.inl e)
end
def cO(H:Hp)(a:Addr)(y:V)(r:aE):Prop:=
 (∃kvs k,Rd H a (.dK kvs)/\y=kV k/\r=aZ kvs k)∨∃kvs k b,Rd H a (.dT kvs)/\y=.ref b/\H b\.tup (k.map kV)/\r=aZ kvs k
def pL(H:Hp)(a:Addr)(y v:V)(H':Hp):Prop:=
 (∃kvs k,H a\.dK kvs/\y=kV k/\kvs.length<sizeLine/\H'=upd H a (.dK (putK kvs k v))) ∨
 ∃kvs k b,H a\.dT kvs/\y=.ref b/\H b\.tup (k.map kV)/\kvs.length<sizeLine/\H'=upd H a (.dT (putK kvs k v))
theorem cO.k{H:Hp}{a:Addr}{kvs:List (Key × V)}{k:Key}(e:H a\.dK kvs):cO H a (kV k) (aZ kvs k):=.inl #[kvs,k,.inl e,U,U]
theorem cO.t{H:Hp}{a b:Addr}{kvs:List (aw × V)}{k:aw}(e:H a\.dT kvs)(eb:H b\.tup (k.map kV)):cO H a (.ref b) (aZ kvs k):=.inr #[kvs,k,b,.inl e,U,eb,U]
theorem pL.k{H:Hp}{a:Addr}{kvs:List (Key × V)}{k:Key}{v:V}(e:H a\.dK kvs)(hl:kvs.length<sizeLine):pL H a (kV k) v (upd H a (.dK (putK kvs k v))):=.inl #[kvs,k,e,U,hl,U]
theorem pL.t{H:Hp}{a b:Addr}{kvs:List (aw × V)}{k:aw}{v:V}(e:H a\.dT kvs)(eb:H b\.tup (k.map kV))(hl:kvs.length<sizeLine) :
  pL H a (.ref b) v (upd H a (.dT (putK kvs k v))):=.inr #[kvs,k,b,e,U,eb,hl,U]
section
variable{X:Cx}{pins:List (Addr × Obj)}{σ:St}{H:Hp}{s:Ab}{a:Addr}{y v:V}{u r:Aa}{o:aE}{A:Ag}{E:Aa->Ab->Prop}
theorem Inv.big(I:Inv X pins σ H s):sysModules<s.heap.objs.size:=by
 have h:mainGlobals<s.heap.objs.size:=(I.mod.glob.keeps I.bk).lt;exact Nat.lt_trans (by decide) h
theorem ht_{Q:Aa->Ab->Prop}(hu:A.units+1<cLine)(I:Inv X pins σ H s)(g:cO H a y (some v))(ry:RelV y u)(h:∀w' s',Inv X pins σ H s'->RelV v w'->Q w' s') :
  wpAny (model X.prog X.w) A (getItem (.ref a) u) Q E s:=by
 rcases g with⟨kvs,k,e,ey,l⟩|⟨kvs,k,b,e,ey,eb,l⟩
 ·subst ey;let#[z,hd,vs,rel,dd]:=kR I.aF e;let#[w',hw,iS]:=eO.some_of (v:=v) (o:=valueAt vs k) (by rw[l];exact rel.val k);exact wpAny_getItem_of (wD ry) dd.mapOf hw (h w' _ (I.tok _) iS)
 subst ey;cases (show u=Value.ref b from ry);let#[z,hd,xs,rel,dd]:=yl I.aF e;let#[w',hw,iS]:=eO.some_of (v:=v) (o:=(atKey xs k).map (·.2)) (by rw[l];exact rel.val k);let#[p,hp,kI]:=wZ.mp hw;apply wpAny_getItem_heap (tupleKind_room_in1 hu) (wG I.aF eb) dd hp ?_;rw[kI];exact h w' _ (I.tok _) iS
theorem Nk{Q:Aa->Ab->Prop}(hu:A.units+1<cLine)(I:Inv X pins σ H s)(g:cO H a y o)(ry:RelV y u)(h:∀s',Inv X pins σ H s'->Q (.bool o.isSome) s') :
  wpAny (model X.prog X.w) A (compareOp .In u (.ref a)) Q E s:=by
 rcases g with⟨kvs,k,e,ey,l⟩|⟨kvs,k,b,e,ey,eb,l⟩
 ·subst ey;let#[z,hd,vs,rel,dd]:=kR I.aF e;apply wpAny_in_of (wD ry) hd dd.mapOf ?_;rw[<- (rel.val k).dQ,<- l];exact h _ (I.tok _)
 subst ey;cases (show u=Value.ref b from ry);let#[z,hd,xs,rel,dd]:=yl I.aF e;apply wpAny_in_heap (tupleKind_room_in1 hu) (wG I.aF eb) hd dd ?_;let q:=(rel.val k).dQ;rw[Option.isSome_map] at q;rw[<- q,<- l];exact h _ (I.tok _)
theorem Yj{Q:Aa->Ab->Prop}(hu:A.units+1<cLine)(I:Inv X pins σ H s)(g:cO H a y o)(ry:RelV y u)(h:∀s',Inv X pins σ H s'->Q (.bool (!o.isSome)) s') :
  wpAny (model X.prog X.w) A (compareOp .NotIn u (.ref a)) Q E s:=by
 rcases g with⟨kvs,k,e,ey,l⟩|⟨kvs,k,b,e,ey,eb,l⟩
 ·subst ey;let#[z,hd,vs,rel,dd]:=kR I.aF e;apply wpAny_notIn_of (wD ry) hd dd.mapOf ?_;rw[<- (rel.val k).dQ,<- l];exact h _ (I.tok _)
 subst ey;cases (show u=Value.ref b from ry);let#[z,hd,xs,rel,dd]:=yl I.aF e;apply wpAny_notIn_heap (tupleKind_room_in1 hu) (wG I.aF eb) hd dd ?_;let q:=(rel.val k).dQ;rw[Option.isSome_map] at q;rw[<- q,<- l];exact h _ (I.tok _)
theorem M8{h':Heap}{t':Nat}{ob:HO}(I:Inv X pins σ H s)(mu:GR (H a))(hs:Heap.SameBut a s.heap h')(he:∃q,h'.get? a\q)(new:fj X.prog X.w (upd H a ob) h' a ob) :
  Inv X pins σ (upd H a ob) { s with heap:=h',toks:=t' }:=
 I.write (x:=a) (e:=a) mu (.inl U) (λb q hb z=>(hs.2 b hb).trans z) he new
theorem Mx{P:Ad}{w:Af}{H':Hp}{h':Heap}{kvs:List (Key × V)}{vs:List (Key × Aa)}(z:kvs.length<=sizeLine)(hd:(a == sysModules)=false)(rel:KV kvs vs)(dd:h'.DictOf (d0 P w) a vs) :
  fj P w H' h' a (.dK kvs):=#[z,hd,vs,rel,dd]
theorem hm_{H':Hp}{Q:Unit->Ab->Prop}(hu:A.units+1<cLine)(I:Inv X pins σ H s)(g:pL H a y v H')(ry:RelV y u)(rv:RelV v r)(h:∀s',Inv X pins σ H' s'->Q () s') :
  wpAny (model X.prog X.w) A (setItem (.ref a) u r) Q E s:=by
 rcases g with⟨kvs,k,e,ey,l,eH⟩|⟨kvs,k,b,e,ey,eb,l,eH⟩
 ·subst ey eH;let#[z,hd,vs,rel,dd]:=EA I.aF e;have hz:vs.length<=sizeLine:=by rw[<- rel.length];exact z
  have hl:(putK kvs k v).length<=sizeLine:=by have:=JS kvs k v;omega
  apply wpAny_setItem_pairs (hsz:=hz) (wD ry) dd λh' CC hs=>h _ ?_;have he:∃q,h'.get? a\q:=let #[q,_,_,hq,_]:=CC;#[q,hq];exact M8 I (by rw[e];exact True.intro) hs he (Mx hl hd (rel.put k rv) CC)
 subst ey eH;cases (show u=Value.ref b from ry);let#[z,hd,xs,rel,dd]:=Ll I.aF e;have hz:xs.length<=sizeLine:=by rw[<- bI rel];exact z
 have hl:(putK kvs k v).length<=sizeLine:=by have:=JS kvs k v;omega
 apply wpAny_setItem_heap (hsz:=hz) (tupleKind_room_in1 hu) (wG I.aF eb) dd λh' CC hs=>h _ ?_;let#[q,es,ep,hq,h2,h3,h4,_,h5]:=CC;apply M8 I (by rw[e];exact True.intro) hs #[q,hq] #[hl,hd,_,(rel.put k eb rv).keeps λc ys ec=>?_,q,es,ep,hq,h2,h3,h4,h5];rw[aB (bO ec e nofun)];exact ec
end
section
variable{X:Cx}{pins:List (Addr × Obj)}{σ:St}{H:Hp}{s:Ab}{a:Addr}{kvs:List (Key × V)}{k:Key}{u:Aa}{A:Ag}{E:Aa->Ab->Prop}
theorem Yu{Q:Aa->Ab->Prop}(I:Inv X pins σ H s)(e:Rd H a (.dK kvs))(h:∀t s',Inv X pins σ H s'->Q (.int kvs.length t) s'):wpAny (model X.prog X.w) A (call (.builtin "len") [.ref a]) Q E s:=by
 let#[z,hd,vs,rel,dd]:=kR I.aF e;apply call_len_dict hd dd (by rw[<- rel.length];rw[cK] at z;omega) ?_;rw[<- rel.length];exact h _ _ (I.tok _)
end
def GQ(i:Expr):Prop:=∀ov iv,subscripted i false ov iv=operate [ov,iv] (getItem ov iv)
theorem ZR{prog:Ad}{w:Af}{A:Ag}{E:Aa->Ab->Prop}{s:Ab}{env:Env}{value slice:Expr}{pos:Pos}{T id:String}{Q:Aa->Ab->Prop}
  (hl:typeLookup (.type T) "__getitem__"=pure (some (.builtin id))) (hs:GQ slice)
  (h:wpAny (model prog w) A (eval value env) (λo aL=>wpAny (model prog w) A (eval slice env) (λi jB=>jB.TypeIs o T/\wpAny (model prog w) A (getItem o i) Q E jB) E aL) E s) :
  wpAny (model prog w) A (eval (.Subscript value slice pos) env) Q E s:=by
 apply Subscript_ (wpAny_mono h (λo aL Lv=>wpAny_mono Lv (λi jB Az=>?_) λ_ _ x=>x) λ_ _ x=>x);let#[hT,Az]:=Az;unfold subscriptTail;apply ai ?_;rw[getitemInPython_of_ne hT.not_modules];apply ai (wpAny_specialOf hT hl ?_)
 have fin:wpAny (model prog w) A (subscripted slice false o i) (λr Dy=>wpAny (model prog w) A (letTemporaryGo value o r >>= λ_=>pure r) Q E Dy) E jB:=by
  rw[hs o i];exact wpAny_operating (wpAny_mono Az (λr Dy Lu=>ai (wpAny_letTemporaryGo (aI Lu))) λ_ _ x=>x)
 first
  |exact aI (ai fin)
  |exact ai (aI (ai fin))
  |exact ai fin
theorem eJ_{X:Cx}{pins:List (Addr × Obj)}{σ:St}{H:Hp}{s:Ab}{a:Addr}{y:V}{o:aE}(I:Inv X pins σ H s)(g:cO H a y o):s.TypeIs (.ref a) "dict":=by
 rcases g with⟨kvs,k,e,_,_⟩|⟨kvs,k,b,e,_,_,_⟩
 ·let#[_,_,vs,_,dd]:=kR I.aF e;exact dd.typeIs
 let#[_,_,xs,_,dd]:=yl I.aF e;exact dd.typeIs
inductive qJ (Q:VK) (x:V) (y:V) (H2:Hp):Prop
 |mk:∀a v,x=.ref a->cO H2 a y (some v)->Q v H2->qJ Q x y H2
def Dv(td ty:TE):TE:=λσ H Q=>td σ H λx H1=>ty σ H1 λy H2=>qJ Q x y H2
inductive xr (Q:VK) (y:V) (x:V) (H2:Hp):Prop
 |mk:∀a o,x=.ref a->cO H2 a y o->Q (.bl o.isSome) H2->xr Q y x H2
def Ks(ty td:TE):TE:=λσ H Q=>ty σ H λy H1=>td σ H1 λx H2=>xr Q y x H2
inductive TV (Q:VK) (y:V) (x:V) (H2:Hp):Prop
 |mk:∀a o,x=.ref a->cO H2 a y o->Q (.bl (!o.isSome)) H2->TV Q y x H2
def vy(ty td:TE):TE:=λσ H Q=>ty σ H λy H1=>td σ H1 λx H2=>TV Q y x H2
inductive sd (D:Ends) (σ:St) (v:V) (x:V) (y:V) (H3:Hp):Prop
 |mk:∀a H4,x=.ref a->pL H3 a y v H4->D.nx σ H4->sd D σ v x y H3
def DL(td ty tv:TE):TS:=λD σ H=>tv σ H λv H1=>td σ H1 λx H2=>ty σ H2 λy H3=>sd D σ v x y H3
section
variable{X:Cx}{o i e value:Expr}{pos pos' Dg:Pos}{td ty tv:TE}
theorem j_(hu:X.A.units+1<cLine)(ho:PE X o td)(hi:PE X i ty)(hs:GQ i:=by exact λ_ _=>rfl):PE X (.Subscript o i pos) (Dv td ty):=by
 intro pins s σ H Q I h;apply ZR PySem.F.slot_dict_getitem.lookup hs (aU (ho pins s σ H _ I h) λu s1 ⟨x,H1,I1,rx,q1⟩=>aU (hi pins s1 σ H1 _ I1 q1) λiv s2 ⟨y,H2,I2,ry,a,v,ex,g,q2⟩=>?_);subst ex;obtain rfl:u=Value.ref a:=rx;exact#[eJ_ I2 g,ht_ hu I2 g ry λw' s3 I3 iS=>#[v,H2,I3,iS,q2]]
theorem Bk(hu:X.A.units+1<cLine)(hi:PE X i ty)(ho:PE X o td):PC X .In i o (Ks ty td):=by
 intro pins s σ H Q I h;apply aU (hi pins s σ H _ I h) λiv s1 ⟨y,H1,I1,ry,q1⟩=>aU (ho pins s1 σ H1 _ I1 q1) λu s2 ⟨x,H2,I2,rx,a,ov,ex,g,q2⟩=>?_;subst ex;obtain rfl:u=Value.ref a:=rx;exact Nk hu I2 g ry λs3 I3=>#[.bl ov.isSome,H2,I3,U,q2]
theorem GG(hu:X.A.units+1<cLine)(hi:PE X i ty)(ho:PE X o td):PC X .NotIn i o (vy ty td):=by
 intro pins s σ H Q I h;apply aU (hi pins s σ H _ I h) λiv s1 ⟨y,H1,I1,ry,q1⟩=>aU (ho pins s1 σ H1 _ I1 q1) λu s2 ⟨x,H2,I2,rx,a,ov,ex,g,q2⟩=>?_;subst ex;obtain rfl:u=Value.ref a:=rx;exact Yj hu I2 g ry λs3 I3=>#[.bl (!ov.isSome),H2,I3,U,q2]
theorem u5(hu:X.A.units+1<cLine)(ho:PE X o td)(hi:PE X i ty)(hv:PE X value tv)(hs:swapsWith value (some (.Subscript o i pos')) pos.line X.env=pure false) :
  PS X (.Assign [.Subscript o i pos'] value pos) (DL td ty tv):=by
 intro pins s σ H D I h;apply wpAny_Assign_Subscript (aU (hv pins s σ H _ I h) λr s1 ⟨v,H1,I1,rv,q1⟩=>aU (ho pins s1 σ H1 _ I1 q1) λu s2 ⟨x,H2,I2,rx,q2⟩=>aU (hi pins s2 σ H2 _ I2 q2) λiv s3 ⟨y,H3,I3,ry,a,H4,ex,g,q3⟩=>?_) hs;subst ex;obtain rfl:u=Value.ref a:=rx;exact hm_ hu I3 g ry rv λs4 I4=>#[σ,H4,I4,q3]
end
theorem _U{P:Ad}{w:Af}{H:Hp}(h:Heap)(hb:sysModules<h.objs.size):fj P w H (h.push { cls:=.type "dict",data:=.dict #[] }) h.objs.size (.dK []):=
 #[gO _,beq_eq_false_iff_ne.mpr (dJ (dH hb)),[],.nil,Heap.DictOf.new h]
theorem SK{P:Ad}{w:Af}{H:Hp}(h:Heap)(hb:sysModules<h.objs.size):fj P w H (h.push { cls:=.type "dict",data:=.dict #[] }) h.objs.size (.dT []):=
 #[gO _,beq_eq_false_iff_ne.mpr (dJ (dH hb)),[],.nil,_,#[],0,dq _ U,#[U,U,U],U,U,List.nodup_nil]
def y_:TE:=λ_ H Q=>∀p,H p=none->Q (.ref p) (upd H p (.dK []))
def y9:TE:=λ_ H Q=>∀p,H p=none->Q (.ref p) (upd H p (.dT []))
section
variable{X:Cx}{pos:Pos}
theorem F0:PE X (.Dict [] [] pos) y_:=λpins s σ H Q I h=>
 wpAny_Dict_empty #[.ref s.heap.objs.size,_,I.laid (a:=s.heap.objs.size) (o:=.dK []) (t':=s.toks) (λ_ _ q=>bo _ q) (a9 _) (_U s.heap I.big),U,h _ (I.aF.fresh (a9 _))]
theorem S2:PE X (.Dict [] [] pos) y9:=λpins s σ H Q I h=>
 wpAny_Dict_empty #[.ref s.heap.objs.size,_,I.laid (a:=s.heap.objs.size) (o:=.dT []) (t':=s.toks) (λ_ _ q=>bo _ q) (a9 _) (SK s.heap I.big),U,h _ (I.aF.fresh (a9 _))]
end
def wR(kvs more:List (Key × V)):List (Key × V):=more.foldl (λacc kv=>putK acc kv.1 kv.2) kvs
theorem Pa:∀(more kvs:List (Key × V)),(wR kvs more).length<=kvs.length+more.length
 |[],kvs=>by show kvs.length<=kvs.length+0;omega
 |p::r,kvs=>by
  let h1:=Pa r (putK kvs p.1 p.2);let h2:=JS kvs p.1 p.2;show (wR (putK kvs p.1 p.2) r).length<=_;rw[jz];omega
structure M1 (X:Cx) (o:Expr) (m:Str) (apos:Pos) (e:Expr) (cu:Pos):Prop where
 base:attributeBase o m X.env (eval o X.env)=eval o X.env
 ML:((backTo cu (starEach [e] X.env)).all (λx=>!x.1)&&(backToKw cu (keywordEach [] X.env)).all (λx=>x.1.isSome)
  && decide (([e]:List Expr).length+([]:List Keyword).length+(if ([]:List Keyword).isEmpty then 0 else 1)<30))=true
 line:(apos.endLine == cu.line)=true
 trees:backTo cu (starEach [e] X.env)=[(false,eval e X.env)]
structure M2 (X:Cx) (o:Expr) (m:Str) (apos:Pos) (e f:Expr) (cu:Pos):Prop where
 base:attributeBase o m X.env (eval o X.env)=eval o X.env
 ML:((backTo cu (starEach [e,f] X.env)).all (λx=>!x.1)&&(backToKw cu (keywordEach [] X.env)).all (λx=>x.1.isSome)
  && decide (([e,f]:List Expr).length+([]:List Keyword).length+(if ([]:List Keyword).isEmpty then 0 else 1)<30))=true
 line:(apos.endLine == cu.line)=true
 trees:backTo cu (starEach [e,f] X.env)=[(false,eval e X.env),(false,eval f X.env)]
def PP(H:Hp)(a:Addr):Prop:=(∃kvs,Rd H a (.dK kvs))∨∃kvs,Rd H a (.dT kvs)
theorem IE{X:Cx}{pins:List (Addr × Obj)}{σ:St}{H:Hp}{s:Ab}{a:Addr}(I:Inv X pins σ H s)(d:PP H a) :
  s.TypeIs (.ref a) "dict"/\(∀b,Value.ref a=.ref b->∃ob,s.heap.get? b\ob/\ob.dict=none)/\(a == sysModules)=false:=by
 rcases d with⟨kvs,e⟩|⟨kvs,e⟩
 ·let#[_,hd,vs,_,dd]:=kR I.aF e;apply#[dd.typeIs,λb q=>?_,hd];cases q;let#[ob,_,_,h1,h2,_]:=dd;exact#[ob,h1,h2.2.1]
 let#[_,hd,xs,_,dd]:=yl I.aF e;apply#[dd.typeIs,λb q=>?_,hd];cases q;let#[ob,_,_,h1,h2,_]:=dd;exact#[ob,h1,h2.2.1]
section
variable{X:Cx}{pins:List (Addr × Obj)}{σ:St}{H:Hp}{s:Ab}{a:Addr}{y d:V}{u r:Aa}{o:aE}{A:Ag}{E:Aa->Ab->Prop}
theorem YH{Q:Aa->Ab->Prop}(hu:A.units+1<cLine)(I:Inv X pins σ H s)(g:cO H a y o)(ry:RelV y u)(h:∀w' s',Inv X pins σ H s'->RelV (o.getD .non) w'->Q w' s') :
  wpAny (model X.prog X.w) A (call (.builtin "dict.get") [.ref a,u]) Q E s:=by
 rcases g with⟨kvs,k,e,ey,l⟩|⟨kvs,k,b,e,ey,eb,l⟩
 ·subst ey;let#[z,hd,vs,rel,dd]:=kR I.aF e;apply call_meetsIn PySem.F.slot_dict_get dd.typeIs PySem.F.entry_dict_get (PySem.F.args_dict_get_2 _ _) (meets_dict_get (d0 X.prog X.w) a (wD ry) hd) #[_,dd.mapOf,h _ _ (I.tok _) ?_];rw[l];exact (rel.val k).getD U
 subst ey;cases (show u=Value.ref b from ry);let#[z,hd,xs,rel,dd]:=yl I.aF e;apply call_meetsIn PySem.F.slot_dict_get dd.typeIs PySem.F.entry_dict_get (PySem.F.args_dict_get_2 _ _) (meetsH_dict_get (tupleKind (d0 X.prog X.w)) a b hd) #[tupleKind_room_in1 hu,k,xs,wG I.aF eb,dd,h _ _ (I.tok _) ?_];rw[l];exact (rel.val k).getD U
theorem X9{Q:Aa->Ab->Prop}(hu:A.units+1<cLine)(I:Inv X pins σ H s)(g:cO H a y o)(ry:RelV y u)(rd:RelV d r)(h:∀w' s',Inv X pins σ H s'->RelV (o.getD d) w'->Q w' s') :
  wpAny (model X.prog X.w) A (call (.builtin "dict.get") [.ref a,u,r]) Q E s:=by
 rcases g with⟨kvs,k,e,ey,l⟩|⟨kvs,k,b,e,ey,eb,l⟩
 ·subst ey;let#[z,hd,vs,rel,dd]:=kR I.aF e;apply call_meetsIn PySem.F.slot_dict_get dd.typeIs PySem.F.entry_dict_get (PySem.F.args_dict_get_3 _ _ _) (meets_dict_get_default (d0 X.prog X.w) a (wD ry) hd r) #[_,dd.mapOf,h _ _ (I.tok _) ?_];rw[l];exact (rel.val k).getD rd
 subst ey;cases (show u=Value.ref b from ry);let#[z,hd,xs,rel,dd]:=yl I.aF e;apply call_meetsIn PySem.F.slot_dict_get dd.typeIs PySem.F.entry_dict_get (PySem.F.args_dict_get_3 _ _ _) (meetsH_dict_get_default (tupleKind (d0 X.prog X.w)) a b hd r) #[tupleKind_room_in1 hu,k,xs,wG I.aF eb,dd,h _ _ (I.tok _) ?_];rw[l];exact (rel.val k).getD rd
end
def zd(td ty:TE):TE:=λσ H Q=>td σ H λx H1=>∃a,x=.ref a/\PP H1 a/\ty σ H1 λy H2=>∃o,cO H2 a y o/\Q (o.getD .non) H2
def zc(td ty tx:TE):TE:=λσ H Q=>td σ H λx H1=>∃a,x=.ref a/\PP H1 a/\ty σ H1 λy H2=>tx σ H2 λz H3=>∃o,cO H3 a y o/\Q (o.getD z) H3
section
variable{X:Cx}{o e f:Expr}{apos cu:Pos}{td ty tx:TE}
theorem _L(hu:X.A.units+1<cLine)(ho:PE X o td)(he:PE X e ty)(m:M1 X o "get" apos e cu):PE X (.Call (.Attribute o "get" apos) [e] [] cu) (zd td ty):=by
 intro pins s σ H Q I h;apply wpAny_Call_method m.base m.ML m.line PySem.F.plainAttrs_dict PySem.F.slot_dict_get PySem.F.type_dict_get (aU (ho pins s σ H _ I h) λu s1 ⟨x,H1,I1,rx,a,ex,d,q1⟩=>?_);subst ex;obtain rfl:u=Value.ref a:=rx;let#[t1,t2,_]:=IE I1 d;apply#[t1,t2,?_];rw[m.trees];apply Calls.callWith_builtin U (Calls.evalArgs_plain (Calls.spliced_cons (aU (he pins s1 σ H1 _ I1 q1) λiv s2 ⟨y,H2,I2,ry,ov,g,q2⟩=>Calls.spliced_nil ?_)));exact YH hu I2 g ry λw' s3 I3 iS=>#[_,H2,I3,iS,q2]
theorem ZT(hu:X.A.units+1<cLine)(ho:PE X o td)(he:PE X e ty)(hf:PE X f tx)(m:M2 X o "get" apos e f cu):PE X (.Call (.Attribute o "get" apos) [e,f] [] cu) (zc td ty tx):=by
 intro pins s σ H Q I h;apply wpAny_Call_method m.base m.ML m.line PySem.F.plainAttrs_dict PySem.F.slot_dict_get PySem.F.type_dict_get (aU (ho pins s σ H _ I h) λu s1 ⟨x,H1,I1,rx,a,ex,d,q1⟩=>?_);subst ex;obtain rfl:u=Value.ref a:=rx;let#[t1,t2,_]:=IE I1 d;apply#[t1,t2,?_];rw[m.trees]
 apply Calls.callWith_builtin U (Calls.evalArgs_plain (Calls.spliced_cons (aU (he pins s1 σ H1 _ I1 q1) λiv s2 ⟨y,H2,I2,ry,q2⟩=>
  Calls.spliced_cons (aU (hf pins s2 σ H2 _ I2 q2) λfv s3 ⟨z,H3,I3,rz,ov,g,q3⟩=>Calls.spliced_nil ?_))))
 exact X9 hu I3 g ry rz λw' s4 I4 iS=>#[_,H3,I4,iS,q3]
end
section
variable{X:Cx}{pins:List (Addr × Obj)}{σ:St}{H:Hp}{s:Ab}{a:Addr}{kvs:List (Key × V)}{A:Ag}{E:Aa->Ab->Prop}
end
section
variable{X:Cx}{pins:List (Addr × Obj)}{σ:St}{H:Hp}{s:Ab}{a:Addr}{y:V}{u:Aa}{A:Ag}{E:Aa->Ab->Prop}
end
end L2
namespace Vg
open PySem PySem.W PySem.Calls PyProof.Rows
theorem d5_{P:Params}{h:Heap}:∀(ns:List Int) (vs:aj),WellAll P h vs (ns.map WData.int)->IntsAre vs ns:=by
 intro ns
 induction ns with
 |nil=>
  intro vs w;rw[List.map_nil] at w;cases w;exact .nil
 |cons n ns ih=>
  intro vs w;rw[fE] at w;cases w with
  |cons a b=>
   cases a;exact .cons _ _ (ih _ b)
theorem gZ_{l:OpenLaw}{n:Nat}(hn:l.most\n){P:Params}{h:Heap}{args:List WData}{vals:aj}
  (vW:l.row.toRowW.claim.pre args=true) (Ly:WellAll P h vals args) :
  ∃a vs ns,vals=[Value.ref a]/\args=[WData.list (ns.map WData.int)]/\h.get? a=some { cls:=.type "list",data:=.seq vs.toArray }/\IntsAre vs ns/\ns.length<=n:=by
 have hsh:WShape.hasAll [] args [.list .int]=true:=(pre_splitW vW).1;have hc:l.pre.holds [] { args:=args }=true:=(pre_splitW vW).2;let#[d,r,rfl,h1,h2]:=hasAllW_cons hsh;obtain rfl:=hasAllW_nil h2;let#[xs,rfl,h3]:=hasW_list h1;let#[ns,rfl]:=items_int h3
 have hlen:ns.length<=n:=by
  unfold OpenLaw.pre at hc
  have h4:(WTm.not (.lt (.lit (.int (n:Int))) (.len (.arg 0)))).holds [] { args:=[.list (ns.map .int)] }=true:=by
   let h4:=(holds_andW hc).1;rw[hn] at h4;exact h4
  let h5:=condW_of h4 (w_not (w_lt w_lit (w_len_list (w_arg U))));rw[aq] at h5;apply Nat.le_of_not_lt λq=>?_;have q':(n:Int)<((ns.length:Nat):Int):=by omega
  first
   |(rw[dc q'] at h5;exact absurd h5 (by decide))
   |(simp at h5;omega)
 cases Ly with
 |cons w1 w2=>
  cases w2;cases w1 with
  |list ho AY=>exact#[_,_,ns,U,U,ho,d5_ ns _ AY,hlen]
theorem gJ_(l:OpenLaw)(args:List WData):l.row.toRowW.claim.post args (.bool true) args=true:=
 postW_of (r:=l.row.toRowW) (X:=(true == true))
  (show WShape.has [] (.bool true) .bool=true by first|rfl|decide|simp[WShape.has,WShape.arms,WShape.armsAll])
  (show (WTm.eq .res (.lit (.bool true))).value [] { args:=args,res:=some (.bool true),after:=args }=some (.bool (true == true)) from w_eq_bool (w_res U) w_lit) U
theorem j8{l:OpenLaw}{n:Nat}{q:Ad}{loose:ae}{XP:(Str->Option Aa)->Heap->Prop}{YP:Af->Heap->Prop}{d:DefRec}
  (hn:l.most\n) (Ff:d.params.defaults=[])
  (call:∀(w:Af) (dk aL:Ab) (mg mb:Str->Option Aa) (fa:Addr) (o:Obj) (pm cd doc:Aa) (a:Addr) (vs:aj) (ns:List Int),
   Ground q loose [] XP w dk mg mb aL.heap->YP w aL.heap->
   aL.heap.get? fa\o->o.data=.func (docDef d.name d.params d.body d.scope pm cd doc)->aL.heap.CodeRec cd d.name->mg d.name\.ref fa->
   aL.heap.get? a=some { cls:=.type "list",data:=.seq vs.toArray }->IntsAre vs ns->ns.length<=n->aL.gens=#[]->
   codeAny (model l.prog w) callerA (.call (.ref fa) #[[.ref a],[]]) (λr s'=>r=.ok (.ret (.bool true))/\OldK aL.heap s'.heap/\s'.os=aL.os/\AllBare s'.gens) aL) :
  WalkO q loose XP YP l.row.toRowW d [] (λf vs=>PySem.call f vs):=by
 intro w dk aL mg mb G Y fa o pm cd doc dV kV ho hd iy hD hmg hg args vals as vW hlay hrd Ly RK;obtain rfl:dV=.none:=Dflts.none hD Ff;obtain rfl:kV=.none:=Dflts.noKw hD;let#[a,vs,ns,rfl,rfl,AE,hints,hlen]:=gZ_ hn vW Ly;apply enter_call (codeAny_mono (call w dk aL mg mb fa o pm cd doc a vs ns G Y ho (fd_plain hd) iy hmg AE hints hlen hg) λr s' hq=>?_);let#[rfl,h2,h3,h4]:=hq;exact#[.inl #[.bool true,.bool true,[],U,λ_=>rfl,.bool true,gJ_ l _,λ_=>#[List.Pairwise.nil,λ_ hm=>(nomatch hm)]],h2,h3,h4]
section
variable{prog:Ad}{w:Af}{A:Ag}{E:Aa->Ab->Prop}{s:Ab}{K:Frag}
end
end Vg
namespace L2
open PySem PySem.Spec PyProof.Rows
theorem Tv:∀{vs:aj} {ns:List Int},IntsAre vs ns->Vals (ns.map V.int) vs
 |_,_,.nil=>.nil
 |_,_,.cons n t h=>.cons #[t,U] (Tv h)
end L2
namespace L2
open PySem PySem.Spec PyProof.Rows
end L2
namespace L2
open PySem PySem.Spec PyProof.Rows
def pC(s:Stmt)(j:Nat):Stmt:=match s with
 |.ClassDef _ _ _ body _ _ _ _ _ _ _=>body.getD j (.Pass #[0,0,0,0])
 |_=>.Pass #[0,0,0,0]
def gQ(s:Stmt):Arguments:=match s with
 |.FunctionDef _ a _ _ _ _ _ _ _ _=>a
 |_=>{ posonlyargs:=[],args:=[],vararg:=none,kwonlyargs:=[],kw_defaults:=[],kwarg:=none,defaults:=[] }
def f_(s:Stmt):List Stmt:=match s with
 |.FunctionDef _ _ b _ _ _ _ _ _ _=>b
 |_=>[]
def a_(s:Stmt):Scope:=match s with
 |.FunctionDef _ _ _ _ _ _ sc _ _ _=>sc
 |_=>{ kind:=.function,names:=[],isGenerator:=false,isCoroutine:=false }
abbrev bc:kZ:=λ_ _ _ _ _ _=>False
abbrev E0:XK:=λ_ _ _=>False
theorem nR{X:Cx}:wU bc X E0:=λ_ _ _ _ _ _ _ h=>h.elim
structure bu (K:af) (x qual:Str) (st:Stmt) (f:Addr) (fd:Ae):Prop where
 ex:∃(oc:Aa) (od:Option Addr) (kV doc pm:Aa) (an:Option Addr) (aO ct:Aa) (jG:Array (Option Aa)),
  fd=PySem.W.fnOf x qual (gQ st) (f_ st) (a_ st) .none kV doc pm an aO ct/\K.lookup f=some #[oc,od,.func fd,jG]/\PySem.W.codeIn K aO qual=true
 kp:PySem.W.keepIn K (.ref f)=true
section v
theorem bu.ok{x qual:Str}{st:Stmt}{f:Addr}{fd:Ae}{N ps:ae}{k:Nat}{sp:Sp}(F:bu K x qual st f fd)(S:bQ N ps (a_ st))(len:∀vs H Q E,sp vs H Q E->vs.length=ps.length)
  (fU:∀(aO:Aa) (A:Ag) (outer:List Env) (s:Ab) (H:Hp) (vs:ag) (Q:VK) (E:XK),aY k (A.deeper (envOfC qual (a_ st) s.heap.objs.size f aO))->sp vs H Q E->
   ∃t,km (i7 bc P w K mg base N qual (a_ st) f aO A outer s H E).xO (f_ st) t/\t { nx:=λ_ H'=>Q .non H',rt:=Q } (start N vs) H):!ak bc (k+1) f fd ps sp:=by
 let#[oc,od,kV,doc,pm,an,aO,ct,jG,rfl,lk,iy]:=F.ex;apply QT lk iy S len λA outer s H vs Q E hr kG=>?_;let#[t,h,q]:=fU aO A outer s H vs Q E hr kG;exact#[t,h.xO,q]
theorem bu.bW{x qual:Str}{st:Stmt}{f:Addr}{fd:Ae}{N ps:ae}{k:Nat}{sp:Sp}(F:bu K x qual st f fd)(S:bQ N ps (a_ st)) (fU:∀(aO:Aa) (A:Ag) (outer:List Env) (s:Ab) (H:Hp) (vs:ag) (Q:VK) (E:XK),aY k (A.deeper (envOfC qual (a_ st) s.heap.objs.size f aO))->sp vs H Q E->
   ∃t,km (i7 bc P w K mg base N qual (a_ st) f aO A outer s H E).xO (f_ st) t/\t { nx:=λ_ H'=>Q .non H',rt:=Q } (start N vs) H) (len:∀vs H Q E,sp vs H Q E->vs.length=ps.length:=by intro vs H Q E h;first|(cases h;subst_vars;rfl)|(let#[rfl,_]:=h;rfl)|(let#[_,rfl,_]:=h;rfl)|(let#[_,_,rfl,_]:=h;rfl)|(let#[_,_,_,rfl,_]:=h;rfl)|(let#[_,_,_,_,rfl,_]:=h;rfl)):!ak bc (k+1) f fd ps sp:=F.ok S len fU
theorem bu.binds{x qual:Str}{st:Stmt}{f:Addr}{fd:Ae}{ps:ae}(F:bu K x qual st f fd)
  (h:∀(kV doc pm:Aa) (an:Option Addr) (aO ct:Aa) (us:aj),us.length=ps.length->bindArgs (PySem.W.fnOf x qual (gQ st) (f_ st) (a_ st) .none kV doc pm an aO ct) #[us,[]]=pure (ps.zip us)):p9 K fd ps []:=by
 let#[oc,od,kV,doc,pm,an,aO,ct,jG,rfl,lk,iy]:=F.ex;exact .all (h kV doc pm an aO ct)
theorem Rq{x qual:Str}{st:Stmt}{f:Addr}{oc:Aa}{od an:Option Addr}{jG:Array (Option Aa)}{kV doc pm aO ct:Aa}(l:K.lookup f=some #[oc,od,.func (PySem.W.fnOf x qual (gQ st) (f_ st) (a_ st) .none kV doc pm an aO ct),jG])
  (c:PySem.W.codeIn K aO qual=true) (k:PySem.W.keepIn K (.ref f)=true):bu K x qual st f (PySem.W.fnOf x qual (gQ st) (f_ st) (a_ st) .none kV doc pm an aO ct):=#[#[oc,od,kV,doc,pm,an,aO,ct,jG,U,l,c],k]
end
theorem fP{A:Ag}{k:Nat}(hr:aY k A):A.units+1<cLine:=Nat.lt_of_le_of_lt (Nat.add_le_add_left (by decide:1<=64) _) hr.units
section
variable{X:Cx}
theorem pv(i:Nat){x:Str}{pos:Pos}(hN:X.N[i]? = some x:=by rfl)(hv:Py X.env.scope x:=by first|exact Or.inl U|exact Or.inr (Or.inl U)|exact Or.inr (Or.inr U))(hd:(x == ("__debug__":Str))=false:=by decide)
  (iy:(x == ("__classdict__":Str))=false:=by decide):PE X (.Name x pos) (dj i):=YL hN hv hd iy
inductive UV (xs:ag) (H:Hp) (Q:VK):Prop
 |mk:∀a kvs,xs=[V.ref a]->H a\.dK kvs->Q (.int kvs.length) H->UV xs H Q
theorem gQ_:gn X (.builtin "len") UV:=by
 intro pins s σ H xs us Q I r h;let#[a,kvs,rfl,ha,q]:=h;let#[u,rfl,ru]:=vals1 r;cases ru;exact Yu I (.inl ha) λt s' I'=>#[.int kvs.length,H,I',#[t,U],q]
end
theorem aH{A B:Prop}(h:B):if false=true then A else B:=by
 rw[aD gr];exact h
theorem bN{A B:Prop}(h:A):if true=true then A else B:=by
 rw[aK U];exact h
theorem bH{c A B:Prop}[Decidable c](h1:c->A)(h2:¬c->B):if c then A else B:=by
 by_cases h:c
 ·rw[aK h];exact h1 h
 rw[aD h];exact h2 h
theorem Ba{c A B:Prop}[Decidable c](hc:c)(h:B):if (!decide c)=true then A else B:=by
 rw[dc hc];exact aH h
def aa(H H':Hp):Prop:=∀b o,H b\o->H' b\o
theorem aa.refl(H:Hp):aa H H:=λ_ _ h=>h
theorem aa.trans{H H1 H2:Hp}(a:aa H H1)(b:aa H1 H2):aa H H2:=λc o h=>b c o (a c o h)
theorem aa.free{H H':Hp}(e:aa H H'){l:Addr}(h:H' l=Option.none):H l=Option.none:=by
 cases q:H l with
 |none=>rfl
 |some o=>
  rw[e l o q] at h;cases h
section
variable{κ:Type}[DecidableEq κ]
theorem Ym{kvs:List (κ × V)}{k:κ}{v:V}(h:aZ kvs k\v):k∈kvs.map (·.1):=by
 have q:(kvs.any λkv=>decide (kv.1=k))=true:=by
  rw[CN,h]
  all_goals rfl
 let#[p,hp,e]:=List.any_eq_true.mp q;exact bx.mpr #[p,hp,tP e]
end
end L2
local macro_rules|`(%[$x,*|$_])=>do return (<-x.getElems.foldrM (λe (a:Lean.Term)=>if e.raw.isNatLit?.isSome then`(L2.d8 (L2.pv $e) $a)else`(L2.d8 $e $a)) (<-`(L2.bR)))
namespace L2
open PySem PySem.Spec PyProof.Rows
def i9(env:Env):List (Str × NameKind)->List (Str × Addr)->List (Str × Addr)
 |[],cs=>cs
 |(n,k)::r,cs=>i9 env r (if k == .free then (n,(env.cells.lookup n).getD 0)::cs else cs)
theorem Pi{env:Env}(f:Str × NameKind->List (Str × Addr)->Sem (ForInStep (List (Str × Addr))))
  (hf:∀n k cs,f (n,k) cs=if (k == .free)=true then (do let a <- cellOf env n;pure (.yield ((n,a)::cs))) else pure (.yield cs)) :
  ∀(names:List (Str × NameKind)) (cs:List (Str × Addr)),(∀x∈names,x.2=.free->∃c,env.cells.lookup x.1\c)->forIn names cs f=(pure (i9 env names cs):Sem _)
 |[],cs,_=>by rw[List.forIn_nil];rfl
 |(n,k)::r,cs,h=>by
  rw[List.forIn_cons,hf];have hr:∀x∈r,x.2=.free->∃c,env.cells.lookup x.1\c:=λx hx=>h x (fo _ hx);unfold i9;by_cases hk:(k == NameKind.free)=true
  ·let#[c,hc]:=h (n,k) fY ⇑hk;have hc:env.cells.lookup n\c:=hc;rw[aK hk,aK hk];have e:cellOf env n=pure c:=by unfold cellOf;rw[hc]
   rw[e];simp only[pure_bind];rw[Pi f hf r _ hr,hc];rfl
  rw[aD hk,aD hk];simp only[pure_bind];exact Pi f hf r _ hr
theorem UN{scope:Scope}{env:Env}(h:∀x∈scope.names,x.2=.free->∃c,env.cells.lookup x.1\c):closureFor scope env=pure (i9 env scope.names []):=by
 simp only[closureFor];rw[Pi (env:=env) _ (λn k cs=>by by_cases hk:(k == NameKind.free)=true<;>simp[hk]) scope.names [] h]
 simp only[pure_bind]
theorem Us{env:Env}:∀{names:List (Str × NameKind)} {cs:List (Str × Addr)} {x:Str} {c:Addr},(x,c)∈i9 env names cs->(x,c)∈cs∨((x,NameKind.free)∈names/\c=(env.cells.lookup x).getD 0)
 |[],cs,x,c,h=>.inl h
 |(n,k)::r,cs,x,c,h=>by
  unfold i9 at h;rcases Us h with h|⟨h,e⟩
  ·by_cases hk:(k == NameKind.free)=true
   ·rw[aK hk] at h;rcases cg.mp h with q|q
    ·cases q;have:k=.free:=⇑hk
     subst this;exact .inr #[fY,U]
    exact .inl q
   rw[aD hk] at h;exact .inl h
  exact .inr #[fo _ h,e]
theorem Og{env:Env}:∀{names:List (Str × NameKind)} {cs:List (Str × Addr)} {x:Str},(x,NameKind.free)∈names∨(∃c,(x,c)∈cs)->∃c,(x,c)∈i9 env names cs
 |[],cs,x,h=>by
  rcases h with h|h
  ·cases h
  ·exact h
 |(n,k)::r,cs,x,h=>by
  unfold i9;apply Og ?_;rcases h with h|⟨c,h⟩
  ·rcases cg.mp h with e|h
   ·cases e;exact .inr #[(env.cells.lookup n).getD 0,by rw[aK (by decide)];exact fY]
   exact .inl h
  apply .inr #[c,?_];split
  ·exact fo _ h
  exact h
theorem Ph:∀(names:List (Str × NameKind)) (n:Nat) (acc cl:List (Str × Addr)),cellsFrom n names (acc++cl)=cellsFrom n names acc++cl
 |[],_,_,_=>rfl
 |(x,k)::r,n,acc,cl=>by
  unfold cellsFrom;split
  ·exact Ph r (n+1) ((x,n)::acc) cl
  exact Ph r n acc cl
theorem Pg:∀{names:List (Str × NameKind)} {n:Nat} {acc:List (Str × Addr)} {x:Str} {c:Addr},(x,c)∈cellsFrom n names acc->(x,c)∈acc∨(x,NameKind.cell)∈names
 |[],_,_,_,_,h=>.inl h
 |(y,k)::r,n,acc,x,c,h=>by
  unfold cellsFrom at h;by_cases hk:(k == NameKind.cell)=true
  ·rw[aK hk] at h;rcases Pg h with h|h
   ·rcases cg.mp h with e|h
    ·cases e;have:k=.cell:=⇑hk
     subst this;exact .inr fY
    exact .inl h
   exact .inr (fo _ h)
  rw[aD hk] at h;rcases Pg h with h|h
  ·exact .inl h
  exact .inr (fo _ h)
theorem Pj{α:Type}:∀{l:List (Str × α)} {x:Str} {c:α},(x,c)∈l->∃c',l.lookup x\c'
 |(k,v)::r,x,c,h=>by
  rw[qr];cases hb:x == k with
  |true=>exact#[v,U]
  |false=>
   rcases cg.mp h with e|h
   ·cases e;simp at hb
   exact Pj h
def jW(scope:Scope)(C:Addr)(env:Env):Env:=
 { scope:=relabel scope env,locals:=C,globals:=env.globals,cells:=cellsFrom (C+1) scope.names (i9 env scope.names []),qual:=env.qual,func:=none,code:=env.code,frame:=env.frame,builtins:=env.builtins }
theorem UE{M:Model}{A:Ag}{E:Aa->Ab->Prop}{s:Ab}{scope:Scope}{cl:List (Str × Addr)}{env:Env}{Q:Env->Ab->Prop}
  (h:Q { scope:=scope,locals:=s.heap.objs.size,globals:=env.globals,cells:=cellsFrom (s.heap.objs.size+1) scope.names cl,qual:=env.qual,func:=none,code:=env.code,frame:=env.frame,builtins:=env.builtins }
   { s with heap:=pushCells (s.heap.push { cls:=.type "dict",data:=.dict #[] }) scope.names }) :
  wpAny M A (newFunctionEnv scope env.globals cl [] env.qual none .none (some env)) Q E s:=by
 simp only[newFunctionEnv,Option.isSome_some,if_true];apply ai (wpAny_alloc ?_);apply ai (wpAny_layCells _ (λname kind cells=>by cases hkc:kind == NameKind.cell<;>simp[hkc]) _ _ _ _ ?_)
 rw[show ({ s with heap:=s.heap.push { cls:=.type "dict",data:=.dict #[] } }:Ab).heap.objs.size=s.heap.objs.size+1 from Heap.size_push ..];rw[List.forIn_nil];exact ai (aI (aI h))
def Jg(PN:ae)(ps:Scope)(N:ae)(own:Nat)(fr:List Nat)(scope:Scope):Bool:=
 decide (scope.kind=.function)&&decide N.Nodup&&decide (own+fr.length=N.length)
 && (scope.names.all λy=>decide (scope.names.lookup y.1\y.2))
 && (scope.names.all λy=>if y.2=.free then decide (ps.names.lookup y.1\.cell) || decide (ps.names.lookup y.1\.free) else true)
 && ((fr.map λj=>PN[j]?) == (N.drop own).map some)
 && ((N.drop own).all λx=>decide (scope.names.lookup x\.free))
structure mQ (PN:ae) (ps:Scope) (N:ae) (own:Nat) (fr:List Nat) (scope:Scope):Prop where
 kind:scope.kind=.function
 nd:N.Nodup
 len:own+fr.length=N.length
 look:∀y∈scope.names,scope.names.lookup y.1\y.2
 par:∀y∈scope.names,y.2=.free->ps.names.lookup y.1\.cell∨ps.names.lookup y.1\.free
 pb:(fr.map λj=>PN[j]?)=(N.drop own).map some
 frk:∀x∈N.drop own,scope.names.lookup x\.free
theorem mQ.of{PN:ae}{ps:Scope}{N:ae}{own:Nat}{fr:List Nat}{scope:Scope}(h:Jg PN ps N own fr scope=true):mQ PN ps N own fr scope:=by
 unfold Jg at h;simp only[yQ,uV,List.all_eq_true,beq_iff_eq] at h;let#[#[#[#[#[#[h1,h2],h3],h4],h5],h6],h7]:=h;apply#[h1,h2,h3,h4,λy hy e=>?_,h6,h7];let q:=h5 y hy;rw[aK e] at q;simpa using q
def BD(own:Nat)(fr:List Nat)(σ:St):St:=List.replicate own none++fr.map λj=>(σ[j]?).join
def ia(X:Cx)(N:ae)(scope:Scope)(fp:av)(s:Ab)(H:Hp):Cx where
 prog:=X.prog
 w:=X.w
 K:=X.K
 mg:=X.mg
 base:=X.base
 A:=X.A
 N:=N
 dk:=s
 ku:=H
 env:=jW scope s.heap.objs.size X.env
 outer:=X.stack
 stack:=X.stack
 ex:=fp
 fn:=λx=>decide (scope.names.lookup x\.local) || decide (scope.names.lookup x\.cell)
 calm:=X.calm
 pn:=[]
 xe:=λ_ _=>False
theorem UK{ps:Scope}{env:Env}(he:env.scope=ps){x:Str}:∀{names:List (Str × NameKind)} {k:NameKind},names.lookup x\k->
  (names.map λ(n,k)=>if (k == NameKind.free&&env.scope.kind == .function&&env.kindOf n == some .cell) then (n,NameKind.cell) else (n,k)).lookup x =
   some (if (k == NameKind.free&&env.scope.kind == .function&&env.kindOf x == some .cell) then .cell else k)
 |(n,k')::r,k,h=>by
  rw[qr] at h;rw[fE];cases hb:x == n with
  |true=>
   rw[hb] at h;cases h;have e:x=n:=⇑hb
   subst e;dsimp only;split<;>simp[qr]
  |false=>
   rw[hb] at h;let ih:=UK he (env:=env) h;dsimp only;split<;>(rw[qr,hb];exact ih)
theorem Om{env:Env}{x:Str}:∀{names:List (Str × NameKind)} {k:NameKind},(names.map λ(n,k)=>if (k == NameKind.free&&env.scope.kind == .function&&env.kindOf n == some .cell) then (n,NameKind.cell) else (n,k)).lookup x\k->∃k',names.lookup x\k'/\(k'=k∨(k'=.free/\k=.cell))
 |(n,k')::r,k,h=>by
  rw[fE] at h;rw[qr];dsimp only at h;cases hb:x == n with
  |true=>
   apply#[k',U,?_];by_cases hc:(k' == NameKind.free&&env.scope.kind == .function&&env.kindOf n == some .cell)=true
   ·rw[aK hc,qr,hb] at h;cases h;simp only[yQ,beq_iff_eq] at hc;exact .inr #[hc.1.1,U]
   ·rw[aD hc,qr,hb] at h;cases h;exact .inl U
  |false=>
   have h':(r.map λ(n,k)=>if (k == NameKind.free&&env.scope.kind == .function&&env.kindOf n == some .cell) then (n,NameKind.cell) else (n,k)).lookup x\k:=by
    split at h<;>(rw[qr,hb] at h;exact h)
   exact Om h'
theorem dR_{α:Type}{x:Str}{c:α}:∀{l r:List (Str × α)},(l++r).lookup x\c->(x,c)∈l∨(x,c)∈r:=λh=>dE.mp (qh h)
section
variable{X:Cx}{pins:List (Addr × Obj)}{σ:St}{H:Hp}{s:Ab}{N:ae}{own:Nat}{fr:List Nat}{scope:Scope}{fp:av}
theorem TK(I:Inv X pins σ H s)(S:mQ X.N X.env.scope N own fr scope){x:Str}{c:Addr}(h:(x,c)∈i9 X.env scope.names []):X.env.cells.lookup x\c/\(x,NameKind.free)∈scope.names:=by
 rcases Us h with h|⟨h,e⟩
 ·cases h
 let#[c',hc]:=I.ok.has x (S.par _ h U);apply#[?_,h];rw[e,hc];rfl
theorem Inv.block(I:Inv X pins σ H s)(S:mQ X.N X.env.scope N own fr scope)(Ih:∀b∈fp,du X pins H b)(hfo:∀b∈fp,∃o,s.heap.get? b\o) :
  Inv (ia X N scope fp s H) [] (BD own fr σ) H { s with heap:=pushCells (s.heap.push { cls:=.type "dict",data:=.dict #[] }) scope.names }:=by
 have kept:∀b o,s.heap.get? b\o->(pushCells (s.heap.push { cls:=.type "dict",data:=.dict #[] }) scope.names).get? b\o:=λb o e=>pushCells_keeps _ _ b o (bo _ e);let Jw:=cellsFrom_ok scope.names (s.heap.push { cls:=.type "dict",data:=.dict #[] }) (s.heap.objs.size+1) [] #[λ_ _ hm=>(nomatch hm),List.Pairwise.nil] (by rw[Heap.size_push];exact a9 _);rw[Heap.size_push] at Jw;have ecs:cellsFrom (s.heap.objs.size+1) scope.names (i9 X.env scope.names [])=cellsFrom (s.heap.objs.size+1) scope.names []++i9 X.env scope.names []:=Ph _ _ [] _
 have g8:∀{x c},(cellsFrom (s.heap.objs.size+1) scope.names (i9 X.env scope.names [])).lookup x\c->((x,c)∈cellsFrom (s.heap.objs.size+1) scope.names []/\(x,NameKind.cell)∈scope.names/\s.heap.objs.size+1<=c)∨(X.env.cells.lookup x\c/\(x,NameKind.free)∈scope.names):=λ{x c} h=>by
  rw[ecs] at h;rcases dR_ h with h|h
  ·apply .inl #[h,?_,(Jw.empty _ _ h).2];rcases Pg h with q|q
   ·cases q
   exact q
  exact .inr (TK I S h)
 have DZ:∀{x c},X.env.cells.lookup x\c->c<s.heap.objs.size:=λ{x c} h=>by
  let#[v,hv]:=I.cell x c h;exact hv.lt
 have hb:∀b∈fp,b<s.heap.objs.size:=λb hb=>let #[o,e]:=hfo b hb;bK e
 apply#[#[I.ok.mod,S.kind,I.ok.glob,I.ok.blt,a9 _,λx y c h1 h2=>?_,λx hx=>?_,λx c hf h=>?_,I.ok.hd,I.ok.frames,.inl U,λb yb=>#[dH (hb b yb),λx c h=>?_],I.bs,?_,λb o e yb=>?_,λb yb hs=>?_,I.stack,I.ng],
  rfl,I.bare,Un.kept kept,#[_,(Heap.Ns.new s.heap (.type "dict")).keeps (pushCells_keeps _ _),λi x v h1 h2 h3=>?_],λx c h=>?_,I.aF.fresh (a9 _),λx c h=>?_,λp hp=>absurd (show p∈([]:List (Addr × Obj)) from hp) Y1,I.aF.kept kept,?_]
 ·-- inj
  rcases g8 h1 with⟨m1,k1,l1⟩|⟨m1,k1⟩<;>rcases g8 h2 with⟨m2,k2,l2⟩|⟨m2,k2⟩
  ·exact name_of_addr Jw.apart m1 m2
  ·exact absurd (DZ m2) (Nat.not_lt.mpr (Nat.le_of_succ_le l1))
  ·exact absurd (DZ m1) (Nat.not_lt.mpr (Nat.le_of_succ_le l2))
  exact I.ok.inj x y c m1 m2
 ·-- has
  have key:(x,NameKind.cell)∈scope.names∨(x,NameKind.free)∈scope.names:=by
   rcases hx with hx|hx
   ·let#[k',e,q]:=Om (env:=X.env) (show _\NameKind.cell from hx);let m:=qh e;rcases q with q|⟨q,_⟩
    ·exact .inl (q▸m)
    exact .inr (q▸m)
   let#[k',e,q]:=Om (env:=X.env) (show _\NameKind.free from hx);let m:=qh e;rcases q with q|⟨_,q⟩
   ·exact .inr (q▸m)
   cases q
  show ∃c,(cellsFrom (s.heap.objs.size+1) scope.names (i9 X.env scope.names [])).lookup x\c
  have:((cellsFrom (s.heap.objs.size+1) scope.names (i9 X.env scope.names [])).lookup x).isSome=true:=by
   apply PySem.W.cellsFrom_some _ _ _ ?_;rcases key with q|q
   ·exact .inl (S.look _ q)
   let#[c,m]:=Og (env:=X.env) (names:=scope.names) (cs:=[]) (x:=x) (.inl q);let#[c',e]:=Pj m;exact .inr (by rw[e];rfl)
  exact Option.isSome_iff_exists.mp this
 ·-- CI
  rcases g8 h with⟨_,_,l⟩|⟨_,k⟩
  ·exact Nat.le_of_succ_le l
  let e:=S.look _ k;have hf:(decide (scope.names.lookup x\.local) || decide (scope.names.lookup x\.cell))=true:=hf;rw[show scope.names.lookup x\.free from e] at hf;exact absurd hf (by decide)
 ·rcases g8 h with⟨_,_,l⟩|⟨q,_⟩
  ·exact jf (jA (hb b yb) (Nat.le_of_succ_le l))
  exact (Ih b yb).2.2.2.2.1 x c q
 ·exact ic I.ok.tW I.sz
 ·rcases (Ih b yb).2.2.2.1 with q|q
  ·exact I.ok.sM b o e q
  exact absurd (jA (bK e) I.ok.tW) Y0
 ·rcases cg.mp (I.lg b hs) with q|q
  ·exact (Ih b yb).2.1 q
  exact (Ih b yb).2.2.1 q
 ·-- names
  have hi:own<=i:=by
   apply Nat.le_of_not_lt λdR=>?_;unfold BD at h2;rw[w6 (by rw[CU];exact dR),List.getElem?_replicate,aK dR] at h2;cases h2
  have g_:(fr.map λj=>(σ[j]?).join)[i - own]? = some (some v):=by
   unfold BD at h2;rw[yP (by rw[CU];exact hi),CU] at h2;exact h2
  have h1:N[i]? = some x:=h1;have hx:(N.drop own)[i - own]? = some x:=by rw[List.getElem?_drop,show own+(i - own)=i by omega];exact h1
  rw[df] at g_;cases ej:fr[i - own]? with
  |none=>rw[ej] at g_;cases g_
  |some j=>
   rw[ej] at g_;have g_:(σ[j]?).join\v:=dO g_
   have o9:σ[j]? = some (some v):=by
    cases q:σ[j]? with
    |none=>rw[q] at g_;cases g_
    |some o=>rw[q] at g_;exact eY some g_
   have hN:X.N[j]? = some x:=by
    let q:=eY (λl=>l[i - own]?) S.pb;simp only[df,ej,hx,Option.map_some] at q;exact dO q
   let kf:=S.frk x (cJ hx);let mf:=qh kf;let#[m,hm,hv]:=I.loc;let pk:=S.par _ mf U;let#[u,ru,lk]:=hv j x v hN o9 (pk.elim (λq=>.inr (.inl q)) λq=>.inr (.inr q));apply#[u,ru,?_];have Qn:X.env.kindOf x\.cell∨X.env.kindOf x\.free:=pk;rcases lk with⟨k,_⟩|⟨_,c,hc,og⟩
   ·rw[k] at Qn;rcases Qn with q|q<;>cases q
   let#[c',m1]:=Og (env:=X.env) (names:=scope.names) (cs:=[]) (x:=x) (.inl mf);let e1:=(TK I S m1).1;rw[hc] at e1;cases e1;apply .inr #[?_,c,?_,og.keeps kept]
   ·let q:=UK (env:=X.env) U kf;show (relabel scope X.env).names.lookup x\.cell∨(relabel scope X.env).names.lookup x\.free;unfold relabel;rw[q];split
    ·exact .inl U
    exact .inr U
   let#[c2,e2]:=Option.isSome_iff_exists.mp (PySem.W.cellsFrom_some (x:=x) scope.names (s.heap.objs.size+1) (i9 X.env scope.names []) (.inr (by let#[c',e]:=Pj m1;rw[e];rfl)));show (cellsFrom (s.heap.objs.size+1) scope.names (i9 X.env scope.names [])).lookup x\c;rcases g8 e2 with⟨_,q,_⟩|⟨q,_⟩
   ·have:=S.look _ q;rw[show scope.names.lookup x\.free from kf] at this;cases this
   rw[hc] at q;cases q;exact e2
 ·-- cells
  rcases g8 h with⟨q,_,_⟩|⟨q,_⟩
  ·exact#[_,(Jw.empty _ _ q).1]
  let#[v,hv]:=I.cell x c q;exact#[v,hv.keeps kept]
 ·rcases g8 h with⟨q,_,l⟩|⟨q,_⟩
  ·exact I.aF.fresh Y0
  exact I.eI x c q
 show (BD own fr σ).length=N.length;unfold BD;rw[dN,CU,aq];exact S.len
end
def GN(X:Cx)(ifs:List Expr)(t:TT):Prop:=
 ∀(pins:List (Addr × Obj)) (s:Ab) (σ:St) (H:Hp) (Q:Bool->Hp->Prop),Inv X pins σ H s->t σ H Q->
  wpAny (model X.prog X.w) X.A (forIn ifs true λc r=>if r=true then do let ok <- isTrue c X.env (eval c X.env);pure (ForInStep.yield ok) else pure (ForInStep.yield r)) (TP X pins σ Q) X.xe s
def qy:TT:=λ_ H Q=>Q true H
theorem eQ{σ:St}{H:Hp}{A B:Hp->Prop}(h:A H):qy σ H λb H4=>if b=true then A H4 else B H4:=by
 unfold qy;exact bN h
theorem jy{X:Cx}:GN X [] qy:=λ_ _ _ H _ I h=>wpAny_tests_nil #[H,I,h]
theorem Jj{X:Cx}{c:Expr}{t:TT}(h:PT X c t):GN X [c] t:=λpins s σ H Q I q=>wpAny_tests_one (h pins s σ H Q I q)
def yA(J:It)(g:TG)(tc:TT)(te:TE)(iL:St)(D:Addr)(H1:Hp)(Q:VK):Prop:=∃W:Nat->Nat->St->Hp->Prop,
 (∃m,W 0 m iL (upd H1 D (.lst [])))/\∀i m bf H',W i m bf H'->(J.stop i H'/\Q (.ref D) H') ∨
  (J.go i H'/\∃Nx:St->Hp->Prop,(∀gc H2,Nx gc H2->∃m',m'<m/\W (i+1) m' gc H2) /\
   ∀x H2,J.vq i H' x H2->g x bf H2 λkF H3=>tc kF H3 λb H4=>if b=true then te kF H4 λy H5=>∃out,H5 D\.lst out/\out.length<sizeLine/\Nx kF (upd H5 D (.lst (out++[y]))) else Nx kF H4)
def xt(wi:TI)(own:Nat)(fr:List Nat)(g:TG)(tc:TT)(te:TE):TE:=λσ H Q=>wi σ H λJ H1=>∀D,H1 D=none->yA J g tc te (BD own fr σ) D H1 Q
section
variable{X:Cx}{tg iter elt:Expr}{ifs:List Expr}{scope:Scope}{pos:Pos}{wi:TI}{g:TG}{tc:TT}{te:TE}{N:ae}
theorem Si{R:Result->Ab->Prop}{own:Nat}{fr:List Nat}{pins:List (Addr × Obj)}{σ:St}{H1:Hp}{s2:Ab}{it:Addr}{fp:av}{tn:Nat->Heap->Prop}{J:It}{D:Addr}{Q:VK}
  (S:mQ X.N X.env.scope N own fr scope) (hc:X.calm=true) (hg:∀fp s H,PG (ia X N scope fp s H) tg g) (ht:∀fp s H,GN (ia X N scope fp s H) ifs tc) (he:∀fp s H,PE (ia X N scope fp s H) elt te)
  (I3:Inv X pins σ (upd H1 D (.lst [])) s2) (T:Turn X.prog X.w X.K tg J fp it tn) (st:tn 0 s2.heap) (f2:∀b∈fp,du X pins (upd H1 D (.lst [])) b)
  (k:yA J g tc te (BD own fr σ) D H1 Q)
  (hR:∀H' s',Inv X pins σ H' s'->(∃m,s'.heap.Ns s2.heap.objs.size m)->H' s2.heap.objs.size=none->Q (.ref D) H'->R (.ok .next) s') :
  codeAny (model X.prog X.w) X.A (.compStart (.ListComp elt [#[tg,iter,ifs,0]] scope pos) 0 (.ref it) (.ref D) (jW scope s2.heap.objs.size X.env)) R
   { s2 with heap:=pushCells (s2.heap.push { cls:=.type "dict",data:=.dict #[] }) scope.names }:=by
 let#[W,#[m0,w0],turn]:=k;let I4:=I3.block (N:=N) S f2 (λb hb=>let #[o,e,_]:=T.obj _ _ st b hb;#[o,e]);have kept:∀b o,s2.heap.get? b\o->(pushCells (s2.heap.push { cls:=.type "dict",data:=.dict #[] }) scope.names).get? b\o:=λb o e=>pushCells_keeps _ _ b o (bo _ e);have gU:tn 0 (pushCells (s2.heap.push { cls:=.type "dict",data:=.dict #[] }) scope.names):=T.keep _ _ _ st λb hb o e=>kept b o e
 have fx:∀{H':Hp},(∀b∈fp,H' b=none)->∀b∈fp,du (ia X N scope fp s2 (upd H1 D (.lst []))) [] H' b:=λhn b hb=>
  #[hn b hb,(I4.ok.IH b hb).1,I4.ok.tL b hb,.inl hb,(I4.ok.IH b hb).2,λp hp=>absurd (show p∈([]:List (Addr × Obj)) from hp) Y1]
 have loop:codeAny (model X.prog X.w) X.A (.compLoop (.ListComp elt [#[tg,iter,ifs,0]] scope pos) 0 (.ref it) (.ref D) (jW scope s2.heap.objs.size X.env)) R
   { s2 with heap:=pushCells (s2.heap.push { cls:=.type "dict",data:=.dict #[] }) scope.names }:=by
  apply codeAny_loop U (λn s'=>∃i bf H',Inv (ia X N scope fp s2 (upd H1 D (.lst []))) [] bf H' s'/\tn i s'.heap/\(∀b∈fp,H' b=none)/\W i n bf H') (λn s' hI=>?_) m0 #[0,_,_,I4,gU,λb hb=>(f2 b hb).1,w0];let#[i,bf,H',I5,iP,pe,w5]:=hI;show wpAny _ X.A ((compTurn (.ListComp elt [#[tg,iter,ifs,0]] scope pos) 0 (.ref it) (.ref D) (jW scope s2.heap.objs.size X.env)).onRaise (λx=>do noteFrame x (jW scope s2.heap.objs.size X.env);theTreesLotGoes x)) _ _ s';apply wpAny_noted (wpAny_mono (E:=λ_ _=>False) ?_ (λ_ _ q=>q) λ_ _ q=>q.elim);rw[compTurn_list];apply ai (wpAny_standAt (ai ?_));rcases turn i n bf H' w5 with⟨stop,q⟩|⟨go,Nx,hN,step⟩
  ·apply aU (T.done (ia X N scope fp s2 (upd H1 D (.lst []))) U U U hc i [] s' bf H' _ I5 (fx pe) iP stop) λr s6 ⟨hr,I6⟩=>?_;subst hr;apply aI (hR H' s6 (I3.F2 I6.os I6.base I6.aF I6.bare λb hb=>?_) ?_ I6.free q)
   ·exact#[(f2 b hb).2.2.2.1,(f2 b hb).2.1,(f2 b hb).2.2.2.2.1,(f2 b hb).2.2.2.2.2]
   let#[m,hm,_]:=I6.loc;exact#[m,hm]
  apply aU (T.item (ia X N scope fp s2 (upd H1 D (.lst []))) U U U hc i [] s' bf H' _ I5 (fx pe) iP go) λr s6 ⟨u,hr,h6⟩=>?_;subst hr;apply ai (aU h6 λ_ s7 ⟨x,H7,I7,r7,y7,gz,A5⟩=>?_);let I7':=I7.pinned (fx A5) (T.obj _ _ gz)
  have back:∀{uC:St} {H8:Hp} {s8:Ab},Inv (ia X N scope fp s2 (upd H1 D (.lst []))) ([]++wW fp s7.heap) uC H8 s8->Nx uC H8->∃m,m<n/\∃i bf H',Inv (ia X N scope fp s2 (upd H1 D (.lst []))) [] bf H' s8/\tn i s8.heap/\(∀b∈fp,H' b=none)/\W i m bf H':=λ{uC H8 s8} I8 n8=>by
   let#[m',hm,w8]:=hN uC H8 n8;apply#[m',hm,i+1,uC,H8,I8.eS,T.keep _ _ _ gz λb hb o e=>(I8.pin (b,o) (kg _ (kg _ (JN hb e)))).1,λb hb=>?_,w8];let#[o,e,d]:=T.obj _ _ gz b hb;exact (I8.pin (b,o) (kg _ (kg _ (JN hb e)))).2.1
  apply ai (aU (hg fp s2 (upd H1 D (.lst [])) _ s7 bf H7 x u _ I7' r7 (step x H7 y7)) λ_ s8 ⟨uC,H8,I8,q8⟩=>?_);apply ai (aU (ht fp s2 (upd H1 D (.lst [])) _ s8 uC H8 _ I8 q8) λb s9 ⟨H9,I9,q9⟩=>?_);cases b with
  |false=>
   simp only[pJ,if_false] at q9 ⊢;exact aI #[U,back I9 q9]
  |true=>
   simp only[if_true] at q9 ⊢;apply ai (ai (aU (he fp s2 (upd H1 D (.lst [])) _ s9 uC H9 _ I9 q9) λy DQ ⟨yv,H10,I10,WK,out,hD,hz,WQ⟩=>?_));apply ai (aU (pI (X:=ia X N scope fp s2 (upd H1 D (.lst []))) _ DQ uC H10 (.ref D) [yv] (.ref D) [y] (λ_ H'=>Nx uC H') I10 U (.cons WK .nil) #[D,out,yv,U,U,hD,hz,WQ]) λ_ s11 ⟨_,PQ,I11,_,WO⟩=>?_);exact aI (aI #[U,back I11 WO])
 exact codeAny_compStart_list loop (T.self _ 0 _ _ _ gU loop)
theorem jd(N:ae)(own:Nat)(fr:List Nat)(hi:PI X tg iter wi)(hg:∀fp s H,PG (ia X N scope fp s H) tg g)(ht:∀fp s H,GN (ia X N scope fp s H) ifs tc)(he:∀fp s H,PE (ia X N scope fp s H) elt te)
  (S:Jg X.N X.env.scope N own fr scope=true:=by kernel_rfl) (hc:X.calm=true:=by rfl) (hs:∀x,foldedSetIterable iter X.env x=pure x:=by intro _;rfl) :
  PE X (.ListComp elt [#[tg,iter,ifs,0]] scope pos) (xt wi own fr g tc te):=by
 intro pins s σ H Q I h;let S':=mQ.of S;rw[eval_ListComp];have tm:closureFor scope X.env=pure (i9 X.env scope.names []):=UN λx hx e=>I.ok.has x.1 (S'.par x hx e);apply wpAny_comprehension_free (use:=none) U hs tm S'.kind (λx hx e=>by rw[S'.look x hx,e]) (aU (hi pins s σ H _ I h) λv s1 h1=>aU h1 λHQ s2 h2=>?_);let#[it,fp,tn,J,H1,rfl,I2,T,cQ,f2,k]:=h2;apply qd (UE ?_);have hD:H1 s2.heap.objs.size=none:=I2.fresh;let I3:=I2.Am (ys:=[]) (its:=[]) (t':=s2.toks) .nil (gO _);have kept:∀b o,s2.heap.get? b\o->(s2.heap.push { cls:=.type "list",data:=.seq ([]:aj).toArray }).get? b\o:=λb o e=>bo _ e;apply Si (own:=own) (fr:=fr) (Q:=Q) S' hc hg ht he I3 T (T.keep _ _ _ cQ λb hb o e=>kept b o e) (λb hb=>?_) (k _ hD) ?_
 ·apply#[?_,(f2 b hb).2];let#[o,e,_]:=T.obj _ _ cQ b hb;rw[aB (dH (bK e))];exact (f2 b hb).1
 rintro H' s' I' ⟨m,hm⟩ hn q;apply#[m,hm,λh' hs'=>#[.ref s2.heap.objs.size,H',?_,U,q]]
 exact I'.turned (t':=s'.toks) (λb o hb e=>hs'.extBut b o hb e) hn (jf I3.lt) (.inr I3.sz) (λx c Mj e=>by
  let#[v,hv]:=I3.cell x c Mj
  exact absurd hv.lt (by rw[e];exact uh _)) λp hp e=>by
   have:=(I3.pin p hp).1;rw[e] at this;exact absurd (bK this) (uh _)
def Dw(i:Nat)(te:TE):TS:=λD σ H=>te σ H λx H1=>D.nx (σ.set i (some x)) H1
theorem MM{i:Nat}{x:Str}{px:Pos}(N:ae)(own:Nat)(fr:List Nat)(hN:X.N.Nodup)(hi':X.N[i]? = some x)(hx:Loc X.env.scope x)
  (hi:PI X tg iter wi) (hg:∀fp s H,PG (ia X N scope fp s H) tg g) (ht:∀fp s H,GN (ia X N scope fp s H) ifs tc) (he:∀fp s H,PE (ia X N scope fp s H) elt te) {pos':Pos}
  (S:Jg X.N X.env.scope N own fr scope=true:=by kernel_rfl) (hc:X.calm=true:=by rfl) (hs:∀x,foldedSetIterable iter X.env x=pure x:=by intro _;rfl)
  (hf:X.fn x=true∨X.env.scope.names.lookup x\.local:=by first|exact .inl U|exact .inr U|assumption)
  (hsw:swapsWith (.ListComp elt [#[tg,iter,ifs,0]] scope pos) (some (.Name x px)) pos'.line X.env=pure true:=by rfl) :
  PS X (.Assign [.Name x px] (.ListComp elt [#[tg,iter,ifs,0]] scope pos) pos') (Dw i (xt wi own fr g tc te)):=by
 intro pins s σ H E I h;let S':=mQ.of S;rw[exec_Assign_Name_used _ _ _ _ hsw];apply ai (wpAny_standAt (ai ?_));show wpAny _ X.A (do let _ <- comprehension (.ListComp elt [#[tg,iter,ifs,0]] scope pos) scope X.env _ (newList []) false (eval iter X.env) (some (assign (.Name x px) X.env))) _ _ s;have tm:closureFor scope X.env=pure (i9 X.env scope.names []):=UN λx hx e=>I.ok.has x.1 (S'.par x hx e)
 apply ai (wpAny_mono (wpAny_comprehension_free (use:=some (assign (.Name x px) X.env)) (Q:=λ_ s'=>SP X pins E .next s') U hs tm S'.kind (λx hx e=>by rw[S'.look x hx,e]) (aU (hi pins s σ H _ I h) λv s1 h1=>aU h1 λHQ s2 h2=>?_))
  (λ_ s' hq=>aI (aI hq)) λ_ _ e=>e)
 let#[it,fp,tn,J,H1,rfl,I2,T,cQ,f2,k]:=h2;apply qd (UE ?_);have hD:H1 s2.heap.objs.size=none:=I2.fresh;let I3:=I2.Am (ys:=[]) (its:=[]) (t':=s2.toks) .nil (gO _);have kept:∀b o,s2.heap.get? b\o->(s2.heap.push { cls:=.type "list",data:=.seq ([]:aj).toArray }).get? b\o:=λb o e=>bo _ e;apply Si (own:=own) (fr:=fr) (Q:=λx H1=>E.nx (σ.set i (some x)) H1) S' hc hg ht he I3 T (T.keep _ _ _ cQ λb hb o e=>kept b o e) (λb hb=>?_) (k _ hD) ?_
 ·apply#[?_,(f2 b hb).2];let#[o,e,_]:=T.obj _ _ cQ b hb;rw[aB (dH (bK e))];exact (f2 b hb).1
 rintro H' s' I' ⟨m,hm⟩ hn q
 have uU:∀y c,X.env.cells.lookup y\c->c≠(s2.heap.push { cls:=.type "list",data:=.seq ([]:aj).toArray }).objs.size:=λy c Mj e=>by
  let#[v,hv]:=I3.cell y c Mj;exact absurd hv.lt (by rw[e];exact uh _)
 show wpAny _ X.A (assign (.Name x px) X.env (.ref s2.heap.objs.size)) _ _ s';apply wpAny_assign_Name (Uk (v:=V.ref s2.heap.objs.size) I' hN hi' hx U (λpM I'' ⟨a,pT,ha⟩=>?_) hf)
 have hCa:(s2.heap.push { cls:=.type "list",data:=.seq ([]:aj).toArray }).objs.size≠a:=by
  rcases ha with e|e
  ·rw[e];exact jf I3.lt
  exact (uU x a e).symm
 apply#[m,hm.sameBut pT hCa,λh' hs'=>#[_,H',?_,q]]
 exact I''.turned (t':=pM.toks) (λb o hb e=>hs'.extBut b o hb e) hn (jf I3.lt) (.inr I3.sz) uU λp hp e=>by
   have:=(I3.pin p hp).1;rw[e] at this;exact absurd (bK this) (uh _)
end
def BN(g:TG)(own:Nat)(fv:List aE)(dec:V->Hp->List aE->Prop):Prop:=
 ∀(x:V) (o:List aE) (H:Hp) (k:kq) (o3:List aE),o.length=own->dec x H o3->k (o3++fv) H->g x (o++fv) H k
theorem fg{fv:List aE}:BN (jx 0) 1 fv (λx _ o3=>o3=[some x]):=λx o H k o3 hl e h=>by
 subst e
 match o,hl with
 |[a],_=>exact h
inductive FV (K:af) (x:V) (H:Hp) (o3:List aE):Prop
 |mk:∀p u v,x=.ref p->fH K H p [u,v]->o3=[some u,some v]->FV K x H o3
inductive FU (K:af) (x:V) (H:Hp) (o3:List aE):Prop
 |mk:∀p u v w,x=.ref p->fH K H p [u,v,w]->o3=[some u,some v,some w]->FU K x H o3
theorem wd{K:af}{fv:List aE}:BN (gi K 2 (qa (jx 0) (qa (jx 1) tJ))) 2 fv (FV K):=λx o H k o3 hl e h=>by
 let#[p,u,v,rfl,hp,rfl]:=e
 match o,hl with
 |[a,b],_=>exact#[p,[u,v],U,hp,U,u,[v],U,v,[],U,U,h]
theorem MA{K:af}{fv:List aE}:BN (gi K 3 (qa (jx 0) (qa (jx 1) (qa (jx 2) tJ)))) 3 fv (FU K):=λx o H k o3 hl e h=>by
 let#[p,u,v,w,rfl,hp,rfl]:=e
 match o,hl with
 |[a,b,c],_=>exact#[p,[u,v,w],U,hp,U,u,[v,w],U,v,[w],U,w,[],U,U,h]
theorem Jm{J:It}{g:TG}{tc:TT}{te:TE}{own:Nat}{fv:List aE}{dec:V->Hp->List aE->Prop}{D:Addr}{H:Hp}{Q:VK}{iL:St}(o9:iL=List.replicate own none++fv)(G:BN g own fv dec)(n:Nat)(Pv:Nat->ag->Hp->Prop)
  (h0:Pv 0 [] (upd H D (.lst []))) (EK:∀out H',Pv n out H'->J.stop n H'/\Q (.ref D) H')
  (AO:∀i out H',i<n->Pv i out H'->J.go i H'/\∀x H2,J.vq i H' x H2->∃o3,dec x H2 o3/\o3.length=own/\∀Nx:Hp->Prop,(∀iT H2,Pv (i+1) iT H2->Nx H2)->
   tc (o3++fv) H2 λb H4=>if b=true then te (o3++fv) H4 λy H5=>∃eV,H5 D\.lst eV/\eV.length<sizeLine/\Nx (upd H5 D (.lst (eV++[y]))) else Nx H4) :
  yA J g tc te iL D H Q:=by
 subst o9;apply#[λi m bf H'=>m=n - i/\i<=n/\(∃o:List aE,bf=o++fv/\o.length=own)/\∃out,Pv i out H',#[n,by simp,gO _,#[_,U,CU],_,h0],?_];rintro i m bf H' ⟨rfl,hi,⟨o,rfl,ho⟩,out,p⟩;by_cases dR:i<n
 ·let#[go,k]:=AO i out H' dR p;apply .inr #[go,λgc H2=>(∃o:List aE,gc=o++fv/\o.length=own)/\∃out,Pv (i+1) out H2,λgc H2 q=>#[n - (i+1),by omega,U,dR,q],λx H2 y=>?_];let#[o3,d,l3,q]:=k x H2 y;exact G x o H2 _ o3 ho d (q (λH2=>(∃o:List aE,o3++fv=o++fv/\o.length=own)/\∃out,Pv (i+1) out H2) λiT H2 z=>#[#[o3,U,l3],iT,z])
 have e:i=n:=by omega
 subst e;exact .inl (EK out H' p)
theorem kb{K:af}{a:Addr}{xs:ag}{g:TG}{tc:TT}{te:TE}{own:Nat}{fv:List aE}{dec:V->Hp->List aE->Prop}{D:Addr}{H:Hp}{Q:VK}{iL:St}(o9:iL=List.replicate own none++fv)(G:BN g own fv dec)(Pv:Nat->ag->Hp->Prop)
  (h0:Pv 0 [] (upd H D (.lst []))) (hl:∀i out H',i<=xs.length->Pv i out H'->d6 K H' a xs) (hd:∀out H',Pv xs.length out H'->Q (.ref D) H')
  (AO:∀i x out H',xs[i]? = some x->Pv i out H'->∃o3,dec x H' o3/\o3.length=own/\∀Nx:Hp->Prop,(∀iT H2,Pv (i+1) iT H2->Nx H2)->
   tc (o3++fv) H' λb H4=>if b=true then te (o3++fv) H4 λy H5=>∃eV,H5 D\.lst eV/\eV.length<sizeLine/\Nx (upd H5 D (.lst (eV++[y]))) else Nx H4) :
  yA (yT K a) g tc te iL D H Q:=by
 apply Jm o9 G xs.length Pv h0 (λout H' p=>#[#[xs,hl _ _ _ (a9 _) p,a9 _],hd out H' p]) λi out H' hi p=>?_;let q:=hl i out H' (Nat.le_of_lt hi) p;apply#[#[xs,xs[i],q,by simp[hi]],λx H2 y=>?_];let#[e,y]:=y;subst e;exact AO i x out _ (y xs q) p
end L2
namespace jk
open PySem PySem.W PyProof.Rows
def Ok{α:Type}(f:Nat->Nat->Bool)(n:Nat):KasT α->(α->Prop)->Prop
 |.ret a,Q=>Q a
 |.ask i j k,Q=>i<n/\j<n/\Ok f n (k (f i j)) Q
theorem Ok.bind{α β:Type}{f:Nat->Nat->Bool}{n:Nat}{g:α->KasT β}{Q:β->Prop}:∀{t:KasT α} {R:α->Prop},Ok f n t R->(∀a,R a->Ok f n (g a) Q)->Ok f n (t.bind g) Q
 |.ret a,R,h,k=>k a h
 |.ask i j t,R,h,k=>#[h.1,h.2.1,Ok.bind h.2.2 k]
theorem Ok.imp{α:Type}{f:Nat->Nat->Bool}{n:Nat}{Q R:α->Prop}(k:∀a,Q a->R a):∀{t:KasT α},Ok f n t Q->Ok f n t R
 |.ret a,h=>k a h
 |.ask i j t,h=>#[h.1,h.2.1,Ok.imp k h.2.2]
theorem Ok.wp{α:Type}{f:Nat->Nat->Bool}{n:Nat}{cmp:Nat->Nat->(Bool->Ab->Prop)->Ab->Prop}{s:Ab}(hc:∀i j C,i<n->j<n->C (f i j) s->cmp i j C s){Q:α->Prop}{G:α->Ab->Prop}(k:∀a,Q a->G a s) :
  ∀{t:KasT α},Ok f n t Q->t.kasWp cmp G s
 |.ret a,h=>k a h
 |.ask i j t,h=>hc i j _ h.1 h.2.1 (Ok.wp hc k h.2.2)
structure Ord (f:Nat->Nat->Bool):Prop where
 fA:∀i,f i i=false
 trans:∀{i j k},f j i=false->f k j=false->f k i=false
 G4:∀{i j},f i j=true->f j i=false
section
variable{f:Nat->Nat->Bool}(O:Ord f){N:Nat}
abbrev at'(p:Array Nat)(i:Nat):Nat:=p.getD i 0
def Up(f:Nat->Nat->Bool)(p:Array Nat)(k:Nat):Prop:=∀i j,i<=j->j<k->f (at' p j) (at' p i)=false
def Down(f:Nat->Nat->Bool)(p:Array Nat)(k:Nat):Prop:=∀i j,i<=j->j<k->f (at' p i) (at' p j)=false
def pK(f:Nat->Nat->Bool)(p:Array Nat)(lo k:Nat):Prop:=∀i,lo<=i->i<k->f (at' p i) (at' p (k - 1))=false/\f (at' p (k - 1)) (at' p i)=false
def Good(N:Nat)(p:Array Nat):Prop:=p.Perm (List.range N).toArray
theorem Good.size{p:Array Nat}(h:Good N p):p.size=N:=by
 have:=h.size_eq;simpa using this
theorem Good.lt{p:Array Nat}(h:Good N p)(hN:0<N)(i:Nat):at' p i<N:=by
 unfold at';by_cases hi:i<p.size
 ·have e:p.getD i 0=p[i]:=by simp[Array.getD,hi]
  rw[e];have m:p[i]∈(List.range N).toArray:=h.mem_iff.mp (Array.getElem_mem hi);simpa using m
 have e:p.getD i 0=0:=by simp[Array.getD,hi]
 rw[e];exact hN
theorem Good.rev{p:Array Nat}(h:Good N p)(i j:Nat):Good N (kas_rev p i j):=(mirror_perm _ _ _ _).trans h
theorem Good.bub{p:Array Nat}(h:Good N p)(i j:Nat):Good N (bubble p i j):=(bubble_perm _ _ _).trans h
theorem Gc{p q:Array Nat}{i j:Nat}(h:p[i]? = q[j]?):at' p i=at' q j:=by
 unfold at';rw[Array.getD_eq_getD_getElem?,Array.getD_eq_getD_getElem?,h]
theorem Bo{p:Array Nat}{i j:Nat}(hj:j<=p.size)(k:Nat):at' (kas_rev p i j) k=if i<=k/\k<j then at' p (i+j - 1 - k) else at' p k:=by
 let e:=getElem?_mirror_all (i:=i) hj k;unfold kas_rev;split
 ·rename_i c
  rw[aK c] at e;exact Gc e
 rename_i c
 rw[aD c] at e;exact Gc e
theorem Q7{p:Array Nat}{k l:Nat}(hk:k<p.size)(hl:l<=k)(i:Nat):at' (bubble p k (k - l)) i=if i=l then at' p k else if l<i/\i<=k then at' p (i - 1) else at' p i:=by
 let e:=getElem?_bubble hk (k - l) Y0 i;rw[show k - (k - l)=l by omega] at e;by_cases c:i=l
 ·rw[aK c] at e ⊢;exact Gc e
 rw[aD c] at e ⊢;split
 ·rename_i d
  rw[aK d] at e;exact Gc e
 rename_i d
 rw[aD d] at e;exact Gc e
include O
theorem Up.more{p:Array Nat}{n:Nat}(h:Up f p n)(h1:1<=n)(c:f (at' p n) (at' p (n - 1))=false):Up f p (n+1):=λi j oa hj=>by
 by_cases e:j<n
 ·exact h i j oa e
 have e:j=n:=by omega
 subst e;by_cases e2:i=j
 ·subst e2;exact O.fA _
 exact O.trans (h i (j - 1) Y0 Y0) c
theorem Down.more{p:Array Nat}{n:Nat}(h:Down f p n)(h1:1<=n)(c:f (at' p (n - 1)) (at' p n)=false):Down f p (n+1):=λi j oa hj=>by
 by_cases e:j<n
 ·exact h i j oa e
 have e:j=n:=by omega
 subst e;by_cases e2:i=j
 ·subst e2;exact O.fA _
 exact O.trans c (h i (j - 1) Y0 Y0)
theorem MB{p:Array Nat}(g:Good N p)(hN:0<N):∀(m n:Nat),1<=n->Up f p n->Ok f N (kas_asc p m n) λr=>n<=r/\r<=n+m/\Up f p r/\(r<n+m->f (at' p r) (at' p (r - 1))=true)
 |0,n,_,h=>#[a9 _,a9 _,h,λq=>absurd q Y0]
 |m+1,n,h1,h=>by
  apply#[g.lt hN _,g.lt hN _,?_];dsimp only;by_cases c:f (at' p n) (at' p (n - 1))=true
  ·rw[aK c];exact#[a9 _,by omega,h,λ_=>c]
  rw[aD c];apply (MB g hN m (n+1) Y0 (h.more O h1 ⇑c)).imp λr ⟨a,b,u,z⟩=>#[by omega,by omega,u,λq=>z Y0]
theorem pK.rev{p:Array Nat}{lo k:Nat}(h:pK f p lo k)(hk:k<=p.size)(i:Nat):f (at' (kas_rev p lo k) i) (at' p i)=false/\f (at' p i) (at' (kas_rev p lo k) i)=false:=by
 rw[Bo hk];split
 ·rename_i c
  let#[a1,a2]:=h i c.1 c.2;let#[b1,b2]:=h (lo+k - 1 - i) Y0 Y0;exact#[O.trans a2 b1,O.trans b2 a1]
 exact#[O.fA _,O.fA _]
theorem Down.rev{p:Array Nat}{lo k n:Nat}(h:Down f p n)(l:pK f p lo k)(hk:k<=p.size):Down f (kas_rev p lo k) n:=λi j oa hj=>by
 let#[a1,_]:=l.rev O hk i;let#[_,b2]:=l.rev O hk j;exact O.trans (O.trans b2 (h i j oa hj)) a1
theorem Jk(hN:0<N):∀(m:Nat) (p:Array Nat) (n q:Nat),Good N p->1<=n->q+1<=n->n+m<=N->Down f p n->pK f p (n - (q+1)) n->
  Ok f N (kas_desc m p n q) λr=>Good N r.1/\n<=r.2.1/\r.2.1<=n+m/\Down f r.1 r.2.1/\r.2.2+1<=r.2.1/\pK f r.1 (r.2.1 - (r.2.2+1)) r.2.1
 |0,p,n,q,g,h1,hq,hn,d,l=>#[g,a9 _,a9 _,d,hq,l]
 |m+1,p,n,q,g,h1,hq,hn,d,l=>by
  apply#[g.lt hN _,g.lt hN _,?_];dsimp only;by_cases c:f (at' p n) (at' p (n - 1))=true
  ·rw[aK c];have d2:Down f p (n+1):=d.more O h1 (O.G4 c)
   have one:∀p':Array Nat,pK f p' (n+1 - (0+1)) (n+1):=λp' i h2 h3=>by
    have e:i=n+1 - 1:=by omega
    subst e;exact#[O.fA _,O.fA _]
   by_cases RE:q > 0
   ·rw[aK RE];have hk:n<=p.size:=by rw[g.size];omega
    exact (Jk hN m _ (n+1) 0 (g.rev _ _) Y0 Y0 Y0 (d2.rev O l hk) (one _)).imp λr ⟨a,b,b2,z⟩=>#[a,by omega,by omega,z]
   rw[aD RE];exact (Jk hN m _ (n+1) 0 g Y0 Y0 Y0 d2 (one _)).imp λr ⟨a,b,b2,z⟩=>#[a,by omega,by omega,z]
  rw[aD c];apply#[g.lt hN _,g.lt hN _,?_];dsimp only;have c:f (at' p n) (at' p (n - 1))=false:=⇑c
  by_cases e:f (at' p (n - 1)) (at' p n)=true
  ·rw[aK e];exact#[g,a9 _,by show n<=n+(m+1);omega,d,hq,l]
  rw[aD e];have e:f (at' p (n - 1)) (at' p n)=false:=⇑e
  apply (Jk hN m p (n+1) (q+1) g Y0 Y0 Y0 (d.more O h1 e) λi h2 h3=>?_).imp λr ⟨a,b,b2,z⟩=>#[a,by omega,by omega,z];show f (at' p i) (at' p n)=false/\f (at' p n) (at' p i)=false;by_cases ei:i=n
  ·subst ei;exact#[O.fA _,O.fA _]
  let#[a1,a2]:=l i Y0 Y0;exact#[O.trans e a1,O.trans a2 c]
def MW(f:Nat->Nat->Bool)(N dm:Nat)(r:Nat × Array Nat):Prop:=Good N r.2/\1<=r.1/\r.1<=dm/\Up f r.2 r.1
theorem Jl(hN:0<N){p:Array Nat}{n dm:Nat}(g:Good N p)(h1:1<=n)(hn:n<=dm)(hr:dm<=N)(d:Down f p n):Ok f N (kas_tail3 n dm p) (MW f N dm):=by
 unfold kas_tail3
 have u:Up f (kas_rev p 0 n) n:=λi j oa hj=>by
  rw[Bo (by rw[g.size];omega),Bo (by rw[g.size];omega),aK Y0,aK Y0];exact d _ _ Y0 Y0
 exact (MB O (g.rev _ _) hN (dm - n) n h1 u).bind λm ⟨a,b,u,_⟩=>#[g.rev _ _,by show 1<=m;omega,by show m<=dm;omega,u]
theorem U0(hN:0<N){p:Array Nat}{n dm:Nat}(g:Good N p)(hn:n+1<=dm)(hr:dm<=N)(d:Down f p (n+1)):Ok f N (kas_descPart n dm p) (MW f N dm):=by
 unfold kas_descPart;apply (Jk O hN (dm - (n+1)) p (n+1) 0 g Y0 Y0 Y0 d λi h2 h3=>?_).bind λr ⟨g',a,b,d',hq,l⟩=>?_
 ·have e:i=n+1 - 1:=by omega
  subst e;exact#[O.fA _,O.fA _]
 split
 ·exact Jl O hN (g'.rev _ _) Y0 Y0 hr (d'.rev O l (by rw[g'.size];omega))
 exact Jl O hN g' Y0 Y0 hr d'
theorem _y(hN:0<N){p:Array Nat}{dm:Nat}(g:Good N p)(h1:1<=dm)(hr:dm<=N):Ok f N (kas_count dm p) (MW f N dm):=by
 unfold kas_count;apply (MB O g hN (dm - 1) 1 (a9 _) λi j oa hj=>?_).bind λn ⟨a,b,u,st⟩=>?_
 ·have e:i=j:=by omega
  subst e;exact O.fA _
 by_cases e:(n == dm)=true
 ·rw[aK e];exact#[g,a,by show n<=dm;omega,u]
 rw[aD e];have e:n≠dm:=⇑e
 let c:=st Y0;by_cases h2:n > 1
 ·rw[aK h2];apply#[g.lt hN _,g.lt hN _,?_];dsimp only;by_cases c2:f (at' p 0) (at' p (n - 1))=true
  ·rw[aK c2];exact#[g,a,by show n<=dm;omega,u]
  rw[aD c2];have c2:f (at' p 0) (at' p (n - 1))=false:=⇑c2
  apply U0 O hN (g.rev _ _) Y0 hr λi j oa hj=>?_;by_cases ej:j<n
  ·rw[Bo (by rw[g.size];omega),Bo (by rw[g.size];omega),aK Y0,aK Y0];exact u _ _ Y0 Y0
  have ej:j=n:=by omega
  subst ej;by_cases ei:i=j
  ·subst ei;exact O.fA _
  rw[Bo (by rw[g.size];omega),Bo (by rw[g.size];omega),aK Y0,aD Y0];exact O.trans (O.trans (O.G4 c) c2) (u 0 _ Y0 Y0)
 rw[aD h2];have e1:n=1:=by omega
 subst e1;apply U0 O hN g Y0 hr λi j oa hj=>?_;by_cases ei:i=j
 ·subst ei;exact O.fA _
 have q1:i=0:=by omega
 have q2:j=1:=by omega
 subst q1;subst q2;exact O.G4 c
theorem Nw(hN:0<N){p:Array Nat}{k:Nat}(g:Good N p)(u:Up f p k):∀(m l r:Nat),r - l<=m->l<=r->r<=k->(∀i,i<l->f (at' p k) (at' p i)=false)->(∀i,r<=i->i<k->f (at' p k) (at' p i)=true)->
  Ok f N (kas_place p k m l r) λx=>x<=k/\(∀i,i<x->f (at' p k) (at' p i)=false)/\∀i,x<=i->i<k->f (at' p k) (at' p i)=true
 |0,l,r,hm,hl,hr,h1,h2=>by
  have e:l=r:=by omega
  subst e;exact#[hr,h1,h2]
 |m+1,l,r,hm,hl,hr,h1,h2=>by
  unfold kas_place;by_cases e:l ≥ r
  ·rw[aK e];have e:l=r:=by omega
   subst e;exact#[hr,h1,h2]
  rw[aD e];apply#[g.lt hN _,g.lt hN _,?_];dsimp only;by_cases c:f (at' p k) (at' p ((l+r) / 2))=true
  ·rw[aK c];apply Nw hN g u m l _ Y0 Y0 Y0 h1 λi h3 h4=>?_;by_cases ei:f (at' p k) (at' p i)=true
   ·exact ei
   have ei:f (at' p k) (at' p i)=false:=⇑ei
   have:=O.trans (u _ i h3 h4) ei;rw[c] at this;cases this
  rw[aD c];have c:f (at' p k) (at' p ((l+r) / 2))=false:=⇑c
  exact Nw hN g u m _ r Y0 Y0 hr (λi h3=>O.trans (u i _ Y0 Y0) c) h2
theorem Rt(hN:0<N):∀(m:Nat) (p:Array Nat) (k:Nat),Good N p->k+m=N->Up f p k->Ok f N (kas_bin m p k) λr=>Good N r/\Up f r N
 |0,p,k,g,e,u=>by
  have e:k=N:=by omega
  subst e;exact#[g,u]
 |m+1,p,k,g,e,u=>by
  unfold kas_bin;apply (Nw O hN g u k 0 k Y0 Y0 (a9 _) (λi h=>absurd h Y0) λi h1 h2=>absurd h2 Y0).bind λl ⟨hl,h1,h2⟩=>?_;have hk:k<p.size:=by rw[g.size];omega
  apply Rt hN m _ (k+1) (g.bub _ _) Y0 λi j oa hj=>?_;rw[Q7 hk hl,Q7 hk hl];by_cases ej:j=l
  ·rw[aK ej];by_cases ei:i=l
   ·rw[aK ei];exact O.fA _
   rw[aD ei,aD Y0];exact h1 i Y0
  rw[aD ej];by_cases TM:l<j/\j<=k
  ·rw[aK TM];by_cases ei:i=l
   ·rw[aK ei];exact O.G4 (h2 (j - 1) Y0 Y0)
   rw[aD ei];by_cases TQ:l<i/\i<=k
   ·rw[aK TQ];exact u _ _ Y0 Y0
   rw[aD TQ];exact u _ _ Y0 Y0
  rw[aD TM];rw[aD (show ¬i=l by omega),aD (show ¬(l<i/\i<=k) by omega)];exact u _ _ Y0 Y0
theorem SG(hN:0<N):Ok f N (kas_sort N) λp=>Good N p/\Up f p N:=by
 unfold kas_sort;apply (_y O hN (p:=(List.range N).toArray) (Array.Perm.refl _) hN (a9 _)).bind λr ⟨g,h1,h2,u⟩=>?_;split
 ·rename_i c
  rw[show max r.1 1=r.1 by omega];exact Rt O hN _ _ _ g Y0 u
 rename_i c
 have e:r.1=N:=by omega
 exact#[g,e▸u]
end
end jk
namespace jk
open PySem PySem.W PyProof.Rows
section
variable{prog:Ad}{w:Af}{A:Ag}{E:Aa->Ab->Prop}{s:Ab}
def uB(prog:Ad)(w:Af)(A:Ag)(f:Nat->Nat->Bool)(vs:aj)(s:Ab):Prop:=
 ∃κ,(∀Q:SortKind->Ab->Prop,Q κ s->wpAny (model prog w) A (keyKind' vs.toArray) Q (λ_ _=>False) s)/\∀i j C,i<vs.length->j<vs.length->C (f i j) s->kas_ask prog w A κ vs i j C s
def FY(a:Addr)(h h':Heap):Prop:=∀b o,b≠a->h.get? b\o->h'.get? b\o
def mr(p:Array Nat)(vs:aj):aj:=p.toList.map λi=>vs.getD i Value.none
theorem U2(vs:aj):mr (List.range vs.length).toArray vs=vs:=by
 unfold mr;apply List.ext_getElem? ?_;intro i;simp only[df];by_cases h:i<vs.length
 ·simp[h]
 simp[Nat.le_of_not_lt h]
theorem _J{a:Addr}{vs:aj}{n:Nat}{f:Nat->Nat->Bool}{P:Fin->Ab->Prop}(O:Ord f)(ho:s.heap.get? a\seqObj "list" vs.toArray n)(cX:vs.length<64)
  (AW:2<=vs.length->∀h',FY a s.heap h'->uB prog w A f vs { s with heap:=h' })
  (h:∀(p:Array Nat) (h':Heap) (e:Nat),Good vs.length p->Up f p vs.length->h'.get? a\seqObj "list" (mr p vs).toArray e->FY a s.heap h'->P (.done (.ret .none)) { s with heap:=h' }) :
  wpAny (model prog w) A (Builtin.«list.sort» #[[.ref a],[]]) P E s:=by
 have haz:a<s.heap.objs.size:=bK ho;obtain⟨e1,vX⟩:∃e1,(s.heap.update a (Obj.mapSeq λ_=>(#[]:Array Aa))).get? a\seqObj "list" #[] e1:=#[_,get?_update_seq ho (λ_=>#[])]
 have B4:vs.length<=sizeLine:=by
  have:=cK;omega
 rw[list_sort_plain];apply ai (listItems_at ho U (ai (listUpdate_at ho U (ai (seqEpoch_at vX U (ai (wpAny_newTuple (ai (wpAny_newList (gR ?_) (gO _))) B4)))) ⇑B4 (gO _))))
 have keep:∀g:Array Aa->Array Aa,FY a s.heap ((((s.heap.update a (Obj.mapSeq λ_=>(#[]:Array Aa))).push (seqObj "tuple" vs.toArray 0)).push (seqObj "list" #[] 0)).update a (Obj.mapSeq g)):=λg b o hb e=>by
  apply (u7 _ _ (dJ hb)).trans (bo _ (bo _ ?_));exact (u7 _ _ (dJ hb)).trans e
 have Ew:FY a s.heap (((s.heap.update a (Obj.mapSeq λ_=>(#[]:Array Aa))).push (seqObj "tuple" vs.toArray 0)).push (seqObj "list" #[] 0)):=λb o hb e=>
  bo _ (bo _ ((u7 _ _ (dJ hb)).trans e))
 have Ce:(((s.heap.update a (Obj.mapSeq λ_=>(#[]:Array Aa))).push (seqObj "tuple" vs.toArray 0)).push (seqObj "list" #[] 0)).get? a\seqObj "list" #[] e1:=bo _ (bo _ vX);show wpAny (model prog w) A _ P E { s with heap:=((s.heap.update a (Obj.mapSeq λ_=>(#[]:Array Aa))).push (seqObj "tuple" vs.toArray 0)).push (seqObj "list" #[] 0) };dsimp only;by_cases h2:vs.toArray.size<2
 ·rw[aK h2,aK h2];apply ai (aI ?_);rw[StateT.run_pure]
  have wq:((vs.toArray.zip vs.toArray).map λx:Keyed=>x.2)=(mr (List.range vs.length).toArray vs).toArray:=by
   rw[U2];apply Array.ext' ?_;simp[List.map_snd_zip]
  apply ai (aI (ai (seqEpoch_at Ce U (ai (listUpdate_at Ce U ?_ (gO _) ?_)))))
  ·simp only[bne_self_eq_false,pJ,if_false];apply aI (h (List.range vs.length).toArray _ _ (Array.Perm.refl _) (λi j oa hj=>?_) ((get?_update_seq Ce _).trans (eY (λz=>some (seqObj "list" z _)) wq)) (keep _))
   have e:i=j:=by
    simp only[cY] at h2;omega
   subst e;exact O.fA _
  have e:((vs.toArray.zip vs.toArray).map λx:Keyed=>x.2).size<=sizeLine+1:=by
   simp only[Array.size_map,Array.size_zip,cY];omega
  exact e
 rw[aD h2,aD h2]
 have g_:2<=vs.length:=by
  simp only[cY] at h2;omega
 let#[κ,hk,hc]:=AW g_ _ Ew;apply ai (wpAny_mono (hk (λk s'=>k=κ/\s'=_) #[U,U]) (λk s' E5=>?_) λ_ _ x=>x.elim);let#[rfl,rfl]:=E5
 apply ai (wpAny_mono (kat_run (ks:=vs) (vs:=vs) (G:=λp s'=>s'={ s with heap:=((s.heap.update a (Obj.mapSeq λ_=>(#[]:Array Aa))).push (seqObj "tuple" vs.toArray 0)).push (seqObj "list" #[] 0) }/\Good vs.length p/\Up f p vs.length)
  (Q:=λdY s'=>∃p:Array Nat,arrOf dY=p.map (kas_item (vs.toArray.zip vs.toArray))/\failedOf dY=none/\s'={ s with heap:=((s.heap.update a (Obj.mapSeq λ_=>(#[]:Array Aa))).push (seqObj "tuple" vs.toArray 0)).push (seqObj "list" #[] 0) }/\Good vs.length p/\Up f p vs.length)
  rfl g_ cX (λp dY s' _ q1 q2 q3=>#[p,q1,q2,q3]) (Ok.wp hc (λp q=>#[U,q]) (SG O Y0))) ?_ λ_ _ x=>x)
 rintro⟨⟨⟩,dY⟩ s' ⟨p,Mm,hf,hs',g,u⟩;have hs':s'={ s with heap:=((s.heap.update a (Obj.mapSeq λ_=>(#[]:Array Aa))).push (seqObj "tuple" vs.toArray 0)).push (seqObj "list" #[] 0) }:=hs';subst hs'
 have wq:((arrOf dY).map λx:Keyed=>x.2)=(mr p vs).toArray:=by
  rw[Mm];apply Array.ext' ?_;unfold mr;simp only[Array.map_map,Array.toList_map,List.toList_toArray];apply u9 λi _=>?_;show (kas_item (vs.toArray.zip vs.toArray) i).2=_;unfold kas_item;by_cases hi:i<vs.length
  ·simp[Array.getD,hi]
  simp[Array.getD,hi,Nat.le_of_not_lt hi]
 have esz:((arrOf dY).map λx:Keyed=>x.2).size=vs.length:=by
  rw[wq];unfold mr;simp only[cY,aq,uf];exact g.size
 apply ai (seqEpoch_at Ce U (ai (listUpdate_at Ce U ?_ (gO _) (by rw[esz];omega))));rw[hf];simp only[bne_self_eq_false,pJ,if_false];exact aI (h p _ _ g u ((get?_update_seq Ce _).trans (eY (λz=>some (seqObj "list" z _)) wq)) (keep _))
theorem UB{x:Aa}{f:Nat->Nat->Bool}{Q:Aa->Ab->Prop}(O:Ord f)
  (l_:wpAny (model prog w) A.in1 (collect x) (λvs s1=>vs.length<64/\(2<=vs.length->∀h':Heap,(∀b o,s1.heap.get? b\o->h'.get? b\o)->uB prog w A.in1.in1 f vs { s1 with heap:=h' }) /\
   ∀(p:Array Nat) (h':Heap) (e:Nat),Good vs.length p->Up f p vs.length->h'.get? s1.heap.objs.size\seqObj "list" (mr p vs).toArray e->(∀b o,s1.heap.get? b\o->h'.get? b\o)->Q (.ref s1.heap.objs.size) { s1 with heap:=h' }) E s) :
  wpAny (model prog w) A (call (.builtin "sorted") [x]) Q E s:=by
 apply Calls.call_function_entry kind_sorted plain_sorted entry_sorted (args_sorted1 _) ?_;unfold Builtin.«sorted»;apply ai (m:=checkCount "sorted" 1 1 _) (aI (ai (wpAny_mono l_ (λvs s1 q=>?_) λ_ _ z=>z)));let#[cX,AW,hQ]:=q;apply ai (wpAny_newList ?_ (by have:=cK;omega));have hn:(s1.heap.push (seqObj "list" vs.toArray 0)).get? s1.heap.objs.size\seqObj "list" vs.toArray 0:=dq _ U
 have old:∀h',FY s1.heap.objs.size (s1.heap.push (seqObj "list" vs.toArray 0)) h'->∀b o,s1.heap.get? b\o->h'.get? b\o:=λh' k b o e=>
  k b o (dH (bK e)) (bo _ e)
 apply ai (gR (tQ slot_list_sort #[_,hn,U] entry_list_sort (_J O hn cX (λh2 h' k=>AW h2 h' (old h' k)) λp h' e g u q k=>#[_,U,?_]) (args_list_sort _)));exact aI #[_,U,hQ p h' e g u q (old h' k)]
end
end jk
namespace L2
open PySem PySem.Spec PyProof.Rows PySem.W jk
def jo:Key->Key->Bool
 |.inl i,.inl j=>decide (i<j)
 |.inl _,.inr _=>true
 |.inr _,.inl _=>false
 |.inr x,.inr y=>decide (x.cps.toList<y.cps.toList)
def bM:aw->aw->Bool
 |[],[]=>false
 |[],_::_=>true
 |_::_,[]=>false
 |a::r,b::q=>if a=b then bM r q else jo a b
theorem Yr:∀a:Key,jo a a=false
 |.inl i=>by simp[jo]
 |.inr x=>by simp[jo,List.lt_irrefl]
theorem T6:∀{a b:Key},jo a b=true->jo b a=false
 |.inl i,.inl j,h=>by
  simp only[jo,uV,decide_eq_false_iff_not] at *;omega
 |.inl _,.inr _,_=>rfl
 |.inr _,.inl _,h=>by cases h
 |.inr x,.inr y,h=>by
  simp only[jo,uV,decide_eq_false_iff_not] at *;exact λq=>List.lt_irrefl _ (List.lt_trans h q)
theorem SD:∀{a b:Key},jo a b=false->jo b a=false->a=b
 |.inl i,.inl j,h,h2=>by
  simp only[jo,decide_eq_false_iff_not] at *;rw[show i=j by omega]
 |.inl _,.inr _,h,_=>by cases h
 |.inr _,.inl _,_,h=>by cases h
 |.inr x,.inr y,h,h2=>by
  simp only[jo,decide_eq_false_iff_not] at *;rw[ext_toList (List.le_antisymm (List.not_lt.mp h2) (List.not_lt.mp h))]
theorem _Y:∀{a b c:Key},jo a b=true->jo b c=true->jo a c=true
 |.inl i,.inl j,.inl k,h,h2=>by
  simp only[jo,uV] at *;omega
 |.inl _,.inl _,.inr _,_,_=>rfl
 |.inl _,.inr _,.inr _,_,_=>rfl
 |.inl _,.inr _,.inl _,_,h=>by cases h
 |.inr _,.inl _,_,h,_=>by cases h
 |.inr _,.inr _,.inl _,_,h=>by cases h
 |.inr x,.inr y,.inr z,h,h2=>by
  simp only[jo,uV] at *;exact List.lt_trans h h2
theorem NQ:∀a:aw,bM a a=false
 |[]=>rfl
 |a::r=>by
  unfold bM;rw[aK U];exact NQ r
theorem Os:∀{a b:aw},bM a b=true->bM b a=false
 |[],[],h=>by cases h
 |[],_::_,_=>rfl
 |_::_,[],h=>by cases h
 |a::r,b::q,h=>by
  unfold bM at h ⊢;by_cases e:a=b
  ·rw[aK e] at h;rw[aK e.symm];exact Os h
  rw[aD e] at h;rw[aD (dJ e)];exact T6 h
theorem NC:∀{a b:aw},bM a b=false->bM b a=false->a=b
 |[],[],_,_=>rfl
 |[],_::_,h,_=>by cases h
 |_::_,[],_,h=>by cases h
 |a::r,b::q,h,h2=>by
  unfold bM at h h2;by_cases e:a=b
  ·rw[aK e] at h;rw[aK e.symm] at h2;rw[e,NC h h2]
  rw[aD e] at h;rw[aD (dJ e)] at h2;exact absurd (SD h h2) e
theorem UM:∀{a b c:aw},bM a b=true->bM b c=true->bM a c=true
 |[],_,[],h,h2=>by
  rename_i b
  cases b with
  |nil=>cases h
  |cons _ _=>cases h2
 |[],_,_::_,_,_=>rfl
 |_::_,[],_,h,_=>by cases h
 |_::_,_::_,[],_,h=>by cases h
 |a::r,b::q,c::t,h,h2=>by
  unfold bM at h h2 ⊢;by_cases e:a=b
  ·subst e;rw[aK U] at h;by_cases e2:a=c
   ·rw[aK e2] at h2 ⊢;exact UM h h2
   rw[aD e2] at h2 ⊢;exact h2
  rw[aD e] at h;by_cases e2:b=c
  ·subst e2;rw[aD e];exact h
  rw[aD e2] at h2;let h3:=_Y h h2;rw[aD (λq=>by rw[q,Yr] at h3;cases h3)];exact h3
theorem Uy{a b c:aw}(h:bM b a=false)(h2:bM c b=false):bM c a=false:=by
 cases e:bM c a with
 |false=>rfl
 |true=>
  by_cases e1:bM a b=true
  ·have:=UM e e1;rw[h2] at this;cases this
  have e1:bM a b=false:=⇑e1
  have:=NC e1 h;subst this;rw[h2] at e;cases e
def CZ(ks:List aw):Prop:=ks.Pairwise λa b=>bM b a=false
theorem Uw:∀{a b:List aw},a.Perm b->CZ a->CZ b->a=b
 |[],b,p,_,_=>by
  have:=p.length_eq;cases b with
  |nil=>rfl
  |cons _ _=>cases this
 |x::r,[],p,_,_=>by
  have:=p.length_eq;cases this
 |x::r,y::q,p,h1,h2=>by
  let#[a1,a2]:=List.pairwise_cons.mp h1;let#[b1,b2]:=List.pairwise_cons.mp h2
  have e:x=y:=by
   rcases cg.mp (p.mem_iff.mp fY) with m|m
   ·exact m
   rcases cg.mp (p.mem_iff.mpr fY) with m2|m2
   ·exact m2.symm
   exact NC (b1 _ m) (a1 _ m2)
  subst e;rw[Uw ((List.perm_cons _).mp p) a2 b2]
def bh(ks:List aw):List aw:=ks.mergeSort λa b=>!bM b a
theorem ug(ks:List aw):(bh ks).Perm ks:=List.mergeSort_perm _ _
theorem g0_(ks:List aw):CZ (bh ks):=by
 have:=List.pairwise_mergeSort (le:=λa b=>!bM b a) (λa b c h1 h2=>by
  simp only[Bool.not_eq_true'] at *;exact Uy h1 h2) (λa b=>by
  simp only[Bool.or_eq_true,Bool.not_eq_true'];by_cases e:bM b a=true
  ·exact .inr (Os e)
  exact .inl ⇑e) ks
 exact this.imp λh=>by simpa using h
theorem NW{ks iX:List aw}(p:iX.Perm ks)(h:CZ iX):iX=bh ks:=Uw (p.trans (ug ks).symm) h (g0_ ks)
theorem GD{α:Type}{p:Array Nat}{n:Nat}(g:Good n p)(F:Nat->α):(p.toList.map F).Perm ((List.range n).map F):=by
 have e:p.toList.Perm (List.range n):=by
  have:=Array.perm_iff_toList_perm.mp g;simpa using this
 exact e.map F
theorem M6{p:Array Nat}{ks:List aw}{f:Nat->Nat->Bool}(hf:∀i j,i<ks.length->j<ks.length->f i j=bM (ks.getD i []) (ks.getD j []))(g:Good ks.length p)(u:Up f p ks.length):CZ (p.toList.map λi=>ks.getD i []):=by
 unfold CZ;rw[ud,List.pairwise_iff_getElem];intro i j hi hj oa;let hs:=g.size;rw[uf] at hi hj;have LX:j<ks.length:=by omega
 let q:=u i j (Nat.le_of_lt oa) LX;have hN:0<ks.length:=by omega
 rw[hf _ _ (g.lt hN _) (g.lt hN _)] at q;have e1:at' p i=p.toList[i]:=by simp[at',Array.getD,hi]
 have e2:at' p j=p.toList[j]:=by simp[at',Array.getD,hj]
 rw[e1,e2] at q;exact q
theorem Nm(ks:List aw):Ord λi j=>bM (ks.getD i []) (ks.getD j []):=#[λ_=>NQ _,λh h2=>Uy h h2,λh=>Os h]
theorem GI{α:Type}(d:α)(l:List α):((List.range l.length).map λi=>l.getD i d)=l:=by
 apply List.ext_getElem? ?_;intro i;simp only[df];by_cases h:i<l.length
 ·simp[h]
 simp[Nat.le_of_not_lt h]
theorem NL{ys:ag}{vs:aj}(r:Vals ys vs){p:Array Nat}(g:Good vs.length p):Vals (p.toList.map λi=>ys.getD i .non) (mr p vs):=by
 unfold mr
 have key:∀l:List Nat,(∀i∈l,i<vs.length)->Vals (l.map λi=>ys.getD i .non) (l.map λi=>vs.getD i Value.none):=λl=>by
  induction l with
  |nil=>exact λ_=>.nil
  |cons i l ih=>
   intro h;apply .cons ?_ (ih λj hj=>h j (fo _ hj));let hi:=h i fY;have hy:i<ys.length:=by rw[r.length];exact hi
   let#[u,hu,ru]:=r.get (aX hy);have e1:ys.getD i .non=ys[i]:=by simp[hy]
   have e2:vs.getD i Value.none=u:=by simp[hu]
   show RelV (ys.getD i .non) (vs.getD i Value.none);rw[e1,e2];exact ru
 apply key p.toList λi hi=>?_;have m:i∈(List.range vs.length).toArray:=g.mem_iff.mp ⇑hi;simpa using m
theorem Sk:∀{ss:ae} {vs:aj},Vals (ss.map V.str) vs->StrsAre vs ss
 |[],_,.nil=>.nil
 |x::r,_,.cons h t=>by
  let#[tk,rfl]:=h;exact .cons x tk (Sk t)
def iE(ss:ae):ae:=(bh (ss.map λx=>[Sum.inr x])).map λk=>match k with
 |[.inr x]=>x
 |_=>⟨#[]⟩
def bP(x:Str):aw:=[Sum.inr x]
theorem TL{prog:Ad}{w:Af}{A:Ag}{s:Ab}{ss:ae}{vs:aj}(r:StrsAre vs ss)(h2:2<=vs.length):uB prog w A (λi j=>bM ((ss.map bP).getD i []) ((ss.map bP).getD j [])) vs s:=by
 apply#[oneType',λQ q=>?_,λi j C hi hj hC=>?_]
 ·match vs,h2 with
  |v₁::VQ::t,_=>
   rw[keyKind_strs r];exact aI q
 unfold kas_ask;rw[keyLt'_oneType]
 have look:∀k,k<vs.length->∃x t,vs.getD k Value.none=.str x t/\(ss.map bP).getD k []=[Sum.inr x]:=λk hk=>by
  let e:=r.strs;let#[x,t,q]:=r.all vs[k] (ke hk);apply#[x,t,by simp[hk,q],?_]
  have RQ:k<ss.length:=by
   rw[<- e,aq];exact hk
  have e2:ss[k]=x:=by
   have e3:(vs.map strOf)[k]? = ss[k]?:=by rw[e]
   rw[df,aX hk,aX RQ,q] at e3;exact (dO e3).symm
  simp[RQ,e2,bP]
 let#[x,t,e1,e2]:=look i hi;let#[y,u,e3,e4]:=look j hj;rw[e1,e3];dsimp only at hC;rw[e2,e4] at hC;apply oneLt_str ?_;unfold bM at hC;by_cases e:x=y
 ·subst e;rw[aK U] at hC;have:decide (x.cps.toList<x.cps.toList)=false:=by simp[List.lt_irrefl]
  rw[this];exact hC
 rw[aD (λq=>e (iB q))] at hC;exact hC
def xU:Key->Bool
 |.inl _=>false
 |.inr _=>true
theorem g8_{prog:Ad}{w:Af}{A:Ag}{E:Aa->Ab->Prop}{s:Ab}{c:Bool}{a b:Key}{p q:Aa}{Q:Bool->Ab->Prop}(ra:RelV (kV a) p)(rb:RelV (kV b) q)(hk:xU a=xU b)(h:Q (jo a b) s) :
  wpAny (model prog w) A (oneLt' c p q) Q E s:=by
 cases a with
 |inl i=>
  cases b with
  |inr y=>cases hk
  |inl j=>
   let#[t,rfl]:=ra;let#[u,rfl]:=rb;cases c with
   |true=>exact oneLt_int h
   |false=>exact kat_one _ _ (lt_int (show PySem.W.BoolBack Q (.bool _) s from h))
 |inr x=>
  cases b with
  |inl j=>cases hk
  |inr y=>
   let#[t,rfl]:=ra;let#[u,rfl]:=rb;cases c with
   |true=>exact oneLt_str h
   |false=>exact kat_one _ _ (PyProof.Rows.lt_str (show PySem.W.BoolBack Q (.bool _) s from h))
theorem Y3{a b:Key}(hk:xU a=xU b):ph (kV a) (kV b)=decide (a=b):=by
 cases a with
 |inl i=>
  cases b with
  |inr y=>cases hk
  |inl j=>
   show (i == j)=_;by_cases e:i=j
   ·subst e;simp
   ·rw[fO (λq=>e (Sum.inl.inj q))];simpa using e
 |inr x=>
  cases b with
  |inl j=>cases hk
  |inr y=>
   show (x == y)=_;by_cases e:x=y
   ·subst e;simp
   rw[fO (λq=>e (iB q))];simpa using e
theorem SN(a:Key):qb (kV a)=true:=by cases a<;>rfl
theorem UP{prog:Ad}{w:Af}{A:Ag}{s:Ab}{Q:Bool->Ab->Prop}:∀{k1 k2:aw} {us vs:aj} (i:Nat),Vals (k1.map kV) us->Vals (k2.map kV) vs->k1.map xU=k2.map xU->Q (bM k1 k2) s->KatLex prog w A true false Q (us.zip vs) i s
 |[],[],_,_,i,.nil,.nil,_,h=>h
 |[],_::_,_,_,_,_,_,h,_=>by cases h
 |_::_,[],_,_,_,_,_,h,_=>by cases h
 |a::k1,b::k2,u::us,v::vs,i,.cons ra r1,.cons rb r2,hk,h=>by
  let#[e1,e2]:=List.cons.inj hk;apply kat_cons ?_;apply yE ra rb (SN a) (SN b) prog w _ _ ?_;rw[Y3 e1];unfold bM at h;by_cases e:a=b
  ·rw[aK e] at h;rw[dc e];exact kat_yes (UP (i+1) r1 r2 e2 h)
  rw[aD e] at h;rw[fO e];exact kat_no (g8_ ra rb e1 h)
def bS(K:af)(H:Hp):ag->List aw->Prop:=Paired λy k=>∃a,y=V.ref a/\H a\.tup (k.map kV)
def Alike(ks:List aw)(sh:List Bool):Prop:=sh≠[]/\∀k∈ks,k.map xU=sh
theorem gI_{X:Cx}{pins:List (Addr × Obj)}{σ:St}{H:Hp}{s s':Ab}{A:Ag}{ys:ag}{ks:List aw}{sh:List Bool}{vs:aj}(I:Inv X pins σ H s)(r:Vals ys vs)(t:bS X.K H ys ks)(al:Alike ks sh)(h2:2<=vs.length)
  (kp:∀b o,s.heap.get? b\o->s'.heap.get? b\o):uB X.prog X.w A (λi j=>bM (ks.getD i []) (ks.getD j [])) vs s':=by
 have look:∀k,k<vs.length->∃a its,vs.getD k Value.none=.ref a/\Vals ((ks.getD k []).map kV) its/\IsTup s'.heap a its.toArray/\ks.getD k []∈ks:=λk hk=>by
  have hy:k<ys.length:=by rw[r.length];exact hk
  have Cg:k<ks.length:=by rw[<- bI t];exact hy
  let#[u,hu,ru]:=r.get (aX hy)
  have gen:∀{ys:ag} {ks:List aw} (k:Nat) (hy:k<ys.length) (Cg:k<ks.length),bS X.K H ys ks->∃a,ys[k]=V.ref a/\H a\.tup (ks[k].map kV):=λ{ys ks} k hy Cg t=>by
   induction t generalizing k with
   |nil=>exact absurd hy Y1
   |cons h t ih=>
    cases k with
    |zero=>exact h
    |succ k=>exact ih k ⇑hy ⇑Cg
  let#[a,e,sq]:=gen k hy Cg t;let#[its,ri,ti,_]:=I.tuple (fH.of sq);rw[e] at ru;cases ru;have e2:ks.getD k []=ks[k]:=by simp[Cg]
  apply#[a,its,by simp[hu],by rw[e2];exact ri,ti.keeps kp,?_];rw[e2];exact ke Cg
 let#[l8,Fk]:=al
 obtain⟨c,DI,rfl⟩:∃c DI,sh=c::DI:=by
  cases sh with
  |nil=>exact absurd U l8
  |cons c DI=>exact#[c,DI,U]
 apply#[tuples' true,λQ q=>?_,λi j C hi hj hC=>?_]
 ·have A6:∀l:aj,(∀v∈l,∃(a:Addr) (its:aj) (k:aw),v=.ref a/\Vals (k.map kV) its/\IsTup s'.heap a its.toArray/\k.map xU=c::DI)->∃fs,KatTups s'.heap l fs/\fs.length=l.length/\∀v∈fs,Looks (model X.prog X.w) s'.heap (typeOf v) (.type (if c then "str" else "int")):=λl=>by
   induction l with
   |nil=>exact λ_=>#[[],.nil,U,λ_ h=>nomatch h]
   |cons v l ih=>
    intro h;let#[fs,h1,h2,h3]:=ih λv hv=>h v (fo _ hv);let#[a,its,k,rfl,rv,#[o,ho,hc,n,hd],hk]:=h v fY
    match k,its,rv,hk with
    |k0::k,u::its,.cons r0 _,hk=>
     apply#[u::fs,.cons ho hc hd Y1 h1,by simp[h2],λv hv=>?_];rcases cg.mp hv with e|hv
     ·subst e;let e0:=(List.cons.inj hk).1;cases k0 with
      |inl i=>
       let#[t,rfl]:=r0;rw[<- e0];exact .now
      |inr x=>
       let#[t,rfl]:=r0;rw[<- e0];exact .now
     exact h3 v hv
  let#[fs,h1,h3,h4]:=A6 vs λv hv=>by
   let#[k,hk,rfl]:=gB hv;let#[a,its,e,rv,ti,m]:=look k hk;apply#[a,its,_,?_,rv,ti,Fk _ m];rw[<- e];simp[hk]
  apply kat_kind h1 Y0 h4 (by cases c<;>decide) ?_
  have e:((Value.type (if c then "str" else "int")) != Value.type "tuple")=true:=by cases c<;>decide
  rw[e];exact q
 unfold kas_ask;let#[a,its,e1,r1,#[o,ho,_,n,hd],m1]:=look i hi;let#[b,iw,e2,r2,#[o2,fK,_,n2,hd2],m2]:=look j hj;rw[e1,e2];apply kat_lt ho hd fK hd2 ?_;let l1:=r1.length;let l2:=r2.length;let l3:=eY List.length ((Fk _ m1).trans (Fk _ m2).symm);simp only[aq] at l1 l2 l3;rw[show decide (its.toArray.size<iw.toArray.size)=false by simp;omega];exact UP 0 r1 r2 ((Fk _ m1).trans (Fk _ m2).symm) hC
end L2
namespace c_
open PySem PySem.W PyProof.Rows
section
variable{prog:Ad}{w:Af}{A:Ag}{E:Aa->Ab->Prop}{s:Ab}
def Raw(h:Heap)(d:Addr)(es:Array DictEntry)(ep:Nat):Prop:=∃o,h.get? d\o/\o.ExactDict/\o.data=.dict es ep
theorem Raw.cB{h h':Heap}{d:Addr}{es:Array DictEntry}{ep:Nat}(x:Raw h d es ep)(k:∀o,h.get? d\o->h'.get? d\o):Raw h' d es ep:=let #[o,e,r]:=x;#[o,k o e,r]
theorem Raw.ty{d:Addr}{es:Array DictEntry}{ep:Nat}(x:Raw s.heap d es ep):s.TypeIs (.ref d) "dict":=let #[o,e,c,_]:=x;#[o,e,c.1]
theorem _d{d:Addr}{es:Array DictEntry}{ep:Nat}{Q:Aa->Ab->Prop}(hd:(d == sysModules)=false)(x:Raw s.heap d es ep)
  (q:Q (.ref s.heap.objs.size) { s with heap:=s.heap.push { cls:=.type "dict_keyiterator",data:=.fields (List.toArray [.ref d,.int 0 0,.int es.size 0,.int ep 0]) } }) :
  wpAny (model prog w) A (pyIter (.ref d)) Q E s:=by
 let#[o,ho,hc,jR]:=id x;apply wpAny_pyIter_slot x.ty F.slot_dict_iter (tQ F.slot_dict_iter x.ty F.entry_dict_iter ?_ (F.args_dict_iter_1 _));unfold Builtin.«dict.__iter__» Builtin.Dict.dictSlotNone;apply ai (ai (wpAny_notOrdered_dict x.ty (show wpAny _ _ (pure (Value.ref d)) _ _ s from aI (show wpAny _ _ (Builtin.Dict.showsAll d >>= _) _ _ s from ?_))));unfold Builtin.Dict.showsAll;rw[aD (by rw[hd];decide)];apply ai (aI (ai (wpAny_dictEntries ho jR (ai (wpAny_dictEpoch ho jR (ai (qd (aI #[_,U,"dict_keyiterator",_,#[_,dq _ U,U],F.slot_dict_keyiterator_next.lookup,?_]))))))));exact q
theorem _H{it d:Addr}{i ep:Nat}{es:Array DictEntry}{Q:Option Aa->Ab->Prop}(hit:s.heap.IsKeyIter it d i es.size ep)(x:Raw s.heap d es ep)(hi:i<es.size)
  (q:∀h',h'.IsKeyIter it d (i+1) es.size ep->Heap.SameBut it s.heap h'->Q (some es[i].key) { s with heap:=h' }):wpAny (model prog w) A (pyNext (.ref it)) Q E s:=by
 let#[o,ho,hc,hd]:=id hit;let#[od,EO,iy,pW]:=id x;unfold pyNext;apply ai (wpAny_attempt (wK (name:=Str.ofString "__next__") hit.typeIs F.slot_dict_keyiterator_next (tQ F.slot_dict_keyiterator_next hit.typeIs F.entry_dict_keyiterator_next ?_ (F.args_dict_keyiterator_next_1 _))));apply ai (aI (ai (ai ?_)))
 first|refine ai (wpAny_typeNameOfWhole_keyiter hit.typeIs (aI (ai (wpAny_fieldsOf ho hd ?_))))|refine ai (wpAny_typeNameOf_keyiter hit.typeIs (aI (ai (wpAny_fieldsOf ho hd ?_))))
 simp only[show Builtin.Dict_items.ownsTuple "dict_keyiterator"=false by decide,pJ,if_false];apply (show wpAny _ _ (if (Value.ref d == Value.none)=true then _ else _) _ _ s from ?_);rw[aD (λz=>by cases z)];apply ai (aI (ai (wpAny_dictEntries EO pW ?_)));rw[aD Y1];apply ai (aI (ai (wpAny_dictEpoch EO pW ?_)));rw[aD Y1];apply aI ?_;simp only[show ¬((i:Int)<0) from by omega,if_false,yR,Array.getElem?_eq_getElem hi];apply ai ?_
 first|refine ai (wpAny_typeNameOfWhole_keyiter hit.typeIs (aI (ai (wpAny_isOneOf_keyiter hit.typeIs ?_))))|refine ai (wpAny_typeNameOf_keyiter hit.typeIs (aI (ai (wpAny_isOneOf_keyiter hit.typeIs ?_))))
 apply (show wpAny _ _ (setField (.ref it) 1 (rawInt ((i:Int)+1)) >>= _) _ _ s from ai (wpAny_setField ho hd Y1 ?_))
 have turned:(s.heap.update it (Obj.mapFields (·.setIfInBounds 1 (rawInt ((i:Int)+1))))).IsKeyIter it d (i+1) es.size ep:=
  #[_,Heap.get?_update_self _ ho (Obj.isFreed_of_fields (Obj.data_mapFields hd _)),(Obj.cls_mapFields ..).trans hc,by rw[Obj.data_mapFields hd];simp[rawInt]]
 apply ai (gR (ai (wpAny_isOneOf_keyiter (s:={ s with heap:=s.heap.update it (Obj.mapFields (·.setIfInBounds 1 (rawInt ((i:Int)+1)))) }) turned.typeIs ?_)));exact (show wpAny _ _ (pure es[i].key) _ _ _ from aI (aI #[_,U,aI (q _ turned (Heap.SameBut.update ..))]))
theorem _W{it d:Addr}{ep:Nat}{es:Array DictEntry}{Q:Option Aa->Ab->Prop}(hh:A.handled=none)(hit:s.heap.IsKeyIter it d es.size es.size ep)(x:Raw s.heap d es ep)
  (q:∀h',Heap.ExtBut it s.heap h'->Q none { s with heap:=h' }):wpAny (model prog w) A (pyNext (.ref it)) Q E s:=by
 let#[o,ho,hc,hd]:=id hit;let#[od,EO,iy,pW]:=id x;unfold pyNext;apply ai (wpAny_attempt (wK (name:=Str.ofString "__next__") hit.typeIs F.slot_dict_keyiterator_next (tQ F.slot_dict_keyiterator_next hit.typeIs F.entry_dict_keyiterator_next ?_ (F.args_dict_keyiterator_next_1 _))));apply ai (aI (ai (ai ?_)))
 first|refine ai (wpAny_typeNameOfWhole_keyiter hit.typeIs (aI (ai (wpAny_fieldsOf ho hd ?_))))|refine ai (wpAny_typeNameOf_keyiter hit.typeIs (aI (ai (wpAny_fieldsOf ho hd ?_))))
 simp only[show Builtin.Dict_items.ownsTuple "dict_keyiterator"=false by decide,pJ,if_false];apply (show wpAny _ _ (if (Value.ref d == Value.none)=true then _ else _) _ _ s from ?_);rw[aD (λz=>by cases z)];apply ai (aI (ai (wpAny_dictEntries EO pW ?_)));rw[aD Y1];apply ai (aI (ai (wpAny_dictEpoch EO pW ?_)));rw[aD Y1];apply aI ?_;simp only[show ¬((es.size:Int)<0) from by omega,if_false,yR,Array.getElem?_eq_none (a9 _)];apply ai ?_
 first|refine ai (wpAny_typeNameOfWhole_keyiter hit.typeIs (aI ?g))|refine ai (wpAny_typeNameOf_keyiter hit.typeIs (aI ?g))
 apply (show wpAny _ _ (setField (.ref it) 0 .none >>= _) _ _ s from ai (wpAny_setField ho hd Y1 (show wpAny _ _ (newExc (.type "StopIteration") [] >>= _) _ _ _ from ai ?_)));simp only[newExc,newTuple];apply ai (qd (ai (m:=firstArgMember _ _) (wpAny_of_eq (a:=Value.none) (by first|rfl|(simp only[firstArgMember];rfl)) (qd ?_ (by size_fits)))) (by size_fits));simp only[raiseNew];apply ai (wpAny_handled ?_);rw[show A.in1.handled=none from hh];apply ai (aI (wpAny_throw ?_));exact ai (wpAny_isInstance (T:="StopIteration") (b:=true) #[_,dq _ U,U] isSubtype_stop (aI (q _ (((Heap.SameBut.update ..).extBut.push _).push _))))
theorem hL_(hh:A.handled=none)(I d:Addr)(l8:d≠I)(es:Array DictEntry)(ep:Nat) :
  Walks prog w A I [I,d] [I] es.size (λi v=>∃h:i<es.size,v=es[i].key) (λi h=>h.IsKeyIter I d i es.size ep/\Raw h d es ep) where
 sub:=λb hb=>by simp only[fw] at hb;simp[hb]
 frame:=λ_ _ _ st k=>#[st.1.at λo e=>k I Y1 o e,st.2.cB λo e=>k d Y1 o e]
 item:=λi s Q E hi st hQ=>_H st.1 st.2 hi λh' AM hs'=>hQ _ h' s.toks #[hi,U] #[AM,st.2.cB λo e=>hs'.extBut d o l8 e] λb o hb e=>hs'.extBut b o (λh=>hb (by simp[h])) e
 done:=λs Q E st hQ=>_W hh st.1 st.2 λh' pV=>hQ h' s.toks λb o hb e=>pV b o (λh=>hb (by simp[h])) e
 self:=λ_ _ _ _ st hQ=>wpAny_pyIter_keyiter st.1 hQ
theorem Yq{d:Addr}{es:Array DictEntry}{ep:Nat}(lo:(d == sysModules)=false):KdlSrc prog w "dict" d d es.size (λi v=>∃h:i<es.size,v=es[i].key) (λh=>Raw h d es ep) where
 type:=λs x=>x.ty
 there:=λh x=>let #[o,e,_]:=x;#[bK e,bK e]
 keep:=λh h' x k=>x.cB λo e=>k d (.inl U) o e
 notList:=by decide
 notTuple:=by decide
 hint:=λ_ _ s _ x q=>kdl_hint_dict x.ty q
 iter:=λA s hh x=>#[_,_,λE Q q=>_d lo x q,hL_ hh _ d (let #[o,e,_]:=x;dH (bK e)) es ep,#[#[_,dq _ U,U,U],x.cB λo e=>bo _ e]]
end
end c_
namespace c_
open PySem PySem.W PyProof.Rows
theorem da_:typeLookup (.type "list") "keys"=pure none:=by rw[typeLookup_type,builtinLookup_eq_fast];kernel_rfl
theorem hA_{prog:Ad}{w:Af}{A:Ag}{s:Ab}{a:Addr}{xs:Array Aa}{k:Nat}{tk:Tok}{R:Result->Ab->Prop}(hx:s.heap.get? a\seqObj "list" xs k)(h:raisesAttr (.ref a) "keys" A R s) :
  codeAny (model prog w) A (.call (.builtin "list.__getattribute__") #[[.ref a,.str "keys" tk],[]]) R s:=by
 apply codeAny_call_builtin F.slot_list_getattribute.plain am_entry_list_getattribute (F.slot_list_getattribute.check _ _ _ _ _ _ _ _ #[_,hx,U] (F.args_list_getattribute_2 _ _) ?_);exact meets_getattribute_miss_list a xs k #[] "keys" tk da_ (by decide) (by size_fits) prog w A R s #[hx,h]
theorem sO{prog:Ad}{w:Af}{A:Ag}{E:Aa->Ab->Prop}{s:Ab}{a:Addr}{xs:Array Aa}{k:Nat}{Q:Option Aa->Ab->Prop}(hx:s.heap.get? a\seqObj "list" xs k)(hA:A.handled=none)
  (h:∀h' tk,(∀b o,s.heap.get? b\o->h'.get? b\o)->Q none { s with heap:=h',toks:=tk }):wpAny (model prog w) A (getAttr? (.ref a) "keys") Q E s:=by
 let#[hp,g,d,tk,os]:=s;have ty:∀fR,(#[hp,g,d,fR,os]:Ab).TypeIs (.ref a) "list":=λ_=>#[_,hx,U];let f1:=sub_AttributeError;let f2:=F.slot_list_getattribute.lookup;let f3:=F.slot_list_getattribute.bind (.ref a);let f4:=am_list_getattr_none;unfold getAttr? getAttrBy? getAttrBy
 repeat (any_goals (first|assumption|exact ty _|wp_step))
 apply hA_ hx #[hA,λh' fR e vU=>?_];let#[t',u',he]:=vU.there;show wpAny _ _ (getattributeRaised _ _ _ _ _ _ _) _ _ _;unfold getattributeRaised
 repeat (any_goals (first|assumption|wp_step))
 exact h _ _ vU.keeps
end c_
namespace c_
open PySem PySem.W PyProof.Rows
theorem CL:entryFor table "dict.update.loop"\Builtin.«dict.update.loop»:=entryFor_of_tree (by kernel_rfl)
theorem qp:plainId "dict.update.loop"=true:=by decide +kernel
theorem CA(d it:Addr)(i:Int)(tk:Tok):Builtin.«dict.update.loop» #[[.ref d,.ref it,.int i tk,.none],[]]=(do
  let r <- pyNext (.ref it)
  match r with
  |none=>do Builtin.Dict.addKeywords d [];ret .none
  |some item=>do
   holding [item] (do
    let pair <- (Builtin.Dict.pairItems item).tryCatch λe=>do
     if !(<- isInstance e (.type "TypeError")) then throw e
     rule "dict.update.element-no-sequence"
     raiseError "TypeError" s!"cannot convert dictionary update sequence element #{i} to a sequence"
    match pair with
    |[k,v]=>holding [k,v] (dictSet d k v)
    |l=>do
     rule "dict.update.element-length"
     raiseError "ValueError" s!"dictionary update sequence element #{i} has length {l.length}; 2 is required")
   again (.builtin "dict.update.loop" #[[.ref d,.ref it,rawInt (i+1),.none],[]])):=by
 unfold Builtin.«dict.update.loop»;apply eY (λf=>pyNext (.ref it) >>= f) (funext λr=>?_);cases r<;>rfl
section
variable{prog:Ad}{w:Af}{K:Type}[DecidableEq K]{knd:PySem.KeyKind prog w K}{A:Ag}
def Ny(knd:PySem.KeyKind prog w K)(h:Heap):aj->List (K × Aa)->Prop:=Paired λv p=>∃a key,v=.ref a/\IsTup h a (List.toArray [key,p.2])/\knd.is p.1 key=true
def eW(kvs:List (K × Aa))(ps:List (K × Aa)):List (K × Aa):=ps.foldl (λacc p=>stored acc p.1 p.2) kvs
theorem Ut(kvs:List (K × Aa))(k:K)(v:Aa):(stored kvs k v).length<=kvs.length+1:=by
 unfold stored;split
 ·simp
 simp
theorem BI{h:Heap}{b it l:Addr}{i:Nat}{ys:Array Aa}(t:IsTup h b ys)(q:h.IsListIter it l i):b≠it:=λz=>by
 let#[o,ho,hc,_]:=t;let#[o2,fK,jt,_]:=q;subst z;rw[ho] at fK;cases fK;rw[hc] at jt;exact absurd jt (by decide)
theorem eA_{h:Heap}{b d:Addr}{ys:Array Aa}{kvs:List (K × Aa)}(t:IsTup h b ys)(q:h.DictOf knd d kvs):b≠d:=λz=>by
 let#[o,ho,hc,_]:=t;let#[o2,es,ep,fK,jt,_]:=q;subst z;rw[ho] at fK;cases fK;let tq:=jt.1;rw[hc] at tq;exact absurd tq (by decide)
theorem GF{h h':Heap}{d:Addr}{kvs:List (K × Aa)}(q:h.DictOf knd d kvs)(k:∀o,h.get? d\o->h'.get? d\o):h'.DictOf knd d kvs:=by
 let#[o,es,ep,ho,r]:=q;exact#[o,es,ep,k _ ho,r]
theorem ZS{it l d a:Addr}{i:Nat}{its:aj}{key x:Aa}{k:K}{kvs:List (K × Aa)}{s:Ab}{R:Result->Ab->Prop}{tk:Tok}(s_:d≠it)(hi:its.toArray[i]? = some (.ref a))(ht:IsTup s.heap a (List.toArray [key,x]))(hk:knd.is k key=true)
  (hit:s.heap.IsListIter it l i) (hl:s.heap.IsList l its.toArray) (hd:s.heap.DictOf knd d kvs) (hz:kvs.length<=1000)
  (hR:∀h2,h2.DictOf knd d (stored kvs k x)->(∀b o,b≠d->b≠it->s.heap.get? b\o->h2.get? b\o)->h2.IsListIter it l (i+1)->codeAny (model prog w) A (.builtin "dict.update.loop" #[[.ref d,.ref it,rawInt ((i:Int)+1),.none],[]]) R { s with heap:=h2,toks:=s.toks+1 }) :
  codeAny (model prog w) A (.builtin "dict.update.loop" #[[.ref d,.ref it,.int i tk,.none],[]]) R s:=by
 apply codeAny_builtin CL ?_;rw[yw qp _,CA];apply ai (wpAny_pyNext_list_item hit hl hi λh1 AL xZ=>?_);let#[ot,LJ,AU,nt,Mf]:=id ht;have sY:h1.get? a\ot:=xZ.extBut _ _ (BI ht hit) LJ;apply ai (gR (ai (wpAny_tryCatch ?_)));unfold Builtin.Dict.pairItems;apply ai (wpAny_typeOf (T:="tuple") #[ot,sY,AU] ?_);rw[aK (by decide)];unfold seqItems?;apply ai (ai (wpAny_load sY ?_));rw[Mf];apply aI (aI ?_);apply (show wpAny _ _ (holding [key,x] (dictSet d key x)) _ _ _ from gR (wpAny_dictSet_pairs hk (GF hd λo q=>xZ.extBut _ _ s_ q) (λh2 hd2 pT=>?_) (by have:=cK;omega)));exact aI #[plainId_quiet qp _,hR h2 hd2 (λb o h3 h4 q=>pT.extBut _ _ h3 (xZ.extBut _ _ h4 q)) (AL.extBut pT.extBut (dJ s_))]
theorem Zr{it l d:Addr}{i:Nat}{its:aj}{kvs:List (K × Aa)}{s:Ab}{R:Result->Ab->Prop}{tk:Tok}(s_:d≠it)(hh:A.handled=none)(hi:its.toArray[i]? = none)
  (hit:s.heap.IsListIter it l i) (hl:s.heap.IsList l its.toArray) (hd:s.heap.DictOf knd d kvs)
  (hR:∀h',h'.DictOf knd d kvs->(∀b o,b≠it->s.heap.get? b\o->h'.get? b\o)->R (.ok (.ret .none)) { s with heap:=h' }) :
  codeAny (model prog w) A (.builtin "dict.update.loop" #[[.ref d,.ref it,.int i tk,.none],[]]) R s:=by
 apply codeAny_builtin CL ?_;rw[yw qp _,CA];apply ai (wpAny_pyNext_list_end hh hit hl hi λh' he=>?_);exact ai (m:=Builtin.Dict.addKeywords d []) (aI (aI (hR h' (GF hd λo q=>he _ _ s_ q) λb o hb q=>he b o hb q)))
theorem Yw{it l d:Addr}(L4:l≠it)(s_:d≠it)(Ck:d≠l)(hh:A.handled=none){its:aj}(rest:aj):∀(ps:List (K × Aa)) (i:Nat) (kvs:List (K × Aa)) (s:Ab) (R:Result->Ab->Prop) (tk:Tok),its.drop i=rest->Ny knd s.heap rest ps->
  s.heap.IsListIter it l i->s.heap.IsList l its.toArray->s.heap.DictOf knd d kvs->kvs.length+ps.length<=1000->
  (∀h' fR,h'.DictOf knd d (eW kvs ps)->(∀b o,b≠d->b≠it->s.heap.get? b\o->h'.get? b\o)->R (.ok (.ret .none)) { s with heap:=h',toks:=fR })->
  codeAny (model prog w) A (.builtin "dict.update.loop" #[[.ref d,.ref it,.int i tk,.none],[]]) R s:=by
 induction rest with
 |nil=>
  intro ps i kvs s R tk e hp hit hl hd hz hR;cases hp
  have hi:its.toArray[i]? = none:=by
   have:=eY List.length e;simp only[wY,List.length_nil] at this;simp;omega
  exact Zr s_ hh hi hit hl hd λh' g9 kp=>hR h' s.toks g9 λb o _ hb q=>kp b o hb q
 |cons v rest ih=>
  intro ps i kvs s R tk e hp hit hl hd hz hR;cases hp with
  |@cons _ p _ ps h0 hr=>
  let#[a,key,hv,ht,hk]:=h0;let#[k,x]:=p;subst hv
  have hi:its.toArray[i]? = some (.ref a):=by
   have q:(its.drop i)[0]? = some (.ref a):=by rw[e];rfl
   rw[List.getElem?_drop] at q;simpa using q
  have e':its.drop (i+1)=rest:=by
   rw[<- List.drop_drop,e];rfl
  simp only[jz] at hz;apply ZS s_ hi ht hk hit hl hd Y0 λh2 hd2 kp sZ=>?_;have c1:((i:Int)+1)=((i+1:Nat):Int):=by omega
  rw[c1];apply ih ps (i+1) (stored kvs k x) _ R 0 e' (L2.Paired.aQ hr λv p ⟨b,ky,e1,t1,k1⟩=>#[b,ky,e1,?_,k1]) sZ (hl.at λo q=>kp _ _ (dJ Ck) L4 q) hd2 (by have:=Ut kvs k x;omega) λh' fR g9 Er=>hR h' fR g9 λb o h3 h4 q=>Er b o h3 h4 (kp b o h3 h4 q);let#[o,ho,r]:=id t1;exact#[o,kp _ _ (eA_ t1 hd) (BI t1 hit) ho,r]
theorem ee_{E:Aa->Ab->Prop}{s:Ab}{l:Addr}{its:aj}{n:Nat}{ps:List (K × Aa)}{Q:Aa->Ab->Prop}(hh:A.handled=none)(ho:s.heap.get? l\seqObj "list" its.toArray n)(hp:Ny knd s.heap its ps)(hz:ps.length<=1000)
  (h:∀h' fR,h'.DictOf knd s.heap.objs.size (eW [] ps)->(∀b o,s.heap.get? b\o->h'.get? b\o)->Q (.ref s.heap.objs.size) { s with heap:=h',toks:=fR }) :
  wpAny (model prog w) A (call (.type "dict") [.ref l]) Q E s:=by
 apply callType_codes (Q₁:=λobj aL=>obj=.ref s.heap.objs.size/\aL={ s with heap:=s.heap.push { cls:=.type "dict",data:=.dict #[] } }) F.kt_called_dict (F.kt_typeCall_dict_1 _) F.entry_dict_init (kt_code_dict_new _ #[U,U]) ?_;rintro obj aL ⟨rfl,rfl⟩;have gh:(s.heap.push { cls:=.type "dict",data:=.dict #[] }).DictOf knd s.heap.objs.size []:=Heap.DictOf.new s.heap;have fZ:(s.heap.push { cls:=.type "dict",data:=.dict #[] }).get? l\seqObj "list" its.toArray n:=bo _ ho;apply#[gh.typeIs,F.args_dict_init_2 _ _,?_];unfold Builtin.«dict.__init__» Builtin.Dict.selfAndRest;apply ai (ai (wpAny_notOrdered_dict gh.typeIs ?_));apply (show wpAny _ _ (pure (s.heap.objs.size,[Value.ref l])) _ _ _ from aI ?_);apply (show wpAny _ _ (Builtin.Dict.updateFrom "dict.__init__" s.heap.objs.size (.ref l) [] .none) _ _ _ from ?_);unfold Builtin.Dict.updateFrom;apply ai (wpAny_typeOf (T:="list") #[_,fZ,U] ?_);rw[aK (by decide)];apply ai (sO fZ hh λh2 P_ k2=>?_);simp only[Option.isNone_none,if_true];have jr:h2.get? l\seqObj "list" its.toArray n:=k2 _ _ fZ;apply ai (wpAny_rule (ai (wpAny_pyIter_list #[_,jr,U,_,U] ?_)));apply aI #[plainId_quiet qp _,?_];have all:∀{b o},s.heap.get? b\o->(h2.push { cls:=.type "list_iterator",data:=.fields (List.toArray [.ref l,.int 0 0]) }).get? b\o:=λq=>bo _ (k2 _ _ (bo _ q))
 have hd2:h2.DictOf knd s.heap.objs.size []:=by
  let#[o,es,ep,ho,r]:=gh;exact#[o,es,ep,k2 _ _ ho,r]
 have ze:s.heap.objs.size<h2.objs.size:=by
  let#[o,es,ep,ho,r]:=hd2;exact bK ho
 have lz:l<s.heap.objs.size:=bK ho
 apply Yw (A:=A.in1) (knd:=knd) (its:=its) (it:=h2.objs.size) (l:=l) (d:=s.heap.objs.size) (dH (Nat.lt_trans lz ze)) (dH ze) (jf lz) hh its ps 0 [] _ _ 0 U (L2.Paired.aQ hp λv p ⟨b,ky,e1,t1,k1⟩=>#[b,ky,e1,t1.keeps λb o q=>all q,k1])
  #[_,dq _ U,U,U] #[_,bo _ jr,U,_,U] (by
   let#[o,es,ep,ho,r]:=hd2;exact#[o,es,ep,bo _ ho,r]) ⇑hz λh' fR g9 kp=>#[U,h h' fR g9 λb o q=>?_]
 have bl:b<s.heap.objs.size:=bK q;exact kp b o (dH bl) (dH (Nat.lt_trans bl ze)) (all q)
end
end c_
theorem zl{n:Nat}(h:decide (n<=16777216)=true:=by rfl):n<=PySem.sizeLine:=by
 rw[PySem.sizeLine_eq];exact tP h
namespace L2
open PySem PySem.Spec PyProof.Rows PySem.W jk c_
theorem bS.same{K:af}{H H':Hp}{ys:ag}{ks:List aw}(t:bS K H ys ks)(e:aa H H'):bS K H' ys ks:=Paired.aQ t λy k ⟨a,z,q⟩=>#[a,z,e _ _ q]
theorem aa.new{H:Hp}{l:Addr}{o:HO}(h:H l=none):aa H (upd H l o):=λb u e=>by rw[aB (bG e h)];exact e
section
variable{X:Cx}{pins:List (Addr × Obj)}{σ:St}{H H':Hp}{s:Ab}{h':Heap}{t':Nat}
theorem Inv.many(I:Inv X pins σ H s)(k:∀b o,s.heap.get? b\o->h'.get? b\o)(hold:aa H H')(gh:∀b,H b=none->b<s.heap.objs.size->H' b=none)
  (hob:∀b o,H' b\o->H b=none->∃xs its,o=.tup xs/\xs.length<=sizeLine/\Vals xs its/\IsTup h' b its.toArray/\∃o,h'.get? b\o/\o.dict=none):Inv X pins σ H' { s with heap:=h',toks:=t' }:=by
 apply I.un #[λb o q _ _ _=>k b o q,λb o q _ _ _=>#[o.slots,k b o q],λb o q n _=>gh b n (bK q),λb o q _=>#[o,k b o q],λb xs q=>hold b _ q,λb o u q=>hold b _ q,λb ps q=>#[#[],by rw[Array.append_empty];exact hold b _ q]] λb o q=>?_;cases e:H b with
 |some u=>
  let e2:=hold b u e;rw[q] at e2;cases e2;exact (I.aF b o e).cB (λc v _ z=>k c v z) (λc z=>hold c _ z) λc xs z=>hold c _ z
 |none=>
  let#[xs,its,rfl,z,r,t]:=hob b o q e;exact#[z,its,r,t]
end
section
variable{X:Cx}{pins:List (Addr × Obj)}{σ:St}{H:Hp}{s:Ab}{A:Ag}{E:Aa->Ab->Prop}
theorem _N{p:Addr}{ys:ag}{R:aj->Ab->Prop}(I:Inv X pins σ H s)(h:d6 X.K H p ys)(hz:ys.length<=100000)(q:∀vs s1,Inv X pins σ H s1->Vals ys vs->R vs s1):wpAny (model X.prog X.w) A (collect (.ref p)) R E s:=by
 let#[its,r,pl,_]:=I.list h;let hl:=r.length;apply collect_list pl.isList (q its _ ?_ r) (by have:=cK;omega);apply I.kept (t':=s.toks) λb u e=>?_;have lt:b<s.heap.objs.size:=bK e;rw[Heap.get?_update_ne _ _ _ _ (dH lt)];exact bo _ e
theorem JP{P:Nat->Aa->Prop}{acc:Array Aa}{ys:ag}(h:ItemsOf P acc ys.length)(hp:∀(j:Nat) v,P j v->∀y,ys[j]? = some y->RelV y v):Vals ys acc.toList:=by
 have gen:∀(ys:ag) (vs:aj),ys.length=vs.length->(∀(j:Nat) y v,ys[j]? = some y->vs[j]? = some v->RelV y v)->Vals ys vs:=λys=>by
  induction ys with
  |nil=>
   intro vs hl _;cases vs with
   |nil=>exact .nil
   |cons _ _=>cases hl
  |cons y ys ih=>
   intro vs hl h;cases vs with
   |nil=>cases hl
   |cons v vs=>exact .cons (h 0 y v U U) (ih vs ⇑hl λj y v a b=>h (j+1) y v ⇑a ⇑b)
 apply gen ys acc.toList (by rw[uf];exact h.1.symm) λj y v a b=>hp j v (h.2 j v ?_) y a;rw[<- Array.getElem?_toList];exact b
theorem Q_{d:Addr}{kvs:List (Key × V)}(I:Inv X pins σ H s)(h:Rd H d (.dK kvs)):∃(P:Nat->Aa->Prop) (OK:Heap->Prop),KdlSrc X.prog X.w "dict" d d (kvs.map λkv=>kV kv.1).length P OK/\OK s.heap/\∀(j:Nat) v,P j v->∀y,(kvs.map λkv=>kV kv.1)[j]? = some y->RelV y v:=by
 let#[z,hd,vs,rel,dd]:=kR I.aF h;let#[ep,dat]:=dd.dictAt;let hl:=rel.length;apply#[λi v=>∃k x,vs[i]? = some (k,x)/\(d0 X.prog X.w).is k v=true,λh=>h.DictAt (d0 X.prog X.w) d vs ep,(by rw[aq,hl];exact kdl_dict (knd:=d0 X.prog X.w) (kvs:=vs) (ep:=ep) hd),dat,λj v ⟨k,x,e,hk⟩ y hy=>?_];rw[df] at hy;have ek:kvs.map (·.1)=vs.map (·.1):=rel.keys;have e2:(kvs.map (·.1))[j]? = (vs.map (·.1))[j]?:=by rw[ek]
 rw[df,df,e] at e2;cases e3:kvs[j]? with
 |none=>rw[e3] at e2;cases e2
 |some kv=>
  rw[e3] at e2 hy;have e4:kv.1=k:=dO e2;have e5:kV kv.1=y:=dO hy;rw[<- e5,e4];have hk:wx k v=true:=hk;rcases qt hk with⟨i,t,rfl,rfl⟩|⟨x,t,rfl,rfl⟩
  ·exact#[t,U]
  exact#[t,U]
theorem Rc{d:Addr}{kvs:List (Key × V)}{R:aj->Ab->Prop}(hh:A.handled=none)(I:Inv X pins σ H s)(h:Rd H d (.dK kvs))(q:∀vs s1,Inv X pins σ H s1->Vals (kvs.map λkv=>kV kv.1) vs->R vs s1):wpAny (model X.prog X.w) A (collect (.ref d)) R E s:=by
 let#[P,OK,S,ok,hp]:=Q_ I h;apply kdu_collect S hh ok ?_ λh' tk acc k a=>q _ _ (I.kept k) (JP a hp);rw[aq];exact (kR I.aF h).1
theorem YA{d:Addr}{kvs:List (aw × V)}(I:Inv X pins σ H s)(h:Rd H d (.dT kvs)):∃(ys:ag) (P:Nat->Aa->Prop) (OK:Heap->Prop),bS X.K H ys (kvs.map (·.1))/\ys.length<=sizeLine/\KdlSrc X.prog X.w "dict" d d ys.length P OK/\OK s.heap/\∀(j:Nat) v,P j v->∀y,ys[j]? = some y->RelV y v:=by
 let#[z,hd,xs,rel,o,es,ep,ho,hc,jR,v_,nd]:=h.ok I.aF
 have l1:es.size=xs.length:=by
  have:=eY List.length v_;simpa using this
 let l2:=bI rel;apply#[xs.map λx=>V.ref x.2.1,λi v=>∃h:i<es.size,v=es[i].key,λh=>Raw h d es ep,?_,by rw[aq];omega,(by rw[aq,<- l1];exact Yq (es:=es) (ep:=ep) hd),#[o,ho,hc,jR],λj v ⟨hj,e⟩ y hy=>?_]
 ·have gen:∀{kvs:List (aw × V)} {xs:List (aw × Addr × Aa)},KT H kvs xs->bS X.K H (xs.map λx=>V.ref x.2.1) (kvs.map (·.1)):=λ{kvs xs} r=>by
   induction r with
   |nil=>exact .nil
   |cons h _ ih=>exact .cons #[_,U,h.2.1] ih
  exact gen rel
 rw[df] at hy;have hx:j<xs.length:=by omega
 rw[aX hx] at hy;have e1:V.ref xs[j].2.1=y:=dO hy
 have e2:es[j]=entryOfKey (tupleKind (d0 X.prog X.w)) xs[j]:=by
  have e3:es.toList[j]? = (xs.map (entryOfKey (tupleKind (d0 X.prog X.w))))[j]?:=by rw[v_]
  rw[df,aX hx,Array.getElem?_toList,Array.getElem?_eq_getElem hj] at e3;exact dO e3
 rw[<- e1,e,e2];rfl
theorem Ya{d:Addr}{kvs:List (aw × V)}{R:aj->Ab->Prop}(hh:A.handled=none)(I:Inv X pins σ H s)(h:Rd H d (.dT kvs))(q:∀ys vs s1,Inv X pins σ H s1->Vals ys vs->bS X.K H ys (kvs.map (·.1))->R vs s1):wpAny (model X.prog X.w) A (collect (.ref d)) R E s:=by
 let#[ys,P,OK,t,z,S,ok,hp]:=YA I h;exact kdu_collect S hh ok z λh' tk acc k a=>q ys _ _ (I.kept k) (JP a hp) t
def tX(v d:Addr):HO:=.ext λh=>h.IsItemsView v d
def qe(v d:Addr):HO:=.ext λh=>h.IsValuesView v d
def kM(K:af)(H:Hp):ag->List (Key × V)->Prop:=Paired λy p=>∃a,y=V.ref a/\H a\.tup [kV p.1,p.2]
theorem gq_{v d:Addr}{kvs:List (Key × V)}{R:aj->Ab->Prop}(hh:A.handled=none)(I:Inv X pins σ H s)(hv:H v\tX v d)(h:Rd H d (.dK kvs))(q:∀H1 ys vs s1,Inv X pins σ H1 s1->aa H H1->Vals ys vs->kM X.K H1 ys kvs->R vs s1) :
  wpAny (model X.prog X.w) A (collect (.ref v)) R E s:=by
 let#[z,hd,vs,rel,dd]:=kR I.aF h;let#[ep,dat]:=dd.dictAt;let#[iv,_,_]:=I.aF v _ hv;let hl:=rel.length;apply kdx_collect (knd:=d0 X.prog X.w) (kvs:=vs) (ep:=ep) hh iv dat Y0 λh' tk as k la G=>?_;have up:∀b,b∈as->s.heap.objs.size<b:=G.above
 have at1:∀(j:Nat) b p,as[j]? = some b->kvs[j]? = some p->∃its,Vals [kV p.1,p.2] its/\IsTup h' b its.toArray/\∃o,h'.get? b\o/\o.dict=none:=λj b p hj hp=>by
  let#[key,kk,x,e1,e2,e3]:=G.pairs j b hj
  have gen:∀{kvs:List (Key × V)} {vs:List (Key × Aa)},KV kvs vs->∀(j:Nat),vs[j]? = some (kk,x)->kvs[j]? = some p->p.1=kk/\RelV p.2 x:=λ{kvs vs} r=>by
   induction r with
   |nil=>intro j e;simp at e
   |@cons p' q _ _ h _ ih=>
    intro j e e';cases j with
    |zero=>
     have e:q=(kk,x):=⇑e
     have e':p'=p:=⇑e'
     subst e';rw[e] at h;exact h
    |succ j=>exact ih j ⇑e ⇑e'
  let#[g1,g2]:=gen rel j e1 hp;apply#[[key,x],.cons ?_ (.cons g2 .nil),#[_,e3,U,_,U],_,e3,U];rw[g1];have e2:wx kk key=true:=e2;rcases qt e2 with⟨i,t,rfl,rfl⟩|⟨x,t,rfl,rfl⟩
  ·exact#[t,U]
  exact#[t,U]
 have look:∀{as:av} {kvs:List (Key × V)},as.Pairwise (· < ·)->∀(j:Nat) b p,as[j]? = some b->kvs[j]? = some p->(as.zip kvs).lookup b\p:=λ{as}=>by
  induction as with
  |nil=>intro kvs _ j b p e;simp at e
  |cons a as ih=>
   intro kvs pw j b p e e';cases kvs with
   |nil=>simp at e'
   |cons q kvs=>
    let#[p1,p2]:=List.pairwise_cons.mp pw;show ((a,q)::as.zip kvs).lookup b\p;cases j with
    |zero=>
     have e:a=b:=⇑e
     have e':q=p:=⇑e'
     subst e;subst e';rw[List.lookup_cons_self]
    |succ j=>
     have e:as[j]? = some b:=⇑e
     have e':kvs[j]? = some p:=⇑e'
     let lt:=p1 b (cJ e);rw[qr,show (b == a)=false by simp only[beq_eq_false_iff_ne];exact jf lt];exact ih p2 j b p e e'
 have lk:as.length=kvs.length:=by omega
 let H1:Hp:=λb=>if b∈as then ((as.zip kvs).lookup b).map λp=>HO.tup [kV p.1,p.2] else H b
 have Fu:∀(j:Nat) b p,as[j]? = some b->kvs[j]? = some p->H1 b\.tup [kV p.1,p.2]:=λj b p e e'=>by
  show (if b∈as then _ else _)=_;rw[aK (cJ e),look G.rise j b p e e'];rfl
 have oi:∀b,b∉as->H1 b=H b:=λb hb=>aD hb;have old:∀b,b<s.heap.objs.size->b∉as:=λb hb m=>absurd (up b m) Y0;apply q H1 (as.map V.ref) _ _ (I.many (t':=tk) k (λb o e=>by rw[oi b (old b (I.aF.lt e))];exact e) (λb e hb=>by rw[oi b (old b hb)];exact e) λb o e e0=>?_) (λb o e=>by rw[oi b (old b (I.aF.lt e))];exact e) ?_ ?_
 ·by_cases m:b∈as
  ·let#[j,hj]:=List.mem_iff_getElem?.mp m
   have jl:j<kvs.length:=by
    have:=(cw.mp hj).1;omega
   let e':=Fu j b kvs[j] hj (aX jl);rw[e] at e';cases e';let#[its,r,t]:=at1 j b _ hj (aX jl);exact#[_,its,U,zl,r,t]
  rw[oi b m,e0] at e;cases e
 ·have gen:∀as:av,Vals (as.map V.ref) (as.map Value.ref):=λas=>by
   induction as with
   |nil=>exact .nil
   |cons a as ih=>exact .cons U ih
  exact gen as
 have gen:∀(CT:av) (fC:List (Key × V)),CT.length=fC.length->(∀(j:Nat) b p,CT[j]? = some b->fC[j]? = some p->H1 b\.tup [kV p.1,p.2])->kM X.K H1 (CT.map V.ref) fC:=λCT=>by
  induction CT with
  |nil=>
   intro fC hl _;cases fC with
   |nil=>exact .nil
   |cons _ _=>cases hl
  |cons a CT ih=>
   intro fC hl h;cases fC with
   |nil=>cases hl
   |cons p fC=>exact .cons #[a,U,h 0 a p U U] (ih fC ⇑hl λj b p e e'=>h (j+1) b p ⇑e ⇑e')
 exact gen as kvs lk Fu
end
end L2
namespace L2
open PySem PySem.Spec PyProof.Rows PySem.W jk c_
theorem S0{a b:ae}(h:a.map bP=b.map bP):a=b:=by
 induction a generalizing b with
 |nil=>
  cases b with
  |nil=>rfl
  |cons _ _=>cases h
 |cons x a ih=>
  cases b with
  |nil=>cases h
  |cons y b=>
   let#[h1,h2]:=List.cons.inj h;have h1:[(Sum.inr x:Key)]=[Sum.inr y]:=h1;cases h1;rw[ih h2]
theorem Oe(ss:ae):(iE ss).map bP=bh (ss.map bP):=by
 have all:∀k∈bh (ss.map bP),∃x,k=bP x:=λk hk=>by
  let#[x,_,e]:=bx.mp ((ug _).mem_iff.mp hk);exact#[x,e.symm]
 have gen:∀l:List aw,(∀k∈l,∃x,k=bP x)->(l.map λk=>match k with | [.inr x]=>x|_=>(⟨#[]⟩:Str)).map bP=l:=λl=>by
  induction l with
  |nil=>exact λ_=>rfl
  |cons k l ih=>
   intro h;let#[x,rfl]:=h k fY;rw[fE,fE,ih λk hk=>h k (fo _ hk)];rfl
 exact gen _ all
theorem Gz(ss:ae):(iE ss).Perm ss:=by
 have p:((iE ss).map bP).Perm (ss.map bP):=by rw[Oe];exact ug _
 have back:∀l:ae,(l.map bP).map (λk=>match k with | [.inr x]=>x|_=>(⟨#[]⟩:Str))=l:=λl=>by
  rw[cA]
  induction l with
  |nil=>rfl
  |cons x l ih=>rw[fE,ih];rfl
 let q:=p.map (λk=>match k with | [.inr x]=>x|_=>(⟨#[]⟩:Str));rwa [back,back] at q
section
variable{X:Cx}{pins:List (Addr × Obj)}{σ:St}{H:Hp}{s:Ab}
theorem eh_{u:Aa}{ss:ae}{Q:VK}(cX:ss.length<64)(l_:wpAny (model X.prog X.w) X.A.in1 (collect u) (λvs s1=>∃H1,Inv X pins σ H1 s1/\Vals (ss.map V.str) vs/\∀l,H1 l=none->Q (.ref l) (upd H1 l (.lst ((iE ss).map V.str)))) X.xe s) :
  wpAny (model X.prog X.w) X.A (call (.builtin "sorted") [u]) (EP X pins σ Q) X.xe s:=by
 apply UB (Nm (ss.map bP)) (aU l_ λvs s1 ⟨H1,I1,r,q⟩=>?_);have hl:vs.length=ss.length:=by rw[<- r.length,aq]
 apply#[by omega,λh2 h' _=>TL (Sk r) h2,λp h' e g up hD kp=>?_];have g':Good (ss.map bP).length p:=by rw[aq,<- hl];exact g
 let asc:=M6 (ks:=ss.map bP) (λi j _ _=>rfl) g' (by rw[aq,<- hl];exact up)
 have perm:(p.toList.map λi=>(ss.map bP).getD i []).Perm (ss.map bP):=by
  have:=GD g' λi=>(ss.map bP).getD i [];rwa [GI] at this
 let es:=NW perm asc
 have inr:∀i∈p.toList,i<ss.length:=λi hi=>by
  have m:i∈(List.range vs.length).toArray:=g.mem_iff.mp ⇑hi;rw[hl] at m;simpa using m
 have e1:(p.toList.map λi=>ss.getD i ⟨#[]⟩)=iE ss:=by
  apply S0 ?_;rw[Oe,<- es,cA];apply u9 λi hi=>?_;have:=inr i hi;simp[this]
 let rv:=NL r g
 have e2:(p.toList.map λi=>(ss.map V.str).getD i .non)=(iE ss).map V.str:=by
  rw[<- e1,cA];apply u9 λi hi=>?_;have:=inr i hi;simp[this]
 rw[e2] at rv;apply#[.ref s1.heap.objs.size,_,I1.laid (t':=s1.toks) kp (a9 _) (show fj X.prog X.w _ h' _ (.lst ((iE ss).map V.str)) from #[?_,mr p vs,e,rv,hD]),U,q _ (I1.aF.fresh (a9 _))];rw[aq,(Gz ss).length_eq];have:=cK;omega
theorem hO_{K:af}{H:Hp}{ys:ag}{ks:List aw}(t:bS K H ys ks):∀l:List Nat,(∀i∈l,i<ys.length)->bS K H (l.map λi=>ys.getD i .non) (l.map λi=>ks.getD i []):=λl=>by
 induction l with
 |nil=>exact λ_=>.nil
 |cons i l ih=>
  intro h;apply .cons ?_ (ih λj hj=>h j (fo _ hj));let hi:=h i fY
  have gen:∀{ys:ag} {ks:List aw} (i:Nat),i<ys.length->bS K H ys ks->∃a,ys.getD i .non=V.ref a/\H a\.tup ((ks.getD i []).map kV):=λ{ys ks} i hy t=>by
   induction t generalizing i with
   |nil=>exact absurd hy Y1
   |cons h t ih=>
    cases i with
    |zero=>exact h
    |succ i=>exact ih i ⇑hy
  exact gen i hi t
theorem UI{u:Aa}{ks:List aw}{sh:List Bool}{Q:VK}(cX:ks.length<64)(al:Alike ks sh)
  (l_:wpAny (model X.prog X.w) X.A.in1 (collect u) (λvs s1=>∃H1 ys,Inv X pins σ H1 s1/\Vals ys vs/\bS X.K H1 ys ks/\∀l zs,H1 l=none->bS X.K H1 zs (bh ks)->zs.Perm ys->Q (.ref l) (upd H1 l (.lst zs))) X.xe s) :
  wpAny (model X.prog X.w) X.A (call (.builtin "sorted") [u]) (EP X pins σ Q) X.xe s:=by
 apply UB (Nm ks) (aU l_ λvs s1 ⟨H1,ys,I1,r,t,q⟩=>?_);let l1:=r.length;let l2:=bI t;have hl:vs.length=ks.length:=by omega
 apply#[by omega,λh2 h' k=>gI_ I1 r t al h2 k,λp h' e g up hD kp=>?_];have g':Good ks.length p:=by rw[<- hl];exact g
 let asc:=M6 (ks:=ks) (λi j _ _=>rfl) g' (by rw[<- hl];exact up)
 have perm:(p.toList.map λi=>ks.getD i []).Perm ks:=by
  have:=GD g' λi=>ks.getD i [];rwa [GI] at this
 let es:=NW perm asc
 have inr:∀i∈p.toList,i<ys.length:=λi hi=>by
  have m:i∈(List.range vs.length).toArray:=g.mem_iff.mp ⇑hi;rw[<- l1] at m;simpa using m
 let tz:=hO_ t p.toList inr;rw[es] at tz;let rv:=NL r g
 have pz:(p.toList.map λi=>ys.getD i .non).Perm ys:=by
  have:=GD (n:=ys.length) (by rw[l1];exact g) λi=>ys.getD i .non;rwa [GI] at this
 apply#[.ref s1.heap.objs.size,_,I1.laid (t':=s1.toks) kp (a9 _) (show fj X.prog X.w _ h' _ (.lst (p.toList.map λi=>ys.getD i .non)) from #[?_,mr p vs,e,rv,hD]),U,q _ _ (I1.aF.fresh (a9 _)) tz pz];rw[pz.length_eq];have:=cK;omega
end
section
variable{X:Cx}
inductive nJ (K:af) (xs:ag) (H:Hp) (Q:VK):Prop
 |mk:∀d kvs sh,xs=[.ref d]->H d\.dT kvs->Alike (kvs.map (·.1)) sh->kvs.length<64->(∀l zs,H l=none->bS K H zs (bh (kvs.map (·.1)))->Q (.ref l) (upd H l (.lst zs)))->nJ K xs H Q
theorem ez_(hc:X.calm=true):gn X (.builtin "sorted") (nJ X.K):=by
 intro pins s σ H xs us Q I r h;let#[d,kvs,sh,rfl,hd,al,cX,q]:=h;let#[u,rfl,ru]:=vals1 r;cases ru;exact UI (by rw[aq];exact cX) al (Ya (I.ok.hd hc) I (.inl hd) λys vs s1 I1 r1 t=>⟨H,ys,I1,r1,t,λl zs n t' _=>q l zs n t'⟩)
inductive nK (xs:ag) (H:Hp) (Q:VK):Prop
 |mk:∀d kvs ss,xs=[.ref d]->H d\.dK kvs->kvs.map (·.1)=ss.map Sum.inr->ss.length<64->(∀l,H l=none->Q (.ref l) (upd H l (.lst ((iE ss).map V.str))))->nK xs H Q
theorem eP_(hc:X.calm=true):gn X (.builtin "sorted") nK:=by
 intro pins s σ H xs us Q I r h;let#[d,kvs,ss,rfl,hd,ek,cX,q]:=h;let#[u,rfl,ru]:=vals1 r;cases ru;apply eh_ cX (Rc (I.ok.hd hc) I (.inl hd) λvs s1 I1 r1=>⟨H,I1,?_,q⟩)
 have e:(kvs.map λkv=>kV kv.1)=ss.map V.str:=by
  rw[show (kvs.map λkv=>kV kv.1)=(kvs.map (·.1)).map kV by rw[cA];rfl,ek,cA];rfl
 rwa [e] at r1
inductive sf (K:af) (xs:ag) (H:Hp) (Q:VK):Prop
 |mk:∀(v d:Addr) (kvs:List (Key × V)) (ks:List (Key × Key)) (sh:List Bool),xs=[.ref v]->H v\tX v d->H d\.dK kvs->kvs=ks.map (λk:Key × Key=>(k.1,kV k.2))->Alike (ks.map λk=>[k.1,k.2]) sh->ks.length<64->(∀l H1 zs,aa H H1->H1 l=none->bS K H1 zs (bh (ks.map λk=>[k.1,k.2]))->Q (.ref l) (upd H1 l (.lst zs)))->sf K xs H Q
theorem fP_(hc:X.calm=true):gn X (.builtin "sorted") (sf X.K):=by
 intro pins s σ H xs us Q I r h;let#[v,d,kvs,ks,sh,rfl,hv,hd,ek,al,cX,q]:=h;let#[u,rfl,ru]:=vals1 r;cases ru;apply UI (by rw[aq];exact cX) al (gq_ (I.ok.hd hc) I hv (.inl hd) λH1 ys vs s1 I1 sm r1 t=>⟨H1,ys,I1,r1,?_,λl zs n t' _=>q l H1 zs sm n t'⟩);subst ek
 have gen:∀(ks:List (Key × Key)) (ys:ag),kM X.K H1 ys (ks.map (λk:Key × Key=>(k.1,kV k.2)))->bS X.K H1 ys (ks.map λk=>[k.1,k.2]):=λks=>by
  induction ks with
  |nil=>
   intro ys t;cases t;exact .nil
  |cons k ks ih=>
   intro ys t;cases t with
   |cons h t=>exact .cons h (ih _ t)
 exact gen ks ys t
inductive sk (xs:ag) (H:Hp) (Q:VK):Prop
 |mk:∀d kvs,xs=[.ref d]->Rd H d (.dK kvs)->(∀l,H l=none->Q (.ref l) (upd H l (.lst (kvs.map λkv=>kV kv.1))))->sk xs H Q
theorem Ot(hc:X.calm=true):gn X (.type "list") sk:=by
 intro pins s σ H xs us Q I r h;let#[d,kvs,rfl,hd,q]:=h;let#[u,rfl,ru]:=vals1 r;cases ru;let#[P,OK,S,ok,hp]:=Q_ I hd;let z:=(kR I.aF hd).1;apply kdl_call S (I.ok.hd hc) ok (by rw[aq];exact z) λh' tk acc c k hD a=>?_;apply#[.ref s.heap.objs.size,_,I.laid (t':=tk) k (a9 _) (show fj X.prog X.w _ h' _ (.lst (kvs.map λkv=>kV kv.1)) from #[by rw[aq];exact z,acc.toList,c,JP a hp,by rw[Array.toArray_toList];exact hD]),U,q _ I.fresh]
theorem KV.eW{κ:Type}[DecidableEq κ]:∀{more:List (κ × V)} {rs:List (κ × Aa)} {kvs:List (κ × V)} {vs:List (κ × Aa)},KV more rs->KV kvs vs->KV (more.foldl (λacc kv=>putK acc kv.1 kv.2) kvs) (c_.eW vs rs):=λ{more rs kvs vs} h=>by
 induction h generalizing kvs vs with
 |nil=>exact λh=>h
 |@cons p q _ _ h _ ih=>
  intro h2;let#[k,y]:=p;let#[k',u]:=q;let#[h1,h3]:=h;have h1:k=k':=h1;subst h1;exact ih (h2.put k h3)
inductive nO (K:af) (xs:ag) (H:Hp) (Q:VK):Prop
 |mk:∀p ys kvs,xs=[.ref p]->H p\.lst ys->kM K H ys kvs->kvs.length<=1000->(∀l,H l=none->Q (.ref l) (upd H l (.dK (wR [] kvs))))->nO K xs H Q
theorem BH(hc:X.calm=true):gn X (.type "dict") (nO X.K):=by
 intro pins s σ H xs us Q I r h;let#[p,ys,kvs,rfl,hp,t,hz,q]:=h;let#[u,rfl,ru]:=vals1 r;cases ru;let#[z,its,n,rv,hl,ho]:=I.jJ hp
 have gen:∀{ys:ag} {its:aj} {kvs:List (Key × V)},Vals ys its->kM X.K H ys kvs->∃ps,KV kvs ps/\Ny (d0 X.prog X.w) s.heap its ps:=λ{ys its kvs} rv t=>by
  induction t generalizing its with
  |nil=>
   cases rv;exact#[[],.nil,.nil]
  |@cons y p ys kvs h t ih=>
   cases rv with
   |cons r0 rv=>
    let#[ps,h1,h2]:=ih rv;let#[a,e,sq]:=h;subst e;cases r0;let#[tv,rt,it,_]:=I.tuple (fH.of sq);let#[key,x,e2,rk,rx]:=vals2 rt;subst e2;apply#[(p.1,x)::ps,Paired.cons (show p.1=p.1/\RelV p.2 x from #[U,rx]) h1,Paired.cons (show ∃a' Eu,Value.ref a=.ref a'/\IsTup s.heap a' (List.toArray [Eu,x])/\(d0 X.prog X.w).is p.1 Eu=true from #[a,key,U,it,wD rk]) h2]
 let#[ps,h1,h2]:=gen rv t;let lp:=KV.length h1;apply ee_ (knd:=d0 X.prog X.w) (I.ok.hd hc) ho h2 Y0 λh' tk hd kp=>?_;apply#[.ref s.heap.objs.size,_,I.laid (t':=tk) kp (a9 _) (Mx ?_ (beq_eq_false_iff_ne.mpr (dJ (dH I.big))) (KV.eW h1 .nil) hd),U,q _ I.fresh];have:=Pa kvs [];have:=cK;simp only[List.length_nil] at *;show (wR [] kvs).length<=sizeLine;omega
theorem NU:∀{bs:List Bool} {vs:aj},Vals (bs.map V.bl) vs->vs=bs.map Value.bool
 |[],_,.nil=>rfl
 |b::bs,_,.cons h t=>by
  cases h;rw[NU t];rfl
inductive zQ (K:af) (g:List Bool->Bool) (xs:ag) (H:Hp) (Q:VK):Prop
 |mk:∀p bs,xs=[.ref p]->d6 K H p (bs.map V.bl)->Q (.bl (g bs)) H->zQ K g xs H Q
theorem Ub(hc:X.calm=true):gn X (.builtin "all") (zQ X.K λbs=>bs.all id):=by
 intro pins s σ H xs us Q I r h;let#[p,bs,rfl,hp,q]:=h;let#[u,rfl,ru]:=vals1 r;cases ru;let#[its,rv,pl,z]:=I.list hp;obtain rfl:=NU rv;let hl:=pl.isList;have lt:p<s.heap.objs.size:=by let#[_,e,_]:=hl;exact bK e
 apply call_all_walk (wpAny_pyIter_list hl ⟨s.heap.objs.size,[s.heap.objs.size,p],[s.heap.objs.size],(bs.map Value.bool).toArray.size,_,_,λi=>(bs[i]?).getD true,rfl,Walks.list (A:=X.A.in1) (I.ok.hd hc) _ p (dH lt) _,⟨⟨_,dq _ rfl,rfl,rfl⟩,hl.push _⟩,λi v s' Q' E' hP hQ=>?_,λh' tk hk=>?_⟩)
 ·have hP:(bs.map Value.bool).toArray[i]? = some v:=hP;simp only[List.getElem?_toArray,df] at hP;cases e:bs[i]? with
  |none=>rw[e] at hP;cases hP
  |some b=>
   have hQ:Q' ((bs[i]?).getD true) s':=hQ;rw[e] at hP hQ;cases hP;exact tR hQ
 have e:((List.range (bs.map Value.bool).toArray.size).all λi=>(bs[i]?).getD true)=bs.all id:=by
  rw[cY,aq];exact LSm.range_all bs
 rw[e];exact#[.bl _,H,I.kept (LSm.kept_iter hk),U,q]
theorem _Q(hc:X.calm=true):gn X (.builtin "any") (zQ X.K λbs=>bs.any id):=by
 intro pins s σ H xs us Q I r h;let#[p,bs,rfl,hp,q]:=h;let#[u,rfl,ru]:=vals1 r;cases ru;let#[its,rv,pl,z]:=I.list hp;obtain rfl:=NU rv;let hl:=pl.isList;have lt:p<s.heap.objs.size:=by let#[_,e,_]:=hl;exact bK e
 apply call_any_walk (wpAny_pyIter_list hl #[s.heap.objs.size,[s.heap.objs.size,p],[s.heap.objs.size],(bs.map Value.bool).toArray.size,_,_,λi=>(bs[i]?).getD false,U,Walks.list (A:=X.A.in1) (I.ok.hd hc) _ p (dH lt) _,#[#[_,dq _ U,U,U],hl.push _],λi v s' Q' E' hP hQ=>?_,λh' tk hk=>?_])
 ·have hP:(bs.map Value.bool).toArray[i]? = some v:=hP;simp only[List.getElem?_toArray,df] at hP;cases e:bs[i]? with
  |none=>rw[e] at hP;cases hP
  |some b=>
   have hQ:Q' ((bs[i]?).getD false) s':=hQ;rw[e] at hP hQ;cases hP;exact tR hQ
 have e:((List.range (bs.map Value.bool).toArray.size).any λi=>(bs[i]?).getD false)=bs.any id:=by
  rw[cY,aq];exact LSm.range_any bs
 rw[e];exact#[.bl _,H,I.kept (LSm.kept_iter hk),U,q]
end
end L2
namespace GV
open PySem PySem.SeqAt PyProof.Rows
open AutoSeq1 (wpAny_loadPart')
open MeetsSeq MeetsSeq2 MeetsSeq3 SeqRoads2
theorem XZ(l b:Addr)(xs ys:Array Aa)(n m:Nat)(dl db:Option Addr)(sl sb:Array (Option Aa))(hs:xs.size=ys.size)(e:Nat->Bool)(k:Nat) :
  ∀i:Nat,xs.size - i=k->Meets (Builtin.«list.__eq__.loop» #[[.ref l,.ref b,rawInt i,rawInt 3],[]])
   (λA R s=>(s.heap.get? l=some { cls:=.type "list",dict:=dl,data:=.seq xs n,slots:=sl }/\s.heap.get? b=some { cls:=.type "list",dict:=db,data:=.seq ys m,slots:=sb }) /\
    (∀j (h1:j<xs.size) (h2:j<ys.size),EqAt A.in1 s xs[j] ys[j] (e j))/\R (.ok (.ret (.bool (!((List.range xs.size).drop i).all e)))) s):=by
 induction k with
 |zero=>
  intro i hk prog w A R s ⟨⟨gl,gb⟩,he,h⟩;let#[hp,g,d,tk,os]:=s
  wp_walk using pF gl,pF gb
  rw[show xs[((i:Nat):Int).toNat]? = none by simp;omega,show ys[((i:Nat):Int).toNat]? = none by simp;omega];rw[show (List.range xs.size).drop i=[] by simp;omega] at h
  wp_walk using pF gl,pF gb
  apply (show R (.ok (.ret (.bool (xs.size != ys.size)))) _ from ?_);rw[show (xs.size != ys.size)=false by simp[hs]];exact h
 |succ k ih=>
  intro i hk prog w A R s ⟨⟨gl,gb⟩,he,h⟩;let#[hp,g,d,tk,os]:=s
  wp_walk using pF gl,pF gb
  have z1:i<xs.size:=by omega
  have z2:i<ys.size:=by omega
  have q1:xs[((i:Nat):Int).toNat]? = some xs[i]:=by simp[z1]
  have q2:ys[((i:Nat):Int).toNat]? = some ys[i]:=by simp[z2]
  rw[show (List.range xs.size).drop i=i::(List.range xs.size).drop (i+1) by simp[List.drop_eq_getElem_cons,z1],List.all_cons] at h;rw[q1,q2];apply ai (he i z1 z2 prog w _ _ ?_);cases c:e i with
  |true=>
   rw[c] at h
   wp_walk
   rw[show ((i:Int)+1)=((i+1:Nat):Int) by omega];apply#[plainId_quiet plain_eq_loop _,codeAny_builtin entry_eq_loop ?_];rw[yw plain_eq_loop _];exact ih (i+1) Y0 prog w A R _ #[#[gl,gb],he,by simpa using h]
  |false=>
   rw[c] at h
   wp_walk using pF gl,pF gb
   rw[q1,q2]
   wp_walk
   simpa using h
theorem _e(l b:Addr)(xs ys:Array Aa)(n m:Nat)(dl db:Option Addr)(sl sb:Array (Option Aa))(hs:xs.size=ys.size)(e:Nat->Bool) :
  Meets (Builtin.«list.__ne__» #[[.ref l,.ref b],[]])
   (λA R s=>(s.heap.get? l=some { cls:=.type "list",dict:=dl,data:=.seq xs n,slots:=sl }/\s.heap.get? b=some { cls:=.type "list",dict:=db,data:=.seq ys m,slots:=sb }) /\
    (∀j (h1:j<xs.size) (h2:j<ys.size),EqAt A.in1 s xs[j] ys[j] (e j))/\R (.ok (.ret (.bool (!(List.range xs.size).all e)))) s):=by
 intro prog w A R s ⟨⟨gl,gb⟩,he,h⟩;let#[hp,g,d,tk,os]:=s;let f3:=AutoSeq1.sub_list_list;have no:¬(xs.size != ys.size)=true:=by simp[hs]
 wp_walk using pF gl,pF gb
 apply#[plainId_quiet plain_eq_loop _,codeAny_builtin entry_eq_loop ?_];rw[yw plain_eq_loop _];exact XZ l b xs ys n m dl db sl sb hs e _ 0 U prog w A R _ #[#[gl,gb],he,by simpa using h]
theorem _A(l b:Addr)(xs ys:Array Aa)(n m:Nat)(dl db:Option Addr)(sl sb:Array (Option Aa))(hs:(xs.size != ys.size)=true) :
  Meets (Builtin.«list.__ne__» #[[.ref l,.ref b],[]])
   (λA R s=>(s.heap.get? l=some { cls:=.type "list",dict:=dl,data:=.seq xs n,slots:=sl }/\s.heap.get? b=some { cls:=.type "list",dict:=db,data:=.seq ys m,slots:=sb })/\R (.ok (.ret (.bool true))) s):=
 .of_wp λprog w A R s ⟨⟨gl,gb⟩,h⟩=>by
  let#[hp,g,d,tk,os]:=s;let f3:=AutoSeq1.sub_list_list
  wp_walk using pF gl,pF gb
  exact#[_,U,h]
section
variable{prog:Ad}{w:Af}{A:Ag}{E:Aa->Ab->Prop}{s:Ab}
theorem iJ{l b:Addr}{xs ys:Array Aa}{e:Nat->Bool}{Q:Aa->Ab->Prop}(hl:s.heap.IsList l xs)(hb:s.heap.IsList b ys)(hs:xs.size=ys.size)(hu:A.units<cLine)
  (he:∀j (h1:j<xs.size) (h2:j<ys.size),EqAt A.in1 s xs[j] ys[j] (e j)) (h:Q (.bool (!(List.range xs.size).all e)) s):wpAny (model prog w) A (compareOp .NotEq (.ref l) (.ref b)) Q E s:=by
 let#[#[c1,d1,t1,l1],o1,k1,n1,z1]:=id hl;let#[#[c2,d2,t2,l2],o2,k2,n2,z2]:=id hb;simp only at k1 z1 k2 z2;subst k1 z1 k2 z2;exact richCompare_meets_room (op:=.NotEq) #[_,o1,U] #[_,o2,U] F.slot_list_ne F.entry_list_ne (F.args_list_ne_2 _ _) (_e l b xs ys n1 n2 d1 d2 l1 l2 hs e) #[#[o1,o2],he,show Value.bool (!(List.range xs.size).all e)≠Value.notImplemented/\Q (.bool (!(List.range xs.size).all e)) s from #[(λx=>nomatch x),h]] hu
theorem gX{l b:Addr}{xs ys:Array Aa}{Q:Aa->Ab->Prop}(hl:s.heap.IsList l xs)(hb:s.heap.IsList b ys)(hs:(xs.size != ys.size)=true)(hu:A.units<cLine)(h:Q (.bool true) s):wpAny (model prog w) A (compareOp .NotEq (.ref l) (.ref b)) Q E s:=by
 let#[#[c1,d1,t1,l1],o1,k1,n1,z1]:=id hl;let#[#[c2,d2,t2,l2],o2,k2,n2,z2]:=id hb;simp only at k1 z1 k2 z2;subst k1 z1 k2 z2;exact richCompare_meets_room (op:=.NotEq) #[_,o1,U] #[_,o2,U] F.slot_list_ne F.entry_list_ne (F.args_list_ne_2 _ _) (_A l b xs ys n1 n2 d1 d2 l1 l2 hs) #[#[o1,o2],show Value.bool true≠Value.notImplemented/\Q (.bool true) s from #[(λx=>nomatch x),h]] hu
end
end GV
namespace L2
open PySem PySem.Spec PyProof.Rows PySem.W jk c_
abbrev Rp(D:Type):=Hp->V->D->Prop
structure jm (X:Cx) (n:Nat) {D:Type} [DecidableEq D] (R:Rp D):Prop where
 eq:∀{pins:List (Addr × Obj)} {σ:St} {H:Hp} {s:Ab} {A:Ag} {x y:V} {u v:Aa} {d e:D},Inv X pins σ H s->RelV x u->RelV y v->R H x d->R H y e->A.units+n<cLine->SeqAt.EqAt A s u v (decide (d=e))
 one:∀{pins:List (Addr × Obj)} {σ:St} {H:Hp} {s:Ab} {x:V} {d e:D},Inv X pins σ H s->R H x d->R H x e->d=e
def rS:Rp Str:=λ_ x d=>x=.str d
def rZ:Rp Int:=λ_ x d=>x=.int d
def r2(K:af){D1 D2:Type}(R1:Rp D1)(R2:Rp D2):Rp (D1 × D2):=λH x d=>∃a u v,x=.ref a/\fH K H a [u,v]/\R1 H u d.1/\R2 H v d.2
def rL(K:af){D:Type}(R:Rp D):Rp (List D):=λH x ds=>∃a xs,x=.ref a/\d6 K H a xs/\Paired (R H) xs ds
section
variable{X:Cx}
theorem gK:jm X 0 rS where
 eq:=λ{pins σ H s A x y u v d e} I ru rv hx hy hu=>by
  have hx:x=.str d:=hx;have hy:y=.str e:=hy;subst hx;subst hy;let q:=yE (A:=A) (s:=s) ru rv U U
  have e2:ph (.str d) (.str e)=decide (d=e):=by
   show (d == e)=_;by_cases h:d=e
   ·subst h;simp
   simp[h]
  rwa [e2] at q
 one:=λ{pins σ H s x d e} I hx hy=>by
  have hx:x=.str d:=hx;have hy:x=.str e:=hy;rw[hx] at hy;exact V.str.inj hy
theorem Oi:jm X 0 rZ where
 eq:=λ{pins σ H s A x y u v d e} I ru rv hx hy hu=>by
  have hx:x=.int d:=hx;have hy:y=.int e:=hy;subst hx;subst hy;let q:=yE (A:=A) (s:=s) ru rv U U
  have e2:ph (.int d) (.int e)=decide (d=e):=by
   show (d == e)=_;by_cases h:d=e
   ·subst h;simp
   simp[h]
  rwa [e2] at q
 one:=λ{pins σ H s x d e} I hx hy=>by
  have hx:x=.int d:=hx;have hy:x=.int e:=hy;rw[hx] at hy;exact V.int.inj hy
theorem wV{h:Heap}{a:Addr}{its:Array Aa}(t:IsTup h a its):h.IsTuple a its:=t
theorem Bn{n m:Nat}{D1 D2:Type}[DecidableEq D1][DecidableEq D2]{R1:Rp D1}{R2:Rp D2}(c1:jm X n R1)(c2:jm X m R2):jm X (max n m+1) (r2 X.K R1 R2) where
 one:=λ{pins σ H s x d e} I hx hy=>by
  let#[a,u,v,rfl,t,q1,q2]:=hx;let#[b,u',v',e0,t',Hj,Hh]:=hy;cases e0;let e1:=I.dz t t';cases e1;exact Prod.ext (c1.one I q1 Hj) (c2.one I q2 Hh)
 eq:=λ{pins σ H s A x y u v d e} I ru rv hx hy hu=>by
  let vU:=hx;let hy':=hy;let#[a,x1,x2,rfl,t,q1,q2]:=hx;let#[b,y1,y2,rfl,t',Hj,Hh]:=hy;cases ru;cases rv;by_cases tE:a=b
  ·subst tE;let e1:=I.dz t t';cases e1;have:d=e:=Prod.ext (c1.one I q1 Hj) (c2.one I q2 Hh);rw[dc this];exact SeqAt.EqAt.same _
  let#[its,r,it,_]:=I.tuple t;let#[its',r',_a,_]:=I.tuple t';let#[u1,u2,rfl,r1,r2]:=vals2 r;let#[w1,w2,rfl,WL,WH]:=vals2 r'
  let key:=SeqAt.EqAt.of_refs tE (SeqAt.RcAt.tuples (A:=A) (s:=s) (e:=λj=>if j=0 then decide (d.1=e.1) else decide (d.2=e.2)) (wV it) (wV _a) Y0 λj h1 h2=>by
   match j,h1,h2 with
   |0,_,_=>exact c1.eq I r1 WL q1 Hj (by show A.units+1+n<cLine;omega)
   |1,_,_=>exact c2.eq I r2 WH q2 Hh (by show A.units+1+m<cLine;omega))
  have e3:((List.range (min [u1,u2].toArray.size [w1,w2].toArray.size)).all (λj=>if j=0 then decide (d.1=e.1) else decide (d.2=e.2))&&[u1,u2].toArray.size == [w1,w2].toArray.size)=decide (d=e):=by
   show (decide (d.1=e.1)&&(decide (d.2=e.2)&&true)&&true)=_;by_cases h1:d.1=e.1
   ·by_cases h2:d.2=e.2
    ·have:d=e:=Prod.ext h1 h2;simp[this]
    have:¬d=e:=λz=>h2 (by rw[z]);simp[h1,h2,this]
   have:¬d=e:=λz=>h1 (by rw[z]);simp[h1,this]
  rw[e3] at key;exact key
theorem dP{α β:Type}{F:α->β->Prop}:∀{l:List α} {m:List β},Paired F l m->∀(i:Nat) (h1:i<l.length) (h2:i<m.length),F l[i] m[i]
 |_,_,.cons h t,0,_,_=>h
 |_,_,.cons h t,i+1,h1,h2=>dP t i ⇑h1 ⇑h2
theorem UL{D:Type}[DecidableEq D]:∀{ds es:List D},ds.length=es.length->((List.range ds.length).all λj=>decide (ds[j]? = es[j]?))=decide (ds=es):=λ{ds es} hl=>by
 by_cases h:ds=es
 ·subst h;simp
 rw[fO h]
 have:∃i,i<ds.length/\ds[i]?≠es[i]?:=by
  apply Classical.byContradiction λhn=>h ?_;apply List.ext_getElem? ?_;intro i;by_cases hi:i<ds.length
  ·exact Classical.byContradiction λq=>hn #[i,hi,q]
  rw[List.getElem?_eq_none Y0,List.getElem?_eq_none Y0]
 let#[i,hi,q]:=this;rw[List.all_eq_false];exact#[i,by simpa using hi,by simpa using q]
theorem Ou{D:Type}[DecidableEq D]{n:Nat}{R:Rp D}(c:jm X n R){pins:List (Addr × Obj)}{σ:St}{H:Hp}{s:Ab}(I:Inv X pins σ H s):∀{xs:ag} {ds es:List D},Paired (R H) xs ds->Paired (R H) xs es->ds=es
 |_,_,_,.nil,.nil=>rfl
 |_,_,_,.cons h t,.cons h' t'=>by rw[c.one I h h',Ou c I t t']
theorem NF{D:Type}[DecidableEq D]{n:Nat}{R:Rp D}(c:jm X n R){pins:List (Addr × Obj)}{σ:St}{H:Hp}{s:Ab}{A:Ag}(I:Inv X pins σ H s){xs ys:ag}{us vs:aj}{ds es:List D}(ru:Vals xs us)(rv:Vals ys vs)(hx:Paired (R H) xs ds)(hy:Paired (R H) ys es)(hu:A.units+n<cLine) :
  ∀j (h1:j<us.toArray.size) (h2:j<vs.toArray.size),SeqAt.EqAt A s us.toArray[j] vs.toArray[j] (decide (ds[j]? = es[j]?)):=λj h1 h2=>by
 let l1:=ru.length;let l2:=rv.length;let l3:=bI hx;let l4:=bI hy;simp only[cY] at h1 h2;let q:=c.eq (A:=A) I (dP ru j Y0 h1) (dP rv j Y0 h2) (dP hx j Y0 Y0) (dP hy j Y0 Y0) hu
 have e:decide (ds[j]? = es[j]?)=decide (ds[j]' Y0=es[j]' Y0):=by
  rw[aX Y0,aX Y0];by_cases z:ds[j]' Y0=es[j]' Y0
  ·simp[z]
  simp[z]
 rw[e];exact q
def DW{D:Type}[DecidableEq D](R:Rp D)(neg:Bool):V->V->Hp->VK->Prop:=λx y H Q=>∃d e,R H x d/\R H y e/\Q (.bl (if neg then !decide (d=e) else decide (d=e))) H
theorem Yi{n:Nat}{D:Type}[DecidableEq D]{R:Rp D}(c:jm X n R)(hu:X.A.units+n+1<cLine):dW X (compareOp .NotEq) (DW (rL X.K R) true):=by
 intro pins s σ H x y v u Q I rx ry h;let#[d,e,#[a,xs,rfl,t,q],#[b,ys,rfl,t',q'],hq]:=h;cases rx;cases ry;let#[us,r,pl,_]:=I.list t;let#[vs,r',uF,_]:=I.list t';let l1:=r.length;let l2:=r'.length;let l3:=bI q;let l4:=bI q';have hq:Q (.bl (!decide (d=e))) H:=hq;by_cases hl:d.length=e.length
 ·apply GV.iJ pl.isList uF.isList (by simp only[cY];omega) Y0 (NF c I r r' q q' (A:=X.A.in1) (by show X.A.units+1+n<cLine;omega)) #[.bl _,H,I,U,?_];rw[show us.toArray.size=d.length by simp only[cY];omega,UL hl];exact hq
 apply GV.gX pl.isList uF.isList (by simp only[cY,bne_iff_ne];omega) Y0 #[.bl _,H,I,U,?_];rwa [fO (λz=>hl (by rw[z]))] at hq
def zP(K:af){D:Type}[DecidableEq D](R:Rp D)(neg:Bool):V->V->Hp->VK->Prop:=λx y H Q=>∃d es,R H x d/\rL K R H y es/\Q (.bl (if neg then !decide (d∈es) else decide (d∈es))) H
theorem LP{D:Type}[DecidableEq D]{n:Nat}{R:Rp D}(c:jm X n R){pins:List (Addr × Obj)}{σ:St}{H:Hp}{s:Ab}{A:Ag}(I:Inv X pins σ H s){x:V}{u:Aa}{d:D}(ru:RelV x u)(hx:R H x d)(hu:A.units+n<cLine):∀{ys:ag} {vs:aj} {es:List D},Vals ys vs->Paired (R H) ys es->
  ∃f:Aa->Bool,(∀w∈vs,SeqAt.EqAt A s w u (f w))/\vs.any f=decide (d∈es):=λ{ys vs es} rv hy=>by
 let f:Aa->Bool:=λw=>@decide (∃y e,RelV y w/\R H y e/\e=d) (Classical.propDecidable _)
 have sound:∀y w e,RelV y w->R H y e->f w=decide (e=d):=λy w e h1 h2=>by
  by_cases z:e=d
  ·rw[dc z];exact @dc _ (Classical.propDecidable _) #[y,e,h1,h2,z]
  rw[fO z];apply @fO _ (Classical.propDecidable _) λ⟨y',e',g1,g2,g3⟩=>z ?_;have:y'=y:=RelV.inj g1 h1;subst this;rw[<- g3];exact c.one I h2 g2
 apply#[f,?_,?_]
 ·induction rv generalizing es with
  |nil=>exact λw hw=>nomatch hw
  |cons h t ih=>
   cases hy with
   |cons g t'=>
    intro w hw;rcases cg.mp hw with rfl|hw
    ·rw[sound _ _ _ h g];exact c.eq I h ru g hx hu
    exact ih t' w hw
 induction rv generalizing es with
 |nil=>
  cases hy;simp
 |cons h t ih=>
  cases hy with
  |@cons _ e _ es g t'=>
   rw[List.any_cons,ih t',sound _ _ _ h g];by_cases z:e=d
   ·subst z;simp
   by_cases z2:d∈es
   ·simp[z2]
   have:¬d∈e::es:=λq=>by
    rcases cg.mp q with q|q
    ·exact z q.symm
    exact z2 q
   rw[fO z,fO z2,fO this];rfl
theorem IF{n:Nat}{D:Type}[DecidableEq D]{R:Rp D}(c:jm X n R)(hu:X.A.units+n+1<cLine):dW X (compareOp .In) (zP X.K R false):=by
 intro pins s σ H x y v u Q I rx ry h;let#[d,es,hx,#[a,ys,rfl,t,q],hq]:=h;cases ry;let#[us,r,pl,_]:=I.list t;let#[f,h1,h2]:=LP c I (A:=X.A.in1) rx hx (by show X.A.units+1+n<cLine;omega) r q;apply SeqAt.in_listAt f pl.isList (λw hw=>h1 w ⇑hw) #[.bl _,H,I,U,?_];rw[show us.toArray.any f=us.any f by simp,h2];exact hq
theorem Ud{n:Nat}{D:Type}[DecidableEq D]{R:Rp D}(c:jm X n R)(hu:X.A.units+n+1<cLine):dW X (compareOp .NotIn) (zP X.K R true):=by
 intro pins s σ H x y v u Q I rx ry h;let#[d,es,hx,#[a,ys,rfl,t,q],hq]:=h;cases ry;let#[us,r,pl,_]:=I.list t;let#[f,h1,h2]:=LP c I (A:=X.A.in1) rx hx (by show X.A.units+1+n<cLine;omega) r q;apply SeqAt.notIn_listAt f pl.isList (λw hw=>h1 w ⇑hw) #[.bl _,H,I,U,?_];rw[show us.toArray.any f=us.any f by simp,h2];exact hq
end
end L2
namespace L2
open PySem PySem.Spec PyProof.Rows PySem.W jk c_
section
variable{X:Cx}
inductive DV (K:af) (xs:ag) (H:Hp) (Q:VK):Prop
 |mk:∀x T t b,xs=[x,.ty T]->dF K H x t->PySem.W.kitOne K t (.type T)\b->Q (.bl b) H->DV K xs H Q
theorem gM:gn X (.builtin "isinstance") (DV X.K):=by
 intro pins s σ H xs us Q I r h;let#[x,T,t,b,rfl,ty,e,q]:=h;let#[u,w',rfl,ru,iS]:=vals2 r;cases (show w'=Value.type T from iS);exact Uj I ru ty e λtk=>#[.bl b,H,I.tok tk,U,q]
inductive UQ (x:V) (y:V) (H:Hp) (Q:VK):Prop
 |mk:∀i j,x=.str i->y=.str j->Q (.bl (!decide (j.cps.toList<i.cps.toList))) H->UQ x y H Q
theorem Ts:dW X (compareOp .LtE) UQ:=by
 intro pins s σ H x y v u Q I rx ry h;let#[i,j,rfl,rfl,q]:=h;let#[t,rfl]:=rx;let#[t',rfl]:=ry;exact PySem.P.le_str ⟨.bl _,H,I,rfl,q⟩
theorem YT{prog:Ad}{w':Af}{A:Ag}{E:Aa->Ab->Prop}{s:Ab}(l:Addr)(its:Array Aa)(n:Nat)(k:Int)(t:Tok)(w:Aa)(h1:¬(!Builtin.List.listFitsIndex k)=true)(h2:its.size<=sizeLine){Q:Aa->Ab->Prop}
 (e:s.heap.get? l=some { cls:=.type "list",data:=.seq its n }) (f:Array Aa->Array Aa) (hf:f=λxs:Array Aa=>let k:=if k<0 then (k+((xs.size:Nat):Int)).toNat else min k.toNat xs.size;(xs.extract 0 k).push w++xs.extract k)
 (q:Q .none { s with heap:=s.heap.update l (Obj.mapSeq f) }):wpAny (model prog w') A (call (.builtin "list.insert") [.ref l,.int k t,w]) Q E s:=by
 subst hf;let hm:=@PySem.AutoListH.list_insert_list_int_val_1 l its n k t w h1 h2;have ty:s.TypeIs (.ref l) "list":=⟨_,e,rfl⟩;exact wpAny_call (codeAny_call_builtin F.slot_list_insert.plain F.entry_list_insert (F.slot_list_insert.check _ _ _ _ _ _ _ _ ty (F.args_list_insert_3 _ _ _) (hm prog w' A (wants Q E) s ⟨e,q⟩)))
inductive nL (x:V) (vs:ag) (H:Hp) (Q:VK):Prop
 |mk:∀(l:Addr) (k:Nat) (xs:ag) (y:V),x=.ref l->vs=[.int k,y]->H l\.lst xs->k<=xs.length->xs.length<100000->Q .non (upd H l (.lst (xs.take k++y::xs.drop k)))->nL x vs H Q
theorem OS:PF X "list.insert" nL:=by
 intro pins s σ H x vs v us Q I rx rv h;let#[l,k,xs,y,rfl,rfl,hH,hk,hz,q]:=h;cases rx;let#[u,w,rfl,#[t,rfl],iS]:=rv.two;let#[z,its,n,r,hl,e]:=I.jJ hH;let sz:=cK
 have fit:Builtin.List.listFitsIndex (k:Int)=true:=by
  unfold Builtin.List.listFitsIndex;rw[dc Y0,dc Y0];rfl
 apply YT l its.toArray n (k:Int) t w (by rw[fit];exact gr) (by rw[cY];omega) e _ rfl ?_;apply⟨.non,_,I.Al (its':=its.take k++w::its.drop k) (f:=λxs=>let k':=if (k:Int)<0 then ((k:Int)+((xs.size:Nat):Int)).toNat else min (k:Int).toNat xs.size;(xs.extract 0 k').push w++xs.extract k') hH e ?_ (Vals.append (r.take k) (.cons iS (r.drop k))) ?_,rfl,q⟩
 ·have e1:(if (k:Int)<0 then ((k:Int)+((its.toArray.size:Nat):Int)).toNat else min (k:Int).toNat its.toArray.size)=k:=by
   rw[aD Y0];simp;omega
  dsimp only;rw[e1];apply Array.ext' ?_;simp[vk]
 rw[dN,jz,dM,wY];omega
inductive qA (mk:Addr->Addr->HO) (Q:VK) (x:V) (H1:Hp):Prop
 |mk:∀d kvs,x=.ref d->H1 d\.dK kvs->(∀v,H1 v=none->Q (.ref v) (upd H1 v (mk v d)))->qA mk Q x H1
def xj(mk:Addr->Addr->HO)(td:TE):TE:=λσ H Q=>td σ H λx H1=>qA mk Q x H1
theorem Sy{pins:List (Addr × Obj)}{σ:St}{H:Hp}{s:Ab}{d:Addr}{cls:String}(I:Inv X pins σ H s)(φ:Heap->Prop)(_X:φ (s.heap.push { cls:=.type cls,data:=.fields (List.toArray [.ref d]) }))(hs:∀h1 h2:Heap,φ h1->(∀o,h1.get? s.heap.objs.size\o->h2.get? s.heap.objs.size\o)->φ h2) :
  Inv X pins σ (upd H s.heap.objs.size (.ext φ)) { s with heap:=s.heap.push { cls:=.type cls,data:=.fields (List.toArray [.ref d]) } }:=
 I.laid (t':=s.toks) (λ_ _ q=>bo _ q) (a9 _) #[_X,#[_,dq _ U],hs]
theorem Jp{o:Expr}{td:TE}{apos cu:Pos}(ho:PE X o td)(jS:attributeBase o "items" X.env (eval o X.env)=eval o X.env:=by rfl)(jQ:(apos.endLine == cu.line)=true:=by rfl):PE X (.Call (.Attribute o "items" apos) [] [] cu) (xj tX td):=by
 intro pins s σ H Q I h;apply wpAny_Call_method0_late jS jQ (aU (ho pins s σ H _ I h) λv s1 ⟨x,H1,I1,r1,d,kvs,e,hd,q⟩=>?_);subst e;cases r1;let#[t1,t2,t3]:=IE I1 (.inl #[kvs,.inl hd]);let#[_,_,vs,rel,dd]:=EA I1.aF hd;apply#["dict","dict.items",PySem.F.plainAttrs_dict,PySem.F.slot_dict_items,PySem.F.type_dict_items,t1,t2,Calls.callWith_builtin U (PySem.evalArgs_none ?_)];apply call_meetsIn PySem.F.slot_dict_items t1 PySem.F.entry_dict_items (PySem.F.args_dict_items_1 _) (meets_dict_items (d0 X.prog X.w) d t3) #[#[vs,dd],?_];exact#[.ref _,_,Sy I1 _ #[_,dq _ U,U,U] λh1 h2 ⟨o,e,r⟩ k=>#[o,k o e,r],U,q _ I1.fresh]
theorem JK{o:Expr}{td:TE}{apos cu:Pos}(ho:PE X o td)(jS:attributeBase o "values" X.env (eval o X.env)=eval o X.env:=by rfl)(jQ:(apos.endLine == cu.line)=true:=by rfl):PE X (.Call (.Attribute o "values" apos) [] [] cu) (xj qe td):=by
 intro pins s σ H Q I h;apply wpAny_Call_method0_late jS jQ (aU (ho pins s σ H _ I h) λv s1 ⟨x,H1,I1,r1,d,kvs,e,hd,q⟩=>?_);subst e;cases r1;let#[t1,t2,t3]:=IE I1 (.inl #[kvs,.inl hd]);let#[_,_,vs,rel,dd]:=EA I1.aF hd;apply#["dict","dict.values",PySem.F.plainAttrs_dict,PySem.F.slot_dict_values,PySem.F.type_dict_values,t1,t2,Calls.callWith_builtin U (PySem.evalArgs_none ?_)];apply call_meetsIn PySem.F.slot_dict_values t1 PySem.F.entry_dict_values (PySem.F.args_dict_values_1 _) (meets_dict_values (d0 X.prog X.w) d t3) #[#[vs,dd],?_];exact#[.ref _,_,Sy I1 _ #[_,dq _ U,U,U] λh1 h2 ⟨o,e,r⟩ k=>#[o,k o e,r],U,q _ I1.fresh]
end
section
variable{X:Cx}{pins:List (Addr × Obj)}{σ:St}{H:Hp}{s:Ab}{d:Addr}{kvs:List (Key × V)}
theorem Inv.freeze(I:Inv X pins σ H s)(h:H d\.dK kvs):∃o,s.heap.get? d\o/\Inv X pins σ (upd H d (.frz o (.dK kvs))) s:=by
 let#[z,hd,vs,rel,dd]:=EA I.aF h;let#[o,es,ep,ho,r]:=id dd;have other:∀{b u},H b\u->u≠.dK kvs->upd H d (.frz o (.dK kvs)) b\u:=λ{b u} e ne=>by rw[aB (bO e h ne)];exact e
 apply#[o,ho,I.un (h':=s.heap) (t':=s.toks) #[λb u q _ _ _=>q,λb u q _ _ _=>#[u.slots,q],λb u q n _=>?_,λb u q _=>#[u,q],λb xs q=>other q Y1,λb u v q=>other q Y1,λb ps q=>#[#[],by rw[Array.append_empty];exact other q Y1]] λb u q=>?_]
 ·by_cases e:b=d
  ·subst e;rw[h] at n;cases n
  rw[aB e];exact n
 by_cases e:b=d
 ·subst e;rw[aA] at q;cases q;exact#[ho,z,hd,vs,rel,dd]
 rw[aB e] at q;exact (I.aF b u q).cB (λc v _ z=>z) (λc z=>other z Y1) λc xs z=>other z Y1
theorem Inv.qx{o:Obj}(I:Inv X pins σ H s)(h:H d\.frz o (.dK kvs))(h0:∀o u,X.ku d≠some (.frz o u)):Inv X pins σ (upd H d (.dK kvs)) s:=by
 have other:∀{b u},H b\u->(∀o v,u≠.frz o v)->upd H d (.dK kvs) b\u:=λ{b u} e ne=>by rw[aB (bO e h (ne _ _))];exact e
 have nU:∀{b},H b=none->upd H d (.dK kvs) b=none:=λ{b} e=>by
  rw[aB (λz=>by subst z;rw[h] at e;cases e)];exact e
 apply#[I.ok,I.os,I.bare,#[I.base.keep,I.base.slot,λb u q n hx=>nU (I.base.free b u q n hx),I.base.there,λb xs q=>other (I.base.iN b xs q) Y1,λb u v q=>?_,λb ps q=>?_],I.loc,I.cell,nU I.free,λx c e=>nU (I.eI x c e),λp hp=>?_,λb u q=>?_,I.len]
 ·have:=I.base.hG b u v q;rw[aB (λz=>by subst z;exact h0 _ _ q)];exact this
 ·let#[more,e]:=I.base.ik b ps q;exact#[more,other e Y1]
 ·let#[a1,a2,a3]:=I.pin p hp;exact#[a1,nU a2,a3]
 by_cases e:b=d
 ·subst e;rw[aA] at q;cases q;let#[ho,z,hd,vs,rel,dd]:=I.aF b _ h;exact#[z,hd,vs,rel,dd]
 rw[aB e] at q;exact (I.aF b u q).cB (λc v _ z=>z) (λc z=>other z Y1) λc xs z=>other z Y1
end
theorem Uo{X:Cx}{pins:List (Addr × Obj)}{σ:St}{H:Hp}{s:Ab}{d:Addr}{kvs:List (Key × V)}{o:Obj}{es:Array DictEntry}{ep:Nat}(I:Inv X pins σ H s)(h:H d\.frz o (.dK kvs))(ho:o.data=.dict es ep):∃vs,KV kvs vs/\s.heap.DictAt (d0 X.prog X.w) d vs ep:=by
 let#[e,z,hd,vs,rel,o',Ct,IM,e',c',d',r]:=I.aF d _ h;rw[e] at e';cases e';rw[ho] at d';cases d';exact#[vs,rel,o,es,e,c',ho,r]
theorem ME{κ:Type}{kvs:List (κ × V)}{vs:List (κ × Aa)}(r:KV kvs vs):∀(i:Nat) {k:κ} {x:V},kvs[i]? = some (k,x)->∃u,vs[i]? = some (k,u)/\RelV x u:=by
 induction r with
 |nil=>intro i k x e;simp at e
 |@cons p q _ _ h _ ih=>
  intro i k x e;cases i with
  |zero=>
   have e:p=(k,x):=⇑e
   subst e;apply#[q.2,?_,h.2];rw[List.getElem?_cons_zero];have h1:k=q.1:=h.1;rw[h1]
  |succ i=>exact ih i ⇑e
def PM(x:Str):It:=#[λi _=>i<x.cps.size,λi H v H'=>H'=H/\∃c,x.cps[i]? = some c/\v=.str ⟨(List.toArray [c])⟩,λi _=>x.cps.size<=i]
theorem fX_{P:Ad}{w:Af}{K:af}{tg:Expr}(it:Addr)(x:Str)(t:Tok):Turn P w K tg (PM x) [it] it (λi h=>i<=x.cps.size/\h.IsStrIter it "str_ascii_iterator" x t i) where
 mem:=by simp
 obj:=λi h st b hb=>by
  obtain rfl:b=it:=⇑hb
  let#[o,e,c,d]:=st.2;exact#[o,e,λv z=>by rw[d] at z;cases z]
 keep:=λi h h' st k=>#[st.1,let #[o,ho,r]:=st.2;#[o,k it Y1 o ho,r]]
 item:=by
  intro X hP hw hK hc i pins s σ H E I hf st hg;subst hP hw hK;have hg:i<x.cps.size:=hg;let#[f0,f1,f2,f3,f4,f5]:=hf it Y1;apply wpAny_pyNext_ascii_item st.2 (c:=x.cps[i]) (by simp[hg]) λh' dY sb=>?_;have I1:Inv X pins σ H { s with heap:=h',toks:=s.toks+1 }:=I.turned (t':=s.toks+1) (λb o hb e=>(sb.2 b hb).trans e) f0 f1 f3 f4 f5;let#[o',e,c,dd]:=id dY;exact#[_,U,Fw (s:={ s with heap:=h',toks:=s.toks+1 }) e c dd (by decide) #[.str ⟨#[x.cps[i]]⟩,H,I1,#[_,U],#[U,_,by simp[hg],U],#[hg,dY],λb hb=>(hf b hb).1]]
 done:=by
  intro X hP hw hK hc i pins s σ H E I hf st hg;subst hP hw hK;have hg:x.cps.size<=i:=hg;let#[f0,f1,f2,f3,f4,f5]:=hf it Y1;exact wpAny_pyNext_ascii_end (I.ok.hd hc) st.2 (by simp[hg]) λh' eb=>#[U,I.turned (t':=s.toks) (λb o hb e=>eb b o hb e) f0 f1 f3 f4 f5]
 self:=λ_ _ _ _ _ st h=>wpAny_pyIter_striter_ascii st.2 h
theorem hj_{P:Ad}{w:Af}{K:af}{tg:Expr}(it:Addr)(x:Str)(t:Tok):Turn P w K tg (PM x) [it] it (λi h=>i<=x.cps.size/\h.IsStrIter it "str_iterator" x t i) where
 mem:=by simp
 obj:=λi h st b hb=>by
  obtain rfl:b=it:=⇑hb
  let#[o,e,c,d]:=st.2;exact#[o,e,λv z=>by rw[d] at z;cases z]
 keep:=λi h h' st k=>#[st.1,let #[o,ho,r]:=st.2;#[o,k it Y1 o ho,r]]
 item:=by
  intro X hP hw hK hc i pins s σ H E I hf st hg;subst hP hw hK;have hg:i<x.cps.size:=hg;let#[f0,f1,f2,f3,f4,f5]:=hf it Y1;apply wpAny_pyNext_wide_item st.2 (c:=x.cps[i]) (by simp[hg]) λh' dY sb=>?_;have I1:Inv X pins σ H { s with heap:=h',toks:=s.toks+1 }:=I.turned (t':=s.toks+1) (λb o hb e=>(sb.2 b hb).trans e) f0 f1 f3 f4 f5;let#[o',e,c,dd]:=id dY;exact#[_,U,Fw (s:={ s with heap:=h',toks:=s.toks+1 }) e c dd (by decide) #[.str ⟨#[x.cps[i]]⟩,H,I1,#[_,U],#[U,_,by simp[hg],U],#[hg,dY],λb hb=>(hf b hb).1]]
 done:=by
  intro X hP hw hK hc i pins s σ H E I hf st hg;subst hP hw hK;have hg:x.cps.size<=i:=hg;let#[f0,f1,f2,f3,f4,f5]:=hf it Y1;exact wpAny_pyNext_wide_end (I.ok.hd hc) st.2 (by simp[hg]) λh' eb=>#[U,I.turned (t':=s.toks) (λb o hb e=>eb b o hb e) f0 f1 f3 f4 f5]
 self:=λ_ _ _ _ _ st h=>wpAny_pyIter_striter_wide st.2 h
inductive xX (R:It->Hp->Prop) (v:V) (H1:Hp):Prop
 |mk:∀x,v=.str x->R (PM x) H1->xX R v H1
def Ls(tl:TE):TI:=λσ H R=>tl σ H λv H1=>xX R v H1
theorem YC{X:Cx}{tg l:Expr}{tl:TE}(hl:PE X l tl):PI X tg l (Ls tl):=by
 intro pins s σ H R I h;apply aU (hl pins s σ H _ I h) λv s1 ⟨y,H1,I1,r1,x,e,q⟩=>?_;subst e;let#[t,rfl]:=r1
 have fp:∀b∈[s1.heap.objs.size],du X pins H1 b:=λb hb=>by
  obtain rfl:b=s1.heap.objs.size:=⇑hb
  exact I1.i5 (a9 _) (I1.aF.fresh (a9 _))
 cases ha:x.cps.all (· < 128)
 ·apply wpAny_pyIter_wide ha ?_;exact#[s1.heap.objs.size,[s1.heap.objs.size],_,_,H1,U,I1.kept (t':=s1.toks) λb o e=>bo _ e,hj_ _ x t,#[gO _,_,dq _ U,U,U],fp,q]
 apply wpAny_pyIter_ascii ha ?_;exact#[s1.heap.objs.size,[s1.heap.objs.size],_,_,H1,U,I1.kept (t':=s1.toks) λb o e=>bo _ e,fX_ _ x t,#[gO _,_,dq _ U,U,U],fp,q]
end L2
namespace L2
open PySem PySem.Spec PyProof.Rows PySem.W jk c_
theorem Qw{X:Cx}{f:Aa->Aa->Sem Aa}{K:af}(r:af->R2)(h:dW X f (r X.K))(hK:X.K=K:=by rfl):dW X f (r K):=by
 subst hK;exact h
theorem F1{X:Cx}{f:Aa}{K:af}(r:af->ag->Hp->VK->Prop)(h:gn X f (r X.K))(hK:X.K=K:=by rfl):gn X f (r K):=by
 subst hK;exact h
theorem B7{X:Cx}{K:af}(r:af->R2)(h:CV X (r X.K))(hK:X.K=K:=by rfl):CV X (r K):=by
 subst hK;exact h
theorem CD{X:Cx}{N:ae}{scope:Scope}{fp:av}{s:Ab}{H:Hp}{es:List Expr}{k:Nat}{pos:Pos}{t:BL}{n:Nat}(h:GP (ia X N scope fp s H) es t)(hc:X.calm=true:=by rfl)
  (hn:(assignEach es (ia X N scope fp s H).env).length=n:=by rfl) (AA:(assignEach es (ia X N scope fp s H).env).findIdx? (·.1)=none:=by rfl):PG (ia X N scope fp s H) (.Tuple es k pos) (gi X.K n t):=jv (X:=ia X N scope fp s H) hc h hn AA
end L2
abbrev Bl:PySem.Str:="ways_by_name"
abbrev yC:PySem.Str:="_law_script"
abbrev wC:PySem.Str:="_law_found"
abbrev Cv:PySem.Str:="greatest_divisor"
abbrev ko:PySem.Str:="multiple_of_strengths"
abbrev Cw:PySem.Str:="neighbours_by_hand"
abbrev tV:PySem.Str:="_law_digit"
abbrev mE:PySem.Str:="_law_pieces_here"
abbrev u3:PySem.Str:="ahead_by_hands"
abbrev u4:PySem.Str:="strength_by_hand"
abbrev p_:PySem.Str:="weight_by_name"
abbrev j5:PySem.Str:="_law_hands_here"
abbrev gL:PySem.Str:="_law_state"
abbrev j6:PySem.Str:="exits_by_place"
abbrev wz:List PySem.Str:=["_law_name_here","_law_strength"]
abbrev fM:List PySem.Str:=["thing"]
abbrev uY:List PySem.Str:=[gL,"_law_base"]
abbrev oB:List PySem.Str:=["goods","placed"]
abbrev mF:List PySem.Str:=["self","thing"]
abbrev mw:List PySem.Str:=["one","other"]
abbrev oM:List PySem.Str:=[gL,j5,mE]
abbrev yD:List PySem.Str:=["thing","least","most"]
abbrev yr:List PySem.Str:=["name","weight","ways"]
abbrev uy:List PySem.Str:=["_law_parts","_law_first","_law_limit","_law_count","_law_shut"]
abbrev oK:List PySem.Str:=[mE,"_law_ties_here","_law_spot"]
abbrev ux:List PySem.Str:=[j5,mE,"_law_spot","_law_limit"]
abbrev uw:List PySem.Str:=[j5,mE,"_law_count","_law_shut"]
abbrev uv:List PySem.Str:=[gL,"_law_shut",j5,mE]
abbrev ur:List PySem.Str:=[mE,"_law_ties_here","_law_spot","_law_most"]
abbrev yS:List PySem.Str:=["_law_again","_law_count","_law_goods","_law_handed","_law_limit","_law_stand_here"]
abbrev oJ:List PySem.Str:=["goods","stand","limit","count","shut"]
abbrev uq:List PySem.Str:=[j5,mE,"_law_spot"]
abbrev wA:List PySem.Str:=["self","hand"]
abbrev yu:List PySem.Str:=["goods","stand"]
abbrev uo:List PySem.Str:=[gL,"_law_ties_here","_law_most"]
abbrev oI:List PySem.Str:=["_law_piece","_law_stand_here"]
abbrev ki:List PySem.Str:=["self","one","other"]
abbrev uk:List PySem.Str:=["reach","hands","number_by_hands"]
abbrev oH:List PySem.Str:=["goods","hands","limit"]
abbrev oG:List PySem.Str:=["goods","count","thing"]
abbrev uj:List PySem.Str:=["goods","stand","limit","count"]
abbrev pA:List PySem.Str:=["self"]
namespace Ev
open PySem L2
def top(i:Nat):Stmt:=PySem.Challenge.pw_evenpieces_k83_shuts_spoilt.main.body.getD i (.Pass #[0,0,0,0])
abbrev vG:Stmt:=top 12
abbrev IS:Stmt:=top 14
abbrev rK:Stmt:=top 15
abbrev NG:Stmt:=top 16
abbrev rH:Stmt:=top 17
abbrev ND:Stmt:=top 18
abbrev rT:Stmt:=top 49
abbrev zF:Stmt:=top 50
abbrev rC:Stmt:=top 51
abbrev rJ:Stmt:=top 52
abbrev oS:Stmt:=top 53
def Aj(a b:Str):Bool:=decide (a.cps.toList<b.cps.toList)
def aN(a b:Str):Str × Str:=if Aj a b=true then (a,b) else (b,a)
section v
theorem bZ{N p:List Str}{c:Scope}(h:bQ N p c:=by exact#[U,U,U,by decide +kernel,U,by decide +kernel,by decide +kernel]):bQ N p c:=h
theorem rg:bQ mw mw (a_ NG):=bZ
def Jv:Sp:=λvs H Q _=>∃a b,vs=[.str a,.str b]/\∀t,H t=none->Q (.ref t) (upd H t (.tup [.str (aN a b).1,.str (aN a b).2]))
theorem h3_{f:Addr}{fd:Ae}(F:bu K "lesser_first" "lesser_first" NG f fd):!ak bc 1 f fd mw Jv:=by
 exists F.bW rg;let#[a,b,rfl,k]:=h;apply#[_,aJ (bp (_z (eP hb_ (pv 0) (pv 1)) (dD %[0,1|0]) (dD %[1,0|0]))),?_];apply#[_,U,_,U,a,b,U,U,_,U,?_];apply bH (λc=>?_) (λc=>?_)
 ·apply#[_,U,_,U,zl,λt ht=>?_];have:=k t ht;rwa [show aN a b=(a,b) from aK c] at this
 apply#[_,U,_,U,zl,λt ht=>?_];have:=k t ht;rwa [show aN a b=(b,a) from aD c] at this
theorem nB:bQ yD yD (a_ IS):=bZ
def Jc:Sp:=λvs H Q _=>∃i a b:Int,vs=[.int i,.int a,.int b]/\Q (.bl (decide (a<=i)&&decide (i<=b))) H
structure Bi (mg:Str->Option Aa):Prop where
 gA:mg "isinstance"=none
 int:mg "int"=none
 bool:mg "bool"=none
 str:mg "str"=none
 tuple:mg "tuple"=none
 list:mg "list"=none
 dict:mg "dict"=none
 len:mg "len"=none
 all:mg "all"=none
 sorted:mg "sorted"=none
 max:mg "max"=none
 range:mg "range"=none
 any:mg "any"=none
 enum:mg "enumerate"=none
structure bF (P:Ad) (w:Af) (K:af) (mg:Str->Option Aa) (base:Heap) (k:Nat) (x:Str) (ps:ae) (sp:Sp):Prop where
 ex:∃f fd,ak P w K mg base bc k f fd ps sp/\mg x\.ref f/\PySem.W.keepIn K (.ref f)=true/\p9 K fd ps []
theorem bj{n_:Nat}{X:Cx}{k:Nat}{x:Str}{ps:ae}{sp:Sp}{p pos:Pos}{e:Expr}{es:List Expr}{t:TA}(c:bF X.prog X.w X.K X.mg X.base k x ps sp)(hr:aY n_ X.A)(ha:PA X (e::es) t)(hg:Gl X x:=by rfl)(tj:(x == ("__debug__":Str))=false:=by decide)
  (he:starEach (e::es) X.env=(false,eval e X.env)::starEach es X.env:=by rfl) (iZ:(backTo pos (starEach es X.env)).any (·.1)=false:=by rfl) (hk:k<=n_:=by decide):PE X (.Call (.Name x p) (e::es) [] pos) (xu sp [] E0 t):=by
 let#[f,fd,F,m,kp,b]:=c.ex;exact Yo F (hr.mono hk) hg m kp b .nil nR ha tj he iZ
theorem xA:bQ fM fM (a_ vG):=bZ
def nz:Sp:=λvs H Q _=>∃i:Int,vs=[.int i]/\Q (.bl true) H
theorem YD{f:Addr}{fd:Ae}(F:bu K "is_whole" "is_whole" vG f fd)(B:Bi mg):!ak bc 1 f fd fM nz:=by
 exists F.bW xA;let#[i,rfl,k]:=h;apply#[_,aJ (bp (oy (bT gM (by rfl) B.gA gE %[0,gN (v:=.ty "int") (by rfl) B.int FJ U|0]) (pB (Mz (bT gM (by rfl) B.gA gE %[0,gN (v:=.ty "bool") (by rfl) B.bool M5 U|0]))))),?_];exact#[_,U,_,_,_,_,U,.int i,U,_,U,bN #[_,U,_,_,_,_,U,.int i,U,_,U,k]]
theorem _K{f:Addr}{fd:Ae}(F:bu K "is_whole_within" "is_whole_within" IS f fd)(cI:!bF 1 "is_whole" fM nz):!ak bc 2 f fd yD Jc:=by
 exists F.bW nB;let#[i,a,b,rfl,k]:=h;apply#[_,aJ (bp (oy (bj cI hr %[0|0]) (pB (Nr tS tS (pv 1) (pv 0) (pv 2))))),?_];apply#[_,U,i,U,_,U,bN ?_];apply#[_,U,_,U,_,_,U,U,_,U,?_];apply bH (λc=>?_) (λc=>?_)
 ·apply#[_,U,_,_,U,U,?_];rw[c] at k;exact k
 rw[show decide (a<=i)=false by simpa using c] at k;exact k
def oY(c:Nat):Bool:=decide (97<=c)&&decide (c<=122)
def iD(x:Str):Bool:=decide (1<=x.length)&&decide (x.length<=8)&&x.cps.toList.all oY
theorem zw:bQ fM fM (a_ rK):=bZ
def IK:Sp:=λvs H Q _=>∃x:Str,vs=[.str x]/\x.length<=100000/\∀H',aa H H'->Q (.bl (iD x)) H'
theorem ZP{c:Nat}:(!decide ((⟨(List.toArray [c])⟩:Str).cps.toList<("a":Str).cps.toList))=decide (97<=c):=by
 have e:("a":Str).cps.toList=[97]:=by decide +kernel
 rw[e];show (!decide ([c] < [97]))=decide (97<=c);by_cases h:97<=c
 ·have:¬[c] < [97]:=by simp[List.cons_lt_cons_iff];omega
  simp[this,h]
 have:[c] < [97]:=by simp[List.cons_lt_cons_iff];omega
 simp[this,h]
theorem Zh{c:Nat}:(!decide (("z":Str).cps.toList<(⟨(List.toArray [c])⟩:Str).cps.toList))=decide (c<=122):=by
 have e:("z":Str).cps.toList=[122]:=by decide +kernel
 rw[e];show (!decide ([122] < [c]))=decide (c<=122);by_cases h:c<=122
 ·have:¬[122] < [c]:=by simp[List.cons_lt_cons_iff];omega
  simp[this,h]
 have:[122] < [c]:=by simp[List.cons_lt_cons_iff];omega
 simp[this,h]
theorem YR{f:Addr}{fd:Ae}(F:bu K "is_name" "is_name" rK f fd)(B:Bi mg){t8:Tok}(m8:mg "MOST_LETTERS"\.int 8 t8):!ak bc 1 f fd fM IK:=by
 exists F.bW zw;let#[x,rfl,hz,k]:=h;let sz:=cK
 apply#[_,ax (b_ (iK (eM (d4 (bT gM (by rfl) B.gA gE %[0,gN (v:=.ty "str") (by rfl) B.str Iu U|0])))
   (jZ (eM (NP tS tS ay (bT eu_ (by rfl) B.len fN %[0|0]) (CF (v:=.int 8) (by rfl) m8 #[t8,U]))))).pt (aJ (bp jw)) cm)
  (aJ (bp (bT (Ub U) (by rfl) B.all PyProof.Rows.Boot.«all» (d8
   (jd ["letter"] 1 [] (YC (pv 0)) (λfp s H=>fu (i:=0) (show (["letter"]:ae).Nodup by decide +kernel) U (Or.inl U)) (λfp s H=>jy) (λfp s H=>Nr Ts Ts j0 (pv 0) j0)) bR)))),?_]
 apply#[_,U,_,_,_,_,U,.str x,U,_,U,?_];apply aH ?_;apply#[_,U,x,U,by omega,_,_,U,U,_,U,?_]
 have fin:(decide (1<=x.length)&&decide (x.length<=8))=false->∀H',aa H H'->Q (.bl false) H':=λe H' sm=>by
  have:=k H' sm;rwa [show iD x=false by unfold iD;rw[e];rfl] at this
 apply bH (λc=>?_) (λc=>?_)
 ·have c1:1<=x.length:=by
   have:(1:Int)<=(x.length:Int):=⇑c
   omega
  apply#[_,_,U,U,_,U,?_];apply bH (λc2=>?_) (λc2=>?_)
  ·-- too long
   have c3:¬x.length<=8:=by
    have:¬((x.length:Int)<=8):=⇑c2
    omega
   exact fin (by rw[fO c3,Bool.and_false]) H (aa.refl H)
  have c3:x.length<=8:=by
   have:(x.length:Int)<=8:=⇑c2
   omega
  apply#[_,U,x,U,λD hD=>?_];apply Jm (own:=1) (fv:=[]) U fg x.cps.size (λi out H'=>H'=upd H D (.lst out)/\out=((x.cps.toList.take i).map oY).map V.bl) #[U,by simp] (λout H' ⟨e1,e2⟩=>?_) (λi out H' hi ⟨e1,e2⟩=>?_)
  ·apply#[a9 _,D,x.cps.toList.map oY,U,.of ?_,?_]
   ·rw[e1,aA,e2,vk Y1]
   have:=k H' (by rw[e1];exact aa.new hD);rwa [show iD x=(x.cps.toList.map oY).all id by unfold iD;rw[dc c1,dc c3,List.all_map];rfl] at this
  apply#[hi,λv H2 y=>?_];let#[eH,c,hc,rfl]:=y;subst eH;apply#[_,U,U,λNx hN=>eQ ?_]
  have lo:out.length<sizeLine:=by
   rw[e2];have hs:x.length=x.cps.size:=rfl;simp only[aq,dM,uf];omega
  have nx:Nx (upd H2 D (.lst (out++[V.bl (oY c)]))):=hN (out++[V.bl (oY c)]) _ #[by rw[e1,ZM],by
   rw[e2,uc];simp[hc]]
  have Vc:H2 D\.lst out:=by rw[e1,aA]
  apply#[_,U,_,_,U,U,_,U,?_];rw[ZP];apply bH (λc2=>?_) (λc2=>?_)
  ·apply#[_,_,U,U,out,Vc,lo,?_];rw[Zh];rwa [show oY c=decide (c<=122) by unfold oY;rw[c2];rfl] at nx
  apply#[out,Vc,lo,?_];rwa [show oY c=false by unfold oY;rw[show decide (97<=c)=false by simpa using c2];rfl] at nx
 have c1:¬1<=x.length:=by
  have:¬((1:Int)<=(x.length:Int)):=⇑c
  omega
 exact#[_,U,bN (fin (by rw[fO c1];rfl) H (aa.refl H))]
end
end Ev
namespace Ev
open PySem L2
def kT(t:Str × Str):aw:=[.inr t.1,.inr t.2]
def wB(t:Str × Str):Prop:=iD t.1=true/\iD t.2=true/\t.1≠t.2
theorem JA{x:Str}(h:iD x=true):x.length<=8:=by
 unfold iD at h;simp only[yQ,uV] at h;exact h.1.2
theorem HZ{H:Hp}{p:Addr}{t:Str × Str}(h:H p\.tup ((kT t).map kV)):H p\.tup [.str t.1,.str t.2]:=h
section v
theorem zv:bQ fM fM (a_ rH):=bZ
def qP:Sp:=λvs H Q _=>∃(p:Addr) (a b:Str),vs=[.ref p]/\H p\.tup [.str a,.str b]/\a.length<=100000/\b.length<=100000/\∀H',aa H H'->Q (.bl (iD a&&iD b&&!decide (a=b))) H'
theorem Y4{f:Addr}{fd:Ae}(F:bu K "is_pair_of_names" "is_pair_of_names" rH f fd)(B:Bi mg)(cN:!bF 1 "is_name" fM IK):!ak bc 2 f fd fM qP:=by
 exists F.bW zv;let#[p,a,b,rfl,hp,la,lb,k]:=h
 apply#[_,ax (b_ (iK (eM (d4 (bT gM (by rfl) B.gA gE %[0,gN (v:=.ty "tuple") (by rfl) B.tuple oC U|0])))
   (jZ (eP ou (bT gx (by rfl) B.len fN %[0|0]) ay))).pt (aJ (bp jw)) cm)
  (aJ (bp (oy (bj cN hr %[bg cj (pv 0) ay|0]) (oy (bj cN hr %[bg cj (pv 0) ay|0])
   (pB (wQ ou (bg cj (pv 0) ay) (bg cj (pv 0) ay))))))),?_]
 apply#[_,U,_,_,_,_,U,.tup hp,U,_,U,aH ?_];apply#[_,U,p,_,U,.inr (.of hp),U,_,U,?_];apply Ba (show V.int ((2:Nat):Int)=V.int 2 from U) ?_;apply#[_,U,p,_,_,_,U,U,.of hp,U,a,U,la,λH1 s1=>#[_,U,?_]];let x5:=s1 _ _ hp;apply bH (λc=>?_) (λc=>?_)
 ·apply#[_,U,p,_,_,_,U,U,.of x5,U,b,U,lb,λH2 s2=>#[_,U,?_]];let kI:=s2 _ _ x5;let kk:=k H2 (s1.trans s2);apply bH (λc2=>?_) (λc2=>?_)
  ·apply#[_,U,p,_,_,_,U,U,.of kI,U,_,U,p,_,_,_,U,U,.of kI,U,U,?_];rw[c,c2] at kk
   have e:decide (V.str a=V.str b)=decide (a=b):=by
    by_cases z:a=b
    ·simp[z]
    simp[z]
   show Q (.bl (!decide (V.str a=V.str b))) H2;rw[e];exact kk
  rw[c,show iD b=false by simpa using c2] at kk;exact kk
 let kk:=k H1 s1;rw[show iD a=false by simpa using c] at kk;exact kk
theorem Ju:bQ ["ties","found","pair","tie"] ["ties"] (a_ ND):=bZ
def OY(K:af):Sp:=λvs H Q _=>∃(l:Addr) (ys:ag) (ts:Xb),vs=[.ref l]/\H l\.lst ys/\bS K H ys (ts.map kT)/\(∀t∈ts,wB t)/\(ts.map λt=>kT (aN t.1 t.2)).Nodup/\ts.length<64 /\
 ∀l' zs H',aa H H'->H l'=none->H' l'\.lst zs->bS K H' zs (bh (ts.map λt=>kT (aN t.1 t.2)))->Q (.ref l') H'
theorem ue{α β γ:Type}{F:α->γ->Prop}{g:β->γ}{ys:List α}{ts:List β}(t:Paired F ys (ts.map g)){i:Nat}{y:α}(h:ys[i]? = some y):∃x,ts[i]? = some x/\F y (g x):=by
 have hi:i<ys.length:=(cw.mp h).1;let hl:=bI t;rw[aq] at hl;have:=dP t i hi (by rw[aq];omega);rw[w9] at this;apply#[ts[i],aX Y0,?_];rw[(cw.mp h).2] at this;exact this
theorem u_{κ:Type}[DecidableEq κ]{kvs:List (κ × V)}{k:κ}(h:k∉kvs.map (·.1)):aZ kvs k=none:=by
 cases e:aZ kvs k with
 |none=>rfl
 |some v=>exact absurd (Ym e) h
theorem vm{α β:Type}(g:α->β){ts:List α}{i:Nat}{x:α}(h:ts[i]? = some x):(ts.take (i+1)).map g=(ts.take i).map g++[g x]:=by
 rw[uc,h,eK];rfl
theorem Gy{α β:Type}{g:α->β}{ts:List α}{i:Nat}{x:α}(h:(ts.map g).Nodup)(hx:ts[i]? = some x):g x∉(ts.take i).map g:=by
 intro m;have hi:i<ts.length:=(cw.mp hx).1;let#[y,hy,e]:=bx.mp m;let#[j,hj,e2]:=gB hy;rw[dM] at hj;rw[List.getElem_take] at e2;rw[mG,ud,List.pairwise_iff_getElem] at h;apply h j i Y0 hi Y0 ?_;rw[e2,e,(cw.mp hx).2]
theorem hc_{f:Addr}{fd:Ae}(F:bu K "sorted_ties" "sorted_ties" ND f fd)(B:Bi mg)(cP:!bF 2 "is_pair_of_names" fM qP)(cL:!bF 1 "lesser_first" mw Jv):!ak bc 3 f fd ["ties"] (OY K):=by
 exists F.bW Ju;let#[l,ys,ts,rfl,hl,tu,good,nd,cX,k]:=h;let hu:=fP hr;let sz:=cK
 apply#[_,ax (b_ (eM (d4 (bT gM (by rfl) B.gA gE %[0,gN (v:=.ty "list") (by rfl) B.list qf U|0]))) gC cm)
  (ax (bw 1 Ju.nd S2)
  (ax (d9 dU U (d5 (pv 0)) (bX 2 Ju.nd)
   (ax (b_ (eM (d4 (bj cP hr %[2|0]))) gC cm)
   (ax (bw 3 Ju.nd (bj cL hr %[bg cj (pv 2) ay,bg cj (pv 2) ay|0]))
   (ax (b_ (qk (Bk hu (pv 3) (pv 1))) gC cm)
   (aJ (u5 hu (pv 1) (pv 3) jw U))))))
  (aJ (bp (bT (ez_ U) (by rfl) B.sorted JJ %[1|0]))))),?_]
 apply#[_,U,_,_,_,_,U,.lst hl,U,_,U,aH ?_];intro d hd;have s0:aa H (upd H d (.dT [])):=aa.new hd;apply#[_,U,l,U,#[_,.of (s0 _ _ hl)],ie (K:=K) (a:=l) (xs:=ys) (λi σ H2=>∃(v3 v4:aE),σ=[some (.ref l),some (.ref d),v3,v4]/\aa H H2/\H2 d\.dT ((ts.take i).map λt=>(kT (aN t.1 t.2),V.bl true))) #[none,none,U,s0,aA] (λi σ H2 _ ⟨_,_,_,s2,_⟩=>.of (s2 _ _ hl)) ?_ ?_]
 ·rintro i y σ H2 hy ⟨v3,v4,rfl,s2,hd2⟩;let#[t,ht,a,rfl,ha]:=ue tu hy;let#[g1,g2,g3]:=good t (cJ ht);let tF:=s2 _ _ (HZ ha);apply#[_,U,a,t.1,t.2,U,tF,by have:=JA g1;omega,by have:=JA g2;omega,λH3 s3=>#[_,U,?_]];let jT:=s3 _ _ tF;let l9:=s3 _ _ hd2;rw[g1,g2,fO g3];apply aH ?_;apply#[_,U,a,_,_,_,U,U,.of jT,U,_,U,a,_,_,_,U,U,.of jT,U,t.1,t.2,U,λb hb=>?_];have s4:aa H3 (upd H3 b (.tup [.str (aN t.1 t.2).1,.str (aN t.1 t.2).2])):=aa.new hb;let RZ:=s4 _ _ l9;have R5:upd H3 b (.tup [.str (aN t.1 t.2).1,.str (aN t.1 t.2).2]) b\.tup ((kT (aN t.1 t.2)).map kV):=aA
  have uG:aZ ((ts.take i).map λt=>(kT (aN t.1 t.2),V.bl true)) (kT (aN t.1 t.2))=none:=u_ (by
   rw[cA];exact Gy (g:=λt=>kT (aN t.1 t.2)) nd ht)
  apply#[_,U,_,U,d,_,U,.t (k:=kT (aN t.1 t.2)) RZ R5,_,U,?_];rw[uG];apply aH ?_;apply#[_,U,_,U,d,_,U,.t (k:=kT (aN t.1 t.2)) RZ R5 (by rw[aq,dM];omega),?_];apply#[_,_,U,λc o e=>?_,?_]
  ·rw[aB (bG e hd)];exact s4 _ _ (s3 _ _ (s2 _ _ e))
  rw[aA,yJ _ uG,vm _ ht]
 rintro σ H2 ⟨v3,v4,rfl,s2,hd2⟩;let le:=bI tu;rw[aq] at le;rw[le,d_] at hd2;apply#[_,U,d,_,[true,true],U,hd2,#[by decide,λk hk=>?_],by rw[aq];exact cX,λl' zs hn tz=>?_]
 ·rw[cA] at hk;let#[t,_,rfl]:=bx.mp hk;rfl
 rw[cA] at tz;exact k l' zs _ (s2.trans (aa.new hn)) (s2.free hn) aA (tz.same (aa.new hn))
theorem gR_{K:af}{H:Hp}{ys:ag}{ks:List aw}{a:Addr}{k:aw}(t:bS K H ys ks)(h:H a\.tup (k.map kV)):bS K H (ys++[.ref a]) (ks++[k]):=Paired.snoc t #[a,U,h]
theorem fF{H H1:Hp}{D:Addr}{o:HO}(h:aa H H1)(hD:H D=none):aa H (upd H1 D o):=λb u e=>by rw[aB (bG e hD)];exact h b u e
theorem JE{K:af}{H:Hp}{ys:ag}{ks:List aw}{D:Addr}{o:HO}{xs:ag}(t:bS K H ys ks)(hD:H D\.lst xs):bS K (upd H D o) ys ks:=Paired.aQ t λy k ⟨a,z,q⟩=>#[a,z,by rw[aB (bO q hD nofun)];exact q]
end
end Ev
namespace Ev
open PySem L2
def kH(h:Str × Int):aw:=[.inr h.1,.inl h.2]
def om(h:Str × Int):Prop:=iD h.1=true/\1<=h.2/\h.2<=1000
def Ap:aw->Key × V
 |[k,v]=>(k,kV v)
 |_=>(.inl 0,.non)
def dB(hs:Xa):List (Key × V):=(bh (hs.map kH)).map Ap
theorem uL{H:Hp}{p:Addr}{t:Str × Int}(h:H p\.tup ((kH t).map kV)):H p\.tup [.str t.1,.int t.2]:=h
theorem UA:∀(more kvs:List (Key × V)),(kvs.map (·.1)++more.map (·.1)).Nodup->wR kvs more=kvs++more
 |[],kvs,_=>by
  show kvs=kvs++[];rw[List.append_nil]
 |p::more,kvs,h=>by
  show wR (putK kvs p.1 p.2) more=kvs++p::more
  have hn:aZ kvs p.1=none:=u_ λm=>by
   rw[fE,List.nodup_append] at h;exact h.2.2 p.1 m p.1 fY U
  rw[yJ _ hn,UA more (kvs++[(p.1,p.2)])]
  ·simp
  simpa using h
theorem yN{more:List (Key × V)}(h:(more.map (·.1)).Nodup):wR [] more=more:=by
 rw[UA more [] ⇑h];rfl
theorem Uu(hs:Xa):((dB hs).map (·.1)).Perm (hs.map λh=>Sum.inr h.1):=by
 unfold dB;rw[cA];let p:=(ug (hs.map kH)).map λk=>(Ap k).1;rw[cA] at p;exact p
theorem UH{hs:Xa}(h:(hs.map (·.1)).Nodup):((dB hs).map (·.1)).Nodup:=by
 apply (Uu hs).nodup_iff.mpr ?_;have:(hs.map λh=>(Sum.inr h.1:Key))=(hs.map (·.1)).map Sum.inr:=by rw[cA];rfl
 rw[this,mG,ud];exact h.imp λn e=>n (iB e)
theorem kU{k:Nat}{A:Ag}(hr:aY k A)(n:Nat)(h:n+1<=64:=by decide):A.units+n+1<cLine:=by
 have:=hr.units;omega
section v
theorem zC:bQ fM fM (a_ rT):=bZ
def qS:Sp:=λvs H Q _=>∃(p:Addr) (a:Str) (n:Int),vs=[.ref p]/\H p\.tup [.str a,.int n]/\a.length<=100000/\∀H',aa H H'->Q (.bl (iD a&&(decide (1<=n)&&decide (n<=1000)))) H'
theorem Zz{f:Addr}{fd:Ae}(F:bu K "is_hand_with_strength" "is_hand_with_strength" rT f fd)(B:Bi mg)(cN:!bF 1 "is_name" fM IK)(cW:!bF 2 "is_whole_within" yD Jc){tk:Tok}(mS:mg "MOST_STRENGTH"\.int 1000 tk) :
  ak P w K mg base bc 3 f fd fM qS:=by
 exists F.bW zC;let#[p,a,n,rfl,hp,la,k]:=h
 apply#[_,ax (b_ (iK (eM (d4 (bT gM (by rfl) B.gA gE %[0,gN (v:=.ty "tuple") (by rfl) B.tuple oC U|0])))
   (jZ (eP ou (bT gx (by rfl) B.len fN %[0|0]) ay))).pt (aJ (bp jw)) cm)
  (aJ (bp (oy (bj cN hr %[bg cj (pv 0) ay|0]) (pB (bj cW hr %[bg cj (pv 0) ay,ay,CF (v:=.int 1000) (by rfl) mS #[tk,U]|0]))))),?_]
 apply#[_,U,_,_,_,_,U,.tup hp,U,_,U,aH ?_];apply#[_,U,p,_,U,.inr (.of hp),U,_,U,?_];apply Ba (show V.int ((2:Nat):Int)=V.int 2 from U) ?_;apply#[_,U,p,_,_,_,U,U,.of hp,U,a,U,la,λH1 s1=>#[_,U,?_]];let x5:=s1 _ _ hp;let kk:=k H1 s1;apply bH (λc=>?_) (λc=>?_)
 ·apply#[_,U,p,_,_,_,U,U,.of x5,U,n,1,1000,U,?_];rw[c] at kk;exact kk
 rw[show iD a=false by simpa using c] at kk;exact kk
theorem qY:bQ ["hands","found","hand"] ["hands"] (a_ zF):=bZ
def xw(K:af):Sp:=λvs H Q _=>∃(l:Addr) (ys:ag) (hs:Xa),vs=[.ref l]/\H l\.lst ys/\bS K H ys (hs.map kH)/\(∀h∈hs,om h)/\(hs.map (·.1)).Nodup/\1<=hs.length/\hs.length<=8 /\
 ∀d H',aa H H'->H d=none->H' d\.dK (dB hs)->Q (.ref d) H'
theorem YN{f:Addr}{fd:Ae}(F:bu K "checked_strengths" "checked_strengths" zF f fd)(B:Bi mg)(cH:!bF 3 "is_hand_with_strength" fM qS){tk:Tok}(mH:mg "MOST_HANDS"\.int 8 tk):!ak bc 4 f fd ["hands"] (xw K):=by
 exists F.bW qY;let#[l,ys,hs,rfl,hl,tu,good,nd,h1,h8,k]:=h;let hu:=fP hr;let sz:=cK;let le:=bI tu;rw[aq] at le
 apply#[_,ax (b_ (iK (eM (d4 (bT gM (by rfl) B.gA gE %[0,gN (v:=.ty "list") (by rfl) B.list qf U|0])))
   (jZ (eM (NP tS tS ay (bT gx (by rfl) B.len fN %[0|0]) (CF (v:=.int 8) (by rfl) mH #[tk,U]))))).pt gC cm)
  (ax (bw 1 qY.nd F0)
  (ax (d9 dU U (d5 (pv 0)) (bX 2 qY.nd)
   (ax (b_ (eM (d4 (bj cH hr %[2|0]))) gC cm)
   (ax (b_ (qk (Bk hu (bg cj (pv 2) ay) (pv 1))) gC cm)
   (aJ (u5 hu (pv 1) (bg cj (pv 2) ay) (bg cj (pv 2) ay) U)))))
  (aJ (bp (gS (BH U) (by rfl) B.dict qg %[bT (fP_ U) (by rfl) B.sorted JJ %[Jp (pv 1)|0]|0]))))),?_]
 apply#[_,U,_,_,_,_,U,.lst hl,U,_,U,aH ?_];apply#[_,U,l,_,U,.inl (.of hl),_,_,U,U,_,U,?_];rw[dc (show (1:Int)<=(ys.length:Int) by omega)];apply bN #[_,_,U,U,_,U,?_];rw[dc (show (ys.length:Int)<=8 by omega)];apply aH ?_;intro d hd;have s0:aa H (upd H d (.dK [])):=aa.new hd;apply#[_,U,l,U,#[_,.of (s0 _ _ hl)],ie (K:=K) (a:=l) (xs:=ys) (λi σ H2=>∃(v2:aE),σ=[some (.ref l),some (.ref d),v2]/\aa H H2/\H2 d\.dK ((hs.take i).map λh=>(Sum.inr h.1,V.int h.2))) #[none,U,s0,aA] (λi σ H2 _ ⟨_,_,s2,_⟩=>.of (s2 _ _ hl)) ?_ ?_]
 ·rintro i y σ H2 hy ⟨v2,rfl,s2,hd2⟩;let#[t,ht,a,rfl,ha]:=ue tu hy;let#[g1,g2,g3]:=good t (cJ ht);let tF:=s2 _ _ (uL ha);apply#[_,U,a,t.1,t.2,U,tF,by have:=JA g1;omega,λH3 s3=>#[_,U,?_]];let jT:=s3 _ _ tF;let l9:=s3 _ _ hd2;rw[g1,dc g2,dc g3];apply aH ?_
  have uG:aZ ((hs.take i).map λh=>((Sum.inr h.1:Key),V.int h.2)) (Sum.inr t.1)=none:=u_ (by
   rw[cA];let q:=Gy (g:=λh:Str × Int=>h.1) nd ht;intro m;let#[h,hh,e]:=bx.mp m;exact q (bx.mpr #[h,hh,iB e]))
  apply#[_,U,a,_,_,_,U,U,.of jT,U,_,U,d,_,U,.k (k:=Sum.inr t.1) l9,_,U,?_];rw[uG];apply aH ?_;apply#[_,U,a,_,_,_,U,U,.of jT,U,_,U,_,U,a,_,_,_,U,U,.of jT,U,d,_,U,.k (k:=Sum.inr t.1) l9 (by rw[aq,dM];omega),?_];apply#[_,U,λc o e=>?_,?_]
  ·rw[aB (bG e hd)];exact s3 _ _ (s2 _ _ e)
  rw[aA,yJ _ uG,vm _ ht]
 rintro σ H2 ⟨v2,rfl,s2,hd2⟩;rw[le,d_] at hd2;apply#[_,U,d,_,U,hd2,λv hv=>?_];have s3:aa H2 (upd H2 v (tX v d)):=aa.new hv;apply#[v,d,_,hs.map λh=>(Sum.inr h.1,Sum.inl h.2),[true,false],U,aA,s3 _ _ hd2,by rw[cA];rfl,#[by decide,λq hq=>?_],by rw[aq];omega,λl' H4 zs s4 hn tz=>?_]
 ·rw[cA] at hq;let#[h,_,rfl]:=bx.mp hq;rfl
 have ez:((hs.map λh=>((Sum.inr h.1:Key),(Sum.inl h.2:Key))).map λk=>[k.1,k.2])=hs.map kH:=by rw[cA];rfl
 rw[ez] at tz
 have pz:kM K (upd H4 l' (.lst zs)) zs (dB hs):=by
  have shape:∀k∈bh (hs.map kH),∃a b,k=[a,b]:=λk hk=>by
   let#[h,_,e]:=bx.mp ((ug _).mem_iff.mp hk);exact#[_,_,e.symm]
  have gen:∀(ks:List aw) (zs:ag),(∀k∈ks,∃a b,k=[a,b])->bS K (upd H4 l' (.lst zs)) zs ks->kM K (upd H4 l' (.lst zs)) zs (ks.map Ap):=λks=>by
   intro zs;generalize upd H4 l' (.lst zs)=HH;intro sh t
   induction t with
   |nil=>exact .nil
   |cons h t ih=>
    let#[a,b,rfl]:=sh _ fY;exact .cons h (ih λk hk=>sh k (fo _ hk))
  exact gen _ _ shape (tz.same (aa.new hn))
 apply#[l',zs,_,U,aA,pz,?_,λd' g9=>?_]
 ·have:=(Uu hs).length_eq;simp only[aq] at this;omega
 rw[yN (UH nd)];have DM:aa H (upd H4 l' (.lst zs)):=(s2.trans (s3.trans s4)).trans (aa.new hn);exact k d' _ (DM.trans (aa.new g9)) (DM.free g9) aA
theorem IP:bQ ["ties","strengths","found","one","other"] ["ties","strengths"] (a_ rC):=bZ
inductive lj (K:af) (vs:ag) (H:Hp) (Q:VK) (E:XK):Prop
 |mk:∀(l d:Addr) (ys:ag) (ts:Xb) (kvs:List (Key × V)),vs=[.ref l,.ref d]->H l\.lst ys->bS K H ys (ts.map kT)->(∀t∈ts,wB t)->(ts.map λt=>kT (aN t.1 t.2)).Nodup->ts.length<64->H d\.dK kvs->(∀t∈ts,(aZ kvs (Sum.inr t.1)).isSome=true/\(aZ kvs (Sum.inr t.2)).isSome=true)->(∀l' zs H',aa H H'->H l'=none->H' l'\.lst zs->bS K H' zs (bh (ts.map λt=>kT (aN t.1 t.2)))->Q (.ref l') H')->lj K vs H Q E
theorem Ji(a b:Str):aN a b=(a,b)∨aN a b=(b,a):=by
 unfold aN;split
 ·exact .inl rfl
 exact .inr rfl
theorem Y6{f:Addr}{fd:Ae}(F:bu K "checked_ties" "checked_ties" rC f fd)(B:Bi mg)(cS:!bF 3 "sorted_ties" ["ties"] (OY K)):!ak bc 4 f fd ["ties","strengths"] (lj K):=by
 exists F.bW IP;let#[l,d,ys,ts,kvs,rfl,hl,tu,good,nd,cX,hd,there,k]:=h;let hu:=fP hr
 apply#[_,ax (bw 2 IP.nd (bj cS hr %[0|0]))
  (ax (b_ (qk (IB (pv 2))) gC cm)
  (ax (d9 dU U (d5 (pv 2)) (jv U (di (bX 3 IP.nd) (di (bX 4 IP.nd) hW)))
   (aJ (b_ (iK (qk (GG hu (pv 3) (pv 1))) (jZ (qk (GG hu (pv 4) (pv 1))))).pt gC cm)))
  (aJ (bp (pv 2))))),?_]
 apply#[_,U,l,ys,ts,U,hl,tu,good,nd,cX,λl' zs H1 s1 hf fZ tz=>?_];apply#[_,U,_,U,aH ?_];apply#[_,U,l',U,#[_,.of fZ],ie (K:=K) (a:=l') (xs:=zs) (λi σ H2=>∃(v3 v4:aE),σ=[some (.ref l),some (.ref d),some (.ref l'),v3,v4]/\H2=H1) #[none,none,U,U] (λi σ H2 _ ⟨_,_,_,e⟩=>by subst e;exact .of fZ) ?_ ?_]
 ·rintro i y σ H2 hy ⟨v3,v4,rfl,rfl⟩;let ez:=bI tz;have hi:i<zs.length:=(cw.mp hy).1;let#[a,e,ha]:=dP tz i hi Y0;rw[(cw.mp hy).2] at e;subst e;let#[t,ht,e]:=bx.mp ((ug _).mem_iff.mp (ke (show i<(bh (ts.map λt=>kT (aN t.1 t.2))).length by omega)));rw[<- e] at ha;let#[t1,t2]:=there t ht
  have both:(aZ kvs (Sum.inr (aN t.1 t.2).1)).isSome=true/\(aZ kvs (Sum.inr (aN t.1 t.2).2)).isSome=true:=by
   rcases Ji t.1 t.2 with q|q
   ·rw[q];exact#[t1,t2]
   rw[q];exact#[t2,t1]
  let pX:=s1 _ _ hd;apply#[a,_,U,.of (HZ ha),U,_,_,U,_,_,U,U,?_];apply#[_,U,_,U,d,_,U,.k (k:=Sum.inr (aN t.1 t.2).1) pX,_,U,?_];rw[both.1];apply aH ?_;apply#[_,U,_,U,d,_,U,.k (k:=Sum.inr (aN t.1 t.2).2) pX,_,U,?_];rw[both.2];apply aH ?_;exact#[_,_,U,U]
 rintro σ H2 ⟨v3,v4,rfl,rfl⟩;exact#[_,U,k l' zs _ s1 hf fZ tz]
def near(ns:ae)(ts:Xb)(n:Str):ae:=ns.filter λo=>decide (aN n o∈ts)
theorem lI:bQ ["names","ties","found","hand"] ["names","ties"] (a_ rJ):=bZ
def t7(ns:ae)(as:av):List (Key × V):=(ns.zip as).map λp=>(Sum.inr p.1,V.ref p.2)
inductive lD (K:af) (vs:ag) (H:Hp) (Q:VK) (E:XK):Prop
 |mk:∀(l1 l2:Addr) (ns:ae) (zs:ag) (ts:Xb),vs=[.ref l1,.ref l2]->H l1\.lst (ns.map V.str)->H l2\.lst zs->bS K H zs (ts.map kT)->ns.Nodup->ns.length<=1000->l1≠l2->(∀d as H',aa H H'->H d=none->as.length=ns.length->H' d\.dK (t7 ns as)->(∀(i:Nat) n a,ns[i]? = some n->as[i]? = some a->H a=none/\H' a\.lst ((near ns ts n).map V.str))->Q (.ref d) H')->lD K vs H Q E
theorem MZ{K:af}{H:Hp}:∀{ts:Xb} {zs:ag},bS K H zs (ts.map kT)->Paired (r2 K rS rS H) zs ts
 |[],_,.nil=>.nil
 |t::ts,_,.cons ⟨a,e,h⟩ r=>.cons #[a,_,_,e,.of (HZ h),U,U] (MZ r)
theorem qu{ns:ae}{i:Nat}{x:V}(h:(ns.map V.str)[i]? = some x):∃n,ns[i]? = some n/\x=.str n:=by
 rw[df] at h;cases e:ns[i]? with
 |none=>rw[e] at h;cases h
 |some n=>rw[e] at h;exact#[n,U,(dO h).symm]
theorem JL{α:Type}(p:α->Bool){l:List α}{i:Nat}{x:α}(h:l[i]? = some x):(l.take (i+1)).filter p=(l.take i).filter p++(if p x then [x] else []):=PySem.take_succ_filter p l i x h
theorem Zd{f:Addr}{fd:Ae}(F:bu K "neighbours_of_all" "neighbours_of_all" rJ f fd)(cL:!bF 1 "lesser_first" mw Jv):!ak bc 2 f fd ["names","ties"] (lD K):=by
 exists F.bW lI;let#[l1,l2,ns,zs,ts,rfl,fZ,jr,tz,nd,h8,l8,k]:=h;let hu:=fP hr;let hu3:=hr.units;let sz:=cK
 apply#[_,ax (bw 2 lI.nd F0)
  (ax (d9 dU U (d5 (pv 0)) (bX 3 lI.nd)
   (aJ (u5 hu (pv 2) (pv 3) (jd ["other","hand","ties"] 1 [3,1] (d5 (pv 0)) (λfp s H=>fu (i:=0) (show (["other","hand","ties"]:ae).Nodup by decide +kernel) U (Or.inl U))
    (λfp s H=>Jj (eP (Qw (K:=K) (λK=>zP K (r2 K rS rS) false) (IF (Bn gK gK) (kU hr _))) (bj cL hr %[1,0|0]) (pv 2) (by with_unfolding_all rfl))) (λfp s H=>pv 0)) U)))
  (aJ (bp (pv 2)))),?_]
 intro d hd;have s0:aa H (upd H d (.dK [])):=aa.new hd
 apply#[_,U,l1,U,#[_,.of (s0 _ _ fZ)],ie (K:=K) (a:=l1) (xs:=ns.map V.str) (λi σ H2=>∃(v3:aE) (as:av),σ=[some (.ref l1),some (.ref l2),some (.ref d),v3]/\aa H H2/\as.length=i/\H2 d\.dK (t7 (ns.take i) as) /\
  ∀(j:Nat) n a,ns[j]? = some n->as[j]? = some a->H a=none/\a≠d/\H2 a\.lst ((near ns ts n).map V.str)) #[none,[],U,s0,U,aA,λj n a _ e=>by simp at e] (λi σ H2 _ ⟨_,_,_,s2,_⟩=>.of (s2 _ _ fZ)) ?_ ?_]
 ·rintro i y σ H2 hy ⟨v3,as,rfl,s2,la,hd2,lists⟩;let#[n,hn,rfl]:=qu hy;have hi:i<ns.length:=(cw.mp hn).1
  have lk:(t7 (ns.take i) as).length=i:=by
   unfold t7;rw[aq,List.length_zip,dM];omega
  apply#[_,U,l1,U,#[_,.of (s2 _ _ fZ)],λD hD=>?_];apply kb (own:=1) (fv:=[some (.str n),some (.ref l2)]) (xs:=ns.map V.str) U fg (λj out H'=>aa H2 H'/\H' D\.lst out/\out=((ns.take j).filter λo=>decide (aN n o∈ts)).map V.str) #[aa.new hD,aA,U] (λj out H' _ ⟨sm,_,_⟩=>.of (sm _ _ (s2 _ _ fZ))) (λout H' ⟨sm,dA,eo⟩=>?_) (λj x out H' hx ⟨sm,dA,eo⟩=>?_)
  ·rw[aq,d_] at eo
   have uG:aZ (t7 (ns.take i) as) (Sum.inr n)=none:=u_ λm=>by
    unfold t7 at m;rw[cA] at m;let#[p,hp,e]:=bx.mp m;have e:p.1=n:=iB e;let q:=Gy (g:=id) (by rw[List.map_id];exact nd) hn;rw[List.map_id] at q;exact q (e▸(List.of_mem_zip hp).1)
   have QE:D≠d:=λz=>by subst z;rw[hD] at hd2;cases hd2
   apply#[_,U,_,U,d,_,U,.k (k:=Sum.inr n) (sm _ _ hd2) Y0,?_];apply#[_,as++[D],U,λc o e=>?_,by rw[dN,la];rfl,?_,λj n' a EU ha=>?_]
   ·rw[aB (bG e hd)];exact sm _ _ (s2 _ _ e)
   ·rw[aA,yJ _ uG];congr 2;unfold t7;rw[uc,hn,List.zip_append (by rw[dM];omega),eK];rfl
   by_cases hj:j<as.length
   ·rw[w6 hj] at ha;let#[q1,q2,q3]:=lists j n' a EU ha;apply#[q1,q2,?_];rw[aB q2];exact sm _ _ q3
   have hj2:j=i:=by
    have:=(cw.mp ha).1;rw[dN] at this;simp only[oF] at this;omega
   subst hj2;rw[yP Y0,la,Nat.sub_self] at ha;have ha:D=a:=⇑ha
   subst ha;rw[hn] at EU;cases EU;apply#[s2.free hD,QE,?_];rw[aB QE,dA,eo];rfl
  let#[o,ho,rfl]:=qu hx;apply#[_,U,U,λNx hN=>?_];apply#[_,U,_,U,n,o,U,λt ht=>?_];have s3:aa H' (upd H' t (.tup [.str (aN n o).1,.str (aN n o).2])):=aa.new ht;let VU:=((tz.same s2).same sm).same s3
  have lo:out.length<sizeLine:=by
   rw[eo,aq];have:=List.length_filter_le (λo=>decide (aN n o∈ts)) (ns.take j);rw[dM] at this;omega
  apply#[_,U,aN n o,ts,#[t,_,_,U,.of aA,U,U],#[l2,zs,U,.of (s3 _ _ (sm _ _ (s2 _ _ jr))),MZ VU],_,U,?_];apply bH (λc=>?_) (λc=>?_)
  ·apply#[_,U,out,s3 _ _ dA,lo,hN _ _ #[fF (sm.trans s3) hD,aA,?_]];have c:decide (aN n o∈ts)=true:=⇑c
   rw[JL _ ho,aK c,eK,eo];rfl
  apply hN _ _ #[sm.trans s3,s3 _ _ dA,?_];have c:¬decide (aN n o∈ts)=true:=⇑c
  rw[JL _ ho,aD c,List.append_nil,eo]
 rintro σ H2 ⟨v3,as,rfl,s2,la,hd2,lists⟩;rw[aq] at la hd2;rw[d_] at hd2;exact#[_,U,k d as _ s2 hd la hd2 λj n a h1 h2=>#[(lists j n a h1 h2).1,(lists j n a h1 h2).2.2]]
end
end Ev
namespace Ev
open PySem L2
abbrev rR:Stmt:=pC oS 0
abbrev vH:Stmt:=pC oS 1
abbrev lV:Stmt:=pC oS 2
abbrev OW:Stmt:=pC oS 3
abbrev lP:Stmt:=pC oS 4
abbrev rD:Stmt:=pC oS 5
def Fx:aw->Str
 |.inr a::_=>a
 |_=>⟨#[]⟩
def Kc:aw->Str × Str
 |[.inr a,.inr b]=>(a,b)
 |_=>(⟨#[]⟩,⟨#[]⟩)
def aV(hs:Xa):ae:=(bh (hs.map kH)).map Fx
def bV(ts:Xb):Xb:=(bh (ts.map λt=>kT (aN t.1 t.2))).map Kc
theorem OM(ts:Xb):(bV ts).map kT=bh (ts.map λt=>kT (aN t.1 t.2)):=by
 unfold bV;rw[cA]
 have all:∀k∈bh (ts.map λt=>kT (aN t.1 t.2)),∃t:Str × Str,k=kT t:=λk hk=>by
  let#[t,_,e]:=bx.mp ((ug _).mem_iff.mp hk);exact#[_,e.symm]
 generalize bh (ts.map λt=>kT (aN t.1 t.2))=l at all
 induction l with
 |nil=>rfl
 |cons k l ih=>
  let#[t,rfl]:=all k fY;rw[fE,ih λk hk=>all k (fo _ hk)];rfl
theorem Uv(hs:Xa):∀k∈bh (hs.map kH),∃h:Str × Int,h∈hs/\k=kH h:=λk hk=>by
 let#[t,ht,e]:=bx.mp ((ug _).mem_iff.mp hk);exact#[t,ht,e.symm]
theorem S_(hs:Xa):((dB hs).map λkv=>kV kv.1)=(aV hs).map V.str:=by
 unfold dB aV;rw[cA,cA];apply u9 λk hk=>?_;let#[h,_,rfl]:=Uv hs k hk;rfl
theorem S5(hs:Xa):(dB hs).map (·.1)=(aV hs).map Sum.inr:=by
 unfold dB aV;rw[cA,cA];apply u9 λk hk=>?_;let#[h,_,rfl]:=Uv hs k hk;rfl
theorem gv(hs:Xa):(aV hs).Perm (hs.map (·.1)):=by
 unfold aV;let p:=(ug (hs.map kH)).map Fx;rw[cA] at p;exact p
theorem OP{κ:Type}[DecidableEq κ]{kvs:List (κ × V)}{k:κ}(h:k∈kvs.map (·.1)):(aZ kvs k).isSome=true:=by
 rw[<- CN];let#[p,hp,e]:=bx.mp h;exact List.any_eq_true.mpr #[p,hp,dc e]
theorem Jh{hs:Xa}{n:Str}:(aZ (dB hs) (Sum.inr n)).isSome=decide (n∈hs.map (·.1)):=by
 by_cases h:n∈hs.map (·.1)
 ·rw[dc h];apply OP ?_;rw[S5];exact bx.mpr #[n,(gv hs).mem_iff.mpr h,U]
 rw[fO h,u_]
 ·rfl
 rw[S5];intro m;let#[x,hx,e]:=bx.mp m;cases e;exact h ((gv hs).mem_iff.mp hx)
theorem z_:¬((u4:Str)="sorted_pairs"):=by decide +kernel
theorem Xu:¬((u4:Str)=Cw):=by decide +kernel
def fi(d1 l2 d3:Addr):List (Str × V):=aP Cw (.ref d3) (aP "sorted_pairs" (.ref l2) (aP u4 (.ref d1) []))
theorem Iq(d1 l2 d3:Addr):(fi d1 l2 d3).lookup (u4:Str)\.ref d1:=by
 unfold fi;rw[gT,aD Xu,gT,aD z_,gT,aK U]
theorem Rj(d1 l2 d3:Addr):(fi d1 l2 d3).lookup (Cw:Str)\.ref d3:=by
 unfold fi;rw[gT,aK U]
theorem pE(d1 l2 d3:Addr){m:Str}(h1:¬m=u4)(h2:¬m="sorted_pairs")(h3:¬m=Cw):(fi d1 l2 d3).lookup m=none:=by
 unfold fi;rw[gT,aD h3,gT,aD h2,gT,aD h1]
 all_goals rfl
structure hU (K:af) (C:Addr) (H:Hp) (p:Addr) (hs:Xa) (ts:Xb) (fp:av):Prop where
 ex:∃(dx d1 l2 d3:Addr) (zs:ag) (as:av),fp=p::d1::l2::d3::as/\H p\.ins C dx (fi d1 l2 d3)/\H d1\.dK (dB hs)/\H l2\.lst zs/\bS K H zs ((bV ts).map kT)/\H d3\.dK (t7 (aV hs) as)/\as.length=(aV hs).length /\
  ∀(i:Nat) n a,(aV hs)[i]? = some n->as[i]? = some a->H a\.lst ((near (aV hs) (bV ts) n).map V.str)
theorem hU.keep{K:af}{C:Addr}{H H':Hp}{p:Addr}{hs:Xa}{ts:Xb}{fp:av}(W:hU K C H p hs ts fp)(k:∀b∈fp,∀o,H b\o->H' b\o)(kt:∀b xs,H b\.tup xs->H' b\.tup xs):hU K C H' p hs ts fp:=by
 let#[dx,d1,l2,d3,zs,as,rfl,h1,h2,h3,h4,h5,h6,h7]:=W.ex;apply#[dx,d1,l2,d3,zs,as,U,k _ Y1 _ h1,k _ Y1 _ h2,k _ Y1 _ h3,Paired.aQ h4 λy q ⟨a,e,z⟩=>#[a,e,kt _ _ z],k _ Y1 _ h5,h6,λi n a e1 e2=>k _ ?_ _ (h7 i n a e1 e2)];have:=cJ e2;simp[this]
theorem hU.same{K:af}{C:Addr}{H H':Hp}{p:Addr}{hs:Xa}{ts:Xb}{fp:av}(W:hU K C H p hs ts fp)(s:aa H H'):hU K C H' p hs ts fp:=W.keep (λb _ o e=>s b o e) λb xs e=>s b _ e
structure Good (hs:Xa) (ts:Xb):Prop where
 aF:∀h∈hs,om h
 pU:(hs.map (·.1)).Nodup
 h1:1<=hs.length
 h8:hs.length<=8
 tok:∀t∈ts,wB t
 G5:(ts.map λt=>kT (aN t.1 t.2)).Nodup
 xv:ts.length<64
 yZ:∀t∈ts,t.1∈hs.map (·.1)/\t.2∈hs.map (·.1)
theorem Good.iU{hs:Xa}{ts:Xb}(G:Good hs ts):(aV hs).Nodup:=(gv hs).nodup_iff.mpr G.pU
theorem Good.iV{hs:Xa}{ts:Xb}(G:Good hs ts):(aV hs).length=hs.length:=by
 rw[(gv hs).length_eq,aq]
structure Txt (K:af) (mg:Str->Option Aa) (C:Addr):Prop where
 cl:mR K C
 nS:ml K C u4
 nP:ml K C "sorted_pairs"
 nN:ml K C Cw
section v
theorem lJ:bQ ["self","hands","ties","strengths","checked"] ["self","hands","ties"] (a_ rR):=bZ
inductive IL (K:af) (C:Addr) (vs:ag) (H:Hp) (Q:VK) (E:XK):Prop
 |mk:∀(p dx lh lt:Addr) (ys zs:ag) (hs:Xa) (ts:Xb),vs=[.ref p,.ref lh,.ref lt]->H p\.ins C dx []->H lh\.lst ys->bS K H ys (hs.map kH)->H lt\.lst zs->bS K H zs (ts.map kT)->Good hs ts->(∀fp H',(∀b o,H b\o->b≠p->H' b\o)->hU K C H' p hs ts fp->(∀b∈fp,b=p∨H b=none)->Q .non H')->IL K C vs H Q E
theorem ZJ{f C:Addr}{fd:Ae}(F:bu K "__init__" "Web.__init__" rR f fd)(T:Txt K mg C)(B:Bi mg)(cS:!bF 4 "checked_strengths" ["hands"] (xw K))(cT:!bF 4 "checked_ties" ["ties","strengths"] (lj K))(cN:!bF 2 "neighbours_of_all" ["names","ties"] (lD K)) :
  ak P w K mg base bc 5 f fd ["self","hands","ties"] (IL K C):=by
 exists F.bW lJ;let#[p,dx,lh,lt,ys,zs,hs,ts,rfl,hp,eZ,th,dR,tt,G,k]:=h
 apply#[_,ax (bw 3 lJ.nd (bj cS hr %[1|0]))
  (ax (bw 4 lJ.nd (bj cT hr %[2,3|0]))
  (ax (wF (pv 0) (pv 3) U) (ax (wF (pv 0) (pv 4) U)
  (aJ (wF (pv 0) (bj cN hr %[gS (Ot U) (by rfl) B.list qf %[3|0],4|0]) U))))),?_]
 apply#[_,U,lh,ys,hs,U,eZ,th,G.aF,G.pU,G.h1,G.h8,λd1 H1 s1 f1 pX=>?_];apply#[_,U,_,U,lt,d1,zs,ts,_,U,s1 _ _ dR,tt.same s1,G.tok,G.G5,G.xv,pX,λt ht=>?_,λl2 J2 H2 s2 f2 jr tz=>?_]
 ·rw[Jh,Jh];exact#[dc (G.yZ t ht).1,dc (G.yZ t ht).2]
 let AS:=s2 _ _ pX;let kI:=s2 _ _ (s1 _ _ hp);have p1:p≠d1:=bO kI AS nofun;have p2:p≠l2:=bO kI jr nofun;apply#[_,U,_,U,p,C,dx,[],U,kI,T.cl,T.nS,by show 0<1000;decide,?_];apply#[_,U,_,U,p,C,dx,_,U,aA,T.cl,T.nP,by show 1<1000;decide,?_]
 let H3:Hp:=upd (upd H2 p (.ins C dx (aP u4 (.ref d1) []))) p (.ins C dx (aP "sorted_pairs" (.ref l2) (aP u4 (.ref d1) [])))
 have h3:∀{b o},H2 b\o->b≠p->H3 b\o:=λe ne=>by
  show upd (upd H2 p _) p _ _=_;rw[aB ne,aB ne];exact e
 have My:H3 p\.ins C dx (aP "sorted_pairs" (.ref l2) (aP u4 (.ref d1) [])):=aA
 have D4:∀{b},H3 b=none->H2 b=none:=λ{b} e=>by
  by_cases z:b=p
  ·subst z;rw[My] at e;cases e
  have e:upd (upd H2 p _) p _ b=none:=e;rw[aB z,aB z] at e;exact e
 have P6:bS K H3 J2 ((bV ts).map kT):=by
  rw[OM];exact Paired.aQ tz λy q ⟨a,e,z⟩=>#[a,e,h3 z (bO z kI nofun)]
 apply#[_,U,d1,_,U,.inl (h3 AS p1.symm),λl1 fZ=>?_];rw[S_];have s4:aa H3 (upd H3 l1 (.lst ((aV hs).map V.str))):=aa.new fZ;have K1:l1≠l2:=(bG (H:=H3) (h3 jr p2.symm) fZ).symm;apply#[_,U,l1,l2,aV hs,J2,bV ts,U,aA,s4 _ _ (h3 jr p2.symm),P6.same s4,G.iU,by rw[G.iV];have:=G.h8;omega,K1,λd3 as H5 s5 f5 la l9 lists=>?_];let LF:=s5 _ _ (s4 _ _ My);apply#[_,U,p,C,dx,_,U,LF,T.cl,T.nN,by show 2<1000;decide,?_]
 have up:∀{b o},H2 b\o->b≠p->upd H5 p (.ins C dx (fi d1 l2 d3)) b\o:=λe ne=>by
  rw[aB ne];exact s5 _ _ (s4 _ _ (h3 e ne))
 have pe:∀{b},upd H3 l1 (.lst ((aV hs).map V.str)) b=none->H b=none:=λe=>s1.free (s2.free (D4 (s4.free e)));have Mi:d3≠p:=(bG (s4 _ _ My) f5).symm;apply k (p::d1::l2::d3::as) _ (λb o e ne=>up (s2 _ _ (s1 _ _ e)) ne) #[dx,d1,l2,d3,J2,as,U,aA,up AS p1.symm,up jr p2.symm,?_,?_,la,λi n a e1 e2=>?_] λb hb=>?_
 ·exact Paired.aQ (P6.same (s4.trans s5)) λy q ⟨a,e,z⟩=>#[a,e,by rw[aB (bO z LF nofun)];exact z]
 ·rw[aB Mi];exact l9
 ·let#[q1,q2]:=lists i n a e1 e2;rw[aB (bO q2 LF nofun)];exact q2
 simp only[cg] at hb;rcases hb with rfl|rfl|rfl|rfl|hb
 ·exact .inl U
 ·exact .inr f1
 ·exact .inr (s1.free f2)
 ·exact .inr (pe f5)
 let#[i,hi,e]:=gB hb;have e1:as[i]? = some b:=by rw[aX hi,e]
 have hn:i<(aV hs).length:=by omega
 exact .inr (pe (lists i _ b (aX hn) e1).1)
end
end Ev
namespace Ev
open PySem L2
structure bY (P:Ad) (w:Af) (K:af) (mg:Str->Option Aa) (base:Heap) (C:Addr) (k:Nat) (m:Str) (ps:ae) (sp:Sp):Prop where
 ex:∃f fd,ak P w K mg base bc k f fd ps sp/\Meth K C m f/\p9 K fd ps []
theorem j2{X:Cx}{C:Addr}{k:Nat}{m:Str}{ps:ae}{sp:Sp}{pos apos:Pos}{o e:Expr}{es:List Expr}{ta:TE}{t:TA}{pl:Sem Bool}(c:bY X.prog X.w X.K X.mg X.base C k m ps sp)(cl:mR X.K C)(hr:aY k X.A)(he:PE X o ta)(ha:PA X (e::es) t)
  (AA:starEach (e::es) X.env=(false,eval e X.env)::starEach es X.env:=by rfl) (iZ:(backTo pos (starEach es X.env)).any (·.1)=false:=by rfl)
  (ht:eval (.Call (.Attribute o m apos) (e::es) [] pos) X.env=(do
   let ov <- eval o X.env
   standAt apos.atName
   let (f,first) <- holding [ov] (getMethod ov m pl)
   callWith pos f first (backTo pos (starEach (e::es) X.env)) (backToKw pos (keywordEach [] X.env))):=by rfl) :
  PE X (.Call (.Attribute o m apos) (e::es) [] pos) (mY C m sp [] E0 ta t):=by
 let#[f,fd,F,hm,b]:=c.ex;exact ZI he cl hm F hr b .nil nR ha AA iZ ht
theorem Bs{X:Cx}{C:Addr}{k:Nat}{m:Str}{ps:ae}{sp:Sp}{pos apos:Pos}{o:Expr}{ta:TE}{pl:Sem Bool}(c:bY X.prog X.w X.K X.mg X.base C k m ps sp)(cl:mR X.K C)(hr:aY k X.A)(he:PE X o ta)
  (ht:eval (.Call (.Attribute o m apos) [] [] pos) X.env=(do
   let ov <- eval o X.env
   standAt apos.atName
   let (f,first) <- holding [ov] (getMethod ov m pl)
   callWith pos f first (backTo pos (starEach [] X.env)) (backToKw pos (keywordEach [] X.env))):=by rfl) :
  PE X (.Call (.Attribute o m apos) [] [] pos) (mY C m sp [] E0 ta gG):=by
 let#[f,fd,F,hm,b]:=c.ex;exact _w he cl hm F hr b .nil nR ht
theorem fM_{hs:Xa}(nd:(hs.map (·.1)).Nodup){x:Str}{n:Int}(h:(x,n)∈hs):aZ (dB hs) (Sum.inr x)\.int n:=by
 have m:((Sum.inr x:Key),V.int n)∈dB hs:=by
  unfold dB;apply bx.mpr #[kH (x,n),(ug _).mem_iff.mpr (bx.mpr #[_,h,U]),U]
 let nk:=UH nd;generalize dB hs=kvs at m nk
 induction kvs with
 |nil=>cases m
 |cons p r ih=>
  let#[n1,n2]:=kW.mp nk;rcases cg.mp m with e|m
  ·rw[<- e];exact yK U
  rw[yI (λe:p.1=Sum.inr x=>n1 (bx.mpr #[_,m,e.symm]))];exact ih m n2
theorem gl_{ns:ae}{as:av}(nd:ns.Nodup)(la:as.length=ns.length){i:Nat}{n:Str}(hn:ns[i]? = some n):∃a,as[i]? = some a/\aZ (t7 ns as) (Sum.inr n)\.ref a:=by
 induction ns generalizing as i with
 |nil=>simp at hn
 |cons x ns ih=>
  cases as with
  |nil=>cases la
  |cons b as=>
   let#[n1,n2]:=kW.mp nd;cases i with
   |zero=>
    have e:x=n:=⇑hn
    subst e;exact#[b,U,yK U]
   |succ i=>
    have hn:ns[i]? = some n:=⇑hn
    let#[a,h1,h2]:=ih n2 ⇑la hn;apply#[a,by simpa using h1,?_];show aZ ((Sum.inr x,V.ref b)::t7 ns as) (Sum.inr n)=_;rw[yI λe=>n1 (by rw[show x=n from iB e];exact cJ hn)];exact h2
section v
theorem xB:bQ mF mF (a_ vH):=bZ
inductive jD (K:af) (C:Addr) (vs:ag) (H:Hp) (Q:VK) (E:XK):Prop
 |mk:∀(p:Addr) (x:Str) (hs:Xa) (ts:Xb) (fp:av),vs=[.ref p,.str x]->hU K C H p hs ts fp->Q (.bl (decide (x∈hs.map (·.1)))) H->jD K C vs H Q E
theorem X3{f C:Addr}{fd:Ae}(F:bu K "has_hand" "Web.has_hand" vH f fd)(T:Txt K mg C)(B:Bi mg):!ak bc 1 f fd mF (jD K C):=by
 exists F.bW xB;let#[p,x,hs,ts,fp,rfl,W,k]:=h;let hu:=fP hr;let#[dx,d1,l2,d3,zs,as,rfl,h1,h2,h3,h4,h5,h6,h7]:=W.ex;apply#[_,aJ (bp (oy (bT gM (by rfl) B.gA gE %[1,gN (v:=.ty "str") (by rfl) B.str Iu U|0]) (pB (IC (Bk hu (pv 1) (ja (pv 0) U)))))),?_];apply#[_,U,_,_,_,_,U,.str x,U,_,U,bN ?_];apply#[_,U,_,U,p,C,dx,_,_,U,h1,T.cl,T.nS,Iq _ _ _,d1,_,U,.k (k:=Sum.inr x) h2,?_];rw[Jh];exact k
theorem vF:bQ pA pA (a_ lV):=bZ
inductive Gw (K:af) (C:Addr) (vs:ag) (H:Hp) (Q:VK) (E:XK):Prop
 |mk:∀(p:Addr) (hs:Xa) (ts:Xb) (fp:av),vs=[.ref p]->hU K C H p hs ts fp->(∀l,H l=none->Q (.ref l) (upd H l (.lst ((aV hs).map V.str))))->Gw K C vs H Q E
theorem ZU{f C:Addr}{fd:Ae}(F:bu K "hands" "Web.hands" lV f fd)(T:Txt K mg C)(B:Bi mg):!ak bc 1 f fd pA (Gw K C):=by
 exists F.bW vF;let#[p,hs,ts,fp,rfl,W,k]:=h;let#[dx,d1,l2,d3,zs,as,rfl,h1,h2,h3,h4,h5,h6,h7]:=W.ex;apply#[_,aJ (bp (gS (Ot U) (by rfl) B.list qf %[ja (pv 0) U|0])),?_];apply#[_,U,p,C,dx,_,_,U,h1,T.cl,T.nS,Iq _ _ _,d1,_,U,.inl h2,λl hl=>?_];rw[S_];exact k l hl
theorem eD':bQ wA wA (a_ OW):=bZ
inductive JR (K:af) (C:Addr) (vs:ag) (H:Hp) (Q:VK) (E:XK):Prop
 |mk:∀(p:Addr) (x:Str) (n:Int) (hs:Xa) (ts:Xb) (fp:av),vs=[.ref p,.str x]->hU K C H p hs ts fp->(hs.map (·.1)).Nodup->(x,n)∈hs->Q (.int n) H->JR K C vs H Q E
theorem eO_{f C:Addr}{fd:Ae}(F:bu K "strength" "Web.strength" OW f fd)(T:Txt K mg C)(cH:!bY C 1 "has_hand" mF (jD K C)):!ak bc 2 f fd wA (JR K C):=by
 apply F.bW eD' λaO A outer s H vs Q E hr h=>?_;let#[p,x,n,hs,ts,fp,rfl,W,nd,hx,k]:=h;let hu:=fP hr;let#[dx,d1,l2,d3,zs,as,rfl,h1,h2,h3,h4,h5,h6,h7]:=id W.ex;apply#[_,ax (b_ (eM (d4 (j2 cH T.cl hr (pv 0) %[1|0]))) gC cm) (aJ (bp (j_ hu (ja (pv 0) U) (pv 1)))),?_];apply#[_,U,p,dx,_,U,h1,pE _ _ _ Z0 Z0 Z0,_,U,p,x,hs,ts,_,U,W,_,U,?_];rw[dc (bx.mpr #[_,hx,U])];apply aH ?_;apply#[_,U,p,C,dx,_,_,U,h1,T.cl,T.nS,Iq _ _ _,_,U,d1,_,U,?_,k];rw[<- fM_ nd hx];exact .k (k:=Sum.inr x) h2
theorem vD:bQ wA wA (a_ lP):=bZ
inductive N7 (K:af) (C:Addr) (vs:ag) (H:Hp) (Q:VK) (E:XK):Prop
 |mk:∀(p:Addr) (x:Str) (hs:Xa) (ts:Xb) (fp:av),vs=[.ref p,.str x]->hU K C H p hs ts fp->(aV hs).Nodup->x∈hs.map (·.1)->(∀l,H l=none->Q (.ref l) (upd H l (.lst ((near (aV hs) (bV ts) x).map V.str))))->N7 K C vs H Q E
theorem Rl{H:Hp}{hs:Xa}{ts:Xb}{as:av}{x:Str}(nd:(aV hs).Nodup)(hx:x∈hs.map (·.1))(la:as.length=(aV hs).length)
  (h7:∀(i:Nat) n a,(aV hs)[i]? = some n->as[i]? = some a->H a\.lst ((near (aV hs) (bV ts) n).map V.str)):∃a,aZ (t7 (aV hs) as) (Sum.inr x)\.ref a/\H a\.lst ((near (aV hs) (bV ts) x).map V.str):=by
 let#[i,hi,e]:=gB ((gv hs).mem_iff.mpr hx);have hn:(aV hs)[i]? = some x:=by rw[aX hi,e]
 let#[a,h1,h2]:=gl_ nd la hn;exact⟨a,h2,h7 i x a hn h1⟩
theorem _m{f C:Addr}{fd:Ae}(F:bu K "neighbours" "Web.neighbours" lP f fd)(T:Txt K mg C)(B:Bi mg)(cH:!bY C 1 "has_hand" mF (jD K C)):!ak bc 2 f fd wA (N7 K C):=by
 exists F.bW vD;let#[p,x,hs,ts,fp,rfl,W,nd,hx,k]:=h;let hu:=fP hr;let#[dx,d1,l2,d3,zs,as,rfl,h1,h2,h3,h4,h5,h6,h7]:=id W.ex;let#[a,e1,ha]:=Rl nd hx h6 h7;apply#[_,ax (b_ (eM (d4 (j2 cH T.cl hr (pv 0) %[1|0]))) gC cm) (aJ (bp (gS Pe (by rfl) B.list qf %[j_ hu (ja (pv 0) U) (pv 1)|0]))),?_];apply#[_,U,p,dx,_,U,h1,pE _ _ _ Z0 Z0 Z0,_,U,p,x,hs,ts,_,U,W,_,U,?_];rw[dc hx];apply aH ?_;apply#[_,U,p,C,dx,_,_,U,h1,T.cl,T.nN,Rj _ _ _,_,U,d3,.ref a,U,?_,a,_,U,.inl (.of ha),k];rw[<- e1];exact .k (k:=Sum.inr x) h5
theorem zr:bQ ki ki (a_ rD):=bZ
theorem Nz{H:Hp}:∀ns:ae,Paired (rS H) (ns.map V.str) ns
 |[]=>.nil
 |_::ns=>.cons U (Nz ns)
end
end Ev
namespace L2
open PySem PySem.Spec PyProof.Rows PySem.W
def GS(K:af)(a:Addr):It:=
 #[λi H=>∃xs x,d6 K H a xs/\xs[i]? = some x,λi H y H'=>∃t x,y=.ref t/\H t=none/\(∀xs,d6 K H a xs->xs[i]? = some x)/\H'=upd H t (.tup [.int i,x]),λi H=>∃xs,d6 K H a xs/\xs.length=i]
theorem Inv.iM{X:Cx}{pins:List (Addr × Obj)}{σ:St}{H:Hp}{s:Ab}{h':Heap}{t':Nat}{fp:av}{T:Addr}{xs:ag}{its:aj}(I:Inv X pins σ H s)(k:∀b o,b∉fp->s.heap.get? b\o->h'.get? b\o)(hf:∀b∈fp,du X pins H b)
  (hT:s.heap.objs.size<=T) (hz:xs.length<=sizeLine) (r:Vals xs its) (ht:IsTup h' T its.toArray/\∃o,h'.get? T\o/\o.dict=none):Inv X pins σ (upd H T (.tup xs)) { s with heap:=h',toks:=t' }:=by
 have fT:H T=none:=I.aF.fresh hT;have nf:∀b u,H b\u->b∉fp:=λb u e hb=>by rw[(hf b hb).1] at e;cases e
 have old:∀{b u},H b\u->upd H T (.tup xs) b\u:=λe=>by rw[aB (bG e fT)];exact e
 apply I.step (g':=s.gens) (d':=s.drawn) (ch:=fp) (λb hb=>?_) (λb o _ _ hc e _=>k b o hc e) (λb o _ _ hc e _=>#[o.slots,k b o hc e]) (λb o _ e n=>?_)
  (λb o hc e=>#[o,k b o hc e]) (λb ys e=>old e) (λb o u e=>old e) (λb ps e=>#[#[],by rw[Array.append_empty];exact old e]) (λm hm=>?_) (λb u e=>?_) I.bare
 ·let#[f0,f1,f2,f3,f4,f5]:=hf b hb;exact#[f3,f1,f4,f5]
 ·rw[aB (λz=>by subst z;exact absurd (bK e) (Nat.not_lt.mpr hT))];exact n
 ·let#[o,es,ep,ho,r]:=hm;exact#[o,es,ep,k _ o (λhb=>(hf _ hb).2.1 U) ho,r]
 by_cases z:b=T
 ·subst z;rw[aA] at e;cases e;exact#[hz,its,r,ht]
 rw[aB z] at e;apply (I.aF b u e).cB (λc v hc q=>k c v ?_ q) (λ_ q=>old q) λ_ _ q=>old q;rcases hc with z|z
 ·rw[z];exact nf b u e
 exact nf c _ z
theorem Inv.gP{X:Cx}{pins:List (Addr × Obj)}{σ:St}{H:Hp}{s:Ab}{h':Heap}{t':Nat}{fp:av}(I:Inv X pins σ H s)(k:∀b o,b∉fp->s.heap.get? b\o->h'.get? b\o)(hf:∀b∈fp,du X pins H b):Inv X pins σ H { s with heap:=h',toks:=t' }:=by
 have nf:∀b u,H b\u->b∉fp:=λb u e hb=>by rw[(hf b hb).1] at e;cases e
 apply I.step (g':=s.gens) (d':=s.drawn) (ch:=fp) (λb hb=>?_) (λb o _ _ hc e _=>k b o hc e) (λb o _ _ hc e _=>#[o.slots,k b o hc e]) (λb o _ e n=>n)
  (λb o hc e=>#[o,k b o hc e]) (λb ys e=>e) (λb o u e=>e) (λb ps e=>#[#[],by rw[Array.append_empty];exact e]) (λm hm=>?_) (λb u e=>?_) I.bare
 ·let#[f0,f1,f2,f3,f4,f5]:=hf b hb;exact#[f3,f1,f4,f5]
 ·let#[o,es,ep,ho,r]:=hm;exact#[o,es,ep,k _ o (λhb=>(hf _ hb).2.1 U) ho,r]
 apply (I.aF b u e).cB (λc v hc q=>k c v ?_ q) (λ_ q=>q) λ_ _ q=>q;rcases hc with z|z
 ·rw[z];exact nf b u e
 exact nf c _ z
theorem hi_{P:Ad}{w:Af}{K:af}{elts:List Expr}{k:Nat}{pos:Pos}(a e it:Addr)(h1:e≠it)(h2:a≠e)(h3:a≠it):Turn P w K (.Tuple elts k pos) (GS K a) [e,it] e (λi h=>(∃old,IsEnum h e it i old)/\h.IsListIter it a i) where
 mem:=by simp
 obj:=λi h st b hb=>by
  let#[#[old,q],o,e2,c,d]:=st;rcases cg.mp hb with rfl|hb
  ·exact#[_,q,λv z=>by cases z]
  obtain rfl:b=it:=⇑hb
  exact#[o,e2,λv z=>by rw[d] at z;cases z]
 keep:=λi h h' st kk=>by
  let#[#[old,q],cQ]:=st;exact#[#[old,kk e Y1 _ q],cQ.at λo q2=>kk it Y1 o q2]
 item:=by
  intro X hP hw hK hc i pins s σ H E I hf st hg;subst hP hw hK;let#[xs,x,hq,hx]:=hg;let#[its,rv,p,hz]:=I.list hq;let#[u,hu,ru]:=rv.get hx;let W:=WalksT.enumerate (prog:=X.prog) (w:=X.w) (A:=X.A) (I.ok.hd hc) e it a h1 h2 h3 its.toArray
  have hi:i<its.toArray.size:=by
   simp only[cY];exact (cw.mp hu).1
  let#[old,he]:=st.1;let hit:=st.2;apply wpAny_pyNext_enum_item he hit p.isList (x:=u) (by rw[List.getElem?_toArray];exact hu) h1 λh' ho AM yc hsz hk=>?_;have AQ:e<s.heap.objs.size:=bK he;have AN:it<s.heap.objs.size:=by let#[_,x,_]:=hit;exact bK x
  have mid:(∃x,IsEnumOut h' e it ((i:Int)+1) x s.heap.objs.size)/\h'.IsListIter it a (i+1)/\h'.IsList a its.toArray/\s.heap.objs.size≠e/\s.heap.objs.size≠it:=#[#[_,ho],AM,p.isList.at λo x=>hk a o h2 h3 x,jf AQ,jf AN];have kk:∀b o,b∉[e,it]->s.heap.get? b\o->h'.get? b\o:=λb o hb x=>hk b o (λe'=>hb (by simp[e'])) (λe'=>hb (by simp[e'])) x;have B8:h'.IsTuple s.heap.objs.size (List.toArray [.int i s.toks,u]):=#[_,yc,U,_,U];obtain⟨T,eT⟩:∃T,T=s.heap.objs.size:=#[_,U];obtain⟨t,et⟩:∃t,t=s.toks:=#[_,U];obtain⟨tk,B_⟩:∃tk,tk=s.toks+1:=#[_,U];rw[<- eT] at B8 mid yc ⊢;have hT:s.heap.objs.size<=T:=Nat.le_of_eq eT.symm;rw[<- et] at B8 yc;rw[<- B_];apply#[_,U,W.go elts k pos i T { s with heap:=h',toks:=tk } _ _ mid λg_ dY As=>?_];have nT:T∉[e,it]:=W.apart i T h' mid
  have Au:g_.IsTuple T (List.toArray [.int i t,u]):=by
   let#[o,q,r]:=B8;exact#[o,As T o nT q,r]
  have I1:Inv X pins σ (upd H T (.tup [.int i,x])) { s with heap:=g_,toks:=tk }:=I.iM (t':=tk) (fp:=[e,it]) (its:=[.int i t,u]) (λb o hb q=>As b o hb (kk b o hb q)) hf hT (zl) (.cons #[t,U] (.cons ru .nil)) #[Au,_,As T _ nT yc,U];apply#[.ref T,_,I1,U,#[T,x,U,I.aF.fresh hT,λys hy=>by rw[I.jK hy hq];exact hx,U],#[?_,dY.2.1],λb hb=>?_]
  ·let#[old,q]:=dY.1;exact#[old,by simpa using q]
  rw[aB (λz:b=T=>nT (by rw[<- z];exact hb))];exact (hf b hb).1
 done:=by
  intro X hP hw hK hc i pins s σ H E I hf st hg;subst hP hw hK;let#[xs,hq,hx]:=hg;let#[its,rv,p,hz]:=I.list hq;let W:=WalksT.enumerate (prog:=X.prog) (w:=X.w) (A:=X.A) (I.ok.hd hc) e it a h1 h2 h3 its.toArray
  have hn:its.toArray.size=i:=by
   have:=rv.length;simp only[cY];omega
  apply W.done s _ _ (by rw[hn];exact#[st.1,st.2,p.isList]) λh' tk kk=>#[U,I.gP (t':=tk) (fp:=[e,it]) kk hf]
 self:=λA i s Q E st h=>by
  let#[old,q]:=st.1;exact wpAny_pyIter_enum q h
inductive sW (K:af) (R:It->Hp->Prop) (vs:ag) (H1:Hp):Prop
 |mk:∀a,vs=[.ref a]->(∃xs,d6 K H1 a xs)->R (GS K a) H1->sW K R vs H1
def Ez(K:af)(ta:TA):TI:=λσ H R=>ta σ H λvs H1=>sW K R vs H1
theorem Sq{X:Cx}{elts:List Expr}{kk:Nat}{p2:Pos}{a:Expr}{ta:TA}{p pos:Pos}(hg:Gl X "enumerate")(hm:X.mg "enumerate"=none)(ha:PA X [a] ta)(hs:starEach [a] X.env=[(false,eval a X.env)]:=by rfl):PI X (.Tuple elts kk p2) (.Call (.Name "enumerate" p) [a] [] pos) (Ez X.K ta):=by
 intro pins s σ H R I h;apply Call_ (wJ I hg hm boot_enumerate (CJ (aU (ha pos pins s σ H _ I h) λus s1 ⟨vs,H1,I1,r1,q1⟩=>?_) hs U));let#[l,e,#[xs,hq],q]:=q1;subst e;cases r1 with
 |cons r rr=>
  cases rr;cases r;let#[its,rv,pl,hz]:=I1.list hq;have ll:l<s1.heap.objs.size:=by let#[_,e,_]:=pl.isList;exact bK e
  apply call_enumerate_list pl.isList λh' he hi hn kp=>?_;apply wpAny_pyIter_enum he ?_;apply#[s1.heap.objs.size+1,[s1.heap.objs.size+1,s1.heap.objs.size],_,_,H1,U,I1.kept (t':=s1.toks) kp,hi_ l _ _ (Nat.succ_ne_self _) (dH (Nat.lt_succ_of_lt ll)) (dH ll),#[#[_,he],hi],λb hb=>?_,q]
  have e:s1.heap.objs.size<=b:=by
   rcases cg.mp hb with rfl|hb
   ·exact Nat.le_succ _
   obtain rfl:b=s1.heap.objs.size:=⇑hb
   exact a9 _
  exact I1.i5 e (I1.aF.fresh e)
theorem SV{K:af}{a:Addr}{xs:ag}{g:TG}{tb:TS}{D:Ends}{σ:St}{H:Hp}(Pv:dG)(h0:Pv 0 σ H)(hl:∀i σ H,i<=xs.length->Pv i σ H->d6 K H a xs)
  (hs:∀i x σ H,xs[i]? = some x->Pv i σ H->∀t,H t=none->g (.ref t) σ (upd H t (.tup [.int i,x])) λgc H2=>tb { D with nx:=Pv (i+1),ct:=Pv (i+1),bk:=D.nx } gc H2) (hd:∀σ H,Pv xs.length σ H->D.nx σ H) :
  ∃W:Nat->Nat->St->Hp->Prop,(∃m,W 0 m σ H)/\∀i m σ H,W i m σ H->
   ((GS K a).stop i H/\D.nx σ H)∨((GS K a).go i H/\∃N:St->Hp->Prop,(∀bf H',N bf H'->∃m',m'<m/\W (i+1) m' bf H')/\∀x H',(GS K a).vq i H x H'->g x σ H' λgc H2=>tb { D with nx:=N,ct:=N,bk:=D.nx } gc H2):=by
 apply#[λi m σ H=>m=xs.length - i/\i<=xs.length/\Pv i σ H,#[xs.length,by simp,gO _,h0],?_];rintro i m σ H ⟨rfl,hi,p⟩;let q:=hl i σ H hi p;by_cases dR:i<xs.length
 ·apply .inr #[#[xs,xs[i],q,by simp[dR]],Pv (i+1),λbf H' p'=>#[xs.length - (i+1),by omega,U,dR,p'],λx H' y=>?_];let#[t,x,rfl,ht,y,rfl]:=y;exact hs i x σ H (y xs q) p t ht
 have e:i=xs.length:=by omega
 subst e;exact .inl #[#[xs,q,U],hd σ H p]
end L2
namespace L2
open PySem PySem.Spec PyProof.Rows
section
variable{M:Model}{A:Ag}{E:Aa->Ab->Prop}{s:Ab}{base:Heap}{env:Env}{outer:List Env}{L e:Addr}{cls cx fl:Aa}{Q:Unit->Ab->Prop}
end
end L2
namespace L2
open PySem PySem.Spec PyProof.Rows
section
variable{P:Ad}{w:Af}{H H':Hp}{B h0 h h1:Heap}{l:List Env}
end
section
variable{X:Cx}{pins:List (Addr × Obj)}{σ:St}{H H':Hp}{s s1:Ab}{B h:Heap}{a:Addr}{cls a0:Aa}{E:XK}
end
section
variable{P:Ad}{w:Af}{K:af}{mg:Str->Option Aa}{base:Heap}{N:ae}{qual:Str}{scope:Scope}{f:Addr}{cd:Aa}{A:Ag}{outer:List Env}{s:Ab}{H:Hp}{E:XK}
end
section
variable{X:Cx}{x:Str}{C:Addr}{bm:aj}{B newId Aw:String}{np cu pos:Pos}{e₀:Expr}{t:TA}{E:XK}
end
section v
end
end L2
namespace L2
open PySem PySem.Spec PySem.Calls PyProof.Rows PySem.W Builtin Builtin.ObjectAttr Builtin.Getset_descriptor
structure PR (K:af) (C:Addr):Prop where
 cl:(clsIn K C).isSome=true
 ga:findIn K (.ref C) "__getattribute__"\some (.builtin "BaseException.__getattribute__")
 ha:findIn K (.ref C) "__getattr__"\none
 ca:findIn K (.ref C) "__class__"\some (.builtin "object.__class__")
 gt:specialIn K (.builtin "object.__class__") "__get__"\some (.builtin "getset_descriptor.__get__")
 tk:takesIn K (.builtin "object.__class__")\true
 mo:mroIn K C (.type "object")\true
 mb:mroIn K C (.type "BaseException")\true
section
variable{prog:Ad}{w:Af}{A:Ag}{E:Aa->Ab->Prop}{s:Ab}{K:af}{x C:Addr}
end
section
variable{X:Cx}
inductive xK (K:af) (xs:ag) (H:Hp) (Q:VK):Prop
 |mk:∀x C t b,xs=[x,.ref C]->dF K H x t->PySem.W.kitOne K t (.ref C)\b->Q (.bl b) H->xK K xs H Q
theorem ga_:gn X (.builtin "isinstance") (xK X.K):=by
 intro pins s σ H xs us Q I r h;let#[x,C,t,b,rfl,ty,e,q]:=h;let#[u,w',rfl,ru,iS]:=vals2 r;cases (show w'=Value.ref C from iS);exact Uj I ru ty e λtk=>#[.bl b,H,I.tok tk,U,q]
end
end L2
namespace L2
open PySem PySem.Spec PyProof.Rows
section
variable{X:Cx}{pins:List (Addr × Obj)}{σ:St}{H:Hp}{s:Ab}{a:Addr}
end
section
variable{X:Cx}{st:Stmt}{e c:Expr}{te:XS->TE}{t u:XS->TS}{pos:Pos}{a b:List Stmt}{tc:TT}
end
section
variable{X:Cx}{k:Nat}{f C:Addr}{fd:Ae}{ps:ae}{sp:Sp}{gJ:ag}{ds:aj}{ES:XS}{x m:Str}{p pos apos:Pos}{e o:Expr}{es:List Expr}{ta:TE}{t:TA}
end
section
variable{X:Cx}{i:Nat}{x n:Str}{D C:Addr}{np AB pos:Pos}{BA:Stmt}{qN body:List Stmt}{tb:XS->TS}{ts:TS}
end
end L2
namespace L2
open PySem
end L2
namespace Ev
open PySem L2
abbrev lZ:Stmt:=top 56
abbrev MX:Stmt:=top 57
abbrev OZ:Stmt:=top 58
abbrev FS:Stmt:=top 59
abbrev lY:Stmt:=top 62
abbrev Ky:Stmt:=top 20
abbrev Kx:Stmt:=top 21
abbrev rX:Stmt:=top 22
abbrev rQ:Stmt:=top 23
abbrev rP:Stmt:=top 24
abbrev NA:Stmt:=top 13
abbrev NI:Stmt:=top 26
abbrev OA:Stmt:=top 27
abbrev rM:Stmt:=top 28
abbrev Nt:Stmt:=top 29
abbrev rE:Stmt:=top 30
abbrev Ob:Stmt:=top 31
abbrev MY:Stmt:=top 32
abbrev se:Stmt:=top 34
abbrev lX:Stmt:=top 35
abbrev rG:Stmt:=top 36
abbrev NZ:Stmt:=top 37
abbrev rF:Stmt:=top 38
abbrev lT:Stmt:=top 63
abbrev NK:Stmt:=top 64
abbrev lR:Stmt:=top 65
abbrev O_:Stmt:=top 66
abbrev Nv:Stmt:=top 67
abbrev N9:Stmt:=top 68
abbrev lU:Stmt:=top 69
abbrev NH:Stmt:=top 70
abbrev NY:Stmt:=top 71
abbrev r_:Stmt:=top 73
abbrev zH:Stmt:=top 41
abbrev O3:Stmt:=top 42
abbrev zG:Stmt:=top 43
abbrev lQ:Stmt:=top 44
abbrev lK:Stmt:=top 45
abbrev rY:Stmt:=top 72
abbrev OH:Stmt:=top 74
abbrev fe:Stmt:=top 75
def aM(l:Addr)(H H':Hp):Prop:=∀b o,H b\o->b≠l->H' b\o
theorem aM.refl(l:Addr)(H:Hp):aM l H H:=λ_ _ e _=>e
theorem aM.trans{l:Addr}{H H1 H2:Hp}(h:aM l H H1)(h2:aM l H1 H2):aM l H H2:=λb o e n=>h2 b o (h b o e n) n
theorem aM.of{l:Addr}{H H1:Hp}(h:aa H H1):aM l H H1:=λb o e _=>h b o e
theorem aM.upd{l:Addr}{H:Hp}{o:HO}:aM l H (upd H l o):=λb u e n=>by rw[aB n];exact e
def bJ(H:Hp)(l:Addr):Prop:=(∃n:Int,H l\.lst [.int n])∨∃n m c:Int,H l\.lst [.int n,.int m,.int c]
theorem bJ.some{H:Hp}{l:Addr}(h:bJ H l):∃xs,H l\.lst xs:=by
 rcases h with⟨n,e⟩|⟨n,m,c,e⟩
 ·exact#[_,e]
 exact#[_,e]
theorem aM.free{l b:Addr}{H H':Hp}(h:aM l H H')(s:bJ H' l)(e:H' b=none):H b=none:=by
 cases z:H b with
 |none=>rfl
 |some o=>
  by_cases q:b=l
  ·subst q;let#[xs,e2]:=s.some;rw[e] at e2;cases e2
  rw[h b o z q] at e;cases e
theorem cZ{α:Type}{xs:List α}{i:Int}(h0:0<=i)(h1:i<xs.length):ib xs i=xs[i.toNat]?:=by
 unfold ib vS;rw[aK h0,aK h1];rfl
section v
def wO:Sp:=λvs H Q _=>∃(l:Addr) (b:Int),vs=[.ref l,.int b]/\0<b/\b<1073741824/\bJ H l/\∀r H',0<=r->r<b->aM l H H'->bJ H' l->Q (.int r) H'
theorem small(x:Int):-(2 ^ 64)<x % 2147483647/\x % 2147483647<2 ^ 64:=by
 let h1:=Int.emod_nonneg x (b:=2147483647) (by decide);let h2:=Int.emod_lt_of_pos x (b:=2147483647) (by decide);exact#[by omega,by omega]
end
end Ev
namespace Ev
open PySem L2
theorem _i:("abcdefghijklmnopqrstuvwxyz":Str).cps.toList=[97,98,99,100,101,102,103,104,105,106,107,108,109,110,111,112,113,114,115,116,117,118,119,120,121,122]:=by decide +kernel
theorem X8{r:Int}(h0:0<=r)(h1:r<26):∃c,ib ("abcdefghijklmnopqrstuvwxyz":Str).cps.toList r\c/\oY c=true:=by
 rw[_i,cZ h0 ⇑h1];have hn:r.toNat<26:=by omega
 apply#[_,aX ⇑hn,?_];have all:∀c∈[97,98,99,100,101,102,103,104,105,106,107,108,109,110,111,112,113,114,115,116,117,118,119,120,121,122],oY c=true:=by decide +kernel
 exact all _ (ke _)
end Ev
namespace Ev
open PySem L2
def j7{α:Type}(l:List α)(k:Nat)(x:α):List α:=l.take k++x::l.drop k
theorem CM{α:Type}(l:List α)(k:Nat)(x:α):(j7 l k x).Perm (x::l):=by
 unfold j7;apply List.perm_middle.trans ?_;rw[List.take_append_drop]
theorem Tr{α β:Type}(g:α->β)(l:List α)(k:Nat)(x:α):(j7 l k x).map g=j7 (l.map g) k (g x):=by
 unfold j7;rw[eK,fE,List.map_take,List.map_drop]
theorem JO{α β:Type}{F:α->β->Prop}:∀{ys:List α} {ks:List β} (k:Nat) {y:α} {q:β},Paired F ys ks->F y q->Paired F (j7 ys k y) (j7 ks k q)
 |[],_,k,_,_,.nil,h=>by
  unfold j7;simp only[List.take_nil,List.drop_nil,List.nil_append];exact .cons h .nil
 |y::ys,_,0,_,_,.cons a t,h=>.cons h (.cons a t)
 |y::ys,_,k+1,_,_,.cons a t,h=>.cons a (JO k t h)
theorem OL{α:Type}(l:List α)(k:Nat)(x:α):(j7 l k x).length=l.length+1:=(CM l k x).length_eq
theorem sZ{α:Type}{a b:α}{r:Int}(h0:0<=r)(h1:r<2):ib [a,b] r\a∨ib [a,b] r\b:=by
 have:r=0∨r=1:=by omega
 rcases this with rfl|rfl
 ·exact .inl U
 exact .inr U
theorem L0{α:Type}{p:α->Prop}{a b c d:α}{r:Int}(h0:0<=r)(h1:r<4)(ha:p a)(hb:p b)(hc:p c)(hd:p d):∃x,ib [a,b,c,d] r\x/\p x:=by
 have:r=0∨r=1∨r=2∨r=3:=by omega
 rcases this with rfl|rfl|rfl|rfl
 ·exact#[_,U,ha]
 ·exact#[_,U,hb]
 ·exact#[_,U,hc]
 exact#[_,U,hd]
section
theorem jb{K:af}{H H':Hp}{l:Addr}{ys:ag}{ks:List aw}(t:bS K H ys ks)(b:aM l H H'){xs:ag}(hl:H l\.lst xs):bS K H' ys ks:=Paired.aQ t λy k ⟨a,z,q⟩=>#[a,z,b _ _ q (bO q hl nofun)]
theorem TJ{K:af}{H:Hp}{D:Addr}{ns:ae}(h:H D\.lst (ns.map V.str)):rL K rS H (.ref D) ns:=#[D,_,U,.of h,Nz ns]
end
end Ev
namespace Ev
open PySem L2
theorem fG_{K:af}{a D:Addr}{ys:ag}{hs:Xa}{H:Hp}{Q:VK}{iL:St}(o9:iL=[none,none])(ha:H a\.lst ys)(tu:bS K H ys (hs.map kH))(h8:hs.length<=1000)(hD:H D=none)
  (q:∀H',aa H H'->H' D\.lst ((hs.map (·.1)).map V.str)->Q (.ref D) H'):yA (yT K a) (gi K 2 (qa (jx 0) (qa (jx 1) tJ))) qy (dj 0) iL D H Q:=by
 let sz:=cK;let le:=bI tu;rw[aq] at le;apply kb (own:=2) (fv:=[]) (xs:=ys) o9 wd (λi out H'=>aa H H'/\H' D\.lst out/\out=((hs.take i).map (·.1)).map V.str) #[aa.new hD,aA,U] (λi out H' _ ⟨sm,_,_⟩=>.of (sm _ _ ha)) (λout H4 ⟨sm,tG,eo⟩=>?_) (λj y out H' hy ⟨sm,dA,eo⟩=>?_)
 ·rw[le,d_] at eo;subst eo;exact q _ sm tG
 let#[h,hh,p,rfl,hp]:=ue tu hy;apply#[_,#[p,_,_,U,.of (sm _ _ (uL hp)),U],U,λNx hN=>eQ ?_];apply#[_,U,out,dA,?_,hN _ _ #[fF sm hD,aA,?_]]
 ·rw[eo,aq,aq,dM];omega
 rw[vm _ hh,eK,eo];rfl
def kO(t:Str × Str):aw:=kT (aN t.1 t.2)
structure TI (ns:ae) (k j:Nat) (ts:Xb):Prop where
 at':∀t∈ts,∃(a b:Nat) (x y:Str),b<a/\(a<k∨(a=k/\b<j))/\ns[a]? = some x/\ns[b]? = some y/\(t=(x,y)∨t=(y,x))
 nd:(ts.map kO).Nodup
 len:ts.length<=7 * k+j
theorem TI.skip{ns:ae}{k j:Nat}{ts:Xb}(h:TI ns k j ts):TI ns k (j+1) ts:=
 #[λt ht=>let #[a,b,x,y,h1,h2,h3,h4,h5]:=h.at' t ht;#[a,b,x,y,h1,by omega,h3,h4,h5],h.nd,by have:=h.len;omega]
theorem TI.next{ns:ae}{k:Nat}{ts:Xb}(h:TI ns k k ts)(h7:k<=7):TI ns (k+1) 0 ts:=
 #[λt ht=>let #[a,b,x,y,h1,h2,h3,h4,h5]:=h.at' t ht;#[a,b,x,y,h1,by omega,h3,h4,h5],h.nd,by have:=h.len;omega]
theorem Ir{a b:Str × Str}(h:kT a=kT b):a=b:=by
 unfold kT at h;let#[h1,h2]:=List.cons.inj h;let#[h2,_]:=List.cons.inj h2;exact Prod.ext (iB h1) (iB h2)
theorem Gr{ns:ae}(nd:ns.Nodup){i j:Nat}{x:Str}(h:ns[i]? = some x)(h2:ns[j]? = some x):i=j:=by
 let#[hi,e1]:=cw.mp h;let#[hj,e2]:=cw.mp h2;exact (List.getElem_inj nd).mp (e1.trans e2.symm)
theorem Rh{a b c d:Str}(h:kO (a,b)=kO (c,d)):(a=c/\b=d)∨(a=d/\b=c):=by
 let h:=Ir h;dsimp only at h;rcases Ji a b with e|e<;>rcases Ji c d with e2|e2<;>rw[e,e2] at h<;>let h1:=(Prod.mk.inj h).1<;>let h2:=(Prod.mk.inj h).2
 ·exact .inl #[h1,h2]
 ·exact .inr #[h1,h2]
 ·exact .inr #[h2,h1]
 exact .inl #[h2,h1]
theorem TI.add{ns:ae}{k j:Nat}{ts:Xb}(h:TI ns k j ts)(nd:ns.Nodup){x y:Str}{t:Str × Str}(hj:j<k)(hx:ns[k]? = some x)(hy:ns[j]? = some y)(ht:t=(x,y)∨t=(y,x))(q:Nat):TI ns k (j+1) (j7 ts q t):=by
 apply#[λu hu=>?_,?_,by have:=h.len;rw[OL];omega]
 ·rcases cg.mp ((CM _ _ _).mem_iff.mp hu) with rfl|hu
  ·exact#[k,j,x,y,hj,.inr #[U,by omega],hx,hy,ht]
  exact h.skip.at' u hu
 apply ((CM ts q t).map kO).nodup_iff.mpr ?_;rw[fE];apply kW.mpr #[λm=>?_,h.nd];let#[u,hu,e]:=bx.mp m;let#[a,b,c,d,h1,h2,h3,h4,h5]:=h.at' u hu
 have key:(c=x/\d=y)∨(c=y/\d=x):=by
  rcases h5 with rfl|rfl<;>rcases ht with rfl|rfl<;>rcases Rh e with⟨q1,q2⟩|⟨q1,q2⟩<;>simp_all
 rcases key with⟨rfl,rfl⟩|⟨rfl,rfl⟩
 ·have:=Gr nd h3 hx;have:=Gr nd h4 hy;omega
 have:=Gr nd h3 hy;have:=Gr nd h4 hx;omega
theorem TI.good{ns:ae}{k j:Nat}{ts:Xb}(h:TI ns k j ts)(nd:ns.Nodup)(ok:∀n∈ns,iD n=true):∀t∈ts,wB t/\t.1∈ns/\t.2∈ns:=λt ht=>by
 let#[a,b,x,y,h1,h2,h3,h4,h5]:=h.at' t ht;let mx:=cJ h3;let my:=cJ h4
 have ne:x≠y:=λe=>by
  subst e;have:=Gr nd h3 h4;omega
 rcases h5 with rfl|rfl
 ·exact#[#[ok _ mx,ok _ my,ne],mx,my]
 exact#[#[ok _ my,ok _ mx,ne.symm],my,mx]
theorem _I(ns:ae)(k:Nat):cq (ns.map V.str) none (some (k:Int))=(ns.take k).map V.str:=by
 unfold cq;rw[HT.eU,HT.d7,List.drop_zero,Nat.sub_zero,List.map_take,aq];by_cases h:k<=ns.length
 ·rw[Nat.min_eq_left h]
 rw[Nat.min_eq_right Y0,vk (by rw[aq];omega),vk (by rw[aq];omega)]
theorem bJ.same{H H':Hp}{l:Addr}(h:bJ H l)(s:aa H H'):bJ H' l:=by
 rcases h with⟨n,e⟩|⟨n,m,c,e⟩
 ·exact .inl #[n,s _ _ e]
 exact .inr #[n,m,c,s _ _ e]
end Ev
namespace Ev
open PySem L2
theorem gg_{a b:Str}(h:Aj a b=true):Aj b a=false:=T6 (a:=Sum.inr a) (b:=Sum.inr b) h
theorem ZL{a b:Str}(h:Aj a b=false)(h2:Aj b a=false):a=b:=iB (SD (a:=Sum.inr a) (b:=Sum.inr b) h h2)
theorem OJ(a b:Str):aN a b=aN b a:=by
 unfold aN;by_cases h:Aj a b=true
 ·rw[aK h,aD (by rw[gg_ h];decide)]
 by_cases h2:Aj b a=true
 ·rw[aD h,aK h2]
 have:=ZL ⇑h ⇑h2;subst this;rw[aD h]
theorem Nf{ts:Xb}{x:Str × Str}:x∈bV ts ↔ ∃t∈ts,aN t.1 t.2=x:=by
 have e:kT x∈(bV ts).map kT ↔ x∈bV ts:=#[λh=>by
  let#[y,hy,e]:=bx.mp h;rw[<- Ir e];exact hy,λh=>bx.mpr #[x,h,U]]
 rw[<- e,OM,(ug _).mem_iff,bx];exact#[λ⟨t,ht,q⟩=>#[t,ht,Ir q],λ⟨t,ht,q⟩=>#[t,ht,by rw[q]]]
theorem YW(a b:Str):kO (a,b)=kO (b,a):=by
 show kT (aN a b)=kT (aN b a);rw[OJ]
end Ev
namespace Ev
open PySem L2
section v
theorem Jb:bQ [gL,"_law_base",wC,"_law_number"] uY (a_ lY):=bZ
theorem _E{f:Addr}{fd:Ae}(F:bu K tV tV lY f fd)(B:Bi mg):!ak bc 1 f fd uY wO:=by
 exists F.bW Jb;let#[l,b,rfl,h0,h1,st,k]:=h
 apply#[_,ax (b_ (eP Lp (bT gx (by rfl) B.len fN %[0|0]) ay)
   (aJ (j9 (kQ kP PySem.F.slot_list_extend PySem.F.type_list_extend gC_ (pv 0) %[eJ %[br Bq (bg fX (pv 0) ay) ay,ay|0]|0]))) cm)
  (ax (b_ (eP Ft (bg fX (pv 0) ay) ay)
   (ax (bw 2 Jb.nd (br Bq (bg fX (pv 0) ay) (pv 1)))
   (ax (Br (br Gk (bg fX (pv 0) ay) (pv 1)) (Ro (pv 0) ay SZ))
   (aJ (bp (pv 2))))) cm)
  (ax (Br (br fG (bg fX (pv 0) ay) ay) (Ro (pv 0) ay SZ))
  (ax (bw 3 Jb.nd (br Bq (br tZ (br fG (br fG (bg fX (pv 0) ay) (br tZ ay (bg fX (pv 0) ay))) ay) ay) ay))
  (ax (bw 3 Jb.nd (br Bq (br tZ (pv 3) (br fG (br Gk (pv 3) ay) ay)) ay))
  (aJ (bp (br Bq (br Bq (br tZ (pv 3) (br fG (br Gk (pv 3) ay) ay)) ay) (pv 1)))))))),?_]
 rcases st with⟨n,o_⟩|⟨n,m,c,hl⟩
 case' inl=>
  apply#[_,U,l,_,U,.inl (.of o_),U,_,U,bN ?_];apply#[_,U,.inl #[U,_,.of o_],_,U,l,_,_,_,U,U,.of o_,U,_,_,U,U,by show (0:Int)<2147483647;decide,zl,λq hq=>?_];apply#[l,q,_,_,U,U,aa.new hq _ _ o_,aA,by show 1+2<=sizeLine;decide,?_];have bt:aM l H (upd (upd H q (.lst [.int (n % 2147483647),.int 0])) l (.lst ([.int n]++[.int (n % 2147483647),.int 0]))):=(aM.of (aa.new hq)).trans aM.upd;have hl:(upd (upd H q (.lst [.int (n % 2147483647),.int 0])) l (.lst ([.int n]++[.int (n % 2147483647),.int 0]))) l\.lst [.int n,.int (n % 2147483647),.int 0]:=aA;generalize (upd (upd H q (.lst [.int (n % 2147483647),.int 0])) l (.lst ([.int n]++[.int (n % 2147483647),.int 0])))=H1 at bt hl ⊢
 case' inr=>
  apply#[_,U,l,_,U,.inl (.of hl),U,_,U,aH ?_];let bt:=aM.refl l H
 all_goals
  apply#[_,U,l,_,_,_,U,U,.of hl,U,_,_,U,U,_,U,?_];apply bH (λc=>?_) (λc=>?_)
  ·apply#[_,U,l,_,_,_,U,U,.of hl,U,_,U,_,_,U,U,h0,?_];apply#[_,U,l,_,_,_,U,U,.of hl,U,_,U,_,_,U,U,#[h0,h1],_,U,l,_,_,0,U,U,hl,U,?_];exact#[_,U,k _ _ (Int.emod_nonneg _ Y0) (Int.emod_lt_of_pos _ h0) (bt.trans aM.upd) (.inr #[_,_,_,aA])]
  apply#[_,U,l,_,_,_,U,U,.of hl,U,_,_,U,U,_,U,l,_,_,2,U,U,hl,U,?_];apply#[_,U,l,_,_,_,U,U,.of aA,U,_,U,l,_,_,_,U,U,.of aA,U,_,_,U,U,.inl #[by decide,by decide],_,_,U,U,_,_,U,U,_,_,U,U,.inr #[by decide,by decide],_,_,U,U,by show (0:Int)<2147483647;decide,?_];apply#[_,U,_,U,_,_,U,U,#[by decide,by decide],_,_,U,U,_,_,U,U,.inl (small _),_,_,U,U,by show (0:Int)<2147483647;decide,?_];apply#[_,U,_,U,_,_,U,U,#[by decide,by decide],_,_,U,U,_,_,U,U,.inl (small _),_,_,U,U,by show (0:Int)<2147483399;decide,_,U,_,_,U,U,h0,?_];exact k _ _ (Int.emod_nonneg _ Y0) (Int.emod_lt_of_pos _ h0) (bt.trans aM.upd) (.inr #[_,_,_,aA])
theorem JI:bQ [gL,wC,"_law_k"] [gL] (a_ lT):=bZ
def NV:Sp:=λvs H Q _=>∃(l:Addr),vs=[.ref l]/\bJ H l/\∀x H',iD x=true->aM l H H'->bJ H' l->Q (.str x) H'
theorem _D{f:Addr}{fd:Ae}(F:bu K "_law_name" "_law_name" lT f fd)(B:Bi mg)(cD:!bF 1 tV uY wO):!ak bc 2 f fd [gL] NV:=by
 exists F.bW JI;let#[l,rfl,st,k]:=h;let sz:=cK
 apply#[_,ax (bw 1 JI.nd j0)
  (ax (d9 dU U (qq (by rfl) B.range %[br fG ay (bj cD hr %[0,ay|0])|0]) (bX 2 JI.nd)
   (aJ (bw 1 JI.nd (br fR_ (pv 1) (bg YB j0 (bj cD hr %[0,ay|0]))))))
  (aJ (bp (pv 1)))),?_]
 apply#[_,U,l,8,U,by decide,by decide,st,λr H1 r0 r8 b1 oN=>?_];apply#[_,_,U,U,_,U,by show (-(2 ^ 62):Int)<=1+r;omega,by show 1+r<(2 ^ 62:Int);omega,?_];apply ua (lo:=0) (n:=(1+r).toNat) (λi σ H2=>∃(x:Str) (v:aE),σ=[some (.ref l),some (.str x),v]/\x.length=i/\x.cps.toList.all oY=true/\aM l H H2/\bJ H2 l) #["",none,U,U,U,b1,oN] ?_ ?_
 ·rintro i σ H2 hi ⟨x,v,rfl,hx,ho,b2,cQ⟩;apply#[_,U,_,U,l,26,U,by decide,by decide,cQ,λq H3 q0 WN b3 dX=>?_];let#[c,hc,oc]:=X8 q0 WN;apply#[_,_,_,U,U,by decide +kernel,hc,_,_,U,U,?_,_,_,U,?_,?_,b2.trans b3,dX]
  ·have:(⟨(List.toArray [c])⟩:Str).length=1:=rfl;omega
  ·have e:(x++(⟨(List.toArray [c])⟩:Str)).cps.toList=x.cps.toList++[c]:=PySem.W.KT.app_list _ _;have:(x++(⟨(List.toArray [c])⟩:Str)).length=(x++(⟨(List.toArray [c])⟩:Str)).cps.toList.length:=by rw[uf];rfl
   rw[this,e,dN,uf];show x.length+1=i+1;omega
  have e:(x++(⟨(List.toArray [c])⟩:Str)).cps.toList=x.cps.toList++[c]:=PySem.W.KT.app_list _ _;rw[e,List.all_append,ho];simp[oc]
 rintro σ H2 ⟨x,v,rfl,hx,ho,b2,cQ⟩;apply#[_,U,k x H2 ?_ b2 cQ];unfold iD;rw[ho,dc (show 1<=x.length by omega),dc (show x.length<=8 by omega)];rfl
theorem GJ:bQ [gL,"_law_most",wC,"_law_k","_law_name_here","_law_strength"] [gL,"_law_most"] (a_ NK):=bZ
def Tt(K:af):Sp:=λvs H Q _=>∃(l:Addr) (m:Nat),vs=[.ref l,.int m]/\1<=m/\m<=8/\bJ H l/\∀(a:Addr) (ys:ag) (hs:Xa) (H':Hp),aM l H H'->bJ H' l->H a=none->H' a\.lst ys->bS K H' ys (hs.map kH)->(∀h∈hs,om h)->(hs.map (·.1)).Nodup->1<=hs.length->hs.length<=m->Q (.ref a) H'
theorem hI_{f:Addr}{fd:Ae}(F:bu K "_law_hands" "_law_hands" NK f fd)(B:Bi mg)(cD:!bF 1 tV uY wO)(cN:!bF 2 "_law_name" [gL] NV):!ak bc 3 f fd [gL,"_law_most"] (Tt K):=by
 exists F.bW GJ;let#[l,m,rfl,m1,m8,st,k]:=h;let sz:=cK
 apply#[_,ax (bw 2 GJ.nd (eJ bR))
  (ax (d9 dU U (qq (by rfl) B.range %[br fG ay (bj cD hr %[0,1|0])|0]) (bX 3 GJ.nd)
   (ax (bw 4 GJ.nd (bj cN hr %[0|0]))
   (aJ (b_ (eP (Ud gK (kU hr 0)) (pv 4) (jd ["_law_one","_law_strength"] 2 [] (d5 (pv 2)) (λfp s H=>CD (n:=2) (di (fu (i:=0) (show (["_law_one","_law_strength"]:ae).Nodup by decide +kernel) U (Or.inl U)) (di (fu (i:=1) (show (["_law_one","_law_strength"]:ae).Nodup by decide +kernel) U (Or.inl U)) hW)))
     (λfp s H=>jy) (λfp s H=>pv 0)) (by with_unfolding_all rfl))
    (ax (bw 5 GJ.nd (bg fX (eJ %[ay,br fG ay (bj cD hr %[0,ay|0]),br fG ay (bj cD hr %[0,ay|0]),ay|0]) (bj cD hr %[0,ay|0])))
    (aJ (j9 (kQ kP PySem.F.slot_list_insert PySem.F.type_list_insert OS (pv 2) %[bj cD hr %[0,br fG (bT gx (by rfl) B.len fN %[2|0]) ay|0],dD %[4,5|0]|0]))))
    cm))))
  (aJ (bp (pv 2)))),?_]
 apply#[zl,λa ha=>?_];let#[P3,o_]:=st.some;have fL:l≠a:=bG o_ ha
 have zh:bJ (upd H a (.lst [])) l:=by
  unfold bJ;rw[aB fL];exact st
 apply#[_,U,_,U,l,m,U,by omega,by omega,zh,λr H1 r0 r8 b1 oN=>?_];apply#[_,_,U,U,_,U,by show (-(2 ^ 62):Int)<=1+r;omega,by show 1+r<(2 ^ 62:Int);omega,?_]
 apply ua (lo:=0) (n:=(1+r).toNat) (λi σ H2=>∃(v3 v4 v5:aE) (ys:ag) (hs:Xa),σ=[some (.ref l),some (.int m),some (.ref a),v3,v4,v5]/\aM l H H2/\bJ H2 l/\H2 a\.lst ys/\bS K H2 ys (hs.map kH)/\(∀h∈hs,om h)/\(hs.map (·.1)).Nodup/\hs.length<=i/\(1<=i->1<=hs.length))
  #[none,none,none,[],[],U,(aM.of (aa.new ha)).trans b1,oN,b1 _ _ aA fL.symm,.nil,by simp,.nil,a9 _,by omega] ?_ ?_
 ·rintro i σ H2 hi ⟨v3,v4,v5,ys,hs,rfl,b2,cQ,tF,tu,good,nd,le,ge⟩;have i8:i<8:=by omega
  apply#[_,U,l,U,cQ,λx H3 nx b3 dX=>?_];let jT:=b3 _ _ tF fL.symm;let#[Vy,jr]:=cQ.some;let P9:=jb tu b3 jr;apply#[_,U,_,U,a,U,#[_,.of jT],λD hD=>?_];let QP:=bI tu;rw[aq] at QP;apply kb (own:=2) (fv:=[]) (xs:=ys) U wd (λi out H'=>aa H3 H'/\H' D\.lst out/\out=((hs.take i).map (·.1)).map V.str) #[aa.new hD,aA,U] (λi out H' _ ⟨sm,_,_⟩=>.of (sm _ _ jT)) (λout H4 ⟨sm,tG,eo⟩=>?_) (λj y out H' hy ⟨sm,dA,eo⟩=>?_)
  ·rw[QP,d_] at eo;subst eo;let wc:=sm _ _ jT;have b4:aM l H H4:=(b2.trans b3).trans (aM.of sm)
   have gU:bJ H4 l:=by
    rcases dX with⟨n,e⟩|⟨n,m,c,e⟩
    ·exact .inl #[n,sm _ _ e]
    exact .inr #[n,m,c,sm _ _ e]
   let yX:=P9.same sm;apply#[x,_,U,TJ tG,_,U,?_];apply bH (λc=>?_) (λc=>?_)
   ·have B0:x∉hs.map (·.1):=⇑c
    apply#[_,U,l,9,U,by decide,by decide,gU,λr1 H5 q0 q1 b5 iP=>#[_,_,U,U,?_]];apply#[_,U,l,1000,U,by decide,by decide,iP,λr2 H6 q2 q3 b6 iO=>#[_,_,U,U,?_]];apply#[zl,λp hp=>?_];let#[P2,AI]:=iO.some;have lp:l≠p:=bG AI hp
    have gz:bJ (upd H6 p (.lst [.int 1,.int (1+r1),.int (1+r2),.int 1000])) l:=by
     unfold bJ;rw[aB lp];exact iO
    apply#[_,U,l,4,U,by decide,by decide,gz,λr3 H8 q4 q5 b8 ni=>?_];let hp8:=b8 _ _ (show upd H6 p (.lst [.int 1,.int (1+r1),.int (1+r2),.int 1000]) p=_ from aA) lp.symm;let#[y,hy,n,en,n1,n2]:=L0 (p:=λy:V=>∃n:Int,y=.int n/\1<=n/\n<=1000) (a:=V.int 1) (b:=.int (1+r1)) (c:=.int (1+r2)) (d:=.int 1000) q4 q5 #[1,U,by decide,by decide] #[_,U,by omega,by omega] #[_,U,by omega,by omega] #[1000,U,by decide,by decide];subst en;apply#[p,_,_,_,U,U,.of hp8,hy,?_];have Po:aM l H4 H8:=((b5.trans b6).trans (aM.of (aa.new hp))).trans b8;let#[Vw,E2]:=gU.some;let Mo:=Po _ _ wc fL.symm;let G0:=jb yX Po E2;apply#[_,U,.inl #[U,_,.of Mo],_,U,_,U,a,_,U,.inl (.of Mo),_,_,U,U,l,_,U,by show (0:Int)<(ys.length:Int)+1;omega,by show (ys.length:Int)+1<1073741824;omega,ni,λr4 H9 q6 q7 b9 il=>?_];have q7:r4<(ys.length:Int)+1:=q7;let#[xs8,hl8]:=ni.some;let Mn:=b9 _ _ Mo fL.symm;let BS:=jb G0 b9 hl8;apply#[_,U,_,U,zl,λt ht=>?_];let jC:=aa.new (o:=.tup [.str x,.int n]) ht;apply#[a,r4.toNat,ys,.ref t,U,by rw[Int.toNat_of_nonneg q6],jC _ _ Mn,by omega,by omega,?_]
    have hl9:∃xs,upd H9 t (.tup [.str x,.int n]) l\.lst xs:=by
     let#[xs,e]:=il.some;exact#[xs,jC _ _ e]
    have tt:upd H9 t (.tup [.str x,.int n]) t\.tup ((kH (x,n)).map kV):=aA;have ta:t≠a:=(bG Mn ht).symm;apply#[_,_,_,_,j7 hs r4.toNat (x,n),U,?_,?_,aA,?_,?_,?_,?_,?_]
    ·intro b o e ne;rw[aB (bG e ha)];exact jC _ _ (b9 _ _ (Po _ _ (b4 _ _ e ne) ne) ne)
    ·unfold bJ;rw[aB fL,aB (bG (il.some.choose_spec) ht)];exact il
    ·rw[Tr];exact JE (JO _ (BS.same jC) #[t,U,tt]) (jC _ _ Mn)
    ·intro h hh;rcases cg.mp ((CM _ _ _).mem_iff.mp hh) with rfl|hh
     ·exact#[nx,n1,n2]
     exact good h hh
    ·apply ((CM hs _ _).map _).nodup_iff.mpr ?_;rw[fE];exact kW.mpr #[B0,nd]
    ·rw[OL];omega
    intro _;rw[OL];omega
   apply#[_,_,_,_,hs,U,b4,gU,wc,yX,good,nd,by omega,λ_=>?_];have Vt:x∈hs.map (·.1):=⇑c
   have:=List.length_pos_of_mem Vt;rw[aq] at this;omega
  let#[h,hh,p,rfl,hp]:=ue P9 hy;apply#[_,#[p,_,_,U,.of (sm _ _ (uL hp)),U],U,λNx hN=>eQ ?_];apply#[_,U,out,dA,?_,hN _ _ #[fF sm hD,aA,?_]]
  ·rw[eo,aq,aq,dM];omega
  rw[vm _ hh,eK,eo];rfl
 rintro σ H2 ⟨v3,v4,v5,ys,hs,rfl,b2,cQ,tF,tu,good,nd,le,ge⟩;exact#[_,U,k a ys hs H2 b2 cQ ha tF tu good nd (ge Y0) Y0]
theorem BJ:bQ [gL,j5,"_law_names","_law_few",wC,"_law_k","_law_other","_law_tie"] [gL,j5] (a_ lR):=bZ
inductive MV (K:af) (vs:ag) (H:Hp) (Q:VK) (E:XK):Prop
 |mk:∀(l lh:Addr) (ys:ag) (hs:Xa),vs=[.ref l,.ref lh]->bJ H l->H lh\.lst ys->bS K H ys (hs.map kH)->(∀n∈hs.map (·.1),iD n=true)->(hs.map (·.1)).Nodup->hs.length<=8->lh≠l->(∀(a:Addr) (zs:ag) (ts:Xb) (H':Hp),aM l H H'->bJ H' l->H a=none->H' a\.lst zs->bS K H' zs (ts.map kT)->(∀t∈ts,wB t/\t.1∈hs.map (·.1)/\t.2∈hs.map (·.1))->(ts.map kO).Nodup->ts.length<64->Q (.ref a) H')->MV K vs H Q E
theorem _b{f:Addr}{fd:Ae}(F:bu K "_law_ties" "_law_ties" lR f fd)(B:Bi mg)(cD:!bF 1 tV uY wO):!ak bc 2 f fd [gL,j5] (MV K):=by
 exists F.bW BJ;let#[l,lh,ys,hs,rfl,st,eZ,tu,WZ,nd,h8,l8,k]:=h;let sz:=cK
 apply#[_,ax (MM (i:=2) wz 2 [] BJ.nd U (Or.inl U) (d5 (pv 1)) (λfp s H=>CD (n:=2) (di (fu (i:=0) (show (wz:ae).Nodup by decide +kernel) U (Or.inl U)) (di (fu (i:=1) (show (wz:ae).Nodup by decide +kernel) U (Or.inl U)) hW)))
     (λfp s H=>jy) (λfp s H=>pv 0))
  (ax (bw 3 BJ.nd (br fG ay (bj cD hr %[0,ay|0])))
  (ax (bw 4 BJ.nd (eJ bR))
  (ax (d9 dU U (qq (by rfl) B.range %[bT gx (by rfl) B.len fN %[2|0]|0]) (bX 5 BJ.nd)
   (aJ (d9 dU U (d5 (jg tY (pv 2) jc (je (pv 5)))) (bX 6 BJ.nd)
    (aJ (b_ (eP Fv (bj cD hr %[0,ay|0]) (pv 3))
     (ax (bw 7 BJ.nd (bg fX (eJ %[dD %[bg fX (pv 2) (pv 5),6|0],dD %[6,bg fX (pv 2) (pv 5)|0]|0]) (bj cD hr %[0,ay|0])))
     (aJ (j9 (kQ kP PySem.F.slot_list_insert PySem.F.type_list_insert OS (pv 4) %[bj cD hr %[0,br fG (bT gx (by rfl) B.len fN %[4|0]) ay|0],7|0]))))
     cm)))))
  (aJ (bp (pv 4)))))),?_]
 apply#[_,U,lh,U,#[_,.of eZ],λln x8=>?_];apply fG_ U eZ tu Y0 x8 λH1 s1 hn1=>?_
 let ns:ae:=hs.map (·.1)
 have n8:ns.length<=8:=by show (hs.map (·.1)).length<=8;rw[aq];exact h8
 let oN:=st.same s1;apply#[_,U,l,3,U,by decide,by decide,oN,λr H2 r0 r3 b2 cQ=>#[_,_,U,U,?_]];let#[VB,fZ]:=oN.some
 have Hy:ln≠l:=λe=>by
  subst e;let#[xs,e2]:=st.some;rw[x8] at e2;cases e2
 let x6:=b2 _ _ hn1 Hy;apply#[zl,λa ha=>?_];let#[Vy,jr]:=cQ.some;have fL:l≠a:=bG jr ha;have XG:ln≠a:=bG x6 ha;have s3:aa H2 (upd H2 a (.lst [])):=aa.new ha
 have Fn:H a=none:=by
  cases z:H a with
  |none=>rfl
  |some o=>
   have:=b2 _ _ (s1 _ _ z) fL.symm;rw[ha] at this;cases this
 apply#[_,U,ln,_,U,.inl (.of (s3 _ _ x6)),_,U,by show (-(2 ^ 62):Int)<=((ns.map V.str).length:Int);omega,by show (((hs.map (·.1)).map V.str).length:Int)<2 ^ 62;rw[aq,aq];omega,?_]
 let Iv:Nat->Nat->Hp->Prop:=λkk j H'=>∃zs ts,aM l H H'/\bJ H' l/\H' ln\.lst (ns.map V.str)/\H' a\.lst zs/\bS K H' zs (ts.map kT)/\TI ns kk j ts
 have le:(ns.map V.str).length=ns.length:=aq _
 apply ua (lo:=0) (n:=((ns.map V.str).length:Int).toNat) (λi σ H'=>∃(v5 v6 v7:aE),σ=[some (.ref l),some (.ref lh),some (.ref ln),some (.int (1+r)),some (.ref a),v5,v6,v7]/\Iv i 0 H')
  #[none,none,none,U,[],[],((aM.of s1).trans b2).trans (aM.of s3),cQ.same s3,s3 _ _ x6,aA,.nil,#[by simp,.nil,gO _]] ?_ ?_
 ·rintro i σ H4 hi ⟨v5,v6,v7,rfl,P0,V1,b4,gU,LQ,wc,yX,V2⟩;rw[Int.zero_add];have hi:i<ns.length:=by omega
  apply#[_,U,_,U,_,U,ln,_,U,.of LQ,λp hp=>?_];rw[_I];have s5:aa H4 (upd H4 p (.lst ((ns.take i).map V.str))):=aa.new hp
  have lp:l≠p:=by
   let#[xs,e]:=gU.some;exact bG e hp
  have pln:ln≠p:=bG LQ hp;have pa:p≠a:=(bG wc hp).symm
  apply#[p,U,#[_,.of aA],ie (K:=K) (a:=p) (xs:=(ns.take i).map V.str) (λj σ H'=>∃(v6 v7:aE),σ=[some (.ref l),some (.ref lh),some (.ref ln),some (.int (1+r)),some (.ref a),some (.int i),v6,v7]/\H' p\.lst ((ns.take i).map V.str)/\Iv i j H')
   #[_,_,U,aA,P0,V1,b4.trans (aM.of s5),gU.same s5,s5 _ _ LQ,s5 _ _ wc,yX.same s5,V2] (λj σ H' _ ⟨_,_,_,q,_⟩=>.of q) ?_ ?_]
  ·rintro j y σ H6 hy ⟨v6,v7,rfl,RI,vo,BU,b6,iO,Ib,wb,uD,uE⟩;let#[o,ho,rfl]:=qu hy
   have hj:j<i:=by
    have:=(cw.mp ho).1;rw[dM] at this;omega
   have ho:ns[j]? = some o:=by
    rw[List.getElem?_take_of_lt hj] at ho;exact ho
   have hx:ns[i]? = some ns[i]:=aX hi
   have Fh:ib (ns.map V.str) (i:Int)\.str ns[i]:=by
    rw[cZ Y0 (by rw[aq];omega),yR,df,hx];rfl
   apply#[_,U,l,4,U,by decide,by decide,iO,λr2 H7 q0 q1 b7 gz=>#[_,U,_,_,U,U,_,U,?_]];let#[P2,AI]:=iO.some;let Ia:=b7 _ _ Ib Hy;let R8:=b7 _ _ wb fL.symm;let RH:=b7 _ _ RI lp.symm;let Kd:=jb uD b7 AI;apply bH (λc=>?_) (λc=>?_)
   ·apply#[_,U,_,U,ln,_,_,_,U,U,.of Ia,Fh,_,U,zl,λt1 pS=>?_];let s8:=aa.new (o:=.tup [.str ns[i],.str o]) pS;apply#[_,U,_,U,_,U,ln,_,_,_,U,U,.of (s8 _ _ Ia),Fh,zl,λt2 Ca=>?_];let s9:=aa.new (o:=.tup [.str o,.str ns[i]]) Ca;apply#[zl,λlx jP=>?_];let DQ:=aa.new (o:=.lst [.ref t1,.ref t2]) jP;let s7:=(s8.trans s9).trans DQ;let jC:=gz.same s7;apply#[_,U,l,2,U,by decide,by decide,jC,λr3 PQ q2 q3 JV DB=>?_]
    have Ai:lx≠l:=by
     let#[xs,e]:=(gz.same (s8.trans s9)).some;exact (bG e jP).symm
    let EW:=JV _ _ (show upd (upd (upd H7 t1 (.tup [.str ns[i],.str o])) t2 (.tup [.str o,.str ns[i]])) lx (.lst [.ref t1,.ref t2]) lx=_ from aA) Ai;let#[VA,E4]:=jC.some;let EI:=DQ _ _ (s9 _ _ (show upd H7 t1 (.tup [.str ns[i],.str o]) t1=_ from aA));let EG:=DQ _ _ (show upd (upd H7 t1 (.tup [.str ns[i],.str o])) t2 (.tup [.str o,.str ns[i]]) t2=_ from aA);let EH:=JV _ _ EI (bO EI E4 nofun);let EF:=JV _ _ EG (bO EG E4 nofun)
    have pick:∃(t:Addr) (tt:Str × Str),ib [V.ref t1,V.ref t2] r3\.ref t/\PQ t\.tup ((kT tt).map kV)/\(tt=(ns[i],o)∨tt=(o,ns[i])):=by
     rcases sZ (a:=V.ref t1) (b:=V.ref t2) q2 q3 with e|e
     ·exact#[t1,(ns[i],o),e,EH,.inl U]
     exact#[t2,(o,ns[i]),e,EF,.inr U]
    let#[t,tt,et,ht,etc]:=pick;apply#[lx,_,_,_,U,U,.of EW,et,?_];have t_:aM l H7 PQ:=(aM.of s7).trans JV;let#[xs7,hl7]:=gz.some;let AZ:=t_ _ _ R8 fL.symm;let LS:=t_ _ _ Ia Hy;let LH:=t_ _ _ RH lp.symm;let Kf:=jb Kd t_ hl7;let lz:=bI uD;rw[aq] at lz;let tl:=uE.len;apply#[_,U,.inl #[U,_,.of AZ],_,U,_,U,a,_,U,.inl (.of AZ),_,_,U,U,l,_,U,by show (0:Int)<(vo.length:Int)+1;omega,by show (vo.length:Int)+1<1073741824;omega,DB,λr4 H12 q4 q5 CS Kv=>?_];have q5:r4<(vo.length:Int)+1:=q5;let#[Vz,E3]:=DB.some;let Fm:=CS _ _ AZ fL.symm;let LR:=CS _ _ LS Hy;let LG:=CS _ _ LH lp.symm;let LB:=CS _ _ ht (bO ht E3 nofun);let Ke:=jb Kf CS E3;apply#[_,U,a,r4.toNat,vo,.ref t,U,by rw[Int.toNat_of_nonneg q4],Fm,by omega,by omega,?_];apply#[_,_,U,by rw[aB pa];exact LG,_,j7 BU r4.toNat tt,?_,?_,by rw[aB XG];exact LR,aA,?_,uE.add nd hj hx ho etc _]
    ·intro b o e ne;rw[aB (bG e Fn)];exact CS _ _ (t_ _ _ (b7 _ _ (b6 _ _ e ne) ne) ne) ne
    ·unfold bJ;rw[aB fL];exact Kv
    rw[Tr];exact JE (JO _ Ke #[t,U,LB]) Fm
   exact#[_,_,U,RH,vo,BU,b6.trans b7,gz,Ia,R8,Kd,uE.skip]
  rintro σ H6 ⟨v6,v7,rfl,RI,vo,BU,b6,iO,Ib,wb,uD,uE⟩;rw[aq,dM,Nat.min_eq_left Y0] at uE;exact#[_,_,_,U,vo,BU,b6,iO,Ib,wb,uD,uE.next Y0]
 rintro σ H6 ⟨v5,v6,v7,rfl,vo,BU,b6,iO,Ib,wb,uD,uE⟩;have:=uE.len;exact#[_,U,k a vo BU H6 b6 iO Fn wb uD (uE.good nd WZ) uE.nd Y0]
end
end Ev
namespace HT
open PySem PySem.Spec PyProof.Rows
section
variable{prog:Ad}{w:Af}{A:Ag}{E:Aa->Ab->Prop}{s:Ab}
end
end HT
namespace L2
open PySem PySem.Spec PyProof.Rows
section
variable{X:Cx}{e st:Expr}{te ts:TE}{pos p2:Pos}
end
end L2
namespace Ev
open PySem L2
theorem Tw(ys:ag)(k:Nat):cq ys none (some (k:Int))=ys.take k:=by
 unfold cq;rw[HT.eU,HT.d7,List.drop_zero,Nat.sub_zero];by_cases h:k<=ys.length
 ·rw[Nat.min_eq_left h]
 rw[Nat.min_eq_right Y0,vk (a9 _),vk Y0]
theorem TB(ys:ag)(k:Nat):cq ys (some (k:Int)) none=ys.drop k:=by
 unfold cq;rw[HT.d7,HT.eU];by_cases h:k<=ys.length
 ·rw[Nat.min_eq_left h,vk (by rw[wY];omega)]
 rw[Nat.min_eq_right Y0,List.drop_eq_nil_of_le (a9 _),List.drop_eq_nil_of_le Y0,List.take_nil]
theorem mI{α β:Type}{F:α->β->Prop}:∀{ys P1:List α} {ks iX:List β},Paired F ys ks->Paired F P1 iX->Paired F (ys++P1) (ks++iX)
 |_,_,_,_,.nil,h=>h
 |_,_,_,_,.cons a t,h=>.cons a (mI t h)
theorem E9{α:Type}{p:α->Prop}{a b c:α}{r:Int}(h0:0<=r)(h1:r<3)(ha:p a)(hb:p b)(hc:p c):∃x,ib [a,b,c] r\x/\p x:=by
 have:r=0∨r=1∨r=2:=by omega
 rcases this with rfl|rfl|rfl
 ·exact#[_,U,ha]
 ·exact#[_,U,hb]
 exact#[_,U,hc]
structure FW (ts ws:Xb):Prop where
 good:∀w∈ws,wB w
 nd:(ws.map kO).Nodup
 hZ:∀w∈ws,kO w∈ts.map kO
 len:ws.length<=ts.length
theorem ZH{ts us ws:Xb}(good:∀t∈ts,wB t)(nd:(ts.map kO).Nodup)(sub:us.Sublist ts)(p:Paired (λw u=>w=u∨w=(u.2,u.1)) ws us):FW ts ws:=by
 have e:ws.map kO=us.map kO:=by
  clear sub
  induction p with
  |nil=>rfl
  |cons h _ ih=>
   rw[fE,fE,ih];rcases h with rfl|rfl
   ·rfl
   exact eY (·::_) (YW _ _)
 apply#[λw hw=>?_,?_,λw hw=>?_,?_]
 ·let#[i,hi,ew]:=gB hw;let hl:=bI p;let q:=dP p i hi Y0;rw[ew] at q;let g:=good _ (sub.subset (ke (show i<us.length by omega)));rcases q with q|q
  ·rw[q];exact g
  rw[q];exact#[g.2.1,g.1,g.2.2.symm]
 ·rw[e];exact (sub.map kO).nodup nd
 ·have:kO w∈ws.map kO:=bx.mpr #[w,hw,U];rw[e] at this;exact (sub.map kO).subset this
 rw[bI p];exact sub.length_le
def cy(K:af)(H:Hp)(v:V):Option (Xb)->Prop
 |none=>v=.non
 |some ws=>∃a ys,v=.ref a/\H a\.lst ys/\bS K H ys (ws.map kT)
theorem cy.same{K:af}{H H':Hp}{v:V}{o:Option (Xb)}(h:cy K H v o)(s:aa H H'):cy K H' v o:=by
 cases o with
 |none=>exact h
 |some ws=>
  let#[a,ys,e,ha,t]:=h;exact#[a,ys,e,s _ _ ha,t.same s]
end Ev
namespace Ev
open PySem L2
abbrev Pc:=Str × Int × Option (Xb)
def iG(K:af)(H:Hp)(y:V)(p:Pc):Prop:=∃t v,y=.ref t/\H t\.tup [.str p.1,.int p.2.1,v]/\cy K H v p.2.2
abbrev j4(K:af)(H:Hp)(ys:ag)(ps:List Pc):Prop:=Paired (iG K H) ys ps
structure kz (ts:Xb) (p:Pc):Prop where
 nm:iD p.1=true
 w1:1<=p.2.1
 w2:p.2.1<=1000000000
 ws:∀ws,p.2.2\ws->FW ts ws
theorem Zk{K:af}{H:Hp}{a l:Addr}{ys:ag}{ks:List aw}(t:bS K H ys ks)(ha:H a\.lst ys)(st:bJ H l):a≠l:=λe=>by
 subst e;rcases st with⟨n,e⟩|⟨n,m,c,e⟩
 all_goals
  rw[ha] at e;have e:ys=_:=HO.lst.inj (dO e);subst e;cases t with
  |cons h _=>
   let#[b,z,_]:=h;cases z
theorem cy.but{K:af}{H H':Hp}{l:Addr}{v:V}{o:Option (Xb)}(h:cy K H v o)(b:aM l H H')(st:bJ H l):cy K H' v o:=by
 cases o with
 |none=>exact h
 |some ws=>
  let#[a,ys,e,ha,t]:=h;let#[xs,hl]:=st.some;exact#[a,ys,e,b _ _ ha (Zk t ha st),jb t b hl]
theorem iG.but{K:af}{H H':Hp}{l:Addr}{y:V}{p:Pc}(h:iG K H y p)(b:aM l H H')(st:bJ H l):iG K H' y p:=by
 let#[t,v,e,ht,hv]:=h;let#[xs,hl]:=st.some;exact#[t,v,e,b _ _ ht (bO ht hl nofun),hv.but b st]
theorem iG.same{K:af}{H H':Hp}{y:V}{p:Pc}(h:iG K H y p)(s:aa H H'):iG K H' y p:=by
 let#[t,v,e,ht,hv]:=h;exact#[t,v,e,s _ _ ht,hv.same s]
theorem cy.put{K:af}{H:Hp}{D:Addr}{xs:ag}{v:V}{o:Option (Xb)}{u:HO}(h:cy K H v o)(hD:H D\.lst xs)(ne:v≠.ref D):cy K (upd H D u) v o:=by
 cases o with
 |none=>exact h
 |some ws=>
  let#[a,ys,e,ha,t]:=h;subst e;exact#[a,ys,U,by rw[aB λz=>ne (by rw[z])];exact ha,JE t hD]
end Ev
abbrev aS:=List Ev.Pc
namespace Ev
open PySem L2
def jh(K:af)(H:Hp)(v:V):Option Str->Prop
 |some x=>v=.str x
 |none=>∃t,dF K H v t/\PySem.W.kitOne K t (.type "str")\false
def xV(ns:ae):Option Str->Bool
 |some x=>decide (x∈ns)
 |none=>false
def Cz(hs:Xa)(ts:Xb):Option Str->Option Str->Bool
 |some x,some y=>decide (x∈hs.map (·.1))&&(decide (y∈hs.map (·.1))&&decide (y∈near (aV hs) (bV ts) x))
 |_,_=>false
theorem Oh(hs:Xa)(ts:Xb)(x y:Str):Cz hs ts (some x) (some y)=(decide (x∈hs.map (·.1))&&(decide (y∈hs.map (·.1))&&decide (y∈near (aV hs) (bV ts) x))):=rfl
section v
inductive II (K:af) (C:Addr) (vs:ag) (H:Hp) (Q:VK) (E:XK):Prop
 |mk:∀(p:Addr) (v:V) (x:Option Str) (hs:Xa) (ts:Xb) (fp:av),vs=[.ref p,v]->hU K C H p hs ts fp->jh K H v x->Q (.bl (xV (hs.map (·.1)) x)) H->II K C vs H Q E
theorem Ze{f C:Addr}{fd:Ae}(F:bu K "has_hand" "Web.has_hand" vH f fd)(T:Txt K mg C)(B:Bi mg):!ak bc 1 f fd mF (II K C):=by
 exists F.bW xB;let#[p,v,x,hs,ts,fp,rfl,W,sv,k]:=h;let hu:=fP hr;let#[dx,d1,l2,d3,zs,as,rfl,h1,h2,h3,h4,h5,h6,h7]:=W.ex;apply#[_,aJ (bp (oy (bT gM (by rfl) B.gA gE %[1,gN (v:=.ty "str") (by rfl) B.str Iu U|0]) (pB (IC (Bk hu (pv 1) (ja (pv 0) U)))))),?_];cases x with
 |some x=>
  cases (show v=.str x from sv);apply#[_,U,_,_,_,_,U,.str x,U,_,U,bN ?_];apply#[_,U,_,U,p,C,dx,_,_,U,h1,T.cl,T.nS,Iq _ _ _,d1,_,U,.k (k:=Sum.inr x) h2,?_];rw[Jh];exact k
 |none=>
  let#[t,ty,e]:=sv;exact#[_,U,_,_,_,_,U,ty,e,_,U,aH k]
inductive JC (K:af) (C:Addr) (vs:ag) (H:Hp) (Q:VK) (E:XK):Prop
 |mk:∀(p:Addr) (v u:V) (x y:Option Str) (hs:Xa) (ts:Xb) (fp:av),vs=[.ref p,v,u]->hU K C H p hs ts fp->(aV hs).Nodup->jh K H v x->jh K H u y->Q (.bl (Cz hs ts x y)) H->JC K C vs H Q E
theorem ZW{f C:Addr}{fd:Ae}(F:bu K "are_tied" "Web.are_tied" rD f fd)(T:Txt K mg C)(cH:!bY C 1 "has_hand" mF (II K C)):!ak bc 2 f fd ki (JC K C):=by
 exists F.bW zr;let#[p,v,u,x,y,hs,ts,fp,rfl,W,nd,sv,su,k]:=h;let hu:=fP hr;let#[dx,d1,l2,d3,zs,as,rfl,h1,h2,h3,h4,h5,h6,h7]:=id W.ex;have kJ:(fi d1 l2 d3).lookup ("has_hand":Str)=none:=pE _ _ _ Z0 Z0 Z0;apply#[_,aJ (bp (oy (j2 cH T.cl hr (pv 0) %[1|0]) (oy (j2 cH T.cl hr (pv 0) %[2|0]) (pB (wQ (IF gK (kU hr 0)) (pv 2) (j_ hu (ja (pv 0) U) (pv 1)) (by with_unfolding_all rfl)))))),?_];apply#[_,U,p,dx,_,U,h1,kJ,_,U,p,v,x,hs,ts,_,U,W,sv,_,U,?_];cases x with
 |none=>exact aH k
 |some x=>
  cases (show v=.str x from sv);apply bH (λc=>?_) (λc=>?_)
  ·have hx:x∈hs.map (·.1):=tP c;let#[a,e1,ha]:=Rl nd hx h6 h7;apply#[_,U,p,dx,_,U,h1,kJ,_,U,p,u,y,hs,ts,_,U,W,su,_,U,?_];cases y with
   |none=>exact aH k
   |some y=>
    cases (show u=.str y from su);rw[Oh,dc hx,Bool.true_and] at k;apply bH (λc2=>?_) (λc2=>?_)
    ·have hy:y∈hs.map (·.1):=tP c2;rw[dc hy,Bool.true_and] at k;apply#[_,U,_,U,p,C,dx,_,_,U,h1,T.cl,T.nN,Rj _ _ _,_,U,d3,.ref a,U,?_,y,_,U,#[a,_,U,.of ha,Nz _],k];rw[<- e1];exact .k (k:=Sum.inr x) h5
    have hy:¬y∈hs.map (·.1):=λz=>c2 (dc z);rw[fO hy,Bool.false_and] at k;exact k
  have hx:¬x∈hs.map (·.1):=λz=>c (dc z);cases y with
  |none=>exact k
  |some y=>
   rw[Oh,fO hx,Bool.false_and] at k;exact k
theorem _S{hs:Xa}{ts ws:Xb}(G:Good hs ts)(W:FW ts ws){t:Str × Str}(ht:t∈bV ws):Cz hs ts (some t.1) (some t.2)=true:=by
 let#[x,hx,ex]:=Nf.mp ht;let#[u,hu,eu]:=bx.mp (W.hZ x hx);have eo:aN u.1 u.2=t:=(Ir eu).trans ex
 have both:t.1∈hs.map (·.1)/\t.2∈hs.map (·.1)/\aN t.1 t.2=t:=by
  let#[g1,g2]:=G.yZ u hu;rcases Ji u.1 u.2 with e|e
  ·rw[<- eo,e];exact#[g1,g2,e]
  rw[<- eo,e];exact#[g2,g1,(OJ _ _).trans e]
 let#[m1,m2,m3]:=both;have m4:t.2∈near (aV hs) (bV ts) t.1:=ub.mpr #[(gv hs).mem_iff.mpr m2,dc (by rw[m3];exact Nf.mpr #[u,hu,eo])];rw[Oh,dc m1,dc m2,dc m4];rfl
theorem JF:bQ ["web","ways","found","one","other"] ["web","ways"] (a_ lZ):=bZ
inductive Nq (K:af) (C:Addr) (vs:ag) (H:Hp) (Q:VK) (E:XK):Prop
 |mk:∀(p:Addr) (v:V) (o:Option (Xb)) (hs:Xa) (ts:Xb) (fp:av),vs=[.ref p,v]->hU K C H p hs ts fp->Good hs ts->cy K H v o->(∀ws,o\ws->FW ts ws)->(∀v' H',aa H H'->cy K H' v' (o.map bV)->(∀a,v'=.ref a->H a=none)->Q v' H')->Nq K C vs H Q E
theorem _O{f C:Addr}{fd:Ae}(F:bu K "checked_ways" "checked_ways" lZ f fd)(T:Txt K mg C)(cS:!bF 3 "sorted_ties" ["ties"] (OY K))(cT:!bY C 2 "are_tied" ki (JC K C)):!ak bc 4 f fd ["web","ways"] (Nq K C):=by
 exists F.bW JF;let#[p,v,o,hs,ts,fp,rfl,W,G,wy,gw,k]:=h;let hu:=fP hr;have Cc:aY 2 _:=hr.mono (by decide)
 apply#[_,ax (b_ (qk (IB (pv 1))) (aJ (bp ow)) cm)
  (ax (bw 2 JF.nd (bj cS hr %[1|0]))
  (ax (b_ (qk (IB (pv 2))) gC cm)
  (ax (d9 dU U (d5 (pv 2)) (jv U (di (bX 3 JF.nd) (di (bX 4 JF.nd) hW)))
   (aJ (b_ (eM (d4 (j2 cT T.cl Cc (pv 0) %[3,4|0]))) gC cm)))
  (aJ (bp (pv 2)))))),?_]
 cases o with
 |none=>
  cases (show v=.non from wy);exact#[_,U,_,U,bN (k .non H (aa.refl H) U (λa z=>by cases z))]
 |some ws=>
  let#[a,ys,rfl,ha,tu]:=wy;let Wo:=gw ws U;apply#[_,U,_,U,aH ?_];apply#[_,U,a,ys,ws,U,ha,tu,Wo.good,Wo.nd,by have:=Wo.len;have:=G.xv;omega,λl' zs H1 s1 hf fZ tz=>?_];apply#[_,U,_,U,aH ?_];let W1:=W.same s1;let#[dx,d1,l2,d3,xf,as,rfl,h1,h2,h3,h4,h5,h6,h7]:=id W1.ex;have kJ:(fi d1 l2 d3).lookup ("are_tied":Str)=none:=pE _ _ _ Z0 Z0 Z0;rw[<- OM] at tz;apply#[_,U,l',U,#[_,.of fZ],ie (K:=K) (a:=l') (xs:=zs) (λi σ H2=>∃(v3 v4:aE),σ=[some (.ref p),some (.ref a),some (.ref l'),v3,v4]/\H2=H1) #[none,none,U,U] (λi σ H2 _ ⟨_,_,_,e⟩=>by subst e;exact .of fZ) ?_ ?_]
  ·rintro i y σ H2 hy ⟨v3,v4,rfl,rfl⟩;let#[t,ht,q,rfl,hq]:=ue tz hy;apply#[q,_,U,.of (HZ hq),U,_,_,U,_,_,U,U,?_];apply#[_,U,p,dx,_,U,h1,kJ,_,U,_,U,p,_,_,some t.1,some t.2,hs,ts,_,U,W1,G.iU,U,U,_,U,?_];rw[_S G Wo (cJ ht)];apply aH ?_;exact#[_,_,U,U]
  rintro σ H2 ⟨v3,v4,rfl,rfl⟩;exact#[_,U,k (.ref l') _ s1 #[l',zs,U,fZ,tz] (λc z=>by cases z;exact hf)]
def pO(p:Pc):Pc:=(p.1,p.2.1,p.2.2.map bV)
def qc(K:af)(H0 H:Hp)(y:V)(p:Pc):Prop:=∃t v,y=.ref t/\H t\.tup [.str p.1,.int p.2.1,v]/\cy K H v p.2.2/\∀a,v=.ref a->H0 a=none
theorem qc.same{K:af}{H0 H H':Hp}{y:V}{p:Pc}(h:qc K H0 H y p)(s:aa H H'):qc K H0 H' y p:=by
 let#[t,v,e,ht,hv,hn]:=h;exact#[t,v,e,s _ _ ht,hv.same s,hn]
theorem cy.up{K:af}{H:Hp}{D:Addr}{u:HO}{v:V}{o:Option (Xb)}(h:cy K H v o)(n1:∀xs,H D≠some (.lst xs))(n2:∀xs,H D≠some (.tup xs)):cy K (upd H D u) v o:=by
 cases o with
 |none=>exact h
 |some ws=>
  let#[a,ys,e,ha,t]:=h;exact#[a,ys,e,by rw[aB (λz:a=D=>n1 ys (z▸ha))];exact ha,Paired.aQ t λy k ⟨b,z,q⟩=>#[b,z,by rw[aB (λz:b=D=>n2 _ (z▸q))];exact q]]
theorem qc.up{K:af}{H0 H:Hp}{D:Addr}{u:HO}{y:V}{p:Pc}(h:qc K H0 H y p)(n1:∀xs,H D≠some (.lst xs))(n2:∀xs,H D≠some (.tup xs)):qc K H0 (upd H D u) y p:=by
 let#[t,v,e,ht,hv,hn]:=h;exact#[t,v,e,by rw[aB (λz:t=D=>n2 _ (z▸ht))];exact ht,hv.up n1 n2,hn]
theorem NS{ps:aS}{cs:ag}(nd:(ps.map (·.1)).Nodup)(hl:cs.length=ps.length):∀{j:Nat} {q:Pc} {c:V},ps[j]? = some q->cs[j]? = some c->aZ ((ps.zip cs).map λq=>((Sum.inr q.1.1:Key),q.2)) (Sum.inr q.1)\c:=by
 induction ps generalizing cs with
 |nil=>
  intro j q c h;simp at h
 |cons p ps ih=>
  intro j q c h1 h2;cases cs with
  |nil=>cases hl
  |cons b cs=>
   rw[fE] at nd;let#[n1,n2]:=kW.mp nd;cases j with
   |zero=>
    have e1:p=q:=⇑h1
    have e2:b=c:=⇑h2
    subst e1 e2;exact yK U
   |succ j=>
    have h1:ps[j]? = some q:=⇑h1
    have h2:cs[j]? = some c:=⇑h2
    show aZ ((Sum.inr p.1,b)::((ps.zip cs).map λq=>((Sum.inr q.1.1:Key),q.2))) (Sum.inr q.1)=_;rw[yI λe=>n1 (by rw[show p.1=q.1 from iB e];exact bx.mpr #[q,cJ h1,U])];exact ih n2 ⇑hl h1 h2
theorem rB:bQ ["web","piece"] ["web","piece"] (a_ MX):=bZ
inductive Nh (K:af) (C:Addr) (vs:ag) (H:Hp) (Q:VK) (E:XK):Prop
 |mk:∀(p:Addr) (y:V) (q:Pc) (hs:Xa) (ts:Xb) (fp:av),vs=[.ref p,y]->hU K C H p hs ts fp->Good hs ts->iG K H y q->kz ts q->(∀y' H',aa H H'->qc K H H' y' (pO q)->Q y' H')->Nh K C vs H Q E
theorem ha_{f C:Addr}{fd:Ae}(F:bu K "checked_piece" "checked_piece" MX f fd)(B:Bi mg)(cN:!bF 1 "is_name" fM IK)(cW:!bF 2 "is_whole_within" yD Jc)(cC:!bF 4 "checked_ways" ["web","ways"] (Nq K C)){tk:Tok}(mW:mg "MOST_WEIGHT"\.int 1000000000 tk) :
  ak P w K mg base bc 5 f fd ["web","piece"] (Nh K C):=by
 exists F.bW rB;let#[p,y,q,hs,ts,fp,rfl,W,G,#[t,v,rfl,ht,wy],gp,k]:=h
 apply#[_,ax (b_ (iK (eM (d4 (bT gM (by rfl) B.gA gE %[1,gN (v:=.ty "tuple") (by rfl) B.tuple oC U|0])))
   (jZ (eP ou (bT gx (by rfl) B.len fN %[1|0]) ay))).pt gC cm)
  (ax (b_ (eM (d4 (bj cN hr %[bg cj (pv 1) ay|0]))) gC cm)
  (ax (b_ (eM (d4 (bj cW hr %[bg cj (pv 1) ay,ay,CF (v:=.int 1000000000) (by rfl) mW #[tk,U]|0]))) gC cm)
  (aJ (bp (dD %[bg cj (pv 1) ay,bg cj (pv 1) ay,bj cC hr %[0,bg cj (pv 1) ay|0]|0]))))),?_]
 apply#[_,U,_,_,_,_,U,.tup ht,U,_,U,aH ?_];apply#[_,U,t,_,U,.inr (.of ht),U,_,U,?_];apply Ba (show V.int ((3:Nat):Int)=V.int 3 from U) ?_;apply#[_,U,t,_,_,_,U,U,.of ht,U,q.1,U,by have:=JA gp.nm;omega,λH1 s1=>#[_,U,?_]];rw[gp.nm];apply aH ?_;let pS:=s1 _ _ ht;apply#[_,U,t,_,_,_,U,U,.of pS,U,q.2.1,1,1000000000,U,_,U,?_];rw[dc gp.w1,dc gp.w2];apply aH ?_;apply#[_,U,t,_,_,_,U,U,.of pS,U,_,U,t,_,_,_,U,U,.of pS,U,_,U,_,U,t,_,_,_,U,U,.of pS,U,p,v,q.2.2,hs,ts,fp,U,W.same s1,G,wy.same s1,gp.ws,λv' H2 s2 VD hf=>?_];apply#[zl,λt' h_=>?_];exact k (.ref t') _ (s1.trans (s2.trans (aa.new h_))) #[t',v',U,aA,VD.same (aa.new h_),λa z=>s1.free (hf a z)]
theorem JU:bQ ["web","pieces","found","piece","checked"] ["web","pieces"] (a_ OZ):=bZ
structure Qs (ps qs:aS):Prop where
 vN:qs.map (·.1)=iE (ps.map (·.1))
 mem:∀q∈qs,∃p∈ps,q=pO p
inductive Od (K:af) (C:Addr) (vs:ag) (H:Hp) (Q:VK) (E:XK):Prop
 |mk:∀(p l:Addr) (ys:ag) (ps:aS) (hs:Xa) (ts:Xb) (fp:av),vs=[.ref p,.ref l]->hU K C H p hs ts fp->Good hs ts->H l\.lst ys->j4 K H ys ps->(∀q∈ps,kz ts q)->(ps.map (·.1)).Nodup->ps.length<64->(∀l' zs qs H',aa H H'->H' l'\.lst zs->Paired (qc K H H') zs qs->Qs ps qs->Q (.ref l') H')->Od K C vs H Q E
theorem aC{H:Hp}{a:Addr}{o:HO}(n:H a=none):aa H (upd H a o)/\upd H a o a\o:=⟨aa.new n,aA⟩
theorem fE_{f C:Addr}{fd:Ae}(F:bu K "checked_pieces" "checked_pieces" OZ f fd)(B:Bi mg)(cP:!bF 5 "checked_piece" ["web","piece"] (Nh K C)):!ak bc 6 f fd ["web","pieces"] (Od K C):=by
 exists F.bW JU;let#[p,l,ys,ps,hs,ts,fp,rfl,W,G,hl,pc,gp,nd,cX,k]:=h;let hu:=fP hr;let sz:=cK;let le:=bI pc
 apply#[_,ax (b_ (eM (d4 (bT gM (by rfl) B.gA gE %[1,gN (v:=.ty "list") (by rfl) B.list qf U|0]))) gC cm)
  (ax (bw 2 JU.nd F0)
  (ax (d9 dU U (d5 (pv 1)) (bX 3 JU.nd)
   (ax (bw 4 JU.nd (bj cP hr %[0,3|0]))
   (ax (b_ (qk (Bk hu (bg cj (pv 4) ay) (pv 2))) gC cm)
   (aJ (u5 hu (pv 2) (bg cj (pv 4) ay) (pv 4) U)))))
  (aJ (bp (jd ["name","found"] 1 [2] (d5 (bT (eP_ U) (by rfl) B.sorted JJ %[2|0])) (λfp s H=>fu (i:=0) (show (["name","found"]:ae).Nodup by decide +kernel) U (Or.inl U)) (λfp s H=>jy)
   (λfp s H=>j_ hu (pv 1) (pv 0))))))),?_]
 apply#[_,U,_,_,_,_,U,.lst hl,U,_,U,aH ?_];intro d hd;have s0:aa H (upd H d (.dK [])):=aa.new hd;apply#[_,U,l,U,#[_,.of (s0 _ _ hl)],ie (K:=K) (a:=l) (xs:=ys) (λi σ H2=>∃(v3 v4:aE) (cs:ag),σ=[some (.ref p),some (.ref l),some (.ref d),v3,v4]/\aa H H2/\Paired (qc K H H2) cs ((ps.take i).map pO)/\H2 d\.dK (((ps.take i).zip cs).map λq=>(Sum.inr q.1.1,q.2))) #[none,none,[],U,s0,.nil,aA] (λi σ H2 _ ⟨_,_,_,_,s2,_⟩=>.of (s2 _ _ hl)) ?_ ?_]
 ·rintro i y σ H2 hy ⟨v3,v4,cs,rfl,s2,pn,hd2⟩;have hi:i<ys.length:=(cw.mp hy).1;have hq:ps[i]? = some (ps[i]' Y0):=aX Y0;let py:=dP pc i hi Y0;rw[(cw.mp hy).2] at py;generalize ps[i]' Y0=q at hq py;apply#[_,U,_,U,p,y,q,hs,ts,fp,U,W.same s2,G,py.same s2,gp q (cJ hq),λy' H3 s3 pw=>?_];let#[t,v,rfl,ht,wy,hf]:=pw;let l9:=s3 _ _ hd2;let lc:=bI pn;rw[aq,dM] at lc
  have keys:((((ps.take i).zip cs).map λq=>((Sum.inr q.1.1:Key),q.2)).map (·.1))=((ps.take i).map (·.1)).map Sum.inr:=by
   rw[cA];have:((λx:Key × V=>x.1) ∘ λq:Pc × V=>((Sum.inr q.1.1:Key),q.2))=(λp:Pc=>(Sum.inr p.1:Key)) ∘ Prod.fst:=rfl;rw[this,<- cA,List.map_fst_zip (by rw[dM];omega),cA];rfl
  have uG:aZ (((ps.take i).zip cs).map λq=>((Sum.inr q.1.1:Key),q.2)) (Sum.inr q.1)=none:=u_ (by
   rw[keys];intro m;let#[x,hx,e]:=bx.mp m;cases e;exact Gy (g:=λp:Pc=>p.1) nd hq hx)
  apply#[_,U,t,_,_,_,U,U,.of ht,U,_,U,d,_,U,.k (k:=Sum.inr q.1) l9,_,U,?_];rw[uG];apply aH ?_;apply#[_,U,_,U,_,U,t,_,_,_,U,U,.of ht,U,d,_,U,.k (k:=Sum.inr q.1) l9 (by rw[aq,List.length_zip,dM];omega),?_];let Wq:=s2.trans s3;have n1:∀xs,H3 d≠some (.lst xs):=λxs z=>by rw[l9] at z;cases z
  have n2:∀xs,H3 d≠some (.tup xs):=λxs z=>by rw[l9] at z;cases z
  apply#[_,_,cs++[.ref t],U,λc o e=>?_,?_,?_]
  ·rw[aB (bG e hd)];exact Wq _ _ e
  ·rw[uc,hq,eK];exact mI (Paired.aQ pn λy q h=>(h.same s3).up n1 n2) (.cons (qc.up #[t,v,U,ht,wy,λa z=>s2.free (hf a z)] n1 n2) .nil)
  rw[aA,yJ _ uG,uc,hq,List.zip_append (by rw[dM];omega),eK];rfl
 rintro σ H2 ⟨v3,v4,cs,rfl,s2,pn,hd2⟩;rw[le,d_] at pn hd2;let lc:=bI pn;rw[aq] at lc
 have keys:(((ps.zip cs).map λq=>((Sum.inr q.1.1:Key),q.2)).map (·.1))=(ps.map (·.1)).map Sum.inr:=by
  rw[cA];have:((λx:Key × V=>x.1) ∘ λq:Pc × V=>((Sum.inr q.1.1:Key),q.2))=(λp:Pc=>(Sum.inr p.1:Key)) ∘ Prod.fst:=rfl;rw[this,<- cA,List.map_fst_zip Y0,cA];rfl
 apply#[_,U,d,_,ps.map (·.1),U,hd2,keys,by rw[aq];exact cX,λls LU=>?_];let#[s3,AJ]:=aC (o:=.lst ((iE (ps.map (·.1))).map V.str)) LU;apply#[ls,U,#[_,.of AJ],λD hD=>?_];generalize upd H2 ls (.lst ((iE (ps.map (·.1))).map V.str))=H3 at s3 AJ hD ⊢;have XD:(iE (ps.map (·.1))).length=ps.length:=by rw[(Gz _).length_eq,aq]
 apply kb (own:=1) (fv:=[some (.ref d)]) (xs:=(iE (ps.map (·.1))).map V.str) U fg (λi out H'=>∃qs:aS,aa H3 H'/\H' D\.lst out/\Paired (qc K H H2) out qs/\qs.map (·.1)=(iE (ps.map (·.1))).take i/\∀q∈qs,∃p∈ps,q=pO p) #[[],aa.new hD,aA,.nil,U,by simp] (λi out H' _ ⟨_,sm,_⟩=>.of (sm _ _ AJ)) (λzs H4 ⟨qs,s4,tG,pq,en,mem⟩=>?_) (λi x out H' hx ⟨qs,sm,dA,pq,en,mem⟩=>?_)
 ·rw[aq,d_] at en;exact k D zs qs H4 (s2.trans (s3.trans s4)) tG (Paired.aQ pq λy q h=>h.same (s3.trans s4)) #[en,mem]
 let#[n,hn,rfl]:=qu hx;have hm:n∈ps.map (·.1):=(Gz _).mem_iff.mp (cJ hn);let#[q,hq,eq]:=bx.mp hm;let#[j,hj,ej]:=gB hq;have hqj:ps[j]? = some q:=by rw[aX hj,ej]
 have R0:cs[j]? = some (cs[j]' Y0):=aX Y0;let hv:=NS nd lc hqj R0;let pj:=dP pn j Y0 (by rw[aq];omega);rw[w9,ej] at pj;generalize cs[j]' Y0=c at R0 hv pj;rw[eq] at hv;let lo:=bI pq;let lq:=eY List.length en;rw[aq,dM] at lq;have hi:i<(iE (ps.map (·.1))).length:=(cw.mp hn).1;apply#[_,U,U,λNx hN=>eQ ?_];apply#[_,U,_,U,d,c,U,?_,out,dA,by omega,hN _ _ #[qs++[pO q],fF sm hD,aA,?_,?_,?_]]
 ·rw[<- hv];exact .k (k:=Sum.inr n) (sm _ _ (s3 _ _ hd2))
 ·exact mI pq (.cons pj .nil)
 ·rw[eK,en,uc,hn,<- eq];rfl
 intro q' hq';rcases dE.mp hq' with hq'|hq'
 ·exact mem q' hq'
 obtain rfl:q'=pO q:=⇑hq'
 exact#[q,hq,U]
end
end Ev
namespace Ev
open PySem L2
abbrev lW:Stmt:=pC FS 0
abbrev rW:Stmt:=pC FS 1
abbrev NN:Stmt:=pC FS 2
abbrev Nb:Stmt:=pC FS 3
abbrev rV:Stmt:=pC FS 5
def de(p dw dy:Addr):List (Str × V):=aP Bl (.ref dy) (aP p_ (.ref dw) (aP "web" (.ref p) []))
theorem g12:¬(("web":Str)=p_):=by decide +kernel
theorem g13:¬(("web":Str)=Bl):=by decide +kernel
theorem g23:¬((p_:Str)=Bl):=by decide +kernel
theorem yM(p dw dy:Addr):(de p dw dy).lookup ("web":Str)\.ref p:=by
 unfold de;rw[gT,aD g13,gT,aD g12,gT,aK U]
theorem MN(p dw dy:Addr):(de p dw dy).lookup (p_:Str)\.ref dw:=by
 unfold de;rw[gT,aD g23,gT,aK U]
theorem ZO(p dw dy:Addr):(de p dw dy).lookup (Bl:Str)\.ref dy:=by
 unfold de;rw[gT,aK U]
theorem wM(p dw dy:Addr){m:Str}(h1:¬m="web")(h2:¬m=p_)(h3:¬m=Bl):(de p dw dy).lookup m=none:=by
 unfold de;rw[gT,aD h3,gT,aD h2,gT,aD h1]
 all_goals rfl
def k6(qs:aS):List (Key × V):=qs.map λq=>(Sum.inr q.1,V.int q.2.1)
def vt(qs:aS)(vs:ag):List (Key × V):=(qs.zip vs).map λx=>(Sum.inr x.1.1,x.2)
theorem Te(qs:aS):(k6 qs).map (·.1)=(qs.map (·.1)).map Sum.inr:=by
 unfold k6;rw[cA,cA];rfl
theorem _g{qs:aS}{vs:ag}(h:vs.length=qs.length):(vt qs vs).map (·.1)=(qs.map (·.1)).map Sum.inr:=by
 unfold vt;rw[cA];have:((λx:Key × V=>x.1) ∘ λq:Pc × V=>((Sum.inr q.1.1:Key),q.2))=(λp:Pc=>(Sum.inr p.1:Key)) ∘ Prod.fst:=rfl;rw[this,<- cA,List.map_fst_zip Y0,cA];rfl
structure gq (K:af) (CG CW:Addr) (H:Hp) (g p:Addr) (hs:Xa) (ts:Xb) (qs:aS) (fp:av):Prop where
 ex:∃(dx dw dy:Addr) (vs:ag) (dC:av),H g\.ins CG dx (de p dw dy)/\hU K CW H p hs ts dC/\H dw\.dK (k6 qs)/\H dy\.dK (vt qs vs)/\Paired (λv (q:Pc)=>cy K H v q.2.2) vs qs /\
  g∈fp/\dw∈fp/\dy∈fp/\(∀b∈dC,b∈fp)/\∀v∈vs,∀a,v=.ref a->a∈fp
theorem O5{α β:Type}{F G:α->β->Prop}:∀{l:List α} {m:List β},Paired F l m->(∀a∈l,∀b,F a b->G a b)->Paired G l m
 |_,_,.nil,_=>.nil
 |_,_,.cons h t,f=>.cons (f _ fY _ h) (O5 t λa ha=>f a (fo _ ha))
theorem cy.keep{K:af}{H H':Hp}{v:V}{o:Option (Xb)}(h:cy K H v o)(k:∀a,v=.ref a->∀u,H a\u->H' a\u)(kt:∀b xs,H b\.tup xs->H' b\.tup xs):cy K H' v o:=by
 cases o with
 |none=>exact h
 |some ws=>
  let#[a,ys,e,ha,t]:=h;exact#[a,ys,e,k a e _ ha,Paired.aQ t λy q ⟨b,z,hb⟩=>#[b,z,kt _ _ hb]]
theorem gq.keep{K:af}{CG CW:Addr}{H H':Hp}{g p:Addr}{hs:Xa}{ts:Xb}{qs:aS}{fp:av}(G:gq K CG CW H g p hs ts qs fp)(k:∀b∈fp,∀o,H b\o->H' b\o)(kt:∀b xs,H b\.tup xs->H' b\.tup xs):gq K CG CW H' g p hs ts qs fp:=by
 let#[dx,dw,dy,vs,dC,h1,h2,h3,h4,h5,m1,m2,m3,m4,m5]:=G.ex;exact#[dx,dw,dy,vs,dC,k _ m1 _ h1,h2.keep (λb hb o e=>k b (m4 b hb) o e) kt,k _ m2 _ h3,k _ m3 _ h4,O5 h5 λv hv q h=>h.keep (λa z u e=>k a (m5 v hv a z) u e) kt,m1,m2,m3,m4,m5]
theorem gq.same{K:af}{CG CW:Addr}{H H':Hp}{g p:Addr}{hs:Xa}{ts:Xb}{qs:aS}{fp:av}(G:gq K CG CW H g p hs ts qs fp)(s:aa H H'):gq K CG CW H' g p hs ts qs fp:=G.keep (λb _ o e=>s b o e) λb xs e=>s b _ e
structure gy (K:af) (CG:Addr):Prop where
 cl:mR K CG
 nW:ml K CG "web"
 nG:ml K CG p_
 nY:ml K CG Bl
structure GT (K:af) (C:Addr):Prop where
 ha:PySem.W.findIn K (.ref C) "__class__"\some (.builtin "object.__class__")
 hn:PySem.W.specialIn K (.builtin "object.__class__") "__get__"\some (.builtin "getset_descriptor.__get__")
 tk:PySem.W.takesIn K (.builtin "object.__class__")\true
 mo:PySem.W.mroIn K C (.type "object")\true
theorem _M(K:af)(c:Aa):PySem.W.kitOne K c c\true:=by
 unfold PySem.W.kitOne;rw[aK (beq_self_eq_true c)]
theorem Td{K:af}{H0 H:Hp}:∀{zs:ag} {qs:aS},Paired (qc K H0 H) zs qs->∃vs:ag,vs.length=qs.length/\Paired (λz (x:Pc × V)=>∃t,z=.ref t/\H t\.tup [.str x.1.1,.int x.1.2.1,x.2]) zs (qs.zip vs)/\Paired (λv (q:Pc)=>cy K H v q.2.2) vs qs/\∀v∈vs,∀a,v=.ref a->H0 a=none
 |_,_,.nil=>#[[],U,.nil,.nil,by simp]
 |_,_,.cons ⟨t,v,e,ht,wy,hn⟩ r=>by
  let#[vs,h1,h2,h3,h4]:=Td r;apply#[v::vs,by simp[h1],.cons #[t,e,ht] h2,.cons wy h3,λu hu=>?_];rcases cg.mp hu with rfl|hu
  ·exact hn
  exact h4 u hu
theorem Tf{K:af}{l D:Addr}{zs:ag}{xs:List (Pc × V)}{H:Hp}{Q:VK}{iL:St}{j:Nat}(sel:Pc × V->V)(hj:∀x:Pc × V,[some (V.str x.1.1),some (V.int x.1.2.1),some x.2][j]? = some (some (sel x)))(o9:iL=[none,none,none])(hl:H l\.lst zs)
  (pz:Paired (λz (x:Pc × V)=>∃t,z=.ref t/\H t\.tup [.str x.1.1,.int x.1.2.1,x.2]) zs xs) (oj:xs.length<=1000) (hD:H D=none)
  (q:∀H' out,aa H H'->H' D\.lst out->kM K H' out (xs.map λx=>(Sum.inr x.1.1,sel x))->Q (.ref D) H') :
  yA (yT K l) (gi K 3 (qa (jx 0) (qa (jx 1) (qa (jx 2) tJ)))) qy (qB (p7 (dj 0) (p7 (dj j) gG))) iL D H Q:=by
 let sz:=cK;let le:=bI pz;apply kb (own:=3) (fv:=[]) (xs:=zs) o9 MA (λi out H'=>aa H H'/\H' D\.lst out/\kM K H' out ((xs.take i).map λx=>(Sum.inr x.1.1,sel x))) #[aa.new hD,aA,.nil] (λi out H' _ ⟨sm,_,_⟩=>.of (sm _ _ hl)) (λout H4 ⟨sm,tG,eo⟩=>?_) (λi y out H' hy ⟨sm,dA,eo⟩=>?_)
 ·rw[le,d_] at eo;exact q _ _ sm tG eo
 have hi:i<zs.length:=(cw.mp hy).1;have hx:xs[i]? = some (xs[i]' Y0):=aX Y0;let#[t,et,ht]:=dP pz i hi Y0;rw[(cw.mp hy).2] at et;subst et;generalize xs[i]' Y0=x at hx ht;let lo:=bI eo;rw[aq,dM] at lo;apply#[_,#[t,_,_,_,U,.of (sm _ _ ht),U],U,λNx hN=>eQ ?_];apply#[_,U,_,hj x,zl,λp hp=>?_];let s2:=aa.new (o:=.tup [.str x.1.1,sel x]) hp;apply#[out,s2 _ _ dA,by omega,hN _ _ #[fF (sm.trans s2) hD,aA,?_]];rw[vm _ hx];have pD:∀{b:Addr} {ys:ag},upd H' p (.tup [.str x.1.1,sel x]) b\.tup ys->b≠D:=λhb=>bO hb (s2 _ _ dA) nofun;apply mI (Paired.aQ eo λy kv ⟨b,z,hb⟩=>#[b,z,by rw[aB (pD (s2 _ _ hb))];exact s2 _ _ hb]) (.cons #[p,U,?_] .nil);have kI:upd H' p (.tup [.str x.1.1,sel x]) p\.tup [.str x.1.1,sel x]:=aA;rw[aB (pD kI)];exact kI
section v
theorem nF:bQ ["self","web","pieces","checked"] ["self","web","pieces"] (a_ lW):=bZ
inductive Je (K:af) (CG CW:Addr) (vs:ag) (H:Hp) (Q:VK) (E:XK):Prop
 |mk:∀(g dx p l:Addr) (ys:ag) (ps:aS) (hs:Xa) (ts:Xb) (dC:av),vs=[.ref g,.ref p,.ref l]->H g\.ins CG dx []->hU K CW H p hs ts dC->g∉dC->Good hs ts->H l\.lst ys->j4 K H ys ps->(∀q∈ps,kz ts q)->(ps.map (·.1)).Nodup->ps.length<64->(∀qs fp H',(∀b o,H b\o->b≠g->H' b\o)->gq K CG CW H' g p hs ts qs fp->Qs ps qs->(∀b∈fp,b=g∨b∈dC∨H b=none)->Q .non H')->Je K CG CW vs H Q E
theorem _B{f CG CW:Addr}{fd:Ae}(F:bu K "__init__" "Goods.__init__" lW f fd)(T:gy K CG)(TW:Txt K mg CW)(IW:GT K CW)(B:Bi mg)(K5:mg "Web"\.ref CW)(cP:!bF 6 "checked_pieces" ["web","pieces"] (Od K CW)):!ak bc 7 f fd ["self","web","pieces"] (Je K CG CW):=by
 exists F.bW nF;let#[g,dx,p,l,ys,ps,hs,ts,dC,rfl,hg,W,gw,G,hl,pc,gp,nd,cX,k]:=h
 apply#[_,ax (b_ (eM (d4 (bT ga_ (by rfl) B.gA gE %[1,CF (v:=.ref CW) (by rfl) K5 U|0]))) gC cm)
  (ax (bw 3 nF.nd (bj cP hr %[1,2|0]))
  (ax (wF (pv 0) (pv 1) U)
  (ax (wF (pv 0) (gS (BH U) (by rfl) B.dict qg %[jd yr 3 [] (d5 (pv 3)) (λfp s H=>CD (n:=3) (di (fu (i:=0) (show (yr:ae).Nodup by decide +kernel) U (Or.inl U)) (di (fu (i:=1) (show (yr:ae).Nodup by decide +kernel) U (Or.inl U)) (di (fu (i:=2) (show (yr:ae).Nodup by decide +kernel) U (Or.inl U)) hW)))) (λfp s H=>jy) (λfp s H=>dD %[0,1|0])|0]) U)
  (aJ (wF (pv 0) (gS (BH U) (by rfl) B.dict qg %[jd yr 3 [] (d5 (pv 3)) (λfp s H=>CD (n:=3) (di (fu (i:=0) (show (yr:ae).Nodup by decide +kernel) U (Or.inl U)) (di (fu (i:=1) (show (yr:ae).Nodup by decide +kernel) U (Or.inl U)) (di (fu (i:=2) (show (yr:ae).Nodup by decide +kernel) U (Or.inl U)) hW)))) (λfp s H=>jy) (λfp s H=>dD %[0,2|0])|0]) U))))),?_]
 let#[jV,d1,l2,d3,xf,as,ef,w1,_]:=id W.ex;apply#[_,U,_,_,_,_,U,.ins w1 TW.cl IW.ha IW.hn IW.tk IW.mo,_M _ _,_,U,aH ?_];apply#[_,U,_,U,p,l,ys,ps,hs,ts,dC,U,W,G,hl,pc,gp,nd,cX,λlc zs qs H1 s1 vY pn Qq=>?_];let#[vs,lv,pz,VC,De]:=Td pn;let E_:=s1 _ _ hg
 have lq:qs.length=ps.length:=by
  have:=eY List.length Qq.vN;rw[aq,(Gz _).length_eq,aq] at this;exact this
 have WM:(qs.map (·.1)).Nodup:=by
  rw[Qq.vN];exact (Gz _).nodup_iff.mpr nd
 apply#[_,U,_,U,g,CG,dx,[],U,E_,T.cl,T.nW,by show 0<1000;decide,?_];have up1:∀{b o},H1 b\o->b≠g->upd H1 g (.ins CG dx (aP "web" (.ref p) [])) b\o:=λe ne=>by rw[aB ne];exact e
 have L7:upd H1 g (.ins CG dx (aP "web" (.ref p) [])) g\.ins CG dx (aP "web" (.ref p) []):=aA
 have MI:∀{b},upd H1 g (.ins CG dx (aP "web" (.ref p) [])) b=none->H1 b=none:=λ{b} e=>by
  by_cases z:b=g
  ·rw[z,aA] at e;cases e
  rw[aB z] at e;exact e
 generalize upd H1 g (.ins CG dx (aP "web" (.ref p) []))=H2 at up1 L7 MI ⊢;have HI:lc≠g:=bO vY E_ nofun;have WS:Paired (λz (x:Pc × V)=>∃t,z=.ref t/\H2 t\.tup [.str x.1.1,.int x.1.2.1,x.2]) zs (qs.zip vs):=Paired.aQ pz λz x ⟨t,e,ht⟩=>#[t,e,up1 ht (bO ht E_ nofun)];have mV:(qs.zip vs).length<=1000:=by rw[List.length_zip];omega
 apply#[_,U,lc,U,#[_,.of (up1 vY HI)],λD hD=>?_];apply Tf (λx=>.int x.1.2.1) (λx=>rfl) U (up1 vY HI) WS mV hD λH3 out s3 yd WX=>?_;apply#[D,out,_,U,yd,WX,by rw[aq];exact mV,λdw Mc=>?_]
 have MU:((qs.zip vs).map λx:Pc × V=>((Sum.inr x.1.1:Key),V.int x.1.2.1))=k6 qs:=by
  unfold k6;have:(λx:Pc × V=>((Sum.inr x.1.1:Key),V.int x.1.2.1))=(λq:Pc=>((Sum.inr q.1:Key),V.int q.2.1)) ∘ Prod.fst:=rfl;rw[this,<- cA,List.map_fst_zip Y0]
 have jn:(qs.map (·.1)).map (Sum.inr:Str->Key) |>.Nodup:=by
  rw[mG,ud];exact WM.imp λn e=>n (iB e)
 rw[MU,yN (by rw[Te];exact jn)];let s4:=aa.new (o:=.dK (k6 qs)) Mc;let RW:=s4 _ _ (s3 _ _ L7);apply#[_,U,g,CG,dx,_,U,RW,T.cl,T.nG,by show 1<1000;decide,?_];let Hg:=s3.trans s4;have Fe:upd H3 dw (.dK (k6 qs)) dw\.dK (k6 qs):=aA;have Ul:dw≠g:=(bG (s3 _ _ L7) Mc).symm;have pY:∀{b},upd H3 dw (.dK (k6 qs)) b=none->H2 b=none:=λe=>Hg.free e;have dwn:H2 dw=none:=s3.free Mc;generalize upd H3 dw (.dK (k6 qs))=H4 at s4 RW Hg Fe pY ⊢;have Kb:∀{b o},H4 b\o->b≠g->upd H4 g (.ins CG dx (aP p_ (.ref dw) (aP "web" (.ref p) []))) b\o:=λe ne=>by rw[aB ne];exact e
 have L6:upd H4 g (.ins CG dx (aP p_ (.ref dw) (aP "web" (.ref p) []))) g\.ins CG dx (aP p_ (.ref dw) (aP "web" (.ref p) [])):=aA
 have pe:∀{b},upd H4 g (.ins CG dx (aP p_ (.ref dw) (aP "web" (.ref p) []))) b=none->H4 b=none:=λ{b} e=>by
  by_cases z:b=g
  ·rw[z,aA] at e;cases e
  rw[aB z] at e;exact e
 generalize upd H4 g (.ins CG dx (aP p_ (.ref dw) (aP "web" (.ref p) [])))=H5 at Kb L6 pe ⊢;have vv:∀{b o},H1 b\o->b≠g->H5 b\o:=λe ne=>Kb (Hg _ _ (up1 e ne)) ne;have WR:Paired (λz (x:Pc × V)=>∃t,z=.ref t/\H5 t\.tup [.str x.1.1,.int x.1.2.1,x.2]) zs (qs.zip vs):=Paired.aQ pz λz x ⟨t,e,ht⟩=>#[t,e,vv ht (bO ht E_ nofun)];apply#[_,U,lc,U,#[_,.of (vv vY HI)],λD2 oh=>?_];apply Tf (λx=>x.2) (λx=>rfl) U (vv vY HI) WR mV oh λH6 eV s6 Ip WW=>?_;apply#[D2,eV,_,U,Ip,WW,by rw[aq];exact mV,λdy Mb=>?_];rw[show ((qs.zip vs).map λx:Pc × V=>((Sum.inr x.1.1:Key),x.2))=vt qs vs from U,yN (by rw[_g lv];exact jn)];let s7:=aa.new (o:=.dK (vt qs vs)) Mb;let zI:=s6.trans s7;let RV:=zI _ _ L6;apply#[_,U,g,CG,dx,_,U,RV,T.cl,T.nY,by show 2<1000;decide,?_];have Fb:upd H6 dy (.dK (vt qs vs)) dy\.dK (vt qs vs):=aA;have dyg:dy≠g:=(bG (s6 _ _ L6) Mb).symm;have dyn:H5 dy=none:=s6.free Mb;generalize upd H6 dy (.dK (vt qs vs))=H7 at s7 zI RV Fb ⊢
 have fin:∀{b o},H1 b\o->b≠g->upd H7 g (.ins CG dx (de p dw dy)) b\o:=λe ne=>by
  rw[aB ne];exact zI _ _ (vv e ne)
 have Df:∀b xs,H1 b\.tup xs->upd H7 g (.ins CG dx (de p dw dy)) b\.tup xs:=λb xs e=>fin e (bO e E_ nofun);have nH:∀{b},H1 b=none->H b=none:=λe=>s1.free e;apply k qs (g::dw::dy::(dC++vs.filterMap λv=>match v with | .ref a=>some a|_=>none)) _ (λb o e ne=>fin (s1 _ _ e) ne) #[dx,dw,dy,vs,dC,aA,?_,?_,?_,?_,by simp,by simp,by simp,λb hb=>by simp[hb],λv hv a z=>?_] Qq λb hb=>?_
 ·exact W.keep (λb hb o e=>fin (s1 _ _ e) (λz=>gw (z▸hb))) λb xs e=>Df b xs (s1 _ _ e)
 ·rw[aB Ul];exact zI _ _ (Kb Fe Ul)
 ·rw[aB dyg];exact Fb
 ·exact O5 VC λv hv q h=>h.keep (λa z u e=>fin e (λzz=>by
   subst zz;have:=De v hv _ z;rw[hg] at this;cases this)) λb xs e=>Df b xs e
 ·apply fo _ (fo _ (fo _ (kg _ (yO.mpr #[v,hv,?_]))));rw[z]
 simp only[cg,dE,yO] at hb;rcases hb with rfl|rfl|rfl|hb|⟨v,hv,e⟩
 ·exact .inl U
 ·exact .inr (.inr (nH (MI dwn)))
 ·exact .inr (.inr (nH (MI (Hg.free (pe dyn)))))
 ·exact .inr (.inl hb)
 cases v with
 |ref a=>
  cases e;exact .inr (.inr (De _ hv _ U))
 |_=>cases e
end
end Ev
namespace L2
open PySem
end L2
namespace Ev
open PySem L2
theorem eU_{kvs:List (Key × V)}{ns:ae}(h:kvs.map (·.1)=ns.map Sum.inr)(x:Str):(aZ kvs (Sum.inr x)).isSome=decide (x∈ns):=by
 by_cases hx:x∈ns
 ·rw[dc hx];apply OP ?_;rw[h];exact bx.mpr #[x,hx,U]
 rw[fO hx,u_]
 ·rfl
 rw[h];intro m;let#[y,hy,e]:=bx.mp m;cases e;exact hx hy
theorem YG{qs:aS}(nd:(qs.map (·.1)).Nodup){q:Pc}(hq:q∈qs):aZ (k6 qs) (Sum.inr q.1)\.int q.2.1:=by
 let#[j,hj,e]:=gB hq;have:=NS (ps:=qs) (cs:=qs.map λq=>V.int q.2.1) nd (by rw[aq]) (j:=j) (q:=q) (c:=.int q.2.1) (by rw[aX hj,e]) (by rw[df,aX hj,e];rfl)
 have e2:((qs.zip (qs.map λq=>V.int q.2.1)).map λq=>((Sum.inr q.1.1:Key),q.2))=k6 qs:=by
  unfold k6;rw[List.zip_map_right,cA]
  have:qs.zip qs=qs.map λq=>(q,q):=by
   clear nd hq this hj e j
   induction qs with
   |nil=>rfl
   |cons a l ih=>rw[List.zip_cons_cons,ih,fE]
  rw[this,cA];rfl
 rwa [e2] at this
theorem YM{qs:aS}{vs:ag}(nd:(qs.map (·.1)).Nodup){K:af}{H:Hp}(h:Paired (λv (q:Pc)=>cy K H v q.2.2) vs qs){q:Pc}(hq:q∈qs):∃v∈vs,aZ (vt qs vs) (Sum.inr q.1)\v/\cy K H v q.2.2:=by
 let#[j,hj,e]:=gB hq;let hl:=bI h;have hv:j<vs.length:=by omega
 let p:=dP h j hv hj;rw[e] at p;exact#[vs[j],ke hv,NS nd Y0 (by rw[aX hj,e]) (aX hv),p]
def Cr(hs:Xa)(ts:Xb)(o:Option (Xb))(x y:Option Str):Bool:=
 Cz hs ts x y&&match o,x,y with
  |none,_,_=>true
  |some ws,some a,some b=>decide (aN a b∈ws)
  |_,_,_=>false
section v
theorem zD:bQ mF mF (a_ rW):=bZ
inductive FR (K:af) (CG CW:Addr) (vs:ag) (H:Hp) (Q:VK) (E:XK):Prop
 |mk:∀(g p:Addr) (v:V) (x:Option Str) (hs:Xa) (ts:Xb) (qs:aS) (fp:av),vs=[.ref g,v]->gq K CG CW H g p hs ts qs fp->jh K H v x->Q (.bl (xV (qs.map (·.1)) x)) H->FR K CG CW vs H Q E
theorem Zo{f CG CW:Addr}{fd:Ae}(F:bu K "has_piece" "Goods.has_piece" rW f fd)(T:gy K CG)(B:Bi mg):!ak bc 1 f fd mF (FR K CG CW):=by
 exists F.bW zD;let#[g,p,v,x,hs,ts,qs,fp,rfl,G,sv,k]:=h;let hu:=fP hr;let#[dx,dw,dy,vs,dC,h1,h2,h3,h4,h5,m1,m2,m3,m4,m5]:=G.ex;apply#[_,aJ (bp (oy (bT gM (by rfl) B.gA gE %[1,gN (v:=.ty "str") (by rfl) B.str Iu U|0]) (pB (IC (Bk hu (pv 1) (ja (pv 0) U)))))),?_];cases x with
 |some x=>
  cases (show v=.str x from sv);apply#[_,U,_,_,_,_,U,.str x,U,_,U,bN ?_];apply#[_,U,_,U,g,CG,dx,_,_,U,h1,T.cl,T.nG,MN _ _ _,dw,_,U,.k (k:=Sum.inr x) h3,?_];rw[eU_ (Te qs)];exact k
 |none=>
  let#[t,ty,e]:=sv;exact#[_,U,_,_,_,_,U,ty,e,_,U,aH k]
theorem rn:bQ pA pA (a_ NN):=bZ
inductive CQ (K:af) (CG CW:Addr) (vs:ag) (H:Hp) (Q:VK) (E:XK):Prop
 |mk:∀(g p:Addr) (hs:Xa) (ts:Xb) (qs:aS) (fp:av),vs=[.ref g]->gq K CG CW H g p hs ts qs fp->(∀l,H l=none->Q (.ref l) (upd H l (.lst ((qs.map (·.1)).map V.str))))->CQ K CG CW vs H Q E
theorem hK_{f CG CW:Addr}{fd:Ae}(F:bu K "names" "Goods.names" NN f fd)(T:gy K CG)(B:Bi mg):!ak bc 1 f fd pA (CQ K CG CW):=by
 exists F.bW rn;let#[g,p,hs,ts,qs,fp,rfl,G,k]:=h;let#[dx,dw,dy,vs,dC,h1,h2,h3,h4,h5,m1,m2,m3,m4,m5]:=G.ex;apply#[_,aJ (bp (gS (Ot U) (by rfl) B.list qf %[ja (pv 0) U|0])),?_];apply#[_,U,g,CG,dx,_,_,U,h1,T.cl,T.nG,MN _ _ _,dw,_,U,.inl h3,λl hl=>?_]
 have e:((k6 qs).map λkv=>kV kv.1)=(qs.map (·.1)).map V.str:=by
  unfold k6;rw[cA,cA];rfl
 rw[e];exact k l hl
structure Ref (K:af) (mg:Str->Option Aa) (x:Str) (C:Addr):Prop where
 mg:mg x\.ref C
 ex:PySem.W.excIn K C [.type "ValueError",.type "Exception",.type "BaseException",.type "object"] "ValueError.__new__"=true
theorem oR:bQ ["self","piece"] ["self","piece"] (a_ Nb):=bZ
inductive N_ (K:af) (CG CW CP:Addr) (vs:ag) (H:Hp) (Q:VK) (E:XK):Prop
 |mk:∀(g p:Addr) (v:V) (x:Option Str) (hs:Xa) (ts:Xb) (qs:aS) (fp:av),vs=[.ref g,v]->gq K CG CW H g p hs ts qs fp->(qs.map (·.1)).Nodup->jh K H v x->((∃q∈qs,x\q.1/\Q (.int q.2.1) H)∨False)->N_ K CG CW CP vs H Q E
theorem fO_{f CG CW CP:Addr}{fd:Ae}(F:bu K "weight" "Goods.weight" Nb f fd)(T:gy K CG)(cH:!bY CG 1 "has_piece" mF (FR K CG CW)):!ak bc 2 f fd ["self","piece"] (N_ K CG CW CP):=by
 exists F.bW oR;let#[g,p,v,x,hs,ts,qs,fp,rfl,G,nd,sv,k]:=h;let hu:=fP hr;let#[dx,dw,dy,vs,dC,h1,h2,h3,h4,h5,m1,m2,m3,m4,m5]:=id G.ex;have kJ:(de p dw dy).lookup ("has_piece":Str)=none:=wM _ _ _ Z0 Z0 Z0;apply#[_,ax (b_ (eM (d4 (j2 cH T.cl hr (pv 0) %[1|0]))) gC cm) (aJ (bp (j_ hu (ja (pv 0) U) (pv 1)))),?_];apply#[_,U,g,dx,_,U,h1,kJ,_,U,g,p,v,x,hs,ts,qs,fp,U,G,sv,_,U,?_];rcases k with⟨q,hq,rfl,k⟩|k
 ·cases (show v=.str q.1 from sv);rw[show xV (qs.map (·.1)) (some q.1)=true from dc (bx.mpr #[q,hq,U])];apply aH ?_;apply#[_,U,g,CG,dx,_,_,U,h1,T.cl,T.nG,MN _ _ _,_,U,dw,_,U,?_,k];rw[<- YG nd hq];exact .k (k:=Sum.inr q.1) h3
 exact k.elim
theorem rp:bQ ["self","piece","one","other","ties"] ["self","piece","one","other"] (a_ rV):=bZ
inductive lF (K:af) (CG CW CP:Addr) (vs:ag) (H:Hp) (Q:VK) (E:XK):Prop
 |mk:∀(g p:Addr) (v u1 u2:V) (x y1 y2:Option Str) (hs:Xa) (ts:Xb) (qs:aS) (fp:av),vs=[.ref g,v,u1,u2]->gq K CG CW H g p hs ts qs fp->(qs.map (·.1)).Nodup->(aV hs).Nodup->jh K H v x->((∃q∈qs,x\q.1/\jh K H u1 y1/\jh K H u2 y2/\∀H',aa H H'->Q (.bl (Cr hs ts q.2.2 y1 y2)) H')∨False)->lF K CG CW CP vs H Q E
theorem Zi{f CG CW CP:Addr}{fd:Ae}(F:bu K "may_go" "Goods.may_go" rV f fd)(T:gy K CG)(TW:Txt K mg CW)(cH:!bY CG 1 "has_piece" mF (FR K CG CW))(cT:!bY CW 2 "are_tied" ki (JC K CW))(cL:!bF 1 "lesser_first" mw Jv) :
  ak P w K mg base bc 3 f fd ["self","piece","one","other"] (lF K CG CW CP):=by
 exists F.bW rp;let#[g,p,v,u1,u2,x,y1,y2,hs,ts,qs,fp,rfl,G,nd,iU,sv,k]:=h;let hu:=fP hr;have jO:aY 1 _:=hr.mono (by decide);let#[dx,dw,dy,vs,dC,h1,h2,h3,h4,h5,m1,m2,m3,m4,m5]:=id G.ex;have kJ:(de p dw dy).lookup ("has_piece":Str)=none:=wM _ _ _ Z0 Z0 Z0;let#[jV,d1,l2,d3,xf,as,ef,w1,_]:=id h2.ex;have AF:(fi d1 l2 d3).lookup ("are_tied":Str)=none:=pE _ _ _ Z0 Z0 Z0
 apply#[_,ax (b_ (eM (d4 (j2 cH T.cl jO (pv 0) %[1|0]))) gC cm)
  (ax (b_ (eM (d4 (j2 cT TW.cl hr (ja (pv 0) U) %[2,3|0]))) (aJ (bp jw)) cm)
  (ax (bw 4 rp.nd (j_ hu (ja (pv 0) U) (pv 1)))
  (aJ (bp (X0 (IC (IB (pv 4))) (pB (wQ (IF (Bn gK gK) (kU hr _)) (bj cL hr %[2,3|0]) (pv 4) (by with_unfolding_all rfl)))))))),?_]
 apply#[_,U,g,dx,_,U,h1,kJ,_,U,g,p,v,x,hs,ts,qs,fp,U,G,sv,_,U,?_];rcases k with⟨q,hq,rfl,s1,s2,k⟩|k
 ·cases (show v=.str q.1 from sv);rw[show xV (qs.map (·.1)) (some q.1)=true from dc (bx.mpr #[q,hq,U])];apply aH ?_;apply#[_,U,g,CG,dx,_,_,U,h1,T.cl,T.nW,yM _ _ _,p,jV,_,U,w1,AF,_,U,_,U,p,u1,u2,y1,y2,hs,ts,dC,U,h2,iU,s1,s2,_,U,?_];cases tb:Cz hs ts y1 y2 with
  |false=>
   apply bN ?_;have:=k H (aa.refl H);unfold Cr at this;rw[tb,Bool.false_and] at this;exact this
  |true=>
   apply aH ?_;let#[u,EC,eu,wy]:=YM nd h5 hq;apply#[_,U,g,CG,dx,_,_,U,h1,T.cl,T.nY,ZO _ _ _,_,U,dy,u,U,?_,?_]
   ·rw[<- eu];exact .k (k:=Sum.inr q.1) h4
   apply#[_,U,_,U,?_];unfold Cr at k;rw[tb] at k;cases e:q.2.2 with
   |none=>
    rw[e] at wy k;cases (show u=.non from wy);exact bN (k H (aa.refl H))
   |some ws=>
    rw[e] at wy k;let#[a,ys,rfl,ha,tu]:=wy;cases y1 with
    |none=>cases tb
    |some a1=>
     cases y2 with
     |none=>cases tb
     |some a2=>
      cases (show u1=.str a1 from s1);cases (show u2=.str a2 from s2);apply aH #[_,U,_,U,a1,a2,U,λt ht=>?_];have s3:aa H (upd H t (.tup [.str (aN a1 a2).1,.str (aN a1 a2).2])):=aa.new ht;apply#[_,U,aN a1 a2,ws,#[t,_,_,U,.of aA,U,U],#[a,ys,U,.of (s3 _ _ ha),MZ (tu.same s3)],?_];let z:=k _ s3;rw[Bool.true_and] at z;rw[aD gr];show Q (.bl _) _;have z:Q (.bl (decide (aN a1 a2∈ws))) (upd H t (.tup [.str (aN a1 a2).1,.str (aN a1 a2).2])):=z;generalize upd H t (.tup [.str (aN a1 a2).1,.str (aN a1 a2).2])=Hz at z ⊢;by_cases hm:aN a1 a2∈ws
      ·simpa [hm] using z
      simpa [hm] using z
 exact k.elim
end
end Ev
namespace L2
open PySem PySem.Spec PyProof.Rows PySem.W
theorem ZF{P:Ad}{w:Af}{k:Key}{key:Aa}(h:(d0 P w).is k key=true):RelV (kV k) key:=by
 have e2:wx k key=true:=h;rcases qt e2 with⟨i,t,rfl,rfl⟩|⟨x,t,rfl,rfl⟩
 ·exact#[t,U]
 exact#[t,U]
def Itm(d:Addr)(o:Obj)(kvs:List (Key × V)):It:=#[λi H=>H d\.frz o (.dK kvs)/\i<kvs.length,λi H y H'=>∃t k x,y=.ref t/\H t=none/\kvs[i]? = some (k,x)/\H'=upd H t (.tup [kV k,x]),λi H=>H d\.frz o (.dK kvs)/\kvs.length<=i]
theorem g3_{P:Ad}{w:Af}{K:af}{elts:List Expr}{kk:Nat}{pos:Pos}(d it:Addr)(o:Obj)(kvs:List (Key × V)){es:Array DictEntry}{ep:Nat}(ho:o.data=.dict es ep):Turn P w K (.Tuple elts kk pos) (Itm d o kvs) [it] it (λi h=>∃ok ov,IsItemIter h it d i kvs.length ep ok ov) where
 mem:=by simp
 obj:=λi h st b hb=>by
  obtain rfl:b=it:=⇑hb
  let#[ok,ov,q]:=st;exact#[_,q,λv z=>by cases z]
 keep:=λi h h' st k=>by
  let#[ok,ov,q]:=st;exact#[ok,ov,k it Y1 _ q]
 item:=by
  intro X hP hw hK hc i pins s σ H E I hf st hg;subst hP hw hK;let#[hd,hi]:=hg;let#[vs,rel,dat]:=Uo I hd ho;obtain⟨⟨k,x⟩,hx⟩:∃p,kvs[i]? = some p:=#[kvs[i],by simp[hi]];let#[u,hu,ru]:=ME rel i hx;let#[ok,ov,st]:=st;have ZY:it<s.heap.objs.size:=bK st;rw[rel.length] at st;apply wpAny_pyNext_items_item st dat hu λkey h' hk out ht sz kp=>?_;apply#[_,U,wpAny_letOwnedTupleGo_items (s:={ s with heap:=h' }) out λh2 cQ sb=>?_];have nT:s.heap.objs.size≠it:=jf ZY;have I1:Inv X pins σ (upd H s.heap.objs.size (.tup [kV k,x])) { s with heap:=h2 }:=I.iM (t':=s.toks) (fp:=[it]) (its:=[key,u]) (λb o hb q=>(sb.2 b ⇑hb).trans (kp b o ⇑hb q)) hf (a9 _) (zl) (.cons (ZF hk) (.cons ru .nil)) #[#[_,(sb.2 _ nT).trans ht,U,_,U],_,(sb.2 _ nT).trans ht,U];apply#[.ref _,_,I1,U,#[_,k,x,U,I.aF.fresh (a9 _),hx,U],#[_,_,by rw[rel.length];exact cQ],λb hb=>?_];have e:b=it:=⇑hb
  rw[aB (λz=>nT (z.symm.trans e))];exact (hf b hb).1
 done:=by
  intro X hP hw hK hc i pins s σ H E I hf st hg;subst hP hw hK;let#[hd,hi]:=hg;let#[vs,rel,dat]:=Uo I hd ho;let#[f0,f1,f2,f3,f4,f5]:=hf it Y1;let#[ok,ov,st]:=st;rw[rel.length] at st hi;exact wpAny_pyNext_items_end (I.ok.hd hc) st dat (by simp;omega) λh' eb=>#[U,I.turned (t':=s.toks) (λb o hb e=>eb b o hb e) f0 f1 f3 f4 f5]
 self:=λA i s Q E st h=>by
  let#[ok,ov,q]:=st;exact kcp_self q h
inductive n0 (R:It->Hp->Prop) (x:V) (H1:Hp):Prop
 |mk:∀v d kvs,x=.ref v->H1 v\tX v d->H1 d\.dK kvs->(∀o,R (Itm d o kvs) (upd H1 d (.frz o (.dK kvs))))->n0 R x H1
def Ax(tv:TE):TI:=λσ H R=>tv σ H λx H1=>n0 R x H1
theorem M9{X:Cx}{elts:List Expr}{kk:Nat}{p2:Pos}{e:Expr}{tv:TE}(he:PE X e tv):PI X (.Tuple elts kk p2) e (Ax tv):=by
 intro pins s σ H R I h;apply aU (he pins s σ H _ I h) λu s1 ⟨x,H1,I1,r1,v,d,kvs,ex,hv,hd,q⟩=>?_;subst ex;cases r1;let#[iv,_,_]:=I1.aF v _ hv;let#[o,ho,I2]:=I1.freeze hd;let#[z,_,vs,rel,o',es,ep,n9,c',dt,r]:=EA I1.aF hd;rw[ho] at n9;cases n9;apply wpAny_pyIter_items (knd:=d0 X.prog X.w) (kvs:=vs) (ep:=ep) iv #[o,es,ho,c',dt,r] ?_;apply#[s1.heap.objs.size,[s1.heap.objs.size],_,_,_,U,I2.kept (t':=s1.toks) λb o e=>bo _ e,g3_ d _ o kvs dt,?_,λb hb=>?_,q o]
 ·rw[rel.length];exact#[.none,.none,dq _ U]
 obtain rfl:b=s1.heap.objs.size:=⇑hb
 exact I2.i5 (a9 _) (I2.aF.fresh (a9 _))
theorem N8{d:Addr}{o:Obj}{kvs:List (Key × V)}{g:TG}{tb:TS}{D:Ends}{σ:St}{H:Hp}(Pv:dG)(h0:Pv 0 σ H)(hl:∀i σ H,i<=kvs.length->Pv i σ H->H d\.frz o (.dK kvs))
  (hs:∀i k x σ H,kvs[i]? = some (k,x)->Pv i σ H->∀t,H t=none->g (.ref t) σ (upd H t (.tup [kV k,x])) λgc H2=>tb { D with nx:=Pv (i+1),ct:=Pv (i+1),bk:=D.nx } gc H2) (hd:∀σ H,Pv kvs.length σ H->D.nx σ H) :
  ∃W:Nat->Nat->St->Hp->Prop,(∃m,W 0 m σ H)/\∀i m σ H,W i m σ H->
   ((Itm d o kvs).stop i H/\D.nx σ H)∨((Itm d o kvs).go i H/\∃N:St->Hp->Prop,(∀bf H',N bf H'->∃m',m'<m/\W (i+1) m' bf H')/\∀x H',(Itm d o kvs).vq i H x H'->g x σ H' λgc H2=>tb { D with nx:=N,ct:=N,bk:=D.nx } gc H2):=by
 apply#[λi m σ H=>m=kvs.length - i/\i<=kvs.length/\Pv i σ H,#[kvs.length,by simp,gO _,h0],?_];rintro i m σ H ⟨rfl,hi,p⟩;let q:=hl i σ H hi p;by_cases dR:i<kvs.length
 ·apply .inr #[#[q,dR],Pv (i+1),λbf H' p'=>#[kvs.length - (i+1),by omega,U,dR,p'],λx H' y=>?_];let#[t,k,x,rfl,ht,hx,rfl]:=y;exact hs i k x σ H hx p t ht
 have e:i=kvs.length:=by omega
 subst e;exact .inl #[#[q,a9 _],hd σ H p]
inductive qC (t:TS) (D:Ends) (σ:St) (H:Hp):Prop
 |mk:∀d kvs,H d\.dK kvs->t { nx:=λmU H1=>∃o,H1 d\.frz o (.dK kvs)/\D.nx mU (upd H1 d (.dK kvs)),rt:=λv H1=>∃o,H1 d\.frz o (.dK kvs)/\D.rt v (upd H1 d (.dK kvs)) } σ H->qC t D σ H
theorem Sv{X:Cx}{st:Stmt}{t:TS}(h:PS X st t):PS X st (qC t):=by
 intro pins s σ H D I q;let#[d,kvs,hd,q]:=q
 have nf:∀o u,X.ku d≠some (.frz o u):=λo u z=>by
  have:=I.base.hG _ _ _ z;rw[hd] at this;cases this
 apply aU (h pins s σ H _ I q) λf s' p=>?_;cases f with
 |next=>
  let#[mU,H1,I1,o,hf,q1]:=p;exact#[mU,_,I1.qx hf nf,q1]
 |brk=>
  let#[mU,H1,I1,q1]:=p;exact False.elim q1
 |cont=>
  let#[mU,H1,I1,q1]:=p;exact False.elim q1
 |ret u=>
  let#[v,mU,H1,I1,r,o,hf,q1]:=p;exact#[v,mU,_,I1.qx hf nf,r,q1]
end L2
namespace Ev
open PySem L2
structure Fz (d:Addr) (o:Obj) (kvs:List (Key × V)) (H H':Hp):Prop where
 at_:H' d\.frz o (.dK kvs)
 sm:∀b u,b≠d->H b\u->H' b\u
section
variable{d:Addr}{o:Obj}{kvs:List (Key × V)}{H H' H2:Hp}
theorem Fz.start:Fz d o kvs H (upd H d (.frz o (.dK kvs))):=#[aA,λb u ne e=>by rw[aB ne];exact e]
theorem Fz.step(f:Fz d o kvs H H')(s:aa H' H2):Fz d o kvs H H2:=#[s _ _ f.at_,λb u ne e=>s _ _ (f.sm b u ne e)]
theorem Fz.qx(f:Fz d o kvs H H')(hd:H d\.dK kvs):aa H (upd H' d (.dK kvs)):=λb u e=>by
 by_cases z:b=d
 ·subst z;rw[hd] at e;cases e;exact aA
 rw[aB z];exact f.sm b u z e
theorem Fz.ye{K:af}{CG CW g p:Addr}{hs:Xa}{ts:Xb}{qs:aS}{fp:av}(f:Fz d o kvs H H')(hd:H d\.dK kvs)(G:gq K CG CW H g p hs ts qs fp)(nd:d∉fp):gq K CG CW H' g p hs ts qs fp:=
 G.keep (λb hb u e=>f.sm b u (λz=>nd (z▸hb)) e) λb xs e=>f.sm b _ (bO e hd nofun) e
end
def dZ(ns:ae)(g:Str->V):List (Key × V):=ns.map λn=>(Sum.inr n,g n)
theorem CO(ns:ae)(g:Str->V):(dZ ns g).map (·.1)=ns.map Sum.inr:=by
 unfold dZ;rw[cA];rfl
theorem oA(ns:ae)(g:Str->V):(dZ ns g).length=ns.length:=aq _
theorem Bz{ns:ae}{g:Str->V}{n:Str}(h:n∈ns):aZ (dZ ns g) (Sum.inr n)\g n:=by
 induction ns with
 |nil=>cases h
 |cons m ns ih=>
  by_cases e:m=n
  ·subst e;exact yK U
  have:aZ (dZ (m::ns) g) (Sum.inr n)=aZ (dZ ns g) (Sum.inr n):=yI λz=>e (iB z);rw[this];rcases cg.mp h with z|z
  ·exact absurd z.symm e
  exact ih z
theorem JH{ns:ae}{g k:Str->V}(h:∀n∈ns,g n=k n):dZ ns g=dZ ns k:=u9 λn hn=>by rw[h n hn]
theorem RN{ns:ae}{g:Str->V}{n:Str}{v:V}(h:n∈ns):putK (dZ ns g) (Sum.inr n) v=dZ ns λm=>if m=n then v else g m:=by
 unfold putK;rw[aK]
 ·unfold dZ;rw[cA];apply u9 λm _=>?_;by_cases e:m=n
  ·subst e;simp
  have:¬((Sum.inr m:Key)=Sum.inr n):=λz=>e (iB z);simp[e]
 apply List.any_eq_true.mpr #[(Sum.inr n,g n),bx.mpr #[n,h,U],by simp]
theorem Rw{ns:ae}{g:Str->V}{n:Str}{v:V}(h:n∉ns):putK (dZ ns g) (Sum.inr n) v=dZ (ns++[n]) λm=>if m=n then v else g m:=by
 rw[yJ _ (u_ (by
  rw[CO];intro m;let#[x,hx,e]:=bx.mp m;exact h (iB e▸hx)))]
 unfold dZ;rw[eK];congr 1
 ·apply u9 λm hm=>?_;have e:¬m=n:=λz=>h (z▸hm);simp[e]
 simp
theorem MC{ns:ae}{g:Str->V}{i:Nat}{k:Key}{x:V}(h:(dZ ns g)[i]? = some (k,x)):∃n,ns[i]? = some n/\k=Sum.inr n/\x=g n:=by
 unfold dZ at h;rw[df] at h;cases e:ns[i]? with
 |none=>rw[e] at h;cases h
 |some n=>
  rw[e] at h;let h:=dO h;exact#[n,U,(eY Prod.fst h).symm,(eY Prod.snd h).symm]
theorem Ti{ns:ae}(nd:ns.Nodup){i:Nat}{n:Str}(h:ns[i]? = some n):n∉ns.take i:=by
 let q:=Gy (g:=id) (ts:=ns) (by rw[List.map_id];exact nd) h;rwa [List.map_id] at q
theorem u6{ns:ae}{i:Nat}{n:Str}(h:ns[i]? = some n):ns.take (i+1)=ns.take i++[n]:=by
 rw[uc,h];rfl
abbrev gd(ns:ae)(f:bz):List (Key × V):=dZ ns λn=>.str (f n)
def e_(q:Pc):Str × Int:=(q.1,q.2.1)
def ld(f:bz)(ws:Xa)(h:Str):Int:=((ws.filter λx=>decide (f x.1=h)).map (·.2)).sum
theorem Sw(f:bz)(ws:Xa)(x:Str × Int)(h:Str):ld f (ws++[x]) h=if h=f x.1 then ld f ws h+x.2 else ld f ws h:=by
 unfold ld;rw[List.filter_append];by_cases e:f x.1=h
 ·rw[aK e.symm,eK,List.sum_append];simp[e]
 rw[aD λz=>e z.symm];simp[e]
theorem Su:∀{l:List Int},(∀x∈l,0<=x)->0<=l.sum
 |[],_=>by simp
 |x::l,h=>by
  rw[List.sum_cons];have:=h x fY;have:=Su (l:=l) λy hy=>h y (fo _ hy);omega
theorem Yd{f:bz}{ws:Xa}{h:Str}(p:∀x∈ws,0<=x.2):0<=ld f ws h:=Su λx hx=>by
 let#[y,hy,rfl]:=bx.mp hx;exact p y (ub.mp hy).1
theorem gP_{α:Type}{ps:List (Str × α)}(nd:(ps.map (·.1)).Nodup){a b:Str × α}(ha:a∈ps)(hb:b∈ps)(e:a.1=b.1):a=b:=by
 induction ps with
 |nil=>cases ha
 |cons p ps ih=>
  rw[fE,kW] at nd;rcases cg.mp ha with za|ha
  ·rcases cg.mp hb with zb|hb
   ·rw[za,zb]
   rw[za] at e;exact absurd (show p.1∈ps.map (·.1) from bx.mpr #[b,hb,e.symm]) nd.1
  rcases cg.mp hb with zb|hb
  ·rw[zb] at e;exact absurd (show p.1∈ps.map (·.1) from bx.mpr #[a,ha,e]) nd.1
  exact ih nd.2 ha hb
def strOf(hs:Xa)(n:Str):Int:=((hs.find? λh=>decide (h.1=n)).map (·.2)).getD 0
theorem JG{hs:Xa}{n:Str}(h:n∈hs.map (·.1)):(n,strOf hs n)∈hs:=by
 unfold strOf;let#[x,hx,e]:=bx.mp h;cases q:hs.find? λh=>decide (h.1=n) with
 |none=>
  have:=List.find?_eq_none.mp q x hx;simp[e] at this
 |some y=>
  let m:=List.mem_of_find?_eq_some q;have:=List.find?_some q;have e2:y.1=n:=⇑this
  show (n,y.2)∈hs;rw[<- e2];exact m
theorem SJ{hs:Xa}(nd:(hs.map (·.1)).Nodup){n:Str}{s:Int}(h:(n,s)∈hs):strOf hs n=s:=by
 let m:=JG (bx.mpr #[_,h,U]:n∈hs.map (·.1));exact eY Prod.snd (gP_ nd m h U)
def fr(a b:Int):Int × Int:=(a / (Int.gcd a b:Int),b / (Int.gcd a b:Int))
theorem _h{a b:Int}(ha:0<=a)(h:0<b):Int.gcd b (a % b)=Int.gcd a b:=by
 let#[m,rfl]:=w4 ha;let#[n,rfl]:=w4 (iF h);rw[<- Int.natCast_emod];show Nat.gcd n (m % n)=Nat.gcd m n;rw[Nat.gcd_comm n,<- Nat.gcd_rec,Nat.gcd_comm]
section v
theorem oQ:bQ ["one","other","rest","divisor","left"] mw (a_ Ky):=bZ
def vB:Sp:=λvs H Q _=>∃a b:Int,vs=[.int a,.int b]/\0<=a/\0<b/\Q (.int (Int.gcd a b)) H
theorem Yt{f:Addr}{fd:Ae}(F:bu K Cv Cv Ky f fd):!ak bc 1 f fd mw vB:=by
 exists F.bW oQ;let#[a,b,rfl,ha,hb,k]:=h;refine' #[_,ax ?s1 (ax ?s2 (ax ?s3 ?s4)),?kk]
 case s1=>exact bw 2 oQ.nd (pv 0)
 case s2=>exact bw 3 oQ.nd (pv 1)
 case s3=>exact Tn dU (eP ou (pv 2) ay) (ax (bw 4 oQ.nd (br Bq (pv 3) (pv 2))) (ax (bw 3 oQ.nd (pv 2)) (aJ (bw 2 oQ.nd (pv 4)))))
 case s4=>exact aJ (bp (pv 3))
 apply#[_,U,_,U,?_];apply _T (λσ H'=>H'=H/\∃(r d:Int) (v4:aE),σ=[some (.int a),some (.int b),some (.int r),some (.int d),v4]/\0<=r/\0<d/\Int.gcd r d=Int.gcd a b) (λσ _=>match σ with | [_,_,some (.int r),_,_]=>r.toNat|_=>0) #[U,a,b,none,U,ha,hb,U] ?_ ?_
 ·rintro σ H' ⟨rfl,r,d,v4,rfl,Cd,hd,e⟩;apply#[_,U,U,_,U,?_];apply bH (λc=>?_) (λc=>?_)
  ·have jO:0<r:=by
    have:r≠0:=by
     intro z;subst z;simp at c
    omega
   apply#[_,U,_,U,_,_,U,U,jO,_,U,_,U,?_];let h1:=Int.emod_nonneg d (Int.ne_of_gt jO);let h2:=Int.emod_lt_of_pos d jO;apply#[#[U,_,_,_,U,h1,jO,?_],?_]
   ·rw[<- e,Int.gcd_comm (d % r) r,_h (iF hd) jO,Int.gcd_comm]
   show (d % r).toNat<r.toNat;omega
  have jO:r=0:=⇑c
  subst jO;apply#[_,U,?_]
  have e2:(Int.gcd a b:Int)=d:=by
   rw[<- e,Int.gcd_zero_left];omega
  rw[<- e2];exact k
 intro σ H' Q1 Q2 hq h;let#[x,e,h1,c,h2,h3]:=h;exact#[x,e,h1,c,h2,hq _ _ h3]
end
end Ev
namespace Ev
open PySem L2
theorem Ys{a b:Int}(hb:0<b)(md:b<=1000):0<(Int.gcd a b:Int)/\(Int.gcd a b:Int)<1073741824:=by
 have h1:0<Int.gcd a b:=Int.gcd_pos_of_ne_zero_right a Y0;have h2:(Int.gcd a b:Int) ∣ b:=Int.gcd_dvd_right a b;let h3:=Int.le_of_dvd hb h2;omega
section v
structure N5 (hs:Xa) (qs:aS) (ns:ae) (f:bz):Prop where
 perm:ns.Perm (qs.map (·.1))
 at_:∀n∈ns,f n∈hs.map (·.1)
theorem Jx:bQ ["goods","stand","piece","hand","names"] yu (a_ NI):=bZ
inductive Jt (K:af) (CG CW:Addr) (vs:ag) (H:Hp) (Q:VK) (E:XK):Prop
 |mk:∀(g p d:Addr) (hs:Xa) (ts:Xb) (qs:aS) (fp:av) (ns:ae) (f:bz),vs=[.ref g,.ref d]->gq K CG CW H g p hs ts qs fp->d∉fp->H d\.dK (gd ns f)->N5 hs qs ns f->(qs.map (·.1)).Nodup->qs.length<64->(∀d' H',aa H H'->H d'=none->H' d'\.dK (gd (qs.map (·.1)) f)->Q (.ref d') H')->Jt K CG CW vs H Q E
theorem gx_{f CG CW:Addr}{fd:Ae}(F:bu K "checked_stand" "checked_stand" NI f fd)(B:Bi mg)(T:gy K CG)(TW:Txt K mg CW)(cH:!bY CG 1 "has_piece" mF (FR K CG CW))(cW:!bY CW 1 "has_hand" mF (jD K CW))(cN:!bY CG 1 "names" pA (CQ K CG CW)) :
  ak P w K mg base bc 2 f fd yu (Jt K CG CW):=by
 exists F.bW Jx;let#[g,p,d,hs,ts,qs,fp,ns,f,rfl,G,pZ,hd,so,nd,cX,k]:=h;let hu:=fP hr;let sz:=cK;refine' #[_,?r0,?kk]
 case' r0=>refine' ax ?s1 ?r1
 case s1=>exact b_ (eM (d4 (bT gM (by rfl) B.gA gE %[1,gN (v:=.ty "dict") (by rfl) B.dict qg U|0]))) gC cm
 case' r1=>refine' ax ?s2 ?r2
 case' s2=>refine' Sv (d9 dU U ?i2 ?g2 ?b2)
 case i2=>exact M9 (Jp (pv 1))
 case g2=>exact jv U (di (bX 2 Jx.nd) (di (bX 3 Jx.nd) hW))
 case b2=>exact ax (b_ (eM (d4 (j2 cH T.cl hr (pv 0) %[2|0]))) gC cm) (aJ (b_ (eM (d4 (j2 cW TW.cl hr (ja (pv 0) U) %[3|0]))) gC cm))
 case' r2=>refine' ax ?s3 ?r3
 case s3=>exact bw 4 Jx.nd (Bs cN T.cl hr (pv 0))
 case' r3=>refine' ax ?s4 (aJ ?s5)
 case s4=>exact b_ (eP ou (bT gQ_ (by rfl) B.len fN %[1|0]) (bT gx (by rfl) B.len fN %[4|0])) gC cm
 case s5=>exact bp (gS (BH U) (by rfl) B.dict qg %[jd ["piece","stand"] 1 [1] (d5 (pv 4)) (λfp s H=>fu (i:=0) (show (["piece","stand"]:ae).Nodup by decide +kernel) U (Or.inl U)) (λfp s H=>jy) (λfp s H=>dD %[0,j_ hu (pv 1) (pv 0)|0])|0])
 have XE:ns.length=qs.length:=by rw[so.perm.length_eq,aq]
 apply#[_,U,_,_,_,_,U,.dK hd,U,_,U,aH ?_];apply#[d,_,hd,?_];apply#[_,U,d,_,U,hd,λv hv=>?_];let#[s1,xY]:=aC (o:=tX v d) hv;let G1:=G.same s1;let pX:=s1 _ _ hd;generalize upd H v (tX v d)=H1 at s1 xY G1 pX ⊢;apply#[v,d,_,U,xY,pX,λo=>?_];apply N8 (λi σ H'=>∃(v2 v3:aE),σ=[some (.ref g),some (.ref d),v2,v3,none]/\Fz d o (gd ns f) H1 H') #[none,none,U,Fz.start] (λi σ H' _ ⟨_,_,_,z⟩=>z.at_) ?_ ?_
 ·rintro i ky x σ H2 hx ⟨v2,v3,rfl,fz⟩ t ht;let#[n,hn,rfl,rfl]:=MC hx;let nm:=cJ hn;let s2:=aa.new (o:=.tup [.str n,.str (f n)]) ht;let A3:=fz.step s2;have e2:upd H2 t (.tup [.str n,.str (f n)]) t\.tup [.str n,.str (f n)]:=aA;show gi _ _ _ _ _ (upd H2 t (.tup [.str n,.str (f n)])) _;generalize upd H2 t (.tup [.str n,.str (f n)])=H3 at s2 A3 e2 ⊢;apply#[t,_,U,.of e2,U,_,_,U,_,_,U,U,?_];let G3:=A3.ye pX G1 pZ;let#[dx,dw,dy,vs,dC,h1,h2,h3,h4,h5,m1,m2,m3,m4,m5]:=id G3.ex;let#[jV,d1,l2,d3,xf,as,ef,w1,_]:=id h2.ex;have kJ:(de p dw dy).lookup ("has_piece":Str)=none:=wM _ _ _ Z0 Z0 Z0;have AF:(fi d1 l2 d3).lookup ("has_hand":Str)=none:=pE _ _ _ Z0 Z0 Z0;apply#[_,U,g,dx,_,U,h1,kJ,_,U,g,p,.str n,some n,hs,ts,qs,fp,U,G3,U,_,U,?_];rw[show xV (qs.map (·.1)) (some n)=true from dc (so.perm.mem_iff.mp nm)];apply aH ?_;apply#[_,U,g,CG,dx,_,_,U,h1,T.cl,T.nW,yM _ _ _,p,jV,_,U,w1,AF,_,U,p,f n,hs,ts,dC,U,h2,_,U,?_];rw[dc (so.at_ n nm)];exact aH #[_,_,U,A3]
 rintro σ H2 ⟨v2,v3,rfl,fz⟩;apply#[o,fz.at_,?_];let s2:=s1.trans (fz.qx pX);have hd2:upd H2 d (.dK (gd ns f)) d\.dK (gd ns f):=aA;generalize upd H2 d (.dK (gd ns f))=H3 at s2 hd2 ⊢;let G3:=G.same s2;let#[dx,dw,dy,vs,dC,h1,h2,h3,h4,h5,m1,m2,m3,m4,m5]:=id G3.ex;apply#[_,U,g,dx,_,U,h1,wM _ _ _ Z0 Z0 Z0,g,p,hs,ts,qs,fp,U,G3,λln x8=>?_];let#[s3,e3]:=aC (o:=.lst ((qs.map (·.1)).map V.str)) x8;let l9:=s3 _ _ hd2;generalize upd H3 ln (.lst ((qs.map (·.1)).map V.str))=H4 at s3 e3 l9 ⊢;apply#[_,U,d,_,U,l9,_,U,ln,_,U,.inl (.of e3),U,_,U,?_];rw[oA,aq,aq,XE];simp only[bne_self_eq_false,decide_true,Bool.not_true];apply aH ?_;let fI:=s2.trans s3;apply#[_,U,ln,U,#[_,.of e3],λD hD=>?_];apply kb (own:=1) (fv:=[some (.ref d)]) (xs:=(qs.map (·.1)).map V.str) U fg (λi out H'=>aa H4 H'/\H' D\.lst out/\kM K H' out (gd ((qs.map (·.1)).take i) f)) #[aa.new hD,aA,.nil] (λi out H' _ ⟨sm,_,_⟩=>.of (sm _ _ e3)) (λout H5 ⟨sm,ju,pa⟩=>?_) (λi y out H' hy ⟨sm,dA,pa⟩=>?_)
 ·rw[aq,d_] at pa;apply#[D,out,_,U,ju,pa,by rw[oA,aq];omega,λd' g9=>?_]
  have jn:((gd (qs.map (·.1)) f).map (·.1)).Nodup:=by
   rw[CO,mG,ud];exact nd.imp λn e=>n (iB e)
  rw[yN jn];exact k d' _ ((fI.trans sm).trans (aa.new g9)) (fI.free (sm.free g9)) aA
 let#[n,hn,rfl]:=qu hy;have hi:i<(qs.map (·.1)).length:=(cw.mp hn).1;rw[aq] at hi;have nm:n∈ns:=so.perm.mem_iff.mpr (cJ hn);apply#[_,U,U,λNx hN=>eQ ?_];apply#[_,U,_,U,_,U,d,.str (f n),U,?_,zl,λt ht=>?_]
 ·rw[<- Bz (g:=λn=>V.str (f n)) nm];exact .k (k:=Sum.inr n) (sm _ _ l9)
 let s5:=aa.new (o:=.tup [.str n,.str (f n)]) ht;let lo:=bI pa;rw[oA,dM,aq] at lo;apply#[out,s5 _ _ dA,by omega,hN _ _ #[fF (sm.trans s5) hD,aA,?_]];have EE:upd H' t (.tup [.str n,.str (f n)]) t\.tup [.str n,.str (f n)]:=aA;have pD:∀{b:Addr} {ys:ag},upd H' t (.tup [.str n,.str (f n)]) b\.tup ys->b≠D:=λhb=>bO hb (s5 _ _ dA) nofun;rw[u6 hn];show kM K _ _ (((qs.map (·.1)).take i++[n]).map _);rw[eK];exact mI (Paired.aQ pa λy kv ⟨b,z,hb⟩=>#[b,z,by rw[aB (pD (s5 _ _ hb))];exact s5 _ _ hb]) (.cons #[t,U,by rw[aB (pD EE)];exact EE] .nil)
end
end Ev
namespace Ev
open PySem L2
theorem hU.has{K:af}{C:Addr}{H:Hp}{p:Addr}{hs:Xa}{ts:Xb}{fp:av}(W:hU K C H p hs ts fp){b:Addr}(hb:b∈fp):∃o,H b\o:=by
 let#[dx,d1,l2,d3,zs,as,rfl,h1,h2,h3,h4,h5,h6,h7]:=W.ex;simp only[cg] at hb;rcases hb with rfl|rfl|rfl|rfl|hb
 ·exact#[_,h1]
 ·exact#[_,h2]
 ·exact#[_,h3]
 ·exact#[_,h5]
 let#[i,hi,e]:=gB hb;exact#[_,h7 i ((aV hs)[i]' Y0) b (aX Y0) (by rw[<- e];exact aX hi)]
theorem gq.slim{K:af}{CG CW:Addr}{H:Hp}{g p:Addr}{hs:Xa}{ts:Xb}{qs:aS}{fp:av}(G:gq K CG CW H g p hs ts qs fp):∃kK,gq K CG CW H g p hs ts qs kK/\∀b∈kK,∃o,H b\o:=by
 let#[dx,dw,dy,vs,dC,h1,h2,h3,h4,h5,m1,m2,m3,m4,m5]:=G.ex;apply#[g::dw::dy::(dC++vs.filterMap λv=>match v with | .ref a=>some a|_=>none),#[dx,dw,dy,vs,dC,h1,h2,h3,h4,h5,by simp,by simp,by simp,λb hb=>by simp[hb],λv hv a z=>?_],λb hb=>?_]
 ·have:a∈vs.filterMap λv=>match v with | .ref a=>some a|_=>none:=yO.mpr #[v,hv,by rw[z]];simp only[cg,dE];exact .inr (.inr (.inr (.inr this)))
 simp only[cg,dE] at hb;rcases hb with rfl|rfl|rfl|hb|hb
 ·exact#[_,h1]
 ·exact#[_,h3]
 ·exact#[_,h4]
 ·exact h2.has hb
 let#[v,hv,e]:=yO.mp hb;let#[i,hi,ev]:=gB hv;let le:=bI h5;let w:=dP h5 i hi Y0;rw[ev] at w;cases o:(qs[i]' Y0).2.2 with
 |none=>
  rw[o] at w;rw[show v=.non from w] at e;cases e
 |some ws=>
  rw[o] at w;let#[a,ys,ea,ha,_]:=w;rw[ea] at e;cases e;exact#[_,ha]
section
variable{d d2:Addr}{o:Obj}{kvs:List (Key × V)}{H H' H1:Hp}{u:HO}
theorem Fz.zg(s:aa H H1):Fz d o kvs H (upd H1 d (.frz o (.dK kvs))):=#[aA,λb u ne e=>by rw[aB ne];exact s _ _ e]
theorem Fz.put(f:Fz d o kvs H H')(hn:H d2=none)(ne:d2≠d):Fz d o kvs H (upd H' d2 u):=#[by rw[aB ne.symm];exact f.at_,λb u nb e=>by rw[aB (bG e hn)];exact f.sm b u nb e]
end
section v
theorem JT:bQ ["goods","placed","hand","found","piece"] oB (a_ OA):=bZ
structure Bw (K:af) (CG CW:Addr) (H:Hp) (g p d:Addr) (hs:Xa) (ts:Xb) (qs:aS) (fp:av) (f:bz):Prop where
 G:gq K CG CW H g p hs ts qs fp
 Gd:Good hs ts
 pZ:d∉fp
 hd:H d\.dK (gd (qs.map (·.1)) f)
 at_:∀n∈qs.map (·.1),f n∈hs.map (·.1)
 nd:(qs.map (·.1)).Nodup
 cX:qs.length<64
abbrev QR(hs:Xa)(qs:aS)(f:bz):List (Key × V):=dZ (aV hs) λh=>.int (ld f (qs.map e_) h)
inductive Oa (K:af) (CG CW:Addr) (vs:ag) (H:Hp) (Q:VK) (E:XK):Prop
 |mk:∀(g p d:Addr) (hs:Xa) (ts:Xb) (qs:aS) (fp:av) (f:bz),vs=[.ref g,.ref d]->Bw K CG CW H g p d hs ts qs fp f->(∀d' H',aa H H'->H d'=none->H' d'\.dK (QR hs qs f)->Q (.ref d') H')->Oa K CG CW vs H Q E
theorem fY_{f CG CW CP:Addr}{fd:Ae}(F:bu K "loads_at" "loads_at" OA f fd)(B:Bi mg)(T:gy K CG)(TW:Txt K mg CW)(cH:!bY CW 1 "hands" pA (Gw K CW))(cW:!bY CG 2 "weight" ["self","piece"] (N_ K CG CW CP)) :
  ak P w K mg base bc 3 f fd oB (Oa K CG CW):=by
 exists F.bW JT;let#[g,p,d,hs,ts,qs,fp,f,rfl,Pl,k]:=h;let hu:=fP hr;let sz:=cK;have jO:aY 1 _:=hr.mono (by decide);refine' #[_,?r0,?kk]
 case' r0=>refine' ax ?s1 ?r1
 case s1=>exact bw 3 JT.nd (gS (BH U) (by rfl) B.dict qg %[jd ["hand"] 1 [] (d5 (Bs cH TW.cl jO (ja (pv 0) U))) (λfp s H=>fu (i:=0) (show (["hand"]:ae).Nodup by decide +kernel) U (Or.inl U)) (λfp s H=>jy) (λfp s H=>dD %[0,ay|0])|0])
 case' r1=>refine' ax ?s2 ?r2
 case' s2=>refine' Sv (d9 dU U ?i2 ?g2 (aJ ?b2))
 case i2=>exact M9 (Jp (pv 1))
 case g2=>exact jv U (di (bX 4 JT.nd) (di (bX 2 JT.nd) hW))
 case b2=>exact u5 hu (pv 3) (pv 2) (br fG (j_ hu (pv 3) (pv 2)) (j2 cW T.cl hr (pv 0) %[4|0])) U
 case r2=>exact aJ (bp (pv 3))
 let nl:=Pl.Gd.iV;let h8:=Pl.Gd.h8;let#[dx,dw,dy,vs,dC,h1,h2,h3,h4,h5,m1,m2,m3,m4,m5]:=id Pl.G.ex;let#[jV,d1,l2,d3,xf,as,ef,w1,_]:=id h2.ex;have AF:(fi d1 l2 d3).lookup ("hands":Str)=none:=pE _ _ _ Z0 Z0 Z0;apply#[_,U,g,CG,dx,_,_,U,h1,T.cl,T.nW,yM _ _ _,p,jV,_,U,w1,AF,p,hs,ts,dC,U,h2,λlh eZ=>?_];let#[s1,e1]:=aC (o:=.lst ((aV hs).map V.str)) eZ;generalize upd H lh (.lst ((aV hs).map V.str))=H1 at s1 e1 ⊢;apply#[lh,U,#[_,.of e1],λD hD=>?_];apply kb (own:=1) (fv:=[]) (xs:=(aV hs).map V.str) U fg (λi out H'=>aa H1 H'/\H' D\.lst out/\kM K H' out (dZ ((aV hs).take i) λ_=>.int 0)) #[aa.new hD,aA,.nil] (λi out H' _ ⟨sm,_,_⟩=>.of (sm _ _ e1)) (λout H5 ⟨sm,ju,pa⟩=>?_) (λi y out H' hy ⟨sm,dA,pa⟩=>?_);rotate_left 1
 ·let#[n,hn,rfl]:=qu hy;have hi:i<(aV hs).length:=(cw.mp hn).1;apply#[_,U,U,λNx hN=>eQ ?_];apply#[_,U,zl,λt ht=>?_];let s5:=aa.new (o:=.tup [.str n,.int 0]) ht;let lo:=bI pa;rw[oA,dM] at lo;apply#[out,s5 _ _ dA,by omega,hN _ _ #[fF (sm.trans s5) hD,aA,?_]];have EE:upd H' t (.tup [.str n,.int 0]) t\.tup [.str n,.int 0]:=aA;have pD:∀{b:Addr} {ys:ag},upd H' t (.tup [.str n,.int 0]) b\.tup ys->b≠D:=λhb=>bO hb (s5 _ _ dA) nofun;rw[u6 hn];show kM K _ _ (((aV hs).take i++[n]).map _);rw[eK];exact mI (Paired.aQ pa λy kv ⟨b,z,hb⟩=>#[b,z,by rw[aB (pD (s5 _ _ hb))];exact s5 _ _ hb]) (.cons #[t,U,by rw[aB (pD EE)];exact EE] .nil)
 rw[aq,d_] at pa;apply#[D,out,_,U,ju,pa,by rw[oA];omega,λd2 hd2=>?_]
 have jn:((dZ (aV hs) λ_=>V.int 0).map (·.1)).Nodup:=by
  rw[CO,mG,ud];exact Pl.Gd.iU.imp λn e=>n (iB e)
 rw[yN jn];let s2:=(s1.trans sm).trans (aa.new (o:=.dK (dZ (aV hs) λ_=>V.int 0)) hd2);have e2:upd H5 d2 (.dK (dZ (aV hs) λ_=>V.int 0)) d2\.dK (dZ (aV hs) λ_=>V.int 0):=aA;have n2:H d2=none:=s1.free (sm.free hd2);show qE _ _ _ _ (upd H5 d2 (.dK (dZ (aV hs) λ_=>V.int 0)));generalize upd H5 d2 (.dK (dZ (aV hs) λ_=>V.int 0))=H6 at s2 e2 ⊢;have N4:d2≠d:=(bG Pl.hd n2).symm;apply#[d,_,s2 _ _ Pl.hd,?_];apply#[_,U,d,_,U,s2 _ _ Pl.hd,λv hv=>?_];let#[s3,xY]:=aC (o:=tX v d) hv;let e3:=s3 _ _ e2;let dI:=s2.trans s3;generalize upd H6 v (tX v d)=H7 at s3 xY e3 dI ⊢;apply#[v,d,_,U,xY,dI _ _ Pl.hd,λo=>?_];apply N8 (λi σ H'=>∃(v2 v4:aE),σ=[some (.ref g),some (.ref d),v2,some (.ref d2),v4]/\Fz d o (gd (qs.map (·.1)) f) H H'/\H' d2\.dK (dZ (aV hs) λh=>.int (ld f ((qs.take i).map e_) h))) #[none,none,U,Fz.zg dI,by rw[aB N4];exact e3] (λi σ H' _ ⟨_,_,_,z,_⟩=>z.at_) ?_ ?_
 ·rintro i ky x σ H8 hx ⟨v2,v4,rfl,fz,e8⟩ t ht;let#[n,hn,rfl,rfl]:=MC hx
  have hi:i<qs.length:=by
   have:=(cw.mp hn).1;rwa [aq] at this
  have hq:qs[i]? = some (qs[i]'hi):=aX hi
  have en:n=(qs[i]'hi).1:=by
   rw[df,hq] at hn;exact (dO hn).symm
  have fm:f n∈aV hs:=(gv hs).mem_iff.mpr (Pl.at_ n (cJ hn));generalize qs[i]'hi=q at hq en;let s8:=aa.new (o:=.tup [.str n,.str (f n)]) ht;let A3:=fz.step s8;let e9:=s8 _ _ e8;have et:upd H8 t (.tup [.str n,.str (f n)]) t\.tup [.str n,.str (f n)]:=aA;show gi _ _ _ _ _ (upd H8 t (.tup [.str n,.str (f n)])) _;generalize upd H8 t (.tup [.str n,.str (f n)])=H9 at s8 A3 e9 et ⊢;apply#[t,_,U,.of et,U,_,_,U,_,_,U,U,?_];let G9:=A3.ye Pl.hd Pl.G Pl.pZ;let#[dx,dw,dy,vs,dC,h1,h2,h3,h4,h5,m1,m2,m3,m4,m5]:=id G9.ex;have kJ:(de p dw dy).lookup ("weight":Str)=none:=wM _ _ _ Z0 Z0 Z0;apply#[_,U,_,U,d2,.int (ld f ((qs.take i).map e_) (f n)),U,?_,_,U,g,dx,_,U,h1,kJ,_,U,g,p,.str n,some n,hs,ts,qs,fp,U,G9,Pl.nd,U,.inl #[q,cJ hq,eY some en,?_]]
  ·rw[<- Bz (g:=λh=>V.int (ld f ((qs.take i).map e_) h)) fm];exact .k (k:=Sum.inr (f n)) e9
  apply#[_,_,U,U,_,U,_,U,d2,_,U,.k (k:=Sum.inr (f n)) e9 (by rw[oA];omega),?_];apply#[_,_,U,A3.put n2 N4,?_];rw[aA,RN fm];congr 2;apply JH λm _=>?_
  have e5:(qs.take (i+1)).map e_=(qs.take i).map e_++[e_ q]:=by
   rw[uc,hq,eK];rfl
  rw[e5,Sw];show (if m=f n then V.int (ld f ((qs.take i).map e_) (f n)+q.2.1) else V.int (ld f ((qs.take i).map e_) m))=V.int (if m=f q.1 then _ else _);rw[<- en];by_cases z:m=f n
  ·rw[aK z,aK z,z];rfl
  rw[aD z,aD z]
 rintro σ H8 ⟨v2,v4,rfl,fz,e8⟩;apply#[o,fz.at_,?_];rw[oA,aq,d_] at e8;exact#[_,U,k d2 _ (fz.qx Pl.hd) n2 (by rw[aB N4];exact e8)]
end
end Ev
namespace Ev
open PySem L2
structure Std (K:af) (CG CW:Addr) (H:Hp) (g p d:Addr) (hs:Xa) (ts:Xb) (qs:aS) (fp:av) (ns:ae) (f:bz):Prop where
 G:gq K CG CW H g p hs ts qs fp
 Gd:Good hs ts
 pZ:d∉fp
 hd:H d\.dK (gd ns f)
 ok:N5 hs qs ns f
 nd:(qs.map (·.1)).Nodup
 cX:qs.length<64
 wp:∀q∈qs,0<=q.2.1
theorem Std.placed{K:af}{CG CW:Addr}{H H':Hp}{g p d d':Addr}{hs:Xa}{ts:Xb}{qs:aS}{fp:av}{ns:ae}{f:bz}(S:Std K CG CW H g p d hs ts qs fp ns f)(s:aa H H')(hn:H d'=none)(hd:H' d'\.dK (gd (qs.map (·.1)) f)):∃kK,Bw K CG CW H' g p d' hs ts qs kK f:=by
 let#[kK,G',has]:=S.G.slim;apply#[kK,G'.same s,S.Gd,λm=>?_,hd,λn hn=>S.ok.at_ n (S.ok.perm.mem_iff.mpr hn),S.nd,S.cX];let#[o,e]:=has d' m;rw[hn] at e;cases e
end Ev
namespace Ev
open PySem L2
theorem oO{t u:TS}{D:Ends}{σ:St}{H:Hp}(R:kq)(later:∀σ H,R σ H->u D σ H)(now:∀N:St->Hp->Prop,(∀σ H,R σ H->N σ H)->t { D with nx:=N } σ H):qE t u D σ H:=now (u D) later
theorem setG{i:Nat}{v:V}{σ:St}{H:Hp}{N:kq}(h:N (σ.set i (some v)) H):jx i v σ H N:=h
structure mT (P:Ad) (w:Af) (K:af) (mg:Str->Option Aa) (base:Heap) (C:Addr) (k:Nat) (x:Str) (ps:ae) (sp:Sp):Prop where
 ex:∃f fd,ak P w K mg base bc k f fd ps sp/\Mk K C f/\mg x\.ref C/\p9 K fd ps []
theorem Lo{n_:Nat}{X:Cx}{C:Addr}{k:Nat}{x:Str}{ps:ae}{sp:Sp}{p pos:Pos}{e:Expr}{es:List Expr}{t:TA}(c:mT X.prog X.w X.K X.mg X.base C k x ps sp)(hr:aY n_ X.A)(ha:PA X (e::es) t)(hg:Gl X x:=by rfl)(tj:(x == ("__debug__":Str))=false:=by decide)
  (he:starEach (e::es) X.env=(false,eval e X.env)::starEach es X.env:=by rfl) (iZ:(backTo pos (starEach es X.env)).any (·.1)=false:=by rfl) (hk:(k+1)<=n_:=by decide):PE X (.Call (.Name x p) (e::es) [] pos) (xn C sp [] E0 t):=by
 let#[f,fd,F,M,m,b]:=c.ex;exact Zv M F (hr.mono hk) hg m b .nil nR ha tj he iZ
end Ev
local macro_rules|`(tactic|lk)=>`(tactic|(refine Ev.setG ?_;dsimp only))
namespace L2
open PySem PySem.Spec PyProof.Rows PySem.W
section
variable{X:Cx}
inductive sj (K:af) (x:V) (y:V) (H:Hp) (Q:VK):Prop
 |mk:∀a b xs,x=.ref a->y=.ref b->d6 K H a xs->d6 K H b []->Q (.bl (!xs.isEmpty)) H->sj K x y H Q
theorem NO(hu:X.A.units+0+1<cLine):dW X (compareOp .NotEq) (sj X.K):=by
 intro pins s σ H x y v u Q I rx ry h;let#[a,b,xs,rfl,rfl,t,t',hq]:=h;cases xs with
 |nil=>exact Yi gK hu pins s σ H (.ref a) (.ref b) v u Q I rx ry #[[],[],#[a,[],U,t,.nil],#[b,[],U,t',.nil],hq]
 |cons z zs=>
  cases rx;cases ry;let#[us,r,pl,_]:=I.list t;let#[vs,r',uF,_]:=I.list t';let l1:=r.length;let l2:=r'.length;exact GV.gX pl.isList uF.isList (by simp only[cY,bne_iff_ne];simp at l1 l2;omega) Y0 #[.bl true,H,I,U,hq]
end
end L2
namespace Ev
open PySem L2
def gH(a n:Int):Int:=a / (Int.gcd a n:Int) * n
theorem Y9{a n:Int}(ha:0<a)(hn:0<n):gH a n=(Int.lcm a n:Int):=by
 let#[p,rfl]:=w4 (iF ha);let#[q,rfl]:=w4 (iF hn);show ((p:Int) / ((Nat.gcd p q:Nat):Int)) * (q:Int)=((Nat.lcm p q:Nat):Int);rw[<- Int.natCast_ediv,<- Int.natCast_mul,Nat.div_mul_right_comm (Nat.gcd_dvd_left p q)];rfl
def jM(ns:List Int):Int:=ns.foldl gH 1
theorem Jo:∀(ns:List Int) (a:Int),0<a->(∀n∈ns,0<n)->0<ns.foldl gH a/\∀x:Int,0<=x->(ns.foldl gH a ∣ x ↔ a ∣ x/\∀n∈ns,n ∣ x)
 |[],a,ha,_=>#[ha,λx _=>by simp]
 |n::ns,a,ha,h=>by
  let hn:=h n fY;let e:=Y9 ha hn
  have p:0<gH a n:=by
   rw[e];have:=Nat.lcm_pos (m:=a.natAbs) (n:=n.natAbs) Y0 Y0;have:0<Int.lcm a n:=this;omega
  let#[h1,h2]:=Jo ns (gH a n) p λm hm=>h m (fo _ hm);apply#[h1,λx hx=>(h2 x hx).trans ?_];let#[z,rfl]:=w4 hx;rw[e,Int.natCast_dvd_natCast,Int.lcm_dvd_iff];constructor
  ·rintro⟨⟨q1,q2⟩,q3⟩
   exact#[q1,λm hm=>by
    rcases cg.mp hm with rfl|hm
    ·exact q2
    exact q3 m hm]
  rintro⟨q1,q2⟩;exact#[#[q1,q2 n fY],λm hm=>q2 m (fo _ hm)]
theorem Nu{ns:List Int}(h:∀n∈ns,0<n):0<jM ns:=(Jo ns 1 (by decide) h).1
theorem _k{ns:List Int}(h:∀n∈ns,0<n){n:Int}(hn:n∈ns):n ∣ jM ns:=
 (((Jo ns 1 (by decide) h).2 _ (iF (Nu h))).mp (Int.dvd_refl _)).2 n hn
theorem Zg(f:bz)(x:Str × Int)(ws:Xa)(h:Str):ld f (x::ws) h=(if f x.1=h then x.2 else 0)+ld f ws h:=by
 unfold ld;by_cases e:f x.1=h
 ·simp[e]
 simp[e]
end Ev
namespace Ev
open PySem L2
theorem QU{f:bz}{h:Str}:∀{ws:Xa},(∀x∈ws,0<=x.2/\x.2<=1000000000)->ld f ws h<=1000000000 * ws.length
 |[],_=>by
  unfold ld;simp
 |x::ws,p=>by
  let h1:=p x fY;let h2:=QU (f:=f) (h:=h) (ws:=ws) λy hy=>p y (fo _ hy);rw[Zg,jz];by_cases z:f x.1=h
  ·rw[aK z];omega
  rw[aD z];omega
def fD(hs:Xa):Int:=jM ((aV hs).map (strOf hs))
theorem Bj{hs:Xa}{ts:Xb}(G:Good hs ts){n:Str}(h:n∈aV hs):1<=strOf hs n/\strOf hs n<=1000:=(G.aF _ (JG ((gv hs).mem_iff.mp h))).2
section v
theorem vE:bQ ["numbers","found","number"] ["numbers"] (a_ Kx):=bZ
def DG(K:af):Sp:=λvs H Q _=>∃(l:Addr) (ns:List Int),vs=[.ref l]/\d6 K H l (ns.map V.int)/\(∀n∈ns,1<=n/\n<=1000)/\Q (.int (jM ns)) H
theorem _n{ns:List Int}{i:Nat}{n:Int}(h:ns[i]? = some n):jM (ns.take (i+1))=gH (jM (ns.take i)) n:=by
 unfold jM;rw[uc,h,List.foldl_append];rfl
theorem eE_{ns:List Int}{i:Nat}{y:V}(h:(ns.map V.int)[i]? = some y):∃n,ns[i]? = some n/\y=.int n:=by
 rw[df] at h;cases e:ns[i]? with
 |none=>rw[e] at h;cases h
 |some n=>rw[e] at h;exact#[n,U,(dO h).symm]
theorem Yv{f:Addr}{fd:Ae}(F:bu K "least_multiple" "least_multiple" Kx f fd)(cG:!bF 1 Cv mw vB):!ak bc 2 f fd ["numbers"] (DG K):=by
 exists F.bW vE;let#[l,ns,rfl,hl,b,k]:=h;refine' #[_,ax ?s1 (ax ?s2 (aJ ?s3)),?kk]
 case s1=>exact bw 1 vE.nd ay
 case s2=>exact d9 dU U (d5 (pv 0)) (bX 2 vE.nd) (aJ (bw 1 vE.nd (br tZ (br Gk (pv 1) (bj cG hr %[1,2|0])) (pv 2))))
 case s3=>exact bp (pv 1)
 apply#[_,U,l,U,#[_,hl],ie (K:=K) (a:=l) (xs:=ns.map V.int) (λi σ H'=>H'=H/\∃(v2:aE),σ=[some (.ref l),some (.int (jM (ns.take i))),v2]) #[U,none,U] (λi σ H' _ ⟨e,_⟩=>by rw[e];exact hl) ?_ ?_]
 ·rintro i y σ H' hy ⟨rfl,v2,rfl⟩;let#[n,hn,rfl]:=eE_ hy;let bn:=b n (cJ hn)
  let p:=Nu (ns:=ns.take i) λm hm=>by
   have:=b m (List.take_subset _ _ hm);omega
  apply#[_,U,_,U,_,U,_,_,U,iF p,by omega,_,_,U,U,Ys Y0 bn.2,_,U,_,_,U,U,.inr #[by omega,by omega],U,some (.int n),?_];rw[_n hn];rfl
 rintro σ H' ⟨rfl,v2,rfl⟩;apply#[_,U,?_];rw[aq,d_];exact k
theorem zx:bQ ["web"] ["web"] (a_ rM):=bZ
inductive IT (K:af) (C:Addr) (vs:ag) (H:Hp) (Q:VK) (E:XK):Prop
 |mk:∀(p:Addr) (hs:Xa) (ts:Xb) (fp:av),vs=[.ref p]->hU K C H p hs ts fp->Good hs ts->(∀H',aa H H'->Q (.int (fD hs)) H')->IT K C vs H Q E
theorem Zc{f CW:Addr}{fd:Ae}(F:bu K ko ko rM f fd)(TW:Txt K mg CW)(cL:!bF 2 "least_multiple" ["numbers"] (DG K))(cH:!bY CW 1 "hands" pA (Gw K CW))(cS:!bY CW 2 "strength" wA (JR K CW)):!ak bc 3 f fd ["web"] (IT K CW):=by
 exists F.bW zx;let#[p,hs,ts,fp,rfl,W,G,k]:=h;let sz:=cK;let nl:=G.iV;let h8:=G.h8;refine' #[_,aJ (bp (bj cL hr %[jd ["hand","web"] 1 [0] (d5 (Bs cH TW.cl (hr.mono (by decide)) (pv 0))) (λfp s H=>fu (i:=0) (show (["hand","web"]:ae).Nodup by decide +kernel) U (Or.inl U)) (λfp s H=>jy) (λfp s H=>?e1)|0])),?kk]
 case e1=>exact j2 cS TW.cl hr (pv 1) %[0|0]
 let#[jV,d1,l2,d3,xf,as,ef,w1,_]:=id W.ex;apply#[_,U,p,jV,_,U,w1,pE _ _ _ Z0 Z0 Z0,p,hs,ts,fp,U,W,λlh eZ=>?_];let#[s1,e1]:=aC (o:=.lst ((aV hs).map V.str)) eZ;generalize upd H lh (.lst ((aV hs).map V.str))=H1 at s1 e1 ⊢;apply#[lh,U,#[_,.of e1],λD hD=>?_];apply kb (own:=1) (fv:=[some (.ref p)]) (xs:=(aV hs).map V.str) U fg (λi out H'=>aa H1 H'/\H' D\.lst out/\out=(((aV hs).take i).map (strOf hs)).map V.int) #[aa.new hD,aA,U] (λi out H' _ ⟨sm,_,_⟩=>.of (sm _ _ e1)) (λout H5 ⟨sm,ju,eo⟩=>?_) (λi y out H' hy ⟨sm,dA,eo⟩=>?_)
 ·rw[aq,d_] at eo;rw[eo] at ju;apply#[D,_,U,.of ju,λn hn=>?_,k H5 (s1.trans sm)];let#[m,hm,rfl]:=bx.mp hn;exact Bj G hm
 let#[n,hn,rfl]:=qu hy;have hi:i<(aV hs).length:=(cw.mp hn).1;apply#[_,U,U,λNx hN=>eQ ?_];let W':=(W.same s1).same sm;let#[jV,d1,l2,d3,xf,as,ef,w1,_]:=id W'.ex;apply#[_,U,p,jV,_,U,w1,pE _ _ _ Z0 Z0 Z0,_,U,p,n,strOf hs n,hs,ts,fp,U,W',G.pU,JG ((gv hs).mem_iff.mp (cJ hn)),?_];apply#[out,dA,by rw[eo,aq,aq,dM];omega,hN _ _ #[fF sm hD,aA,?_]];rw[u6 hn,eK,eK,eo];rfl
theorem GK:bQ ["goods","placed","multiple","found","hand","load"] oB (a_ Nt):=bZ
def fJ(hs:Xa)(qs:aS)(f:bz)(h:Str):Int:=ld f (qs.map e_) h * (fD hs / strOf hs h)
inductive Ni (K:af) (CG CW:Addr) (vs:ag) (H:Hp) (Q:VK) (E:XK):Prop
 |mk:∀(g p d:Addr) (hs:Xa) (ts:Xb) (qs:aS) (fp:av) (f:bz),vs=[.ref g,.ref d]->Bw K CG CW H g p d hs ts qs fp f->(∀q∈qs,0<=q.2.1/\q.2.1<=1000000000)->(∀d' H',aa H H'->H d'=none->H' d'\.dK (dZ (aV hs) λh=>.int (fJ hs qs f h))->Q (.ref d') H')->Ni K CG CW vs H Q E
theorem HP{qs:aS}(wp:∀q∈qs,0<=q.2.1/\q.2.1<=1000000000)(cX:qs.length<64)(f:bz)(h:Str):0<=ld f (qs.map e_) h/\ld f (qs.map e_) h<=64000000000:=by
 have p:∀x∈qs.map e_,0<=x.2/\x.2<=1000000000:=λx hx=>by
  let#[q,hq,rfl]:=bx.mp hx;exact wp q hq
 let h1:=QU (f:=f) (h:=h) p;rw[aq] at h1;exact#[Yd λx hx=>(p x hx).1,by omega]
theorem hu_{f CG CW:Addr}{fd:Ae}(F:bu K "levels_at" "levels_at" Nt f fd)(T:gy K CG)(TW:Txt K mg CW)(cL:!bF 3 "loads_at" oB (Oa K CG CW))(cM:!bF 3 ko ["web"] (IT K CW))(cS:!bY CW 2 "strength" wA (JR K CW)) :
  ak P w K mg base bc 4 f fd oB (Ni K CG CW):=by
 exists F.bW GK;let#[g,p,d,hs,ts,qs,fp,f,rfl,Pl,wp,k]:=h;let hu:=fP hr;let sz:=cK;have Cc:aY 2 _:=hr.mono (by decide);refine' #[_,?r0,?kk]
 case' r0=>refine' ax ?s0 (ax ?s1 (ax ?s2 ?r2))
 case s0=>exact bw 2 GK.nd (bj cM hr %[ja (pv 0) U|0])
 case s1=>exact bw 3 GK.nd F0
 case' s2=>refine' d9 dU U ?i2 ?g2 (aJ ?b2)
 case i2=>exact M9 (Jp (bj cL hr %[0,1|0]))
 case g2=>exact jv U (di (bX 4 GK.nd) (di (bX 5 GK.nd) hW))
 case b2=>exact u5 hu (pv 3) (pv 4) (br tZ (pv 5) (br Gk (pv 2) (j2 cS TW.cl Cc (ja (pv 0) U) %[4|0]))) U
 case r2=>exact aJ (bp (pv 3))
 let nl:=Pl.Gd.iV;let h8:=Pl.Gd.h8;let#[dx,dw,dy,vs,dC,h1,h2,_]:=id Pl.G.ex;apply#[_,U,g,CG,dx,_,_,U,h1,T.cl,T.nW,yM _ _ _,p,hs,ts,dC,U,h2,Pl.Gd,λH0 s0=>?_];intro d2 hd2;let s1:=s0.trans (aa.new (o:=.dK []) hd2);have e1:upd H0 d2 (.dK []) d2\.dK []:=aA;have n2:H d2=none:=s0.free hd2;show qE _ _ _ _ (upd H0 d2 (.dK []));generalize upd H0 d2 (.dK [])=H1 at s1 e1 ⊢;have Pl1:Bw K CG CW H1 g p d hs ts qs fp f:=#[Pl.G.same s1,Pl.Gd,Pl.pZ,s1 _ _ Pl.hd,Pl.at_,Pl.nd,Pl.cX];apply#[_,U,_,U,g,p,d,hs,ts,qs,fp,f,U,Pl1,λdl H2 s2 Ck e2=>?_];apply#[dl,_,U,e2,λv hv=>?_];let#[s3,xY]:=aC (o:=tX v dl) hv;let e3:=s3 _ _ e2;let KI:=s2.trans s3;generalize upd H2 v (tX v dl)=H3 at s3 xY e3 KI ⊢;have K2:H dl=none:=s1.free Ck;have UG:d2≠dl:=bG e1 Ck;apply#[v,dl,_,U,xY,e3,λo=>?_];apply N8 (λi σ H'=>∃(v4 v5:aE),σ=[some (.ref g),some (.ref d),some (.int (fD hs)),some (.ref d2),v4,v5]/\aa H H'/\H' dl\.frz o (.dK (QR hs qs f))/\H' d2\.dK (dZ ((aV hs).take i) λh=>.int (fJ hs qs f h))) #[none,none,U,fF (s1.trans KI) K2,aA,by rw[aB UG];exact KI _ _ e1] (λi σ H' _ ⟨_,_,_,_,z,_⟩=>z) ?_ ?_
 ·rintro i ky x σ H8 hx ⟨v4,v5,rfl,s8,f8,e8⟩ t ht;let#[n,hn,rfl,rfl]:=MC hx;have hi:i<(aV hs).length:=(cw.mp hn).1;have nm:n∈hs.map (·.1):=(gv hs).mem_iff.mp (cJ hn);let sm:=JG nm;let sg:=Bj Pl.Gd (cJ hn);let lo:=HP wp Pl.cX f n;let ss:=aa.new (o:=.tup [.str n,.int (ld f (qs.map e_) n)]) ht;let s9:=s8.trans ss;let e9:=ss _ _ e8;let f9:=ss _ _ f8;have et:upd H8 t (.tup [.str n,.int (ld f (qs.map e_) n)]) t\.tup [.str n,.int (ld f (qs.map e_) n)]:=aA;show gi _ _ _ _ _ (upd H8 t (.tup [.str n,.int (ld f (qs.map e_) n)])) _;generalize upd H8 t (.tup [.str n,.int (ld f (qs.map e_) n)])=H9 at ss s9 e9 f9 et ⊢;apply#[t,_,U,.of et,U,_,_,U,_,_,U,U,?_];let G9:=Pl.G.same s9;let#[dx,dw,dy,vs,dC,h1,h2,h3,h4,h5,m1,m2,m3,m4,m5]:=id G9.ex;let#[jV,d1,l2,d3,xf,as,ef,w1,_]:=id h2.ex;have AF:(fi d1 l2 d3).lookup ("strength":Str)=none:=pE _ _ _ Z0 Z0 Z0;apply#[_,U,_,U,_,U,g,CG,dx,_,_,U,h1,T.cl,T.nW,yM _ _ _,p,jV,_,U,w1,AF,_,U,p,n,strOf hs n,hs,ts,dC,U,h2,Pl.Gd.pU,sm,?_];apply#[_,_,U,U,#[by omega,by omega],_,_,U,U,.inl #[by omega,by omega],_,U,_,U,d2,_,U,.k (k:=Sum.inr n) e9 (by rw[oA,dM];omega),?_];apply#[_,_,U,fF s9 n2,by rw[aB UG.symm];exact f9,?_];rw[aA,u6 hn,Rw (Ti Pl.Gd.iU hn)];congr 2;apply JH λm _=>?_;by_cases z:m=n
  ·subst z;simp[fJ]
  simp[z]
 rintro σ H8 ⟨v4,v5,rfl,s8,f8,e8⟩;rw[oA,d_] at e8;exact#[_,U,k d2 H8 s8 n2 e8]
end
end Ev
namespace L2
open PySem PySem.Spec PyProof.Rows PySem.W
section
variable{prog:Ad}{w:Af}{A:Ag}
theorem Ux{d it:Addr}{vs:List (Key × Aa)}{ep:Nat}(hh:A.handled=none)(l8:d≠it):Walks prog w A it [it,d] [it] vs.length (λi v=>∃k,vs[i]? = some (k,v)) (λi h=>h.IsValIter it d i vs.length ep/\h.DictAt (d0 prog w) d vs ep) where
 sub:=λb hb=>by simp at hb;simp[hb]
 frame:=λi h h' st k=>#[st.1.at λo e=>k it Y1 o e,by
  let#[o,es,ho,r]:=st.2;exact#[o,es,k d Y1 o ho,r]]
 item:=by
  intro i s Q E hi st h;obtain⟨⟨k,v⟩,hx⟩:∃p,vs[i]? = some p:=#[vs[i],by simp[hi]];apply wpAny_pyNext_values_item st.1 st.2 hx λh' dY sb=>?_;apply h v h' s.toks #[k,hx] #[dY,?_] λb o hb e=>(sb.2 b ⇑hb).trans e;let#[o,es,ho,r]:=st.2;exact#[o,es,(sb.2 d l8).trans ho,r]
 done:=by
  intro s Q E st h;exact wpAny_pyNext_values_end hh st.1 st.2 Y1 λh' eb=>h h' s.toks λb o hb e=>eb b o ⇑hb e
 self:=λ_ _ _ _ st h=>wpAny_pyIter_valiter st.1 h
end
theorem Ja{ns:List (Key × Int)}{vs:List (Key × Aa)}(r:KV (ns.map λx=>(x.1,V.int x.2)) vs){i:Nat}{k:Key}{v:Aa}(h:vs[i]? = some (k,v)):∃n t,(ns.map (·.2))[i]? = some n/\v=.int n t:=by
 let hl:=r.length;rw[aq] at hl
 have hi:i<ns.length:=by
  have:=(cw.mp h).1;omega
 let#[u,hu,ru]:=ME r i (k:=(ns[i]'hi).1) (x:=V.int (ns[i]'hi).2) (by rw[df,aX hi];rfl);rw[h] at hu;let e:=eY Prod.snd (dO hu);let#[t,rfl]:=(show ∃t,u=Value.int (ns[i]'hi).2 t from ru);exact#[_,t,by rw[df,aX hi];rfl,e]
inductive xJ (xs:ag) (H:Hp) (Q:VK):Prop
 |mk:∀(v d:Addr) (ns:List (Key × Int)),xs=[.ref v]->H v\qe v d->Rd H d (.dK (ns.map λx=>(x.1,V.int x.2)))->0<ns.length->(∀m,m∈ns.map (·.2)->(∀a∈ns.map (·.2),a<=m)->Q (.int m) H)->xJ xs H Q
inductive xI (xs:ag) (H:Hp) (Q:VK):Prop
 |mk:∀(v d:Addr) (ns:List (Key × Int)),xs=[.ref v]->H v\qe v d->Rd H d (.dK (ns.map λx=>(x.1,V.int x.2)))->0<ns.length->(∀m,m∈ns.map (·.2)->(∀a∈ns.map (·.2),m<=a)->Q (.int m) H)->xI xs H Q
theorem gr_{X:Cx}(hc:X.calm=true):gn X (.builtin "max") xJ:=by
 intro pins s σ H xs us Q I r h;let#[v,d,ns,rfl,hv,hd,h0,q]:=h;let#[u,rfl,ru]:=vals1 r;cases ru;let#[z,l8,vs,rel,dd]:=kR I.aF hd;let#[ep,dat]:=dd.dictAt;let#[iv,_,_]:=I.aF v _ hv;let hl:=rel.length;rw[aq] at hl
 have FT:d<s.heap.objs.size:=by
  let#[o,es,ho,_]:=dat;exact bK ho
 apply call_max_walk (wpAny_pyIter_values (knd:=d0 X.prog X.w) (kvs:=vs) (ep:=ep) iv dat ?_);apply⟨s.heap.objs.size,[s.heap.objs.size,d],[s.heap.objs.size],vs.length,λi v=>∃k,vs[i]? = some (k,v),_,_,rfl,Ux (ep:=ep) (I.ok.hd hc) (dH FT),⟨⟨_,dq _ rfl,rfl,rfl⟩,?_⟩,λb hb=>?_,by omega,CmpOf.ints_gt (λi=>((ns.map (·.2))[i]?).getD 0) (λi v ⟨k,hv⟩=>?_),λv' h' tk hP k=>?_⟩
 ·let#[o,es,ho,r]:=dat;exact⟨o,es,bo _ ho,r⟩
 ·have hb:b=s.heap.objs.size∨b=d:=⇑hb
  show b<(s.heap.objs.push _).size;rw[Array.size_push];rcases hb with e|e
  ·rw[e];exact Nat.lt_succ_self _
  rw[e];exact Nat.lt_succ_of_lt FT
 ·let#[n,t,e1,e2]:=Ja rel hv;apply⟨t,?_⟩;rw[e1];exact e2
 let#[k',EB]:=hP;let#[n,t,e1,rfl]:=Ja rel EB;let#[b1,b2]:=argBest_gt (λi=>((ns.map (·.2))[i]?).getD 0) (vs.length - 1);rw[e1] at b2;apply⟨.int n,H,I.kept (t':=tk) (λb o e=>k b o (λm=>?_) (bo _ e)),⟨t,rfl⟩,q n (cJ e1) λa ha=>?_⟩
 ·have m:b=s.heap.objs.size:=⇑m
  exact absurd m (dH (bK e))
 let#[j,hj,ej]:=gB ha;have:=b2 j (by rw[aq] at hj;omega);rw[aX hj,ej] at this;exact this
theorem g9_{X:Cx}(hc:X.calm=true):gn X (.builtin "min") xI:=by
 intro pins s σ H xs us Q I r h;let#[v,d,ns,rfl,hv,hd,h0,q]:=h;let#[u,rfl,ru]:=vals1 r;cases ru;let#[z,l8,vs,rel,dd]:=kR I.aF hd;let#[ep,dat]:=dd.dictAt;let#[iv,_,_]:=I.aF v _ hv;let hl:=rel.length;rw[aq] at hl
 have FT:d<s.heap.objs.size:=by
  let#[o,es,ho,_]:=dat;exact bK ho
 apply call_min_walk (wpAny_pyIter_values (knd:=d0 X.prog X.w) (kvs:=vs) (ep:=ep) iv dat ?_);apply⟨s.heap.objs.size,[s.heap.objs.size,d],[s.heap.objs.size],vs.length,λi v=>∃k,vs[i]? = some (k,v),_,_,rfl,Ux (ep:=ep) (I.ok.hd hc) (dH FT),⟨⟨_,dq _ rfl,rfl,rfl⟩,?_⟩,λb hb=>?_,by omega,CmpOf.ints_lt (λi=>((ns.map (·.2))[i]?).getD 0) (λi v ⟨k,hv⟩=>?_),λv' h' tk hP k=>?_⟩
 ·let#[o,es,ho,r]:=dat;exact⟨o,es,bo _ ho,r⟩
 ·have hb:b=s.heap.objs.size∨b=d:=⇑hb
  show b<(s.heap.objs.push _).size;rw[Array.size_push];rcases hb with e|e
  ·rw[e];exact Nat.lt_succ_self _
  rw[e];exact Nat.lt_succ_of_lt FT
 ·let#[n,t,e1,e2]:=Ja rel hv;apply⟨t,?_⟩;rw[e1];exact e2
 let#[k',EB]:=hP;let#[n,t,e1,rfl]:=Ja rel EB;let#[b1,b2]:=argBest_lt (λi=>((ns.map (·.2))[i]?).getD 0) (vs.length - 1);rw[e1] at b2;apply⟨.int n,H,I.kept (t':=tk) (λb o e=>k b o (λm=>?_) (bo _ e)),⟨t,rfl⟩,q n (cJ e1) λa ha=>?_⟩
 ·have m:b=s.heap.objs.size:=⇑m
  exact absurd m (dH (bK e))
 let#[j,hj,ej]:=gB ha;have:=b2 j (by rw[aq] at hj;omega);rw[aX hj,ej] at this;exact this
end L2
namespace EvM
open PySem PySem.Spec PyProof.Rows PySem.W
section
variable{prog:Ad}{w:Af}{A:Ag}
end
end EvM
namespace L2
open PySem PySem.Spec PyProof.Rows PySem.W
end L2
namespace L2
open PySem PySem.Spec PyProof.Rows PySem.W
theorem Tj{X:Cx}:dW X (binaryOp .FloorDiv) (rI (λ_ j=>0<j/\j<2 ^ 100) λi j=>.int (i / j)):=BY λi j _ _ _ _ _ hc q=>by
 have h1:(0:Int)<j:=hc.1;have h2:j<2 ^ 100:=hc.2;apply floordiv_int Y0 (by rw[Int.fdiv_eq_ediv_of_nonneg i Y0];exact q) (.inl (PyProof.noPylong_of_log2 ?_));have:j.natAbs.log2<100:=(Nat.log2_lt Y0).mpr Y0;omega
end L2
namespace Ev
open PySem L2
theorem YO{La Lb Sa Sb ca cb M:Int}(h1:ca * Sa=M)(h2:cb * Sb=M):(La * Sb - Lb * Sa) * M=Sa * Sb * (La * ca - Lb * cb):=by
 have e1:La * Sb * M=Sa * Sb * (La * ca):=by rw[<- h1];grind
 have e2:Lb * Sa * M=Sa * Sb * (Lb * cb):=by rw[<- h2];grind
 rw[Int.sub_mul,Int.mul_sub,e1,e2]
end Ev
namespace Ev
open PySem L2
theorem Y2{a n:Int}(ha:0<a)(hn:0<n)(h2:n<=1000):gH a n<=a * 1000:=by
 unfold gH
 have g:0<(Int.gcd a n:Int):=by
  have:=Int.gcd_pos_of_ne_zero_right a (show n≠0 by omega);omega
 have k1:a / (Int.gcd a n:Int)<=a:=Int.ediv_le_self _ (iF ha);have k0:0<=a / (Int.gcd a n:Int):=Int.ediv_nonneg (iF ha) (iF g);exact Int.mul_le_mul k1 h2 (iF hn) (iF ha)
theorem QZ:∀(ns:List Int) (a:Int),0<a->(∀n∈ns,0<n/\n<=1000)->ns.foldl gH a<=a * 1000 ^ ns.length
 |[],a,_,_=>by simp
 |n::ns,a,ha,h=>by
  let hn:=h n fY
  have p:0<gH a n:=by
   have:=(Jo [n] a ha ⇑(hn.1)).1;exact this
  let k1:=QZ ns (gH a n) p λm hm=>h m (fo _ hm);let k2:=Y2 ha hn.1 hn.2;have e:(0:Int)<=1000 ^ ns.length:=Int.pow_nonneg (by decide);rw[List.foldl_cons,jz,Int.pow_succ];apply Int.le_trans k1 ?_;have:=Int.mul_le_mul_of_nonneg_right k2 e;have e2:a * 1000 * 1000 ^ ns.length=a * (1000 ^ ns.length * 1000):=by grind
  rw[e2] at this;exact this
theorem Bu{hs:Xa}{ts:Xb}(G:Good hs ts):0<fD hs/\fD hs<2 ^ 100/\∀n∈aV hs,fD hs / strOf hs n * strOf hs n=fD hs:=by
 have pos:∀m∈(aV hs).map (strOf hs),0<m/\m<=1000:=λm hm=>by
  let#[x,hx,rfl]:=bx.mp hm;have:=Bj G hx;omega
 have oX:∀m∈(aV hs).map (strOf hs),0<m:=λm hm=>(pos m hm).1;apply#[Nu oX,?_,λn hn=>Int.ediv_mul_cancel (_k oX (bx.mpr #[_,hn,U]))];let k:=QZ _ 1 (by decide) pos;rw[aq,G.iV,Int.one_mul] at k;let h8:=G.h8
 have k2:(1000:Int) ^ hs.length<=1000 ^ 8:=by
  have:(1000:Nat) ^ hs.length<=1000 ^ 8:=Nat.pow_le_pow_right (by decide) h8
  exact_mod_cast this
 have:fD hs<=1000 ^ 8:=Int.le_trans k k2;have e:(1000:Int) ^ 8<2 ^ 100:=by decide
 omega
theorem XY{hs:Xa}{ts:Xb}(G:Good hs ts){qs:aS}(wp:∀q∈qs,0<=q.2.1/\q.2.1<=1000000000)(cX:qs.length<64){f:bz}{n:Str}(hn:n∈aV hs):0<=fJ hs qs f n:=
 Int.mul_nonneg (HP wp cX f n).1 (Int.ediv_nonneg (iF (Bu G).1) (by have:=Bj G hn;omega))
def CK(hs:Xa)(qs:aS)(f:bz)(r:Int):Prop:=∃x∈aV hs,∃y∈aV hs,r=fJ hs qs f x - fJ hs qs f y/\∀z∈aV hs,fJ hs qs f z<=fJ hs qs f x/\fJ hs qs f y<=fJ hs qs f z
section v
theorem rq:bQ ["top","below","divisor"] ["top","below"] (a_ rX):=bZ
def qT:Sp:=λvs H Q _=>∃a b:Int,vs=[.int a,.int b]/\0<=a/\0<b/\b<2 ^ 100/\∀t,H t=none->Q (.ref t) (upd H t (.tup [.int (fr a b).1,.int (fr a b).2]))
theorem Y7{f:Addr}{fd:Ae}(F:bu K "fraction_of" "fraction_of" rX f fd)(cG:!bF 1 Cv mw vB):!ak bc 2 f fd ["top","below"] qT:=by
 exists F.bW rq;let#[a,b,rfl,ha,hb,md,k]:=h
 have g:0<(Int.gcd a b:Int)/\(Int.gcd a b:Int)<2 ^ 100:=by
  have h1:0<Int.gcd a b:=Int.gcd_pos_of_ne_zero_right a Y0;let h3:=Int.le_of_dvd hb (Int.gcd_dvd_right a b);omega
 apply#[_,ax (bw 2 rq.nd (bj cG hr %[0,1|0])) (aJ (bp (dD %[br Tj (pv 0) (pv 2),br Tj (pv 1) (pv 2)|0]))),?_];apply#[_,U,_,U,a,b,U,ha,hb,?_];exact#[_,U,_,U,_,_,U,U,g,_,U,_,U,_,_,U,U,g,zl,k]
theorem q_:bQ ["goods","placed","levels"] oB (a_ rE):=bZ
inductive lr (K:af) (CG CW:Addr) (vs:ag) (H:Hp) (Q:VK) (E:XK):Prop
 |mk:∀(g p d:Addr) (hs:Xa) (ts:Xb) (qs:aS) (fp:av) (f:bz),vs=[.ref g,.ref d]->Bw K CG CW H g p d hs ts qs fp f->(∀q∈qs,0<=q.2.1/\q.2.1<=1000000000)->(∀r H',aa H H'->CK hs qs f r->Q (.int r) H')->lr K CG CW vs H Q E
theorem ZD{f CG CW:Addr}{fd:Ae}(F:bu K "rise_at" "rise_at" rE f fd)(B:Bi mg)(sR:mg "min"=none)(cV:!bF 4 "levels_at" oB (Ni K CG CW)):!ak bc 5 f fd oB (lr K CG CW):=by
 exists F.bW q_;let#[g,p,d,hs,ts,qs,fp,f,rfl,Pl,wp,k]:=h;let nl:=Pl.Gd.iV;let h1:=Pl.Gd.h1;refine' #[_,ax ?s1 (aJ ?s2),?kk]
 case s1=>exact bw 2 q_.nd (bj cV hr %[0,1|0])
 case s2=>exact bp (br CB (bT (gr_ U) (by rfl) B.max PyProof.Rows.Boot.«max» %[JK (pv 2)|0]) (bT (g9_ U) (by rfl) sR PyProof.Rows.Boot.«min» %[JK (pv 2)|0]))
 apply#[_,U,_,U,g,p,d,hs,ts,qs,fp,f,U,Pl,wp,λdv H1 s1 n1 e1=>?_]
 have em:((aV hs).map λh=>((Sum.inr h:Key),fJ hs qs f h)).map (·.2)=(aV hs).map (fJ hs qs f):=by
  rw[cA];rfl
 have MU:dZ (aV hs) (λh=>V.int (fJ hs qs f h))=((aV hs).map λh=>((Sum.inr h:Key),fJ hs qs f h)).map λx=>(x.1,V.int x.2):=by
  rw[cA];rfl
 rw[MU] at e1;apply#[_,U,dv,_,U,e1,λv hv=>?_];let#[s2,ev]:=aC (o:=qe v dv) hv;generalize upd H1 v (qe v dv)=H2 at s2 ev ⊢;apply#[v,dv,(aV hs).map λh=>((Sum.inr h:Key),fJ hs qs f h),U,ev,.of (s2 _ _ e1),by rw[aq];omega,λm hm mx=>?_];rw[em] at hm mx;apply#[_,U,dv,_,U,s2 _ _ e1,λv2 hv2=>?_];let#[s3,Tp]:=aC (o:=qe v2 dv) hv2;generalize upd H2 v2 (qe v2 dv)=H3 at s3 Tp ⊢;apply#[v2,dv,(aV hs).map λh=>((Sum.inr h:Key),fJ hs qs f h),U,Tp,.of (s3 _ _ (s2 _ _ e1)),by rw[aq];omega,λm2 RJ mn=>?_];rw[em] at RJ mn;let#[x,hx,rfl]:=bx.mp hm;let#[y,hy,rfl]:=bx.mp RJ;exact#[_,_,U,U,k _ H3 (s1.trans (s2.trans s3)) #[x,hx,y,hy,U,λz hz=>#[mx _ (bx.mpr #[z,hz,U]),mn _ (bx.mpr #[z,hz,U])]]]
theorem ez':bQ oB oB (a_ Ob):=bZ
inductive JQ (K:af) (CG CW:Addr) (vs:ag) (H:Hp) (Q:VK) (E:XK):Prop
 |mk:∀(g p d:Addr) (hs:Xa) (ts:Xb) (qs:aS) (fp:av) (f:bz),vs=[.ref g,.ref d]->Bw K CG CW H g p d hs ts qs fp f->(∀q∈qs,0<=q.2.1/\q.2.1<=1000000000)->(∀t r H',aa H H'->CK hs qs f r->H' t\.tup [.int (fr r (fD hs)).1,.int (fr r (fD hs)).2]->Q (.ref t) H')->JQ K CG CW vs H Q E
theorem eN_{f CG CW:Addr}{fd:Ae}(F:bu K "spread_at" "spread_at" Ob f fd)(T:gy K CG)(cR:!bF 5 "rise_at" oB (lr K CG CW))(cM:!bF 3 ko ["web"] (IT K CW))(cF:!bF 2 "fraction_of" ["top","below"] qT):!ak bc 6 f fd oB (JQ K CG CW):=by
 apply F.bW ez' λaO A outer s H vs Q E hr h=>?_;let#[g,p,d,hs,ts,qs,fp,f,rfl,Pl,wp,k]:=h;let mo:=Bu Pl.Gd;apply#[_,aJ (bp (bj cF hr %[bj cR hr %[0,1|0],bj cM hr %[ja (pv 0) U|0]|0])),?_];apply#[_,U,_,U,g,p,d,hs,ts,qs,fp,f,U,Pl,wp,λr H1 s1 ir=>?_];let G1:=Pl.G.same s1;let#[dx,dw,dy,vs,dC,h1,h2,_]:=id G1.ex;apply#[_,U,g,CG,dx,_,_,U,h1,T.cl,T.nW,yM _ _ _,p,hs,ts,dC,U,h2,Pl.Gd,λH2 s2=>?_]
 have r0:0<=r:=by
  let#[x,hx,y,hy,rfl,b]:=ir;have:=(b y hy).1;omega
 exact#[r,fD hs,U,r0,mo.1,mo.2.1,λt ht=>k t r _ ((s1.trans s2).trans (aa.new ht)) ir aA]
theorem qZ:bQ yu yu (a_ MY):=bZ
inductive OX (K:af) (CG CW:Addr) (vs:ag) (H:Hp) (Q:VK) (E:XK):Prop
 |mk:∀(g p d:Addr) (hs:Xa) (ts:Xb) (qs:aS) (fp:av) (ns:ae) (f:bz),vs=[.ref g,.ref d]->Std K CG CW H g p d hs ts qs fp ns f->(∀q∈qs,0<=q.2.1/\q.2.1<=1000000000)->(∀t r H',aa H H'->CK hs qs f r->H' t\.tup [.int (fr r (fD hs)).1,.int (fr r (fD hs)).2]->Q (.ref t) H')->OX K CG CW vs H Q E
theorem hp_{f CG CW:Addr}{fd:Ae}(F:bu K "spread" "spread" MY f fd)(cC:!bF 2 "checked_stand" yu (Jt K CG CW))(cL:!bF 6 "spread_at" oB (JQ K CG CW)):!ak bc 7 f fd yu (OX K CG CW):=by
 exists F.bW qZ;let#[g,p,d,hs,ts,qs,fp,ns,f,rfl,S,wp,k]:=h;apply#[_,aJ (bp (bj cL hr %[0,bj cC hr %[0,1|0]|0])),?_];apply#[_,U,_,U,_,U,g,p,d,hs,ts,qs,fp,ns,f,U,S.G,S.pZ,S.hd,S.ok,S.nd,S.cX,λd1 H1 s1 n1 e1=>?_];let#[kK,Pl]:=S.placed s1 n1 e1;exact#[g,p,d1,hs,ts,qs,kK,f,U,Pl,wp,λt r H2 s2 ir e=>k t r H2 (s1.trans s2) ir e]
end
end Ev
namespace c_
open PySem PySem.W PyProof.Rows
section
variable{prog:Ad}{w:Af}{A:Ag}{E:Aa->Ab->Prop}{s:Ab}
inductive Src (h:Heap) (it l:Addr) (i:Nat) (xs:Array Aa):Prop
 |lst (a:h.IsListIter it l i) (b:h.IsList l xs):Src h it l i xs
 |tup (a:h.IsTupleIter it l i) (b:h.IsTuple l xs):Src h it l i xs
theorem Src.keep{h h':Heap}{it l:Addr}{i:Nat}{xs:Array Aa}(x:Src h it l i xs)(k1:∀o,h.get? it\o->h'.get? it\o)(k2:∀o,h.get? l\o->h'.get? l\o):Src h' it l i xs:=by
 cases x with
 |lst a b=>exact .lst (a.at k1) (b.at k2)
 |tup a b=>exact .tup (a.at k1) (by let#[o,e,r]:=b;exact#[o,k2 o e,r])
theorem wX{h:Heap}{l:Addr}{xs ys:Array Aa}(a:h.IsList l xs)(b:h.IsTuple l ys):False:=by
 let#[o,e,c,_]:=a;let#[u,f,d,_]:=b;rw[e] at f;cases f;rw[c] at d;simp at d
theorem Src._c{h:Heap}{it l:Addr}{i:Nat}{xs ys:Array Aa}(x:Src h it l i xs)(b:h.IsList l ys):h.IsListIter it l i:=by
 cases x with
 |lst a _=>exact a
 |tup _ c=>exact (wX b c).elim
theorem Src.lt{h:Heap}{it l:Addr}{i:Nat}{xs:Array Aa}(x:Src h it l i xs):it<h.objs.size/\l<h.objs.size:=by
 cases x with
 |lst a b=>let#[o,e,_]:=a;let#[u,f,_]:=b;exact#[bK e,bK f]
 |tup a b=>let#[o,e,_]:=a;let#[u,f,_]:=b;exact#[bK e,bK f]
theorem nextT{it t:Addr}{i:Nat}{xs:Array Aa}{x:Aa}{Q:Aa->Ab->Prop}(hit:s.heap.IsTupleIter it t i)(ht:s.heap.IsTuple t xs)(hx:xs[i]? = some x)
  (hQ:∀h',h'.IsTupleIter it t (i+1)->Heap.SameBut it s.heap h'->Q x { s with heap:=h' }):wpAny (model prog w) A (Builtin.SmallTypes.nextOf (.ref it)) Q E s:=by
 let#[o,ho,hc,hd]:=id hit;let#[u,hu,_,n,hv]:=ht;unfold Builtin.SmallTypes.nextOf;apply ai (wK (name:=Str.ofString "__next__") hit.typeIs F.slot_tuple_iterator_next (tQ F.slot_tuple_iterator_next hit.typeIs F.entry_tuple_iterator_next ?_ (F.args_tuple_iterator_next_1 _)));apply (show wpAny _ _ (field (.ref it) 0 >>= _) _ _ s from ai (hJ ho hd (x:=.ref t) U ?_));apply (show wpAny _ _ (if (Value.ref t == Value.none)=true then _ else _) _ _ s from ?_);rw[aD (show ¬((Value.ref t == Value.none)=true) from gr)];apply (show wpAny _ _ (field (.ref it) 1 >>= _) _ _ s from ai (hJ ho hd (x:=.int i 0) U ?_));apply (show wpAny _ _ (seqItems? (.ref t) >>= _) _ _ s from ai (wpAny_seqItems hu hv ?_));simp only[yR,hx];apply ai (wpAny_setField ho hd Y1 (aI #[x,U,aI (hQ _ #[_,Heap.get?_update_self _ ho (Obj.isFreed_of_fields (Obj.data_mapFields hd _)),(Obj.cls_mapFields ..).trans hc,?_] (Heap.SameBut.update ..))]));rw[Obj.data_mapFields hd];simp[rawInt]
theorem Src.next{it l:Addr}{i:Nat}{xs:Array Aa}{x:Aa}{Q:Aa->Ab->Prop}(z:Src s.heap it l i xs)(ne:l≠it)(hx:xs[i]? = some x)
  (hQ:∀h',Src h' it l (i+1) xs->Heap.SameBut it s.heap h'->Q x { s with heap:=h' }):wpAny (model prog w) A (Builtin.SmallTypes.nextOf (.ref it)) Q E s:=by
 cases z with
 |lst a b=>exact wpAny_nextOf_list_item a b hx λh' a' sb=>hQ h' (.lst a' (b.extBut sb.extBut ne)) sb
 |tup a b=>exact nextT a b hx λh' a' sb=>hQ h' (.tup a' (b.extBut sb.extBut ne)) sb
abbrev Zp(h:Heap)(z TI TO:Addr)(f0:Aa)(f1:Bool):Prop:=h.get? z=some { cls:=.type "zip",dict:=none,data:=.fields (List.toArray [f0,.bool f1,.bool false,.ref TI,.ref TO]),slots:=#[] }
abbrev kX(h:Heap)(T:Addr)(xs:Array Aa):Prop:=h.get? T=some { cls:=.type "tuple",data:=.seq xs }
theorem Sh{T:Addr}{xs:Array Aa}{x:Aa}{k:Nat}{Q:Unit->Ab->Prop}(hT:kX s.heap T xs)(h3:xs.size<=3)(h:∀h',kX h' T (xs.setIfInBounds k x)->Heap.SameBut T s.heap h'->Q () { s with heap:=h' }):wpAny (model prog w) A (updateSeq T (·.setIfInBounds k x)) Q E s:=by
 apply wpAny_updateSeq hT U (h _ ?_ (Heap.SameBut.update ..)) (hz:=ic h3 (by decide)) (_hz':=by rw[Array.size_setIfInBounds];exact ic h3 (by decide));show Heap.get? _ _=_;rw[Heap.get?_update_self _ hT U];simp[Obj.mapSeq]
structure Ve (h:Heap) (z TI TO i1 i2 i3 l1 l2 l3:Addr) (k:Nat) (xs ys zs:Array Aa):Prop where
 nd:[z,TO,i1,i2,i3].Nodup
 ti:TI∉[z,TO,i1,i2,i3]
 ls:∀l∈[l1,l2,l3],l∉[z,TO,i1,i2,i3]
 hI:kX h TI (List.toArray [.ref i1,.ref i2,.ref i3])
 hO:∃a b c,kX h TO (List.toArray [a,b,c])
 s1:Src h i1 l1 k xs
 s2:Src h i2 l2 k ys
 s3:Src h i3 l3 k zs
end
end c_
namespace c_
open PySem PySem.W PyProof.Rows
section
variable{prog:Ad}{w:Af}{A:Ag}{E:Aa->Ab->Prop}{s:Ab}
theorem ended{it l:Addr}{i:Nat}{xs:Array Aa}{Q:Aa->Ab->Prop}(hh:A.handled=none)(a:s.heap.IsListIter it l i)(b:s.heap.IsList l xs)(hx:xs[i]? = none)
  (hE:∀h' e,Heap.ExtBut it s.heap h'->(∃o,h'.get? e\o/\o.cls=.type "StopIteration")->E (.ref e) { s with heap:=h' }):wpAny (model prog w) A (Builtin.SmallTypes.nextOf (.ref it)) Q E s:=wpAny_nextOf_list_end hh a b hx hE
abbrev C5(h:Heap)(l:Addr):Heap:=h.push { cls:=.type "list_iterator",data:=.fields (List.toArray [.ref l,.int 0 0]) }
abbrev yW(h:Heap)(l:Addr):Heap:=h.push { cls:=.type "tuple_iterator",data:=.fields (List.toArray [.ref l,.int 0 0]) }
end
end c_
namespace L2
open PySem PySem.Spec PyProof.Rows PySem.W c_
end L2
namespace c_
open PySem PySem.W PyProof.Rows
section
variable{prog:Ad}{w:Af}{A:Ag}{E:Aa->Ab->Prop}{s:Ab}
theorem alive{a:Addr}{o:Obj}{Q:Option Obj->Ab->Prop}(ho:s.heap.get? a\o)(h:Q (some o) s):wpAny (model prog w) A (loadIfAlive a) Q E s:=fun Γ p _=>by
 unfold loadIfAlive;rw[Sem.wp_loadIfAlive,ho];exact (aI (M:=model prog w) (A:=A) h) Γ p (by assumption)
structure mJ (h:Heap) (z TI TO i1 i2 l1 l2:Addr) (k:Nat) (xs ys:Array Aa):Prop where
 nd:[z,TO,i1,i2].Nodup
 ti:TI∉[z,TO,i1,i2]
 ls:∀l∈[l1,l2],l∉[z,TO,i1,i2]
 hI:kX h TI (List.toArray [.ref i1,.ref i2])
 hO:∃a b,kX h TO (List.toArray [a,b])
 s1:Src h i1 l1 k xs
 s2:Src h i2 l2 k ys
 hz:Zp h z TI TO .none false∨∃T o f1,T∉[z,TO,i1,i2]/\h.get? T\o/\Zp h z TI TO (rawInt T) f1
theorem hF_{z TI TO i1 i2 l1 l2:Addr}{k:Nat}{xs ys:Array Aa}{x y:Aa}{Q:Aa->Ab->Prop}(D:mJ s.heap z TI TO i1 i2 l1 l2 k xs ys)(hx:xs[k]? = some x)(hy:ys[k]? = some y)
  (hQ:∀h',mJ h' z TI TO i1 i2 l1 l2 (k+1) xs ys->kX h' s.heap.objs.size (List.toArray [x,y])->(∀c o,c∉[z,TO,i1,i2]->s.heap.get? c\o->h'.get? c\o)->Q (.ref s.heap.objs.size) { s with heap:=h' }) :
  wpAny (model prog w) A (Builtin.«zip.__next__» #[[.ref z],[]]) (λfin s'=>∃v,fin=.done (.ret v)/\Q v s') E s:=by
 let#[K4,Kg,Ld,hI,#[a,b,hO],s1,s2,hz]:=D;let nd:=K4;let ti:=Kg;let ls:=Ld;simp only[kW,cg,ig,or_false,not_or,not_false_eq_true,List.nodup_nil,and_true] at nd ti ls;let#[#[zO,z1,z2],#[O1,O2],z_]:=nd;let L1:=ls l1 (.inl U);let L2:=ls l2 (.inr U);have new:∀{c o},s.heap.get? c\o->s.heap.objs.size≠c:=λe=>jf (bK e)
 have nT:s.heap.objs.size∉[z,TO,i1,i2]:=by
  simp only[cg,ig,or_false,not_or];apply#[?_,new hO,jf s1.lt.1,jf s2.lt.1];rcases hz with hz|⟨T,o,f1,hT,e,hz⟩
  ·exact new hz
  exact new hz
 rcases hz with hz|⟨T,o,f1,hT,eT,hz⟩
 ·apply (show wpAny _ _ (field (.ref z) 2 >>= _) _ _ _ from ai (hJ hz U (x:=.bool false) U ?_));apply (show wpAny _ _ (field (.ref z) 3 >>= _) _ _ _ from ai (hJ hz U (x:=.ref TI) U ?_));apply ai (wpAny_seqItems hI U ?_);apply (show wpAny _ _ (Builtin.SmallTypes.ownedTupleIsFree (.ref z) >>= _) _ _ _ from ai ?_);unfold Builtin.SmallTypes.ownedTupleIsFree;apply ai (hJ hz U (x:=.none) U (aI ?_));simp only[if_true];apply ai (wpAny_rule (ai (hJ hz U (x:=.ref TO) U (ai (wpAny_setField_rec hz Y1 λh1 pR e1=>ai ?_)))));replace pR:Zp h1 z TI TO .ellipsis false:=pR;have hO1:kX h1 TO (List.toArray [a,b]):=e1.extBut _ _ (dJ zO) hO;let s1:=s1.keep (e1.extBut _ · (dJ z1)) (e1.extBut _ · L1.1);let s2:=s2.keep (e1.extBut _ · (dJ z2)) (e1.extBut _ · L2.1);simp only[List.zipIdx_cons,List.zipIdx_nil,List.forIn_cons,List.forIn_nil];apply ai (ai (wpAny_onRaise (show wpAny _ _ (Builtin.SmallTypes.nextOf (.ref i1) >>= _) _ _ _ from ai (s1.next L1.2.2.1 hx λh2 s1 e2=>aI ?_))));have Se:kX h2 TO (List.toArray [a,b]):=e2.extBut _ _ O1 hO1;let s2:=s2.keep (e2.extBut _ · (dJ z_)) (e2.extBut _ · L2.2.2.1);apply ai (wpAny_seqItems Se U (ai (Sh Se (Nat.le_succ 2) λh3 Mq e3=>ai (wpAny_letGo (aI ?_)))));replace Mq:kX h3 TO (List.toArray [x,b]):=Mq;let s1:=s1.keep (e3.extBut _ · (dJ O1)) (e3.extBut _ · L1.2.1);let s2:=s2.keep (e3.extBut _ · (dJ O2)) (e3.extBut _ · L2.2.1);apply ai (ai (wpAny_onRaise (show wpAny _ _ (Builtin.SmallTypes.nextOf (.ref i2) >>= _) _ _ _ from ai (s2.next L2.2.2.2 hy λh4 s2 e4=>aI ?_))));have R_:kX h4 TO (List.toArray [x,b]):=e4.extBut _ _ O2 Mq;let s1:=s1.keep (e4.extBut _ · z_) (e4.extBut _ · L1.2.2.2);apply ai (wpAny_seqItems R_ U (ai (Sh R_ (Nat.le_succ 2) λh7 Il e7=>ai (wpAny_letGo (aI (aI ?_))))));replace Il:kX h7 TO (List.toArray [x,y]):=Il;let s1:=s1.keep (e7.extBut _ · (dJ O1)) (e7.extBut _ · L1.2.1);let s2:=s2.keep (e7.extBut _ · (dJ O2)) (e7.extBut _ · L2.2.1);have all:∀{c o},c≠TO->c≠i1->c≠i2->h1.get? c\o->h7.get? c\o:=λc2 c3 c4 q=>e7.extBut _ _ c2 (e4.extBut _ _ c4 (e3.extBut _ _ c2 (e2.extBut _ _ c3 q)));have Lw:Zp h7 z TI TO .ellipsis false:=all zO z1 z2 pR;have hI7:kX h7 TI (List.toArray [.ref i1,.ref i2]):=all ti.2.1 ti.2.2.1 ti.2.2.2 (e1.extBut _ _ ti.1 hI);have sz:h7.objs.size=s.heap.objs.size:=by rw[e7.1,e4.1,e3.1,e2.1,e1.1]
  apply ai (wpAny_seqItems Il U (ai (wpAny_newTuple ?_)));apply (show wpAny _ _ (Builtin.SmallTypes.ownedTupleHandOut (.ref z) (.ref h7.objs.size) >>= _) _ _ _ from ai ?_);unfold Builtin.SmallTypes.ownedTupleHandOut;have hz8:Zp (h7.push { cls:=.type "tuple",data:=.seq (List.toArray [x,y]) }) z TI TO .ellipsis false:=bo _ Lw;apply ai (wpAny_setField_rec hz8 Y1 λh9 _Z e9=>wpAny_setField_rec (show Zp h9 z TI TO (rawInt h7.objs.size) false from _Z) Y1 λhA HS eA=>aI #[_,U,?_]);have up:∀{c o},c≠z->h7.get? c\o->hA.get? c\o:=λc1 q=>eA.extBut _ _ c1 (e9.extBut _ _ c1 (bo _ q));have hT:kX hA h7.objs.size (List.toArray [x,y]):=eA.extBut _ _ (jf (bK Lw)) (e9.extBut _ _ (jf (bK Lw)) (dq _ U));show Q (.ref h7.objs.size) _;have HS:Zp hA z TI TO (rawInt h7.objs.size) false:=HS;rw[sz] at hT HS ⊢;apply hQ hA #[K4,Kg,Ld,up ti.1 hI7,#[_,_,up (dJ zO) Il],s1.keep (λ_=>up (dJ z1)) (λ_=>up L1.1),s2.keep (λ_=>up (dJ z2)) (λ_=>up L2.1),.inr #[_,_,_,nT,hT,HS]] hT λc o hc q=>?_;simp only[cg,ig,or_false,not_or] at hc;exact up hc.1 (all hc.2.1 hc.2.2.1 hc.2.2.2 (e1.extBut _ _ hc.1 q))
 apply (show wpAny _ _ (field (.ref z) 2 >>= _) _ _ _ from ai (hJ hz U (x:=.bool false) U ?_));apply (show wpAny _ _ (field (.ref z) 3 >>= _) _ _ _ from ai (hJ hz U (x:=.ref TI) U ?_));apply ai (wpAny_seqItems hI U ?_);apply (show wpAny _ _ (Builtin.SmallTypes.ownedTupleIsFree (.ref z) >>= _) _ _ _ from ai ?_)
 have free:∀{Q:Bool->Ab->Prop},(∀h',Zp h' z TI TO (rawInt T) true->(∀c o,c≠z->s.heap.get? c\o->h'.get? c\o)->h'.objs.size=s.heap.objs.size->Q false { s with heap:=h' })->wpAny (model prog w) A (Builtin.SmallTypes.ownedTupleIsFree (.ref z)) Q E s:=λ{Q} h=>by
  unfold Builtin.SmallTypes.ownedTupleIsFree;apply ai (hJ hz U (x:=rawInt T) U ?_);apply (show wpAny _ _ (loadIfAlive (((T:Nat):Int)).toNat >>= _) _ _ _ from ?_);rw[yR];apply ai (alive eT ?_);simp only[Option.isNone_some,pJ,if_false];apply ai (hJ hz U (x:=.bool f1) U ?_);cases f1 with
  |true=>
   apply wpAny_ite_false (by decide) (aI ?_);exact h _ hz (λc o _ q=>q) U
  |false=>
   apply wpAny_ite_true (by decide) ?_;apply ai (wpAny_setField_rec hz Y1 λh1 pR e1=>aI ?_);exact h h1 pR (λc o hc q=>e1.extBut _ _ hc q) e1.1
 apply free λh1 pR k1 V_=>?_;simp only[pJ,if_false];let s1:=s1.keep (k1 _ · (dJ z1)) (k1 _ · L1.1);let s2:=s2.keep (k1 _ · (dJ z2)) (k1 _ · L2.1);apply ai ?_;simp only[List.forIn_toArray,List.forIn_cons,List.forIn_nil];apply ai (ai (gR (show wpAny _ _ (Builtin.SmallTypes.nextOf (.ref i1) >>= _) _ _ _ from ai (s1.next L1.2.2.1 hx λh2 s1 e2=>aI (aI ?_)))));let s2:=s2.keep (e2.extBut _ · (dJ z_)) (e2.extBut _ · L2.2.2.1);apply ai (ai (gR (show wpAny _ _ (Builtin.SmallTypes.nextOf (.ref i2) >>= _) _ _ _ from ai (s2.next L2.2.2.2 hy λh4 s2 e4=>aI (aI (aI ?_))))));let s1:=s1.keep (e4.extBut _ · z_) (e4.extBut _ · L1.2.2.2);have sz:h4.objs.size=s.heap.objs.size:=by rw[e4.1,e2.1,V_]
 apply (show wpAny _ _ (newTuple [x,y] >>= _) _ _ _ from ai (wpAny_newTuple (aI #[_,U,?_])));have all:∀{c o},c≠i1->c≠i2->h1.get? c\o->h4.get? c\o:=λc3 c4 q=>e4.extBut _ _ c4 (e2.extBut _ _ c3 q);have up:∀{c o},h4.get? c\o->(h4.push { cls:=.type "tuple",data:=.seq (List.toArray [x,y]) }).get? c\o:=λq=>bo _ q;have A0:kX (h4.push { cls:=.type "tuple",data:=.seq (List.toArray [x,y]) }) h4.objs.size (List.toArray [x,y]):=dq _ U;show Q (.ref h4.objs.size) _;rw[sz] at A0 ⊢;simp only[cg,ig,or_false,not_or] at hT;apply hQ _ #[K4,Kg,Ld,up (all ti.2.2.1 ti.2.2.2 (k1 _ _ ti.1 hI)),#[_,_,up (all O1 O2 (k1 _ _ (dJ zO) hO))],s1.keep (λ_=>up) (λ_=>up),s2.keep (λ_=>up) (λ_=>up),.inr #[T,_,true,by simp[hT],up (all hT.2.2.1 hT.2.2.2 (k1 _ _ hT.1 eT)),up (all z1 z2 pR)]] A0 λc o hc q=>?_;simp only[cg,ig,or_false,not_or] at hc;exact up (all hc.2.2.1 hc.2.2.2 (k1 _ _ hc.1 q))
end
end c_
namespace c_
open PySem PySem.W PyProof.Rows
section
variable{prog:Ad}{w:Af}{A:Ag}{E:Aa->Ab->Prop}{s:Ab}
theorem _x{z TI TO i1 i2 l1 l2:Addr}{k:Nat}{xs ys:Array Aa}{Q:Fin->Ab->Prop}(hh:A.handled=none)(D:mJ s.heap z TI TO i1 i2 l1 l2 k xs ys)(b0:s.heap.IsList l1 xs)(hx:xs[k]? = none)
  (hE:∀h' e,(∀c o,c∉[z,TO,i1,i2]->s.heap.get? c\o->h'.get? c\o)->(∃o,h'.get? e\o/\o.cls=.type "StopIteration")->E (.ref e) { s with heap:=h' }):wpAny (model prog w) A (Builtin.«zip.__next__» #[[.ref z],[]]) Q E s:=by
 let#[nd,ti,ls,hI,#[a,b,hO],s1,s2,hz]:=D;let a0:=s1._c b0;simp only[kW,cg,ig,or_false,not_or,not_false_eq_true,List.nodup_nil,and_true] at nd ti ls;let#[#[zO,z1,z2],#[O1,O2],z_]:=nd;let L1:=ls l1 (.inl U);have go:∀(h1:Heap),(∀c o,c≠z->s.heap.get? c\o->h1.get? c\o)->∀(E':Aa->Ab->Prop) (Q':Aa->Ab->Prop),(∀h' e,Heap.ExtBut i1 h1 h'->(∃o,h'.get? e\o/\o.cls=.type "StopIteration")->E' (.ref e) { s with heap:=h' })->wpAny (model prog w) A (Builtin.SmallTypes.nextOf (.ref i1)) Q' E' { s with heap:=h1 }:=λh1 k1 E' Q' h=>ended hh (s:={ s with heap:=h1 }) (a0.at λo q=>k1 _ o (dJ z1) q) (b0.at λo q=>k1 _ o L1.1 q) hx h;rcases hz with hz|⟨T,o,f1,hT,eT,hz⟩
 ·apply (show wpAny _ _ (field (.ref z) 2 >>= _) _ _ _ from ai (hJ hz U (x:=.bool false) U ?_));apply (show wpAny _ _ (field (.ref z) 3 >>= _) _ _ _ from ai (hJ hz U (x:=.ref TI) U ?_));apply ai (wpAny_seqItems hI U ?_);apply (show wpAny _ _ (Builtin.SmallTypes.ownedTupleIsFree (.ref z) >>= _) _ _ _ from ai ?_);unfold Builtin.SmallTypes.ownedTupleIsFree;apply ai (hJ hz U (x:=.none) U (aI ?_));simp only[if_true];apply ai (wpAny_rule (ai (hJ hz U (x:=.ref TO) U (ai (wpAny_setField_rec hz Y1 λh1 pR e1=>ai ?_)))));replace pR:Zp h1 z TI TO .ellipsis false:=pR;simp only[List.zipIdx_cons,List.zipIdx_nil,List.forIn_cons,List.forIn_nil];apply ai (ai (wpAny_onRaise (show wpAny _ _ (Builtin.SmallTypes.nextOf (.ref i1) >>= _) _ _ _ from ai (go h1 (λc o hc q=>e1.extBut _ _ hc q) _ _ λh2 e e2 he=>?_))));let#[oe,LK,R3]:=he;have Rv:Zp h2 z TI TO .ellipsis false:=e2 _ _ z1 pR;have hez:e≠z:=λx=>by subst x;rw[Rv] at LK;cases LK;simp at R3
  exact wpAny_setField_rec Rv Y1 λh3 _ e3=>hE h3 e (λc o hc x=>by
   simp only[cg,ig,or_false,not_or] at hc;exact e3.extBut _ _ hc.1 (e2 _ _ hc.2.2.1 (e1.extBut _ _ hc.1 x))) #[oe,e3.extBut _ _ hez LK,R3]
 apply (show wpAny _ _ (field (.ref z) 2 >>= _) _ _ _ from ai (hJ hz U (x:=.bool false) U ?_));apply (show wpAny _ _ (field (.ref z) 3 >>= _) _ _ _ from ai (hJ hz U (x:=.ref TI) U ?_));apply ai (wpAny_seqItems hI U ?_);apply (show wpAny _ _ (Builtin.SmallTypes.ownedTupleIsFree (.ref z) >>= _) _ _ _ from ai ?_)
 have free:∀{Q:Bool->Ab->Prop},(∀h',(∀c o,c≠z->s.heap.get? c\o->h'.get? c\o)->Q false { s with heap:=h' })->wpAny (model prog w) A (Builtin.SmallTypes.ownedTupleIsFree (.ref z)) Q E s:=λ{Q} h=>by
  unfold Builtin.SmallTypes.ownedTupleIsFree;apply ai (hJ hz U (x:=rawInt T) U ?_);apply (show wpAny _ _ (loadIfAlive (((T:Nat):Int)).toNat >>= _) _ _ _ from ?_);rw[yR];apply ai (alive eT ?_);simp only[Option.isNone_some,pJ,if_false];apply ai (hJ hz U (x:=.bool f1) U ?_);cases f1 with
  |true=>exact wpAny_ite_false (by decide) (aI (h _ λc o _ q=>q))
  |false=>exact wpAny_ite_true (by decide) (ai (wpAny_setField_rec hz Y1 λh1 pR e1=>aI (h h1 λc o hc q=>e1.extBut _ _ hc q)))
 apply free λh1 k1=>?_;simp only[pJ,if_false];apply ai ?_;simp only[List.forIn_toArray,List.forIn_cons,List.forIn_nil];apply ai (ai (gR (show wpAny _ _ (Builtin.SmallTypes.nextOf (.ref i1) >>= _) _ _ _ from ai (go h1 k1 _ _ λh2 e e2 he=>hE h2 e (λc o hc x=>?_) he))));simp only[cg,ig,or_false,not_or] at hc;exact e2 _ _ hc.2.2.1 (k1 _ _ hc.1 x)
theorem mJ.ty{z TI TO i1 i2 l1 l2:Addr}{k:Nat}{xs ys:Array Aa}(D:mJ s.heap z TI TO i1 i2 l1 l2 k xs ys):s.TypeIs (.ref z) "zip":=by
 rcases D.hz with hz|⟨T,o,f1,hT,eT,hz⟩
 ·exact#[_,hz,U]
 exact#[_,hz,U]
theorem gB_{z TI TO i1 i2 l1 l2:Addr}{k:Nat}{xs ys:Array Aa}{x y:Aa}{Q:Option Aa->Ab->Prop}(D:mJ s.heap z TI TO i1 i2 l1 l2 k xs ys)(hx:xs[k]? = some x)(hy:ys[k]? = some y)
  (hQ:∀h',mJ h' z TI TO i1 i2 l1 l2 (k+1) xs ys->kX h' s.heap.objs.size (List.toArray [x,y])->(∀c o,c∉[z,TO,i1,i2]->s.heap.get? c\o->h'.get? c\o)->Q (some (.ref s.heap.objs.size)) { s with heap:=h' }):wpAny (model prog w) A (pyNext (.ref z)) Q E s:=by
 unfold pyNext;exact ai (wpAny_attempt (wK (name:=Str.ofString "__next__") D.ty F.slot_zip_next (tQ F.slot_zip_next D.ty F.entry_zip_next (hF_ D hx hy λh' a2 a3 a4=>aI (hQ h' a2 a3 a4)) (F.args_zip_next_1 _))))
theorem dt_{z TI TO i1 i2 l1 l2:Addr}{k:Nat}{xs ys:Array Aa}{Q:Option Aa->Ab->Prop}(hh:A.handled=none)(D:mJ s.heap z TI TO i1 i2 l1 l2 k xs ys)(b0:s.heap.IsList l1 xs)(hx:xs[k]? = none)
  (hQ:∀h',(∀c o,c∉[z,TO,i1,i2]->s.heap.get? c\o->h'.get? c\o)->Q none { s with heap:=h' }):wpAny (model prog w) A (pyNext (.ref z)) Q E s:=by
 unfold pyNext;apply ai (wpAny_attempt (wK (name:=Str.ofString "__next__") D.ty F.slot_zip_next (tQ F.slot_zip_next D.ty F.entry_zip_next (_x hh D b0 hx λh' e hk he=>?_) (F.args_zip_next_1 _))));let#[o,ho,hc]:=he;exact ai (wpAny_isInstance (T:="StopIteration") (b:=true) #[o,ho,hc] isSubtype_stop (aI (hQ _ hk)))
abbrev C4(h:Heap)(l1 l2:Addr):Heap:=yW (C5 h l1) l2
abbrev C3(h:Heap)(l1 l2:Addr):Heap:=(C4 h l1 l2).push { cls:=.type "tuple",data:=.seq (List.toArray [.ref h.objs.size,.ref (C5 h l1).objs.size]) }
abbrev C1(h:Heap)(l1 l2:Addr):Heap:=(C3 h l1 l2).push { cls:=.type "tuple",data:=.seq (List.toArray [.none,.none]) }
abbrev yV(h:Heap)(l1 l2:Addr):Heap:=(C1 h l1 l2).push { cls:=.type "zip",data:=.fields (List.toArray [.none,.bool false,.bool false,.ref (C4 h l1 l2).objs.size,.ref (C3 h l1 l2).objs.size]) }
set_option maxHeartbeats 2000000 in
theorem fN_(l1 l2:Addr)(xs ys:Array Aa):Meets (Builtin.«zip.__new__» #[[.type "zip",.ref l1,.ref l2],[]]) (λ_ R s=>s.heap.IsList l1 xs/\s.heap.IsTuple l2 ys/\R (.ok (.ret (.ref (C1 s.heap l1 l2).objs.size))) { s with heap:=yV s.heap l1 l2 }):=
 .of_wp λprog w A R s h=>by
  let#[hp,g,d,tk,os]:=s;let#[a1,a2,h]:=h;let EJ:=sub_zip;have b1:Heap.IsList (Shared.heap #[hp,g,d,tk,os]) l1 xs:=a1;have b2:Heap.IsTuple (Shared.heap #[hp.push { cls:=.type "list_iterator",data:=.fields (List.toArray [.ref l1,.int 0 0]) },g,d,tk,os]) l2 ys:=Heap.IsTuple.push a2 _
  wp_walk using wpAny_pyIter_list b1,wpAny_pyIter_tuple b2
  exact#[_,U,h]
theorem mJ.zR{h:Heap}{z TI TO i1 i2 l1 l2:Addr}{k:Nat}{xs ys:Array Aa}(D:mJ h z TI TO i1 i2 l1 l2 k xs ys){h':Heap}(up:∀c o,h.get? c\o->h'.get? c\o):mJ h' z TI TO i1 i2 l1 l2 k xs ys:=by
 let#[nd,ti,ls,hI,#[a,b,hO],s1,s2,hz]:=D;apply#[nd,ti,ls,up _ _ hI,#[a,b,up _ _ hO],s1.keep (up _) (up _),s2.keep (up _) (up _),?_];rcases hz with hz|⟨T,o,f1,hT,eT,hz⟩
 ·exact .inl (up _ _ hz)
 exact .inr #[T,o,f1,hT,up _ _ eT,up _ _ hz]
theorem hy_{l1 l2:Addr}{xs ys:Array Aa}{Q:Aa->Ab->Prop}(a1:s.heap.IsList l1 xs)(a2:s.heap.IsTuple l2 ys)
  (h:∀h' z TI TO i1 i2,mJ h' z TI TO i1 i2 l1 l2 0 xs ys->Zp h' z TI TO .none false->(∀b∈[z,TO,i1,i2],s.heap.objs.size<=b)->(∀c o,s.heap.get? c\o->h'.get? c\o)->Q (.ref z) { s with heap:=h' }):wpAny (model prog w) A (call (.type "zip") [.ref l1,.ref l2]) Q E s:=by
 apply callType_new F.called_zip (by decide) (F.typeCall_zip_2 _ _) (F.newCall_zip_2 _ _) (λobj=>F.args_object_init_3 obj _ _) F.entry_zip_new (fN_ l1 l2 xs ys) #[a1,a2,?_];have z1:(C5 s.heap l1).objs.size=s.heap.objs.size+1:=Heap.size_push ..;have z2:(C4 s.heap l1 l2).objs.size=s.heap.objs.size+2:=by rw[Heap.size_push,z1]
 have z3:(C3 s.heap l1 l2).objs.size=s.heap.objs.size+3:=by rw[Heap.size_push,z2]
 have z4:(C1 s.heap l1 l2).objs.size=s.heap.objs.size+4:=by rw[Heap.size_push,z3]
 have g5:(yV s.heap l1 l2).get? (C1 s.heap l1 l2).objs.size\_:=dq _ U;have g4:(yV s.heap l1 l2).get? (C3 s.heap l1 l2).objs.size\_:=bo _ (dq _ U);have g3:(yV s.heap l1 l2).get? (C4 s.heap l1 l2).objs.size\_:=bo _ (bo _ (dq _ U));have g2:(yV s.heap l1 l2).get? (C5 s.heap l1).objs.size\_:=bo _ (bo _ (bo _ (dq _ U)));have g1:(yV s.heap l1 l2).get? s.heap.objs.size\_:=bo _ (bo _ (bo _ (bo _ (dq _ U))));have up:∀c o,s.heap.get? c\o->(yV s.heap l1 l2).get? c\o:=λc o x=>bo _ (bo _ (bo _ (bo _ (bo _ x))));have XC:l1<s.heap.objs.size:=by let#[_,e,_]:=a1;exact bK e
 have XB:l2<s.heap.objs.size:=by let#[_,e,_]:=a2;exact bK e
 show _/\_;apply#[#[_,g5,U],h _ (C1 s.heap l1 l2).objs.size (C4 s.heap l1 l2).objs.size (C3 s.heap l1 l2).objs.size s.heap.objs.size (C5 s.heap l1).objs.size #[?_,?_,?_,g3,#[_,_,g4],.lst #[_,g1,U,U] (a1.at λo e=>up _ o e),.tup #[_,g2,U,U] (by let#[o,e,r]:=a2;exact#[o,up _ o e,r]),.inl g5] g5 ?_ up]
 ·rw[z1,z3,z4];generalize s.heap.objs.size=n;simp
 ·rw[z1,z2,z3,z4];generalize s.heap.objs.size=n;simp
 ·intro l hl hm
  have lt:l<s.heap.objs.size:=by
   simp only[cg,ig,or_false] at hl;rcases hl with rfl|rfl
   ·exact XC
   exact XB
  simp only[cg,ig,or_false] at hm;rcases hm with rfl|rfl|rfl|rfl
  ·rw[z4] at lt;exact absurd lt (Nat.not_lt.mpr (Nat.le_add_right _ _))
  ·rw[z3] at lt;exact absurd lt (Nat.not_lt.mpr (Nat.le_add_right _ _))
  ·exact uh _ lt
  rw[z1] at lt;exact absurd lt (Nat.not_lt.mpr (Nat.le_add_right _ _))
 intro b hb;simp only[cg,ig,or_false] at hb;rcases hb with rfl|rfl|rfl|rfl
 ·rw[z4];exact Nat.le_add_right _ _
 ·rw[z3];exact Nat.le_add_right _ _
 ·exact a9 _
 rw[z1];exact Nat.le_add_right _ _
end
end c_
namespace c_
open PySem PySem.W PyProof.Rows
theorem dH_:typeLookup (.type "zip") "keys"=pure none:=by rw[typeLookup_type,builtinLookup_eq_fast];kernel_rfl
theorem cv_:typeLookup (.type "zip") "__getattr__"=pure none:=by rw[typeLookup_type,builtinLookup_eq_fast];kernel_rfl
theorem e5_:entryFor table "zip.__getattribute__"\Builtin.«object.__getattribute__»:=entryFor_alias (id':="object.__getattribute__") (by kernel_rfl) Z0 Z0 (by kernel_rfl)
theorem dc_(a:Addr)(fs:Array Aa)(u:Tok):Meets (Builtin.«object.__getattribute__» #[[.ref a,.str "keys" u],[]]) (λA R s=>s.heap.get? a=some { cls:=.type "zip",dict:=none,data:=.fields fs,slots:=#[] }/\raisesAttr (.ref a) "keys" A R s):=
 Meets.of_wp λprog w A R s hs=>by
  let#[hp,g,d,tk,os]:=s;let#[hx,hs]:=hs;have hT:(#[hp,g,d,tk,os]:Ab).TypeIs (.ref a) "zip":=#[_,hx,U];let hm:=dH_;unfold Builtin.«object.__getattribute__»
  repeat (any_goals (first|assumption|wp_step))
  repeat (any_goals (first|assumption|wp_step))
  exact wpAny_raiseAttrError hs.1 hs.2 (attrMsg_fits Z0 (by size_fits))
section
variable{prog:Ad}{w:Af}{A:Ag}{E:Aa->Ab->Prop}{s:Ab}
theorem fA_{a:Addr}{fs:Array Aa}{tk:Tok}{R:Result->Ab->Prop}(hx:s.heap.get? a=some { cls:=.type "zip",dict:=none,data:=.fields fs,slots:=#[] })(h:raisesAttr (.ref a) "keys" A R s) :
  codeAny (model prog w) A (.call (.builtin "zip.__getattribute__") #[[.ref a,.str "keys" tk],[]]) R s:=by
 apply codeAny_call_builtin F.slot_zip_getattribute.plain e5_ (F.slot_zip_getattribute.check _ _ _ _ _ _ _ _ #[_,hx,U] (F.args_zip_getattribute_2 _ _) ?_);exact dc_ a fs tk prog w A R s #[hx,h]
theorem vL{a:Addr}{fs:Array Aa}{Q:Option Aa->Ab->Prop}(hx:s.heap.get? a=some { cls:=.type "zip",dict:=none,data:=.fields fs,slots:=#[] })(hA:A.handled=none)
  (h:∀h' tk,(∀b o,s.heap.get? b\o->h'.get? b\o)->Q none { s with heap:=h',toks:=tk }):wpAny (model prog w) A (getAttr? (.ref a) "keys") Q E s:=by
 let#[hp,g,d,tk,os]:=s;have ty:∀fR,(#[hp,g,d,fR,os]:Ab).TypeIs (.ref a) "zip":=λ_=>#[_,hx,U];let f1:=sub_AttributeError;let f2:=F.slot_zip_getattribute.lookup;let f3:=F.slot_zip_getattribute.bind (.ref a);let f4:=cv_;unfold getAttr? getAttrBy? getAttrBy
 repeat (any_goals (first|assumption|exact ty _|wp_step))
 apply fA_ hx #[hA,λh' fR e vU=>?_];let#[t',u',he]:=vU.there;apply (show wpAny _ _ (getattributeRaised _ _ _ _ _ _ _) _ _ _ from ?_);unfold getattributeRaised
 repeat (any_goals (first|assumption|wp_step))
 exact h _ _ vU.keeps
end
section
variable{prog:Ad}{w:Af}{K:Type}[DecidableEq K]{knd:PySem.KeyKind prog w K}{A:Ag}
theorem Y_{z TI TO i1 i2 l1 l2 d:Addr}(hd:d∉[z,TO,i1,i2])(hh:A.handled=none){xs ys:aj}(rest:List K):∀(i:Nat) (kvs:List (K × Aa)) (s:Ab) (R:Result->Ab->Prop) (tk:Tok),i+rest.length=xs.length->i+rest.length=ys.length->
  (∀(j:Nat) k,rest[j]? = some k->∃v,xs[i+j]? = some v/\knd.is k v=true)->mJ s.heap z TI TO i1 i2 l1 l2 i xs.toArray ys.toArray->s.heap.IsList l1 xs.toArray->s.heap.DictOf knd d kvs->kvs.length+rest.length<=1000->
  (∀h' fR,h'.DictOf knd d (eW kvs (rest.zip (ys.drop i)))->(∀b o,b≠d->b∉[z,TO,i1,i2]->s.heap.get? b\o->h'.get? b\o)->R (.ok (.ret .none)) { s with heap:=h',toks:=fR })->
  codeAny (model prog w) A (.builtin "dict.update.loop" #[[.ref d,.ref z,.int i tk,.none],[]]) R s:=by
 induction rest with
 |nil=>
  intro i kvs s R tk e1 e2 hk D b0 pW hz hR;apply codeAny_builtin CL ?_;rw[yw qp _,CA];apply ai (dt_ hh D b0 (by simp at e1 ⊢;omega) λh' kp=>?_);exact ai (m:=Builtin.Dict.addKeywords d []) (aI (aI (hR h' s.toks (GF pW λo q=>kp _ _ hd q) λb o _ hb q=>kp b o hb q)))
 |cons k rest ih=>
  intro i kvs s R tk e1 e2 hk D b0 pW hz hR;simp only[jz] at e1 e2 hz;let#[v,hv,kv]:=hk 0 k U;have hy:ys[i]? = some ys[i]:=aX Y0;apply codeAny_builtin CL ?_;rw[yw qp _,CA];apply ai (gB_ D (x:=v) (y:=ys[i]) ⇑hv ⇑hy λh1 D1 hT kp=>?_);apply ai (gR (ai (wpAny_tryCatch ?_)));unfold Builtin.Dict.pairItems;apply ai (wpAny_typeOf (T:="tuple") #[_,hT,U] ?_);rw[aK (by decide)];unfold seqItems?;apply ai (ai (wpAny_load hT (aI (aI ?_))));apply (show wpAny _ _ (holding [v,ys[i]] (dictSet d v ys[i])) _ _ _ from gR (wpAny_dictSet_pairs kv (GF pW λo q=>kp _ _ hd q) (λh2 hd2 pT=>?_) (by have:=cK;omega)));have c1:((i:Int)+1)=((i+1:Nat):Int):=by omega
  have ndT:s.heap.objs.size≠d:=by
   let#[o,es,ep,ho,_]:=pW;exact jf (bK ho)
  apply aI #[plainId_quiet qp _,?_];have eG:∀{c o},c≠d->h1.get? c\o->h2.get? c\o:=λhc q=>pT.extBut _ _ hc q;let#[nd,ti,ls,hI,#[a,b,hO],s1,s2,Ru]:=D1;have dn:∀{c},c∈[z,TO,i1,i2]->c≠d:=λhc e=>hd (by rw[<- e];exact hc)
  have sP:∀{c xs},h1.IsTuple c xs->c≠d:=λ{c xs} q e=>by
   let#[o,ho,hc,_]:=q;let#[o2,es,ep,fK,jt,_]:=pW;let fK:=kp _ _ hd fK;subst e;rw[ho] at fK;cases fK;let tq:=jt.1;rw[hc] at tq;exact absurd tq (by decide)
  have sQ:∀{c xs},h1.IsList c xs->c≠d:=λ{c xs} q e=>by
   let#[o,ho,hc,_]:=q;let#[o2,es,ep,fK,jt,_]:=pW;let fK:=kp _ _ hd fK;subst e;rw[ho] at fK;cases fK;let tq:=jt.1;rw[hc] at tq;exact absurd tq (by decide)
  have ld:∀{it l k zs},Src h1 it l k zs->l≠d:=λq=>by
   cases q with
   |lst _ b=>exact sQ b
   |tup _ b=>exact sP b
  have D2:mJ h2 z TI TO i1 i2 l1 l2 (i+1) xs.toArray ys.toArray:=by
   apply#[nd,ti,ls,eG (sP #[_,hI,U,_,U]) hI,#[a,b,eG (dn Y1) hO],s1.keep (λ_=>eG (dn Y1)) (λ_=>eG (ld s1)),s2.keep (λ_=>eG (dn Y1)) (λ_=>eG (ld s2)),?_];rcases Ru with hz|⟨T,o,f1,A0,eT,hz⟩
   ·exact .inl (eG (dn Y1) hz)
   by_cases c:T=d
   ·let#[o2,es,ep,fK,_]:=hd2;exact .inr #[T,o2,f1,A0,by rw[c];exact fK,eG (dn Y1) hz]
   exact .inr #[T,o,f1,A0,eG c eT,eG (dn Y1) hz]
  rw[c1]
  apply ih (i+1) (stored kvs k ys[i]) _ R 0 Y0 Y0 (λj k' hj=>?_) D2 (b0.at λo q=>eG (sQ (b0.at λo q=>kp _ _ (ls _ Y1) q)) (kp _ _ (ls _ Y1) q)) hd2 (by have:=Ut kvs k ys[i];omega) λh' fR g9 Er=>hR h' fR (by
   have e:ys.drop i=ys[i]::ys.drop (i+1):=List.drop_eq_getElem_cons Y0;rw[e];exact g9) λb o h3 h4 q=>Er b o h3 h4 (eG h3 (kp b o h4 q))
  let#[v,e,r]:=hk (j+1) k' hj;exact#[v,by rw[<- e];congr 1;omega,r]
theorem fZ_{E:Aa->Ab->Prop}{s:Ab}{z TI TO i1 i2 l1 l2:Addr}{xs ys:aj}{ks:List K}{Q:Aa->Ab->Prop}(hh:A.handled=none)(D:mJ s.heap z TI TO i1 i2 l1 l2 0 xs.toArray ys.toArray)(hz:Zp s.heap z TI TO .none false)(b0:s.heap.IsList l1 xs.toArray)(e1:ks.length=xs.length)(e2:ks.length=ys.length)(hk:∀(j:Nat) k,ks[j]? = some k->∃v,xs[j]? = some v/\knd.is k v=true)(oj:ks.length<=1000)
  (h:∀h' fR,h'.DictOf knd s.heap.objs.size (eW [] (ks.zip ys))->(∀b o,b∉[z,TO,i1,i2]->s.heap.get? b\o->h'.get? b\o)->Q (.ref s.heap.objs.size) { s with heap:=h',toks:=fR }) :
  wpAny (model prog w) A (call (.type "dict") [.ref z]) Q E s:=by
 apply callType_codes (Q₁:=λobj aL=>obj=.ref s.heap.objs.size/\aL={ s with heap:=s.heap.push { cls:=.type "dict",data:=.dict #[] } }) F.kt_called_dict (F.kt_typeCall_dict_1 _) F.entry_dict_init (kt_code_dict_new _ #[U,U]) ?_;rintro obj aL ⟨rfl,rfl⟩;have gh:(s.heap.push { cls:=.type "dict",data:=.dict #[] }).DictOf knd s.heap.objs.size []:=Heap.DictOf.new s.heap;have z1:Zp (s.heap.push { cls:=.type "dict",data:=.dict #[] }) z TI TO .none false:=bo _ hz;apply#[gh.typeIs,F.args_dict_init_2 _ _,?_];unfold Builtin.«dict.__init__» Builtin.Dict.selfAndRest;apply ai (ai (wpAny_notOrdered_dict gh.typeIs ?_));apply (show wpAny _ _ (pure (s.heap.objs.size,[Value.ref z])) _ _ _ from aI ?_);apply (show wpAny _ _ (Builtin.Dict.updateFrom "dict.__init__" s.heap.objs.size (.ref z) [] .none) _ _ _ from ?_);unfold Builtin.Dict.updateFrom;apply ai (wpAny_typeOf (T:="zip") #[_,z1,U] ?_);rw[aK (by decide)];apply ai (vL z1 hh λh2 P_ k2=>?_);simp only[Option.isNone_none,if_true];have z2:IsZip h2 z TI TO .none:=k2 _ _ z1;apply ai (wpAny_rule (ai (wpAny_pyIter_zip z2 ?_)));apply aI #[plainId_quiet qp _,?_];have all:∀c o,s.heap.get? c\o->h2.get? c\o:=λc o q=>k2 _ _ (bo _ q)
 have lt:∀{b},b∈[z,TO,i1,i2]->b<s.heap.objs.size:=λ{b} hb=>by
  let#[nd,ti,ls,hI,#[a,b,hO],s1,s2,Ru]:=D;simp only[cg,ig,or_false] at hb;rcases hb with rfl|rfl|rfl|rfl
  ·exact bK hz
  ·exact bK hO
  ·exact s1.lt.1
  exact s2.lt.1
 apply Y_ (A:=A.in1) (knd:=knd) (d:=s.heap.objs.size) (xs:=xs) (ys:=ys) (λhm=>uh _ (lt hm)) hh ks 0 [] _ _ 0 Y0 Y0 (λj k hj=>by simpa using hk j k hj) (D.zR all) (b0.at λo q=>all _ _ q) (GF gh λo q=>k2 _ _ q) ⇑oj λh' fR g9 kp=>#[U,h h' fR ⇑g9 λb o hb q=>kp b o (dH (bK q)) hb (all _ _ q)]
end
end c_
namespace c_
open PySem PySem.W PyProof.Rows
section
variable{prog:Ad}{w:Af}{A:Ag}{E:Aa->Ab->Prop}{s:Ab}
end
end c_
namespace L2
open PySem PySem.Spec PySem.Calls PyProof.Rows PySem.W c_
inductive UD (K:af) (Q:VK) (vs:ag) (H1:Hp):Prop
 |mk:∀(l t:Addr) (ns:ae) (ys:ag),vs=[.ref l,.ref t]->d6 K H1 l (ns.map V.str)->fH K H1 t ys->ys.length=ns.length->ns.length<=1000->(∀d,H1 d=none->Q (.ref d) (upd H1 d (.dK (wR [] ((ns.zip ys).map λp=>(Sum.inr p.1,p.2))))))->UD K Q vs H1
def qI(K:af)(ta:TA):TE:=λσ H Q=>ta σ H λvs H1=>UD K Q vs H1
theorem Rm:∀{ns:ae} {ys:ag} {us:aj},Vals ys us->KV ((ns.zip ys).map λp=>((Sum.inr p.1:Key),p.2)) ((ns.map Sum.inr).zip us)
 |[],_,_,_=>by simp only[List.zip_nil_left,List.map_nil];exact Paired.nil
 |_::_,_,_,.nil=>by simp only[List.zip_nil_right,List.map_nil];exact Paired.nil
 |n::ns,y::ys,u::us,.cons r t=>.cons #[U,r] (Rm t)
theorem fS_{X:Cx}{a:Expr}{es:List Expr}{ta:TA}{p1 p2 oX oW:Pos}(gD:Gl X "dict")(mD:X.mg "dict"=none)(gZ:Gl X "zip")(mZ:X.mg "zip"=none)(ha:PA X (a::es) ta)(hc:X.calm=true:=by rfl)
  (h1:starEach (a::es) X.env=(false,eval a X.env)::starEach es X.env:=by rfl) (h2:starEach [.Call (.Name "zip" p2) (a::es) [] oW] X.env=(false,eval (.Call (.Name "zip" p2) (a::es) [] oW) X.env)::starEach [] X.env:=by rfl)
  (h3:(backTo oX (starEach [] X.env)).any (·.1)=false:=by rfl) (h4:(backTo oW (starEach es X.env)).any (·.1)=false:=by rfl):PE X (.Call (.Name "dict" p1) [.Call (.Name "zip" p2) (a::es) [] oW] [] oX) (qI X.K ta):=by
 intro pins s σ H Q I h;apply wpAny_Call_Name_kw (wJ I gD mD qg ?_ (by decide) (by decide));apply CJ ?_ h2 h3;rw[h2];apply (show wpAny _ _ (spliced ((false,eval (.Call (.Name "zip" p2) (a::es) [] oW) X.env)::backTo oX (starEach [] X.env))) _ _ s from Calls.spliced_cons ?_);apply wpAny_Call_Name_kw (wJ I gZ mZ boot_zip ?_ (by decide) (by decide));apply CJ (aU (ha oW pins s σ H _ I h) λus s1 ⟨vs,H1,I1,r1,q1⟩=>?_) h1 h4;let#[l,t,ns,ys,e,sq,Wc,ly,oj,q]:=q1;subst e;cases r1 with
 |cons ra rr=>
 cases rr with
 |cons rb rr=>
 cases rr;cases ra;cases rb;let#[u1,v1,p1,_]:=I1.list sq;let#[u2,v2,p2,_]:=I1.tuple Wc;let e1:=v1.length;let e2:=v2.length;rw[aq] at e1;apply hy_ p1.isList p2 λh' z TI TO i1 i2 D hz new kp=>?_;have I2:Inv X pins σ H1 { s1 with heap:=h' }:=I1.kept (t':=s1.toks) kp;apply Calls.spliced_nil ?_;apply fZ_ (knd:=d0 X.prog X.w) (s:={ s1 with heap:=h' }) (ks:=ns.map Sum.inr) (I1.ok.hd hc) D hz (p1.isList.at λo e=>kp _ _ e) (by rw[aq];omega) (by rw[aq];omega) (λj k hj=>?_) (by rw[aq];exact oj) λg_ tk hd Yc=>?_
 ·rw[df,wZ] at hj;let#[n,hn,rfl]:=hj;let#[u,hu,ru]:=v1.get (i:=j) (x:=V.str n) (by rw[df,hn];rfl);exact#[u,hu,wD (k:=Sum.inr n) ru]
 have hk:∀b o,s1.heap.get? b\o->g_.get? b\o:=λb o e=>Yc b o (λhm=>Nat.not_lt.mpr (new b hm) (bK e)) (kp _ _ e);have fresh:s1.heap.objs.size<=h'.objs.size:=Nat.le_of_lt (Nat.lt_of_le_of_lt (new z Y1) (bK hz));let big:=I2.big;apply#[.ref h'.objs.size,_,I1.laid (t':=tk) hk fresh (Mx ?_ (beq_eq_false_iff_ne.mpr (dJ (dH big))) (KV.eW (Rm v2) .nil) hd),U,q _ (I1.aF.fresh fresh)];show (wR [] ((ns.zip ys).map λp=>((Sum.inr p.1:Key),p.2))).length<=sizeLine;have:=Pa ((ns.zip ys).map λp=>((Sum.inr p.1:Key),p.2)) [];rw[aq,List.length_zip] at this;have:=cK;simp only[List.length_nil] at *;omega
end L2
namespace c_
open PySem PySem.W PyProof.Rows
section
variable{prog:Ad}{w:Af}{A:Ag}{E:Aa->Ab->Prop}{s:Ab}
theorem OB(hh:A.handled=none)(it l:Addr)(ne:l≠it)(xs:Array Aa):Draws prog w A it [it,l] xs.size (λi v=>xs[i]? = some v) λi h=>h.IsTupleIter it l i/\h.IsTuple l xs where
 live:=λi h ⟨⟨o,e,_⟩,_⟩=>#[o,e]
 frame:=λi h h' ⟨a,b⟩ k=>#[a.at λo e=>k it Y1 o e,by let#[o,e,r]:=b;exact#[o,k l Y1 o e,r]]
 item:=λi s Q E hi ⟨a,b⟩ h=>nextT a b (Array.getElem?_eq_getElem hi) λh' a' sb=>h _ h' s.toks (Array.getElem?_eq_getElem hi) #[a',b.extBut sb.extBut ne] sb
 done:=λs Q E ⟨a,b⟩ hE=>by
  let#[o,ho,hc,hd]:=id a;let#[u,hu,_,n,hv]:=b;have hx:xs[xs.size]? = none:=Array.getElem?_eq_none (a9 _);unfold Builtin.SmallTypes.nextOf;apply ai (wK (name:=Str.ofString "__next__") a.typeIs F.slot_tuple_iterator_next (tQ F.slot_tuple_iterator_next a.typeIs F.entry_tuple_iterator_next ?_ (F.args_tuple_iterator_next_1 _)));apply (show wpAny _ _ (field (.ref it) 0 >>= _) _ _ s from ai (hJ ho hd (x:=.ref l) U ?_));apply (show wpAny _ _ (if (Value.ref l == Value.none)=true then _ else _) _ _ s from ?_);rw[aD (show ¬((Value.ref l == Value.none)=true) from gr)];apply (show wpAny _ _ (field (.ref it) 1 >>= _) _ _ s from ai (hJ ho hd (x:=.int xs.size 0) U ?_));apply (show wpAny _ _ (seqItems? (.ref l) >>= _) _ _ s from ai (wpAny_seqItems hu hv ?_));simp only[yR,hx];apply ai (wpAny_rule (ai (wpAny_setField ho hd Y1 ?_)));apply (show wpAny _ _ (newExc (.type "StopIteration") [] >>= _) _ _ _ from ai ?_);simp only[newExc,newTuple];apply ai (qd ?_ (by size_fits));apply ai (m:=firstArgMember _ _) (wpAny_of_eq (a:=Value.none) (by first|rfl|(simp only[firstArgMember];rfl)) ?_);apply qd ?_ (by size_fits);simp only[raiseNew];apply ai (wpAny_handled ?_)
  first|rw[show A.in1.handled=none from hh]|rw[hh]
  apply ai (aI (wpAny_throw ?_));exact hE _ _ (((Heap.SameBut.update ..).extBut.push _).push _) #[_,dq _ U,U]
theorem eB_(l:Addr)(xs:Array Aa):Meets (Builtin.«enumerate.__new__» #[[.type "enumerate",.ref l],[]]) (λ_ R s=>s.heap.IsTuple l xs /\
   R (.ok (.ret (.ref (yW s.heap l).objs.size))) { s with heap:=(yW s.heap l).push { cls:=.type "enumerate",data:=.fields (List.toArray [.none,.bool false,.ref s.heap.objs.size,rawInt 0,.none,.none]) } }):=
 .of_wp λprog w A R s h=>by
  let#[hp,g,d,tk,os]:=s;let#[a,h]:=h;let EJ:=sub_enumerate;let#[o,ho,hc,n,hd]:=id a;have hL:Heap.IsTuple (Shared.heap #[hp,g,d,tk,os]) l xs:=a
  wp_walk using AutoSeq1.wpAny_loadPart' ho
  apply wpAny_stack_any λst=>aI ?_;split
  ·rename_i c _ _ _ _ _
   cases (c == Value.type "enumerate")
   ·wp_walk using AutoSeq1.wpAny_loadPart' ho,wpAny_pyIter_tuple hL
    exact#[_,U,h]
   wp_walk using AutoSeq1.wpAny_loadPart' ho,wpAny_pyIter_tuple hL
   exact#[_,U,h]
  wp_walk using AutoSeq1.wpAny_loadPart' ho,wpAny_pyIter_tuple hL
  exact#[_,U,h]
end
end c_
namespace c_
open PySem PySem.W PyProof.Rows
section
variable{prog:Ad}{w:Af}{A:Ag}{E:Aa->Ab->Prop}{s:Ab}
theorem fF_{l:Addr}{xs:Array Aa}{Q:Aa->Ab->Prop}(hL:s.heap.IsTuple l xs)
  (h:∀h',IsEnum h' (s.heap.objs.size+1) s.heap.objs.size 0 .none->h'.IsTupleIter s.heap.objs.size l 0->(∀b o,s.heap.get? b\o->h'.get? b\o)->Q (.ref (s.heap.objs.size+1)) { s with heap:=h' }) :
  wpAny (model prog w) A (call (.type "enumerate") [.ref l]) Q E s:=by
 apply callType_new F.called_enumerate (by decide) (F.typeCall_enumerate_1 _) (F.newCall_enumerate_1 _) (λobj=>F.args_object_init_2 obj _) F.entry_enumerate_new (eB_ l xs) #[hL,?_];have hz:(yW s.heap l).objs.size=s.heap.objs.size+1:=Heap.size_push ..;have g2:((yW s.heap l).push { cls:=.type "enumerate",data:=.fields (List.toArray [.none,.bool false,.ref s.heap.objs.size,rawInt 0,.none,.none]) }).get? (yW s.heap l).objs.size\_:=dq _ U;have g1:((yW s.heap l).push { cls:=.type "enumerate",data:=.fields (List.toArray [.none,.bool false,.ref s.heap.objs.size,rawInt 0,.none,.none]) }).get? s.heap.objs.size\_:=bo _ (dq _ U);show _/\_;rw[hz] at g2 ⊢;exact#[#[_,g2,U],h _ g2 #[_,g1,U,U] λb o x=>bo _ (bo _ x)]
end
end c_
namespace L2
open PySem PySem.Spec PyProof.Rows PySem.W c_
def uA(K:af)(a:Addr):It:=
 #[λi H=>∃xs x,fH K H a xs/\xs[i]? = some x,λi H y H'=>∃t x,y=.ref t/\H t=none/\(∀xs,fH K H a xs->xs[i]? = some x)/\H'=upd H t (.tup [.int i,x]),λi H=>∃xs,fH K H a xs/\xs.length=i]
theorem fz_{P:Ad}{w:Af}{K:af}{elts:List Expr}{k:Nat}{pos:Pos}(a e it:Addr)(h1:e≠it)(h2:a≠e)(h3:a≠it):Turn P w K (.Tuple elts k pos) (uA K a) [e,it] e (λi h=>(∃old,IsEnum h e it i old)/\h.IsTupleIter it a i) where
 mem:=by simp
 obj:=λi h st b hb=>by
  let#[#[old,q],o,e2,c,d]:=st;rcases cg.mp hb with rfl|hb
  ·exact#[_,q,λv z=>by cases z]
  obtain rfl:b=it:=⇑hb
  exact#[o,e2,λv z=>by rw[d] at z;cases z]
 keep:=λi h h' st kk=>by
  let#[#[old,q],cQ]:=st;exact#[#[old,kk e Y1 _ q],cQ.at λo q2=>kk it Y1 o q2]
 item:=by
  intro X hP hw hK hc i pins s σ H E I hf st hg;subst hP hw hK;let#[xs,x,hq,hx]:=hg;let#[its,rv,p,hz]:=I.tuple hq;let#[u,hu,ru]:=rv.get hx;have p:s.heap.IsTuple a its.toArray:=p;let W:=WalksT.enumerateD (A:=X.A) (OB (prog:=X.prog) (w:=X.w) (A:=X.A.in1) (I.ok.hd hc) it a h3 its.toArray) e h1 (by simp[h1,dJ h2]) Y1
  have hi:i<its.toArray.size:=by
   simp only[cY];exact (cw.mp hu).1
  let#[old,he]:=st.1;apply wpAny_pyNext_enum_itemD (OB (prog:=X.prog) (w:=X.w) (A:=X.A.in1) (I.ok.hd hc) it a h3 its.toArray) he #[st.2,p] hi h1 (by simp[h1,dJ h2]) λx' h' t vU ho dY yc hsz hk=>?_
  have ex:x'=u:=by
   rw[List.getElem?_toArray,hu] at vU;exact (dO vU).symm
  subst ex;have AQ:e<s.heap.objs.size:=bK he;have AN:it<s.heap.objs.size:=by let#[_,x,_]:=st.2;exact bK x
  have mid:(∃x,IsEnumOut h' e it ((i:Int)+1) x s.heap.objs.size)/\(h'.IsTupleIter it a (i+1)/\h'.IsTuple a its.toArray)/\s.heap.objs.size≠e/\s.heap.objs.size≠it:=#[#[_,ho],dY,jf AQ,jf AN];have kk:∀b o,b∉[e,it]->s.heap.get? b\o->h'.get? b\o:=λb o hb x=>hk b o (λe'=>hb (by simp[e'])) (λe'=>hb (by simp[e'])) x;have B8:h'.IsTuple s.heap.objs.size (List.toArray [.int i t,x']):=#[_,yc,U,_,U];obtain⟨T,eT⟩:∃T,T=s.heap.objs.size:=#[_,U];obtain⟨tk,B_⟩:∃tk,tk=t+1:=#[_,U];rw[<- eT] at B8 mid yc ⊢;have hT:s.heap.objs.size<=T:=Nat.le_of_eq eT.symm;rw[<- B_];apply#[_,U,W.go elts k pos i T { s with heap:=h',toks:=tk } _ _ mid λg_ dY As=>?_];have nT:T∉[e,it]:=W.apart i T h' mid
  have Au:g_.IsTuple T (List.toArray [.int i t,x']):=by
   let#[o,q,r]:=B8;exact#[o,As T o nT q,r]
  have I1:Inv X pins σ (upd H T (.tup [.int i,x])) { s with heap:=g_,toks:=tk }:=I.iM (t':=tk) (fp:=[e,it]) (its:=[.int i t,x']) (λb o hb q=>As b o hb (kk b o hb q)) hf hT (zl) (.cons #[t,U] (.cons ru .nil)) #[Au,_,As T _ nT yc,U];apply#[.ref T,_,I1,U,#[T,x,U,I.aF.fresh hT,λys hy=>by rw[I.dz hy hq];exact hx,U],#[?_,dY.2.1],λb hb=>?_]
  ·let#[old,q]:=dY.1;exact#[old,by simpa using q]
  rw[aB (λz:b=T=>nT (by rw[<- z];exact hb))];exact (hf b hb).1
 done:=by
  intro X hP hw hK hc i pins s σ H E I hf st hg;subst hP hw hK;let#[xs,hq,hx]:=hg;let#[its,rv,p,hz]:=I.tuple hq;have p:s.heap.IsTuple a its.toArray:=p;let W:=WalksT.enumerateD (A:=X.A) (OB (prog:=X.prog) (w:=X.w) (A:=X.A.in1) (I.ok.hd hc) it a h3 its.toArray) e h1 (by simp[h1,dJ h2]) Y1
  have hn:its.toArray.size=i:=by
   have:=rv.length;simp only[cY];omega
  apply W.done s _ _ (by rw[hn];exact#[st.1,st.2,p]) λh' tk kk=>#[U,I.gP (t':=tk) (fp:=[e,it]) kk hf]
 self:=λA i s Q E st h=>by
  let#[old,q]:=st.1;exact wpAny_pyIter_enum q h
inductive n5 (K:af) (R:It->Hp->Prop) (vs:ag) (H1:Hp):Prop
 |mk:∀a,vs=[.ref a]->(∃xs,fH K H1 a xs)->R (uA K a) H1->n5 K R vs H1
def Ay(K:af)(ta:TA):TI:=λσ H R=>ta σ H λvs H1=>n5 K R vs H1
theorem _C{X:Cx}{elts:List Expr}{kk:Nat}{p2:Pos}{a:Expr}{ta:TA}{p pos:Pos}(hg:Gl X "enumerate")(hm:X.mg "enumerate"=none)(ha:PA X [a] ta)(hs:starEach [a] X.env=[(false,eval a X.env)]:=by rfl):PI X (.Tuple elts kk p2) (.Call (.Name "enumerate" p) [a] [] pos) (Ay X.K ta):=by
 intro pins s σ H R I h;apply Call_ (wJ I hg hm boot_enumerate (CJ (aU (ha pos pins s σ H _ I h) λus s1 ⟨vs,H1,I1,r1,q1⟩=>?_) hs U));let#[l,e,#[xs,hq],q]:=q1;subst e;cases r1 with
 |cons r rr=>
  cases rr;cases r;let#[its,rv,pl,hz]:=I1.tuple hq;have pl:s1.heap.IsTuple l its.toArray:=pl;have ll:l<s1.heap.objs.size:=by let#[_,e,_]:=pl;exact bK e
  apply fF_ pl λh' he hi kp=>?_;apply wpAny_pyIter_enum he ?_;apply#[s1.heap.objs.size+1,[s1.heap.objs.size+1,s1.heap.objs.size],_,_,H1,U,I1.kept (t':=s1.toks) kp,fz_ l _ _ (Nat.succ_ne_self _) (dH (Nat.lt_succ_of_lt ll)) (dH ll),#[#[_,he],hi],λb hb=>?_,q]
  have e:s1.heap.objs.size<=b:=by
   rcases cg.mp hb with rfl|hb
   ·exact Nat.le_succ _
   obtain rfl:b=s1.heap.objs.size:=⇑hb
   exact a9 _
  exact I1.i5 e (I1.aF.fresh e)
theorem h1_{K:af}{a:Addr}{xs:ag}{g:TG}{tb:TS}{D:Ends}{σ:St}{H:Hp}(Pv:dG)(h0:Pv 0 σ H)(hl:∀i σ H,i<=xs.length->Pv i σ H->fH K H a xs)
  (hs:∀i x σ H,xs[i]? = some x->Pv i σ H->∀t,H t=none->g (.ref t) σ (upd H t (.tup [.int i,x])) λgc H2=>tb { D with nx:=Pv (i+1),ct:=Pv (i+1),bk:=D.nx } gc H2) (hd:∀σ H,Pv xs.length σ H->D.nx σ H) :
  ∃W:Nat->Nat->St->Hp->Prop,(∃m,W 0 m σ H)/\∀i m σ H,W i m σ H->
   ((uA K a).stop i H/\D.nx σ H)∨((uA K a).go i H/\∃N:St->Hp->Prop,(∀bf H',N bf H'->∃m',m'<m/\W (i+1) m' bf H')/\∀x H',(uA K a).vq i H x H'->g x σ H' λgc H2=>tb { D with nx:=N,ct:=N,bk:=D.nx } gc H2):=by
 apply#[λi m σ H=>m=xs.length - i/\i<=xs.length/\Pv i σ H,#[xs.length,by simp,gO _,h0],?_];rintro i m σ H ⟨rfl,hi,p⟩;let q:=hl i σ H hi p;by_cases dR:i<xs.length
 ·apply .inr #[#[xs,xs[i],q,by simp[dR]],Pv (i+1),λbf H' p'=>#[xs.length - (i+1),by omega,U,dR,p'],λx H' y=>?_];let#[t,x,rfl,ht,y,rfl]:=y;exact hs i x σ H (y xs q) p t ht
 have e:i=xs.length:=by omega
 subst e;exact .inl #[#[xs,q,U],hd σ H p]
def y8(tk tv:TE):TE:=λσ H Q=>∀p,H p=none->tk σ (upd H p (.dT [])) λx H1=>tv σ H1 λy H2=>H2 p\.dT []/\∃b k,x=.ref b/\H2 b\.tup (k.map kV)/\Q (.ref p) (upd H2 p (.dT [(k,y)]))
theorem S4{X:Cx}{pos:Pos}{k v:Expr}{tk tv:TE}(hu:X.A.units+1<cLine)(hk:PE X k tk)(hv:PE X v tv):PE X (.Dict [some k] [v] pos) (y8 tk tv):=by
 intro pins s σ H Q I q;let hn:=I.aF.fresh (a9 s.heap.objs.size);let I1:=I.laid (a:=s.heap.objs.size) (o:=.dT []) (h':=s.heap.push { cls:=.type "dict",data:=.dict #[] }) (t':=s.toks) (λ_ _ q=>bo _ q) (a9 _) (SK s.heap I.big);let shape:=zip_pairTrees [some k] [v] X.env pos U U;rw[arm_eval_Dict,shape,dictDisplay_pairs (pairTrees [some k] [v] X.env pos) (by intro e;exact absurd (eY List.length e) (by rw[pairTrees_length [some k] [v] X.env pos U U];exact Nat.one_ne_zero)) (by rw[pairTrees_length [some k] [v] X.env pos U U];exact (by decide:1<17))];apply ai (wpAny_standAt (ai ?_));unfold subDict;apply ai (wpAny_alloc (ai (gR ?_)));rw[aK (by rw[pairTrees_length [some k] [v] X.env pos U U];exact (by decide:1<=15))];apply ai (pairTrees_cons_walk (aU (hk pins _ σ _ _ I1 (q _ hn)) λu s2 ⟨x,H2,I2,rx,q2⟩=>aU (hv pins s2 σ H2 _ I2 q2) λr s3 ⟨y,H3,I3,ry,e,b,kk,ex,eb,q3⟩=>pairTrees_nil_walk ?_));subst ex;cases rx;let#[z,hd,xs,rel,dd]:=Ll I3.aF e;cases rel;apply gR ?_;apply ai ?_;simp only[List.forIn_cons,List.forIn_nil];apply ai (ai (wpAny_dictSet_heap (hsz:=by simp) (show (tupleKind (d0 X.prog X.w)).room X.A from Nat.lt_of_succ_lt hu) (wG I3.aF eb) dd λh' CC hs=>aI (aI (aI (aI (aI ?_))))));let#[ob,es,ep,hq,h2,h3,h4,_,h5]:=CC;apply#[.ref s.heap.objs.size,_,M8 (ob:=.dT [(kk,y)]) I3 (by rw[e];exact True.intro) hs #[ob,hq] #[zl,hd,_,(KT.put (H:=H3) (kvs:=[]) (xs:=[]) .nil kk eb ry).keeps λc ys ec=>?_,ob,es,ep,hq,h2,h3,h4,h5],U,q3];rw[aB (bO ec e nofun)];exact ec
end L2
namespace L2
open PySem PySem.Spec PyProof.Rows
section
variable{X:Cx}
end
end L2
namespace L2
open PySem PySem.Spec PyProof.Rows PySem.Builtin PySem.Builtin.Str
theorem Ua:∀{ss:ae} {us:aj},Vals (ss.map V.str) us->StrsAre us ss
 |[],_,.nil=>.nil
 |x::ss,_,.cons r rs=>by
  let#[t,rfl]:=r;exact .cons x t (Ua rs)
section
variable{X:Cx}
end
end L2
namespace L2
open PySem PySem.Spec PyProof.Rows PySem.W
section
variable{X:Cx}
end
end L2
namespace L2
open PySem PySem.Spec PyProof.Rows PySem.W
section
variable{X:Cx}
end
end L2
namespace c_
open PySem PySem.W PyProof.Rows
section
variable{prog:Ad}{w:Af}{A:Ag}{E:Aa->Ab->Prop}{s:Ab}
end
end c_
namespace L2
open PySem PySem.Spec PyProof.Rows PySem.W c_
section
variable{X:Cx}{o i e value:Expr}{pos pos' Dg:Pos}{td ty tv:TE}
end
section
variable{X:Cx}
end
end L2
namespace L2
open PySem PySem.Spec PyProof.Rows PySem.W c_
section
variable{X:Cx}
end
section
variable{X:Cx}{CX:kZ}{k:Nat}{f C:Addr}{fd:Ae}{ps ks:ae}{sp:Sp}{E:XK}{m:Str}{pos apos:Pos}{e o:Expr}{es:List Expr}{B5:List Keyword}{ta:TE}{t tk:TA}{g:aj->aj->aj}{gV:ag->ag->ag}
end
structure FunD (K:af) (x qual:Str) (st:Stmt) (f:Addr) (fd:Ae):Prop where
 ex:∃(oc:Aa) (od:Option Addr) (T:Addr) (kV doc pm:Aa) (an:Option Addr) (aO ct:Aa) (jG:Array (Option Aa)) (o:Obj) (n:Nat),
  fd=PySem.W.fnOf x qual (gQ st) (f_ st) (a_ st) (.ref T) kV doc pm an aO ct/\K.lookup f=some #[oc,od,.func fd,jG]/\PySem.W.codeIn K aO qual=true/\K.lookup T\o/\o.data=.seq (List.toArray [.none]) n
end L2
namespace L2
open PySem PySem.Spec PyProof.Rows PySem.W c_
open AutoSeq1 (wpAny_loadPart')
theorem db_{prog:Ad}{w:Af}(r:Addr)(o:Obj)(hc:o.cls=.type "dict_values")(φ:aj->Ab->Prop) :
  MeetsIn prog w (Builtin.«tuple.__new__» #[[.type "tuple",.ref r],[]]) (λA R s=>s.heap.get? r\o/\A.handled=none/\(∀(A':Ag) (E':Aa->Ab->Prop) (Rr:aj->Ab->Prop),A'.handled=none->(∀vs s1,φ vs s1->Rr vs s1)->wpAny (model prog w) A' (collect (.ref r)) Rr E' s)/\∀vs s1,φ vs s1->vs.length<=sizeLine/\R (.ok (.ret (.ref s1.heap.objs.size))) { s1 with heap:=s1.heap.push { cls:=.type "tuple",data:=.seq vs.toArray } }):=
 .of_wp λA R s h=>by
  let#[hp,g,d,tk,os]:=s;let#[ht,hh,col,h]:=h;let EJ:=sub_tuple_self;let RS:=init_tuple_lookup;let hmh:=madeHere_tuple;have hT:Shared.TypeIs #[hp,g,d,tk,os] (.ref r) "dict_values":=#[o,ht,hc];have Of:∀{Rr:aj->Ab->Prop} {E':Aa->Ab->Prop},(∀vs s1,φ vs s1->Rr vs s1)->wpAny (model prog w) A.in1 (collect (.ref r)) Rr E' #[hp,g,d,tk,os]:=λh=>col A.in1 _ _ hh h
  wp_walk using pF ht,wpAny_typeOf hT,Of
  intro vs s1 hv;let#[hz,h]:=h vs s1 hv;apply (show wpAny _ _ (Builtin.Tuple.tupleExact vs.toArray >>= λv=>ret v) _ _ _ from ?_);unfold Builtin.Tuple.tupleExact;apply ai (qd ?_ (by show vs.toArray.size<=sizeLine;simpa using hz));exact aI #[_,U,h]
section
variable{X:Cx}
inductive xG (xs:ag) (H:Hp) (Q:VK):Prop
 |mk:∀v d kvs,xs=[.ref v]->H v\qe v d->H d\.dK kvs->(∀l,H l=none->Q (.ref l) (upd H l (.tup (kvs.map (·.2)))))->xG xs H Q
theorem T5(hc:X.calm=true):gn X (.type "tuple") xG:=by
 intro pins s σ H xs us Q I r h;let#[v,d,kvs,rfl,hv,hd,q]:=h;let#[u,rfl,ru]:=vals1 r;cases ru;let#[z,hdn,vs,rel,dd]:=kR I.aF (.inl hd);let#[ep,dat]:=dd.dictAt;let#[iv,_,_]:=I.aF v _ hv;let hl:=rel.length;let#[o,ho,oc,_]:=id iv
 have col:∀(A':Ag) (E':Aa->Ab->Prop) (Rr:aj->Ab->Prop),A'.handled=none->(∀ws s1,(Inv X pins σ H s1/\Vals (kvs.map (·.2)) ws)->Rr ws s1)->wpAny (model X.prog X.w) A' (collect (.ref v)) Rr E' s:=λA' E' Rr hh q=>by
  apply kdu_collect (kdl_values (knd:=d0 X.prog X.w) (kvs:=vs) (ep:=ep)) hh #[iv,dat] Y0 λh' tk acc k a=>q _ _ #[I.kept k,?_];have a':ItemsOf (λi v=>∃k,vs[i]? = some (k,v)) acc (kvs.map (·.2)).length:=by rw[aq,hl];exact a
  apply JP a' λj v ⟨k,e⟩ y hy=>?_;rw[df] at hy;cases e3:kvs[j]? with
  |none=>rw[e3] at hy;cases hy
  |some kv=>
   rw[e3] at hy;let#[u,hu,ru]:=ME rel j (k:=kv.1) (x:=kv.2) e3;rw[e] at hu;let hu:=dO hu;have g2:v=u:=eY Prod.snd hu;cases (dO hy:kv.2=y);rw[g2];exact ru
 apply callType_newIn F.called_tuple (by decide) (F.typeCall_tuple_1 _) (F.newCall_tuple_1 _) (λobj=>F.args_object_init_2 obj _) F.entry_tuple_new
  (db_ v o oc λws s1=>Inv X pins σ H s1/\Vals (kvs.map (·.2)) ws) #[ho,I.ok.hd hc,col,λws s1 ⟨I1,r1⟩=>#[?_,#[_,dq _ U,U],?_]]
 ·rw[<- r1.length,aq];exact z
 exact#[.ref s1.heap.objs.size,_,I1.laid (t':=s1.toks) (λb o e=>bo _ e) (a9 _) (show fj X.prog X.w _ _ _ (.tup (kvs.map (·.2))) from #[by rw[aq];exact z,ws,r1,IsTup.new _ _,_,dq _ U,U]),U,q _ (I1.aF.fresh (a9 _))]
end
end L2
namespace L2
open PySem PySem.Spec PyProof.Rows PySem.W c_
theorem _l{prog:Ad}{w:Af}{A:Ag}{E:Aa->Ab->Prop}{s:Ab}{t b:Addr}{ws:aj}{Q:Aa->Ab->Prop}(ht:IsTup s.heap t #[])(hb:IsTup s.heap b ws.toArray)(h:Q (.ref b) s):wpAny (model prog w) A (binaryOp .Add (.ref t) (.ref b)) Q E s:=by
 let#[#[cls,dd,data,sl],ho,hc,n,hd]:=id ht;let#[#[Oo,Jf,data2,He],fK,jt,n2,hd2]:=id hb;simp only at hc hd jt hd2;subst hc hd jt hd2;exact concat_meets #[_,ho,U] #[_,fK,U] noFill_tuple_add seq_tuple_add PySem.F.slot_tuple_add PySem.F.entry_tuple_add (PySem.F.args_tuple_add_2 _ _) (tuple_addW0 t b #[] ws.toArray n n2 dd Jf sl He U) #[ho,fK,h]
inductive sG (x:V) (y:V) (H:Hp) (Q:VK):Prop
 |mk:∀a b xs ys,x=.ref a->y=.ref b->H a\.tup xs->H b\.tup ys->xs.length+ys.length<=sizeLine->(∀p H',aa H H'->H' p\.tup (xs++ys)->Q (.ref p) H')->sG x y H Q
theorem wN{X:Cx}:dW X (binaryOp .Add) sG:=by
 intro pins s σ H x y v u Q I rx ry h;let#[a,b,xs,ys,rfl,rfl,ha,hb,hz,q]:=h;cases rx;cases ry;let#[its,r1,p1,_]:=I.tuple (.of ha);let#[iw,r2,p2,_]:=I.tuple (.of hb);by_cases z:its=[]
 ·subst z;let e:=r1.nV.mp rfl;exact _l p1 p2 ⟨.ref b,H,I,rfl,q _ _ (aa.refl H) (by rw[e];exact hb)⟩
 apply HT.wH p1 p2 z (λz2=>⟨.ref a,H,I,rfl,q _ _ (aa.refl H) ?_⟩) (λz2=>?_) (by rw[<- r1.length,<- r2.length];exact hz)
 ·rw[r2.nV.mp z2,List.append_nil];exact ha
 apply⟨.ref s.heap.objs.size,_,I.laid (t':=s.toks) (o:=.tup (xs++ys)) (λb ob q=>bo _ q) (a9 _) ?_,rfl,q _ _ (aa.new (I.aF.fresh (a9 _))) aA⟩;exact⟨by rw[dN];exact hz,_,r1.append r2,IsTup.new _ _,_,dq _ rfl,rfl⟩
end L2
namespace c_
open PySem PySem.W PyProof.Rows
theorem fT_{prog:Ad}{w:Af}(d:Addr)(es:Array DictEntry)(ep:Nat)(hd:(d == sysModules)=false):MeetsIn prog w (Builtin.«dict.__len__» ⟨[.ref d],[]⟩) (λ_ R s=>Raw s.heap d es ep/\R (.ok (.ret (.int es.size s.toks))) { s with toks:=s.toks+1 }):=
 .of_wp λA R s ⟨hm,h⟩=>by
  let#[o,ho,hc,jR]:=hm;apply (show wpAny _ _ (dictSize d >>= _) _ _ s from ?_);unfold dictSize;apply ai (ai (wpAny_dictEntries ho jR (aI ?_)));apply (show wpAny _ _ (Builtin.Dict.pendingCount d >>= _) _ _ s from ai (wpAny_pendingCount_other hd ?_));apply wpAny_ret_mkInt ?_;rw[Nat.add_zero];exact h
theorem ho_{prog:Ad}{w:Af}{A:Ag}{E:Aa->Ab->Prop}{s:Ab}{d:Addr}{es:Array DictEntry}{ep:Nat}{Q:Aa->Ab->Prop}(hd:(d == sysModules)=false)(hm:Raw s.heap d es ep)(hfit:(es.size:Int)<2 ^ 63)
  (h:Q (.int es.size (s.toks+1)) { s with toks:=s.toks+1+1 }):wpAny (model prog w) A (call (.builtin "len") [.ref d]) Q E s:=by
 apply Calls.call_function_entry kind_len plain_len entry_len (args_len1 _) ?_;unfold Builtin.«len»;apply ai (m:=oneArg "len" _) (aI ?_);apply ai (m:=callSpecial? (.ref d) (Str.ofString "__len__")) (wK (name:=Str.ofString "__len__") hm.ty F.slot_dict_len (call_meetsIn F.slot_dict_len hm.ty F.entry_dict_len (F.args_dict_len_1 _) (fT_ d es ep hd) #[hm,?_]));apply (show wpAny _ _ _ _ _ { s with toks:=s.toks+1 } from ai (gR (aI ?_)));apply ai (wpAny_letGo ?_);apply (show wpAny _ _ (if ((es.size:Nat):Int)<0 then _ else _) _ _ _ from ?_);rw[aD Y0];apply (show wpAny _ _ (if ((es.size:Nat):Int) ≥ 2 ^ 63 then _ else _) _ _ _ from ?_);rw[aD Y0];exact ai (wpAny_mkInt (aI #[_,U,h]))
end c_
namespace L2
open PySem PySem.Spec PyProof.Rows PySem.W c_
inductive US (xs:ag) (H:Hp) (Q:VK):Prop
 |mk:∀a kvs,xs=[V.ref a]->H a\.dT kvs->Q (.int kvs.length) H->US xs H Q
theorem ge_{X:Cx}:gn X (.builtin "len") US:=by
 intro pins s σ H xs us Q I r h;let#[a,kvs,rfl,ha,q]:=h;let#[u,rfl,ru]:=vals1 r;cases ru;let#[z,hd,xs,rel,o,es,ep,ho,hc,jR,v_,nd]:=I.aF a _ ha
 have l1:es.size=xs.length:=by
  have:=eY List.length v_;simpa using this
 let l2:=bI rel;let sz:=cK;apply ho_ (es:=es) (ep:=ep) hd ⟨o,ho,hc,jR⟩ Y0 ⟨.int kvs.length,H,I.tok _,⟨_,by rw[l2,<- l1]⟩,q⟩
end L2
namespace Ev
open PySem L2
abbrev au:=ae
def sK(s:au):aw:=s.map Sum.inr
abbrev sV(s:au):ag:=s.map V.str
theorem iQ(s:au):(sK s).map kV=sV s:=by
 unfold sK;rw[cA];rfl
theorem FO{a b:au}(h:sK a=sK b):a=b:=by
 unfold sK at h;exact List.map_inj_right (λx y e=>iB e) |>.mp h
inductive Wk (N:au->au->Prop) (s0:au):Nat->au->Prop
 |z:Wk N s0 0 s0
 |s {k:Nat} {a b:au}:Wk N s0 k a->N a b->Wk N s0 (k+1) b
def Ds(N:au->au->Prop)(s0:au)(k:Nat)(s:au):Prop:=Wk N s0 k s/\∀j,j<k->¬Wk N s0 j s
section
variable{N:au->au->Prop}{s0:au}
theorem Wk.ds:∀{k:Nat} {s:au},Wk N s0 k s->∃j,j<=k/\Ds N s0 j s:=λ{k s} h=>by
 induction k using Nat.strongRecOn with
 |_ k ih=>
  by_cases c:∃j,j<k/\Wk N s0 j s
  ·let#[j,hj,hw]:=c;let#[i,hi,d]:=ih j hj hw;exact#[i,by omega,d]
  exact#[k,a9 _,h,λj hj hw=>c #[j,hj,hw]]
theorem Ds.prev{k:Nat}{s:au}(h:Ds N s0 (k+1) s):∃a,Ds N s0 k a/\N a s:=by
 let#[hw,hn]:=h;cases hw with
 |@s _ a _ ha tE=>exact#[a,#[ha,λj hj hw=>hn (j+1) Y0 (.s hw tE)],tE]
theorem Ds.down:∀{k:Nat} {s:au},Ds N s0 k s->∀i,i<=k->∃t,Ds N s0 i t
 |0,s,h,i,hi=>#[s,by rw[show i=0 by omega];exact h]
 |k+1,s,h,i,hi=>by
  by_cases c:i=k+1
  ·exact#[s,by rw[c];exact h]
  let#[a,ha,_]:=h.prev;exact ha.down i Y0
theorem Ds.inj{j k:Nat}{s:au}(h:Ds N s0 j s)(h2:Ds N s0 k s):j=k:=by
 rcases Nat.lt_trichotomy j k with c|c|c
 ·exact absurd h.1 (h2.2 j c)
 ·exact c
 exact absurd h2.1 (h.2 k c)
structure Bf (N:au->au->Prop) (s0:au) (k:Nat) (ks nw:List au):Prop where
 nd:ks.Nodup
 nn:nw.Nodup
 all:∀s,s∈ks ↔ ∃j,j<=k/\Wk N s0 j s
 new:∀s,s∈nw ↔ Ds N s0 k s
structure Wd (old seen ks fd:List au):Prop where
 nd:ks.Nodup
 nf:fd.Nodup
 all:∀s,s∈ks ↔ s∈old∨s∈seen
 new:∀s,s∈fd ↔ s∈seen/\s∉old
theorem Wd.start{old:List au}(nd:old.Nodup):Wd old [] old []:=#[nd,.nil,by simp,by simp]
theorem Wd.skip{old seen ks fd:List au}{a:au}(h:Wd old seen ks fd)(ha:a∈ks):Wd old (seen++[a]) ks fd:=by
 apply#[h.nd,h.nf,λs=>?_,λs=>?_]
 ·rw[h.all,dE,fw];apply#[λx=>x.imp id .inl,λx=>?_];rcases x with x|x|rfl
  ·exact .inl x
  ·exact .inr x
  exact (h.all _).mp ha
 rw[h.new,dE,fw];apply#[λ⟨x,y⟩=>#[.inl x,y],λ⟨x,y⟩=>#[?_,y]];rcases x with x|rfl
 ·exact x
 exact ((h.all _).mp ha).resolve_left y
theorem Wd.add{old seen ks fd:List au}{a:au}(h:Wd old seen ks fd)(ha:a∉ks):Wd old (seen++[a]) (ks++[a]) (fd++[a]):=by
 have no:a∉old:=λx=>ha ((h.all _).mpr (.inl x));have nf:a∉fd:=λx=>ha ((h.all _).mpr (.inr ((h.new _).mp x).1));apply#[?_,?_,λs=>?_,λs=>?_]
 ·rw[List.nodup_append];exact#[h.nd,by simp,λx hx y hy e=>ha (by rw[<- fw.mp hy,<- e];exact hx)]
 ·rw[List.nodup_append];exact#[h.nf,by simp,λx hx y hy e=>nf (by rw[<- fw.mp hy,<- e];exact hx)]
 ·rw[dE,dE,h.all];constructor
  ·rintro ((x|x)|x)
   ·exact .inl x
   ·exact .inr (.inl x)
   exact .inr (.inr x)
  rintro (x|x|x)
  ·exact .inl (.inl x)
  ·exact .inl (.inr x)
  exact .inr x
 rw[dE,dE,h.new,fw];constructor
 ·rintro (⟨x,y⟩|rfl)
  ·exact#[.inl x,y]
  exact#[.inr U,no]
 rintro⟨x|x,y⟩
 ·exact .inl #[x,y]
 exact .inr x
theorem Bf.start:Bf N s0 0 [s0] [s0]:=by
 have w0:∀s,Wk N s0 0 s ↔ s=s0:=λs=>#[λh=>by cases h;rfl,λh=>by rw[h];exact .z];apply#[by simp,by simp,λs=>?_,λs=>?_]
 ·rw[fw,<- w0];exact#[λh=>#[0,a9 _,h],λ⟨j,hj,h⟩=>by rw[show j=0 by omega] at h;exact h]
 rw[fw,<- w0];exact#[λh=>#[h,λj hj=>by omega],λh=>h.1]
theorem Bf.next{k:Nat}{ks nw seen iX fd:List au}(B:Bf N s0 k ks nw)(W:Wd ks seen iX fd)(hs:∀s,s∈seen ↔ ∃a∈nw,N a s):Bf N s0 (k+1) iX fd:=by
 have key:∀s,Wk N s0 (k+1) s->(∃j,j<=k/\Wk N s0 j s)∨s∈seen:=λs h=>by
  cases h with
  |@s _ a _ ha tE=>
   by_cases c:∃j,j<k/\Wk N s0 j a
   ·let#[j,hj,hw]:=c;exact .inl #[j+1,by omega,.s hw tE]
   exact .inr ((hs s).mpr #[a,(B.new a).mpr #[ha,λj hj hw=>c #[j,hj,hw]],tE])
 have sw:∀s,s∈seen->Wk N s0 (k+1) s:=λs h=>by
  let#[a,ha,hn]:=(hs s).mp h;exact .s ((B.new a).mp ha).1 hn
 apply#[W.nd,W.nf,λs=>?_,λs=>?_]
 ·rw[W.all,B.all];constructor
  ·rintro (⟨j,hj,h⟩|h)
   ·exact#[j,by omega,h]
   exact#[k+1,a9 _,sw s h]
  rintro⟨j,hj,h⟩;by_cases c:j=k+1
  ·rw[c] at h;exact key s h
  exact .inl #[j,by omega,h]
 rw[W.new,B.all];constructor
 ·rintro⟨h,n⟩;exact#[sw s h,λj hj hw=>n #[j,by omega,hw]]
 rintro⟨h,n⟩;have no:¬∃j,j<=k/\Wk N s0 j s:=λ⟨j,hj,hw⟩=>n j Y0 hw;exact#[(key s h).resolve_left no,no]
end
def pH(ns:ae):Nat->List au
 |0=>[[]]
 |n+1=>ns.flatMap λh=>(pH ns n).map (h::·)
theorem SL(ns:ae):∀n,(pH ns n).length=ns.length ^ n
 |0=>rfl
 |n+1=>by
  unfold pH;rw[List.length_flatMap];have:(ns.map λh=>((pH ns n).map (h::·)).length)=ns.map λ_=>ns.length ^ n:=u9 λh _=>by rw[aq,SL ns n]
  rw[this,List.map_const',List.sum_replicate_nat,Nat.pow_succ,Nat.mul_comm]
theorem SM{ns:ae}:∀{n:Nat} {s:au},s.length=n->(∀h∈s,h∈ns)->s∈pH ns n
 |0,s,e,_=>by rw[List.length_eq_zero_iff.mp e];exact fw.mpr U
 |n+1,[],e,_=>by cases e
 |n+1,h::s,e,hm=>by
  unfold pH;rw[List.mem_flatMap];exact#[h,hm h Y1,bx.mpr #[s,SM ⇑e (λx hx=>hm x (by simp[hx])),U]]
theorem Jn{ns:ae}{n:Nat}{l:List au}(nd:l.Nodup)(h:∀s∈l,s.length=n/\∀x∈s,x∈ns):l.length<=ns.length ^ n:=by
 rw[<- SL];exact List.Nodup.length_le_of_subset nd λs hs=>SM (h s hs).1 (h s hs).2
def uO(hs:Xa)(ts:Xb)(q:Pc)(h:Str):ae:=(near (aV hs) (bV ts) h).filter λo=>Cr hs ts q.2.2 (some h) (some o)
structure Mv (hs:Xa) (ts:Xb) (qs:aS) (a b:au) (m:Str × Str × Str):Prop where
 ex:∃(k:Nat) (q:Pc) (h h':Str),qs[k]? = some q/\a[k]? = some h/\h'∈uO hs ts q h/\b=a.set k h'/\m=(q.1,h,h')
def Nx(hs:Xa)(ts:Xb)(qs:aS)(a b:au):Prop:=∃m,Mv hs ts qs a b m
structure Vs (hs:Xa) (qs:aS) (a:au):Prop where
 len:a.length=qs.length
 hZ:∀h∈a,h∈aV hs
theorem Nx.vs{hs:Xa}{ts:Xb}{qs:aS}{a b:au}(h:Nx hs ts qs a b)(v:Vs hs qs a):Vs hs qs b:=by
 let#[m,k,q,x,y,h1,h2,h3,rfl,_]:=h;apply#[by rw[List.length_set];exact v.len,λz hz=>?_];rcases List.mem_or_eq_of_mem_set hz with h|rfl
 ·exact v.hZ z h
 exact (ub.mp (ub.mp h3).1).1
theorem Wk.vs{hs:Xa}{ts:Xb}{qs:aS}{s0:au}(v:Vs hs qs s0):∀{k:Nat} {s:au},Wk (Nx hs ts qs) s0 k s->Vs hs qs s:=λh=>by
 induction h with
 |z=>exact v
 |s _ n ih=>exact n.vs ih
inductive PB (hs:Xa) (ts:Xb) (qs:aS):au->List (Str × Str × Str)->au->Prop
 |nil {a:au}:PB hs ts qs a [] a
 |cons {a b c:au} {m:Str × Str × Str} {ms:List (Str × Str × Str)}:Mv hs ts qs a b m->PB hs ts qs b ms c->PB hs ts qs a (m::ms) c
def MQ(hs:Xa)(qs:aS)(f:bz)(a b:Int):Prop:=∀x∈aV hs,∀y∈aV hs,b * (fJ hs qs f x - fJ hs qs f y)<=a * fD hs
theorem Zt{hs:Xa}{qs:aS}{f:bz}{r a b:Int}(R:CK hs qs f r)(hb:0<b):MQ hs qs f a b ↔ b * r<=a * fD hs:=by
 let#[x,hx,y,hy,rfl,up]:=R;constructor
 ·exact λh=>h x hx y hy
 intro h z hz u hu;let h1:=(up z hz).1;let h2:=(up u hu).2;have:b * (fJ hs qs f z - fJ hs qs f u)<=b * (fJ hs qs f x - fJ hs qs f y):=Int.mul_le_mul_of_nonneg_left Y0 Y0;omega
theorem Z_{r M a b:Int}(hr:0<=r)(hM:0<M):a * (fr r M).2<(fr r M).1 * b ↔ a * M<r * b:=by
 have g0:0<(Int.gcd r M:Int):=by
  have:Int.gcd r M≠0:=λe=>by
   have:=Int.gcd_eq_zero_iff.mp e;omega
  omega
 have e1:(fr r M).1 * (Int.gcd r M:Int)=r:=Int.ediv_mul_cancel (Int.gcd_dvd_left ..);have e2:(fr r M).2 * (Int.gcd r M:Int)=M:=Int.ediv_mul_cancel (Int.gcd_dvd_right ..);have h1:a * (fr r M).2 * (Int.gcd r M:Int)=a * M:=by rw[Int.mul_assoc,e2]
 have h2:(fr r M).1 * b * (Int.gcd r M:Int)=r * b:=by rw[Int.mul_right_comm,e1]
 rw[<- h1,<- h2];exact#[λh=>Int.mul_lt_mul_of_pos_right h g0,λh=>Int.lt_of_mul_lt_mul_right h (iF g0)]
def A7(ns:ae)(s:au):bz:=λn=>((ns.zip s).lookup n).getD n
theorem Iz{ns:ae}{s:au}(nd:ns.Nodup){k:Nat}{n h:Str}(hn:ns[k]? = some n)(hh:s[k]? = some h):A7 ns s n=h:=by
 unfold A7
 have:(ns.zip s).lookup n\h:=by
  induction ns generalizing s k with
  |nil=>cases hn
  |cons m ns ih=>
   cases s with
   |nil=>cases hh
   |cons x s=>
    cases k with
    |zero=>
     cases dO hn;cases dO hh;simp[List.lookup]
    |succ k=>
     have hn:ns[k]? = some n:=⇑hn
     have hh:s[k]? = some h:=⇑hh
     have ne:(n == m)=false:=by
      rw[beq_eq_false_iff_ne];intro e;subst e;exact (kW.mp nd).1 (cJ hn)
     rw[List.zip_cons_cons,qr,ne];exact ih (kW.mp nd).2 hn hh
 rw[this];rfl
theorem Ra{ns:ae}{s:au}(nd:ns.Nodup)(hl:s.length=ns.length):((ns.zip (sV s)).map λp=>((Sum.inr p.1:Key),p.2))=gd ns (A7 ns s):=by
 apply List.ext_getElem? ?_;intro k;unfold gd dZ;rw[df,df];by_cases c:k<ns.length
 ·have h1:ns[k]? = some ns[k]:=aX c;have h2:s[k]? = some (s[k]' Y0):=aX Y0
  have h3:(ns.zip (sV s))[k]? = some (ns[k],V.str (s[k]' Y0)):=by
   rw[List.getElem?_zip_eq_some];exact#[h1,by rw[df,h2];rfl]
  rw[h3,h1,Option.map_some,Option.map_some];dsimp only;rw[Iz nd h1 h2]
 rw[List.getElem?_eq_none (by rw[List.length_zip];omega),List.getElem?_eq_none Y0];rfl
end Ev
namespace L2
open PySem PySem.Spec PyProof.Rows PySem.W
theorem SX{i:Int}(h:-(2 ^ 250)<i/\i<2 ^ 250):Builtin.Int.intBits i<=250:=by
 rw[intBits_le_iff];omega
def GX(i j:Int):Prop:=(-(2 ^ 250)<i/\i<2 ^ 250)/\(-(2 ^ 250)<j/\j<2 ^ 250)
theorem SI{X:Cx}:dW X (binaryOp .Mult) (rI GX λi j=>.int (i * j)):=BY λi j _ _ _ _ _ hc q=>mul_int q (by
 let h1:=SX hc.1;let h2:=SX hc.2;let e:=bitsLine_eq;unfold IntMulOk Builtin.Int.intTooBig;have z:¬((Builtin.Int.intBits i:Int)+(Builtin.Int.intBits j:Int) > (bitsLine:Int)):=by omega
 simp[z])
end L2
namespace Ev
open PySem L2
section v
theorem qX:bQ ["thing","least"] ["thing","least"] (a_ NA):=bZ
def TU:Sp:=λvs H Q _=>∃i a:Int,vs=[.int i,.int a]/\Q (.bl (decide (a<=i))) H
theorem gs_{f0:Addr}{fd:Ae}(F:bu K "is_whole_from" "is_whole_from" NA f0 fd)(cI:!bF 1 "is_whole" fM nz):!ak bc 2 f0 fd ["thing","least"] TU:=by
 exists F.bW qX;let#[i,a,rfl,k]:=h;apply#[_,aJ (bp (oy (bj cI hr %[0|0]) (pB (wQ tS (pv 1) (pv 0))))),?_];exact#[_,U,i,U,_,U,bN #[_,U,_,U,_,_,U,U,k]]
structure uW (l:Int × Int):Prop where
 b1:1<=l.2
 b2:l.2<2 ^ 200
 a1:-(2 ^ 200)<l.1
 a2:l.1<2 ^ 200
 g:Int.gcd l.1 l.2=1
abbrev hY(H:Hp)(t:Addr)(x:Int × Int):Prop:=H t=some (.tup [.int x.1,.int x.2])
theorem zB:bQ fM fM (a_ rQ):=bZ
def qR:Sp:=λvs H Q _=>∃(t:Addr) (l:Int × Int),vs=[.ref t]/\hY H t l/\uW l/\Q (.bl true) H
theorem Yn{f:Addr}{fd:Ae}(F:bu K "is_fraction" "is_fraction" rQ f fd)(B:Bi mg)(K7:mg "abs"=none)(cI:!bF 1 "is_whole" fM nz)(cF:!bF 2 "is_whole_from" ["thing","least"] TU)(cG:!bF 1 Cv mw vB):!ak bc 3 f fd fM qR:=by
 exists F.bW zB;let#[t,l,rfl,ht,lo,k]:=h;refine' #[_,ax ?s1 (ax ?s2 (aJ ?s3)),?kk]
 case s1=>exact b_ (iK (eM (d4 (bT gM (by rfl) B.gA gE %[0,gN (v:=.ty "tuple") (by rfl) B.tuple oC U|0]))) (jZ (eP ou (bT gx (by rfl) B.len fN %[0|0]) ay))).pt (aJ (bp jw)) cm
 case s2=>exact b_ (iK (eM (d4 (bj cI hr %[bg cj (pv 0) ay|0]))) (jZ (eM (d4 (bj cF hr %[bg cj (pv 0) ay,ay|0]))))).pt (aJ (bp jw)) cm
 case s3=>exact bp (wQ Lp (bj cG hr %[bT _u (by rfl) K7 PyProof.Rows.Boot.«abs» %[bg cj (pv 0) ay|0],bg cj (pv 0) ay|0]) ay)
 apply#[_,U,_,_,_,_,U,.tup ht,U,_,U,aH ?_];apply#[_,U,t,_,U,.inr (.of ht),U,_,U,?_];apply Ba (show V.int ((2:Nat):Int)=V.int 2 from U) ?_;apply#[_,U,t,_,_,_,U,U,.of ht,U,l.1,U,_,U,aH ?_];apply#[_,U,t,_,_,_,U,U,.of ht,U,l.2,1,U,_,U,?_];rw[dc lo.b1];apply aH ?_;apply#[_,U,t,_,_,_,U,U,.of ht,U,l.1,U,_,U,t,_,_,_,U,U,.of ht,U,_,l.2,U,?_,lo.b1,?_]
 ·split<;>omega
 have e:Int.gcd (if l.1<0 then -l.1 else l.1) l.2=1:=by
  split
  ·rw[Int.neg_gcd];exact lo.g
  exact lo.g
 rw[e];exact#[U,k]
theorem zy:bQ mw mw (a_ rP):=bZ
def Sm(x:Int × Int):Prop:=(-(2 ^ 250)<x.1/\x.1<2 ^ 250)/\(-(2 ^ 250)<x.2/\x.2<2 ^ 250)
inductive lE (vs:ag) (H:Hp) (Q:VK) (E:XK):Prop
 |mk:∀(t u:Addr) (x y:Int × Int),vs=[.ref t,.ref u]->hY H t x->hY H u y->Sm x->Sm y->Q (.bl (decide (x.1 * y.2<y.1 * x.2))) H->lE vs H Q E
theorem ZC{f:Addr}{fd:Ae}(F:bu K "is_less" "is_less" rP f fd):!ak bc 1 f fd mw lE:=by
 exists F.bW zy;let#[t,u,x,y,rfl,ht,hu,sx,sy,k]:=h;refine' #[_,aJ ?s1,?kk]
 case s1=>exact bp (wQ Fv (br SI (bg cj (pv 0) ay) (bg cj (pv 1) ay)) (br SI (bg cj (pv 1) ay) (bg cj (pv 0) ay)))
 apply#[_,U,t,_,_,_,U,U,.of ht,U,_,U,u,_,_,_,U,U,.of hu,U,_,_,U,U,#[sx.1,sy.2],?_];exact#[_,U,u,_,_,_,U,U,.of hu,U,_,U,t,_,_,_,U,U,.of ht,U,_,_,U,U,#[sy.1,sx.2],_,_,U,U,k]
theorem zE:bQ fM fM (a_ se):=bZ
def qV:Sp:=λvs H Q _=>∃(t:Addr) (l:Int × Int),vs=[.ref t]/\hY H t l/\uW l/\Q .non H
theorem Yl{f:Addr}{fd:Ae}(F:bu K "check_limit" "check_limit" se f fd)(cF:!bF 3 "is_fraction" fM qR):!ak bc 4 f fd fM qV:=by
 exists F.bW zE;let#[t,l,rfl,ht,lo,k]:=h;apply#[_,aJ (b_ (eM (d4 (bj cF hr %[0|0]))) gC cm),?_];exact#[_,U,t,l,U,ht,lo,_,U,aH k]
structure Gs (K:af) (CG CW:Addr) (H:Hp) (g p:Addr) (hs:Xa) (ts:Xb) (qs:aS) (fp:av):Prop where
 G:gq K CG CW H g p hs ts qs fp
 Gd:Good hs ts
 nd:(qs.map (·.1)).Nodup
 cX:qs.length<64
 wp:∀q∈qs,0<=q.2.1/\q.2.1<=1000000000
theorem Gs.same{CG CW:Addr}{H H':Hp}{g p:Addr}{hs:Xa}{ts:Xb}{qs:aS}{fp:av}(G:Gs K CG CW H g p hs ts qs fp)(s:aa H H'):Gs K CG CW H' g p hs ts qs fp:=#[G.G.same s,G.Gd,G.nd,G.cX,G.wp]
theorem Gs.placed{CG CW:Addr}{H H':Hp}{g p d:Addr}{hs:Xa}{ts:Xb}{qs:aS}{fp:av}{f:bz}(G:Gs K CG CW H g p hs ts qs fp)(s:aa H H')(hn:H d=none)(hd:H' d\.dK (gd (qs.map (·.1)) f))(at_:∀n∈qs.map (·.1),f n∈hs.map (·.1)):∃kK,Bw K CG CW H' g p d hs ts qs kK f:=by
 let#[kK,G',h]:=G.G.slim;apply#[kK,G'.same s,G.Gd,λhm=>?_,hd,at_,G.nd,G.cX];let#[o,e]:=h d hm;rw[hn] at e;cases e
theorem Vs.at_{hs:Xa}{qs:aS}{s:au}(v:Vs hs qs s)(nd:(qs.map (·.1)).Nodup):∀n∈qs.map (·.1),A7 (qs.map (·.1)) s n∈hs.map (·.1):=λn hn=>by
 let#[k,hk,e]:=gB hn;have hl:k<s.length:=by rw[v.len];simpa using hk
 rw[Iz nd (k:=k) (by rw[aX hk,e]) (aX hl)];exact (gv hs).mem_iff.mp (v.hZ _ (ke hl))
abbrev fS(qs:aS)(s:au):bz:=A7 (qs.map (·.1)) s
theorem zu:bQ ["goods","hands"] ["goods","hands"] (a_ rG):=bZ
inductive lu (K:af) (CG CW:Addr) (vs:ag) (H:Hp) (Q:VK) (E:XK):Prop
 |mk:∀(g p t:Addr) (hs:Xa) (ts:Xb) (qs:aS) (fp:av) (s:au),vs=[.ref g,.ref t]->Gs K CG CW H g p hs ts qs fp->H t\.tup (sV s)->s.length=qs.length->(∀d H',aa H H'->H d=none->H' d\.dK (gd (qs.map (·.1)) (fS qs s))->Q (.ref d) H')->lu K CG CW vs H Q E
theorem Zf{f CG CW:Addr}{fd:Ae}(F:bu K "placed_by" "placed_by" rG f fd)(B:Bi mg)(mZ:mg "zip"=none)(T:gy K CG)(cN:!bY CG 1 "names" pA (CQ K CG CW)):!ak bc 2 f fd ["goods","hands"] (lu K CG CW):=by
 exists F.bW zu;let#[g,p,t,hs,ts,qs,fp,s,rfl,G,ht,hl,k]:=h;let cX:=G.cX;apply#[_,aJ (bp (fS_ (by rfl) B.dict (by rfl) mZ %[Bs cN T.cl (hr.mono (by decide)) (pv 0),1|0])),?_];let#[dx,dw,dy,vs,dC,h1,_]:=id G.G.ex;apply#[_,U,g,dx,_,U,h1,wM _ _ _ Z0 Z0 Z0,g,p,hs,ts,qs,fp,U,G.G,λl fZ=>?_];let#[s1,e1]:=aC (o:=.lst ((qs.map (·.1)).map V.str)) fZ;generalize upd H l (.lst ((qs.map (·.1)).map V.str))=H1 at s1 e1 ⊢;apply#[_,U,l,t,qs.map (·.1),sV s,U,.of e1,.of (s1 _ _ ht),by rw[aq,aq];exact hl,by rw[aq];omega,λd hd=>?_];rw[Ra G.nd (by rw[aq];exact hl)]
 have jn:((gd (qs.map (·.1)) (fS qs s)).map (·.1)).Nodup:=by
  rw[CO,mG,ud];exact G.nd.imp λn e=>n (iB e)
 rw[yN jn];exact k d _ (s1.trans (aa.new hd)) (s1.free hd) aA
theorem Sr{hs:Xa}{ts:Xb}{qs:aS}{f:bz}{r:Int}(G:Good hs ts)(wp:∀q∈qs,0<=q.2.1/\q.2.1<=1000000000)(cX:qs.length<64)(R:CK hs qs f r):0<=r/\r<2 ^ 140:=by
 let#[x,hx,y,hy,rfl,up]:=R;let h1:=(up y hy).1;let h2:=XY G wp cX (f:=f) hy
 have h3:fJ hs qs f x<=64000000000 * fD hs:=by
  unfold fJ;let l1:=HP wp cX f x;let mo:=Bu G;let so:=Bj G hx;have q:fD hs / strOf hs x<=fD hs:=Int.ediv_le_self _ (iF mo.1);have q0:0<=fD hs / strOf hs x:=Int.ediv_nonneg (iF mo.1) Y0;exact Int.le_trans (Int.mul_le_mul_of_nonneg_left q l1.1) (Int.mul_le_mul_of_nonneg_right l1.2 (iF mo.1))
 let mo:=Bu G;omega
theorem QY{r M:Int}(hr:0<=r)(Cc:r<2 ^ 140)(hM:0<M)(hM2:M<2 ^ 100):0<=(fr r M).1/\(fr r M).1<2 ^ 140/\1<=(fr r M).2/\(fr r M).2<2 ^ 100/\Int.gcd (fr r M).1 (fr r M).2=1:=by
 have g0:0<Int.gcd r M:=by
  rcases Nat.eq_zero_or_pos (Int.gcd r M) with e|e
  ·have:=Int.gcd_eq_zero_iff.mp e;omega
  exact e
 have g1:0<(Int.gcd r M:Int):=by omega
 have e2:(fr r M).2 * (Int.gcd r M:Int)=M:=Int.ediv_mul_cancel (Int.gcd_dvd_right ..);have p1:0<=(fr r M).1:=Int.ediv_nonneg hr (iF g1);have p2:(fr r M).1<=r:=Int.ediv_le_self _ hr;have p3:(fr r M).2<=M:=Int.ediv_le_self _ (iF hM)
 have p4:1<=(fr r M).2:=by
  by_cases c:1<=(fr r M).2
  ·exact c
  have:(fr r M).2 * (Int.gcd r M:Int)<=0 * (Int.gcd r M:Int):=Int.mul_le_mul_of_nonneg_right Y0 (iF g1);omega
 exact#[p1,by omega,p4,by omega,Int.gcd_ediv_gcd_ediv_gcd g0]
noncomputable def mh (hs:Xa) (qs:aS) (s:au) (l:Int × Int):Bool:=@decide (MQ hs qs (fS qs s) l.1 l.2) (Classical.propDecidable _)
theorem Ss{hs:Xa}{qs:aS}{s:au}{l:Int × Int}:mh hs qs s l=true ↔ MQ hs qs (fS qs s) l.1 l.2:=by
 unfold mh;exact @decide_eq_true_iff _ (Classical.propDecidable _)
theorem rj:bQ oH oH (a_ NZ):=bZ
inductive O0 (K:af) (CG CW:Addr) (vs:ag) (H:Hp) (Q:VK) (E:XK):Prop
 |mk:∀(g p t lt:Addr) (hs:Xa) (ts:Xb) (qs:aS) (fp:av) (s:au) (l:Int × Int),vs=[.ref g,.ref t,.ref lt]->Gs K CG CW H g p hs ts qs fp->H t\.tup (sV s)->Vs hs qs s->hY H lt l->uW l->(∀H',aa H H'->Q (.bl (mh hs qs s l)) H')->O0 K CG CW vs H Q E
theorem gG_{f CG CW:Addr}{fd:Ae}(F:bu K "is_even" "is_even" NZ f fd)(cL:!bF 1 "is_less" mw lE)(cS:!bF 6 "spread_at" oB (JQ K CG CW))(cP:!bF 2 "placed_by" ["goods","hands"] (lu K CG CW)):!ak bc 7 f fd oH (O0 K CG CW):=by
 exists F.bW rj;let#[g,p,t,lt,hs,ts,qs,fp,s,l,rfl,G,ht,v,hl,lo,k]:=h;apply#[_,aJ (bp (Mz (bj cL hr %[2,bj cS hr %[0,bj cP hr %[0,1|0]|0]|0]))),?_];apply#[_,U,_,U,_,U,_,U,g,p,t,hs,ts,qs,fp,s,U,G,ht,v.len,λd H1 s1 n1 e1=>?_];let#[SW,Pl]:=G.placed s1 n1 e1 (v.at_ G.nd);apply#[g,p,d,hs,ts,qs,SW,fS qs s,U,Pl,G.wp,λu r H2 s2 R e2=>?_];let rl:=Sr G.Gd G.wp G.cX R;let mo:=Bu G.Gd;let fb:=QY rl.1 rl.2 mo.1 mo.2.1;apply#[lt,u,l,fr r (fD hs),U,s2 _ _ (s1 _ _ hl),e2,?_,?_,?_]
 ·have:=lo.a1;have:=lo.a2;have:=lo.b1;have:=lo.b2;exact#[#[by omega,by omega],by omega,by omega]
 ·exact#[#[by omega,by omega],by omega,by omega]
 let kk:=k H2 (s1.trans s2)
 have e:(!decide (l.1 * (fr r (fD hs)).2<(fr r (fD hs)).1 * l.2))=mh hs qs s l:=by
  rw[Bool.eq_iff_iff,Ss,Zt R (by have:=lo.b1;omega),Bool.not_eq_true',decide_eq_false_iff_not,Z_ rl.1 mo.1,Int.not_lt,Int.mul_comm]
 apply#[_,U,?_];rw[e];exact kk
end
end Ev
namespace Ev
open PySem L2
structure CY (H:Hp) (d:Addr) (hs:Xa) (ts:Xb) (ns:ae) (q:Pc) (ad:Str->Addr):Prop where
 at_:H d\.dK (dZ ns λh=>.ref (ad h))
 is:∀h∈ns,H (ad h)\.lst ((uO hs ts q h).map V.str)
def GU(H:Hp)(d:Addr)(hs:Xa)(ts:Xb)(q:Pc):Prop:=∃ad,CY H d hs ts (aV hs) q ad
theorem CY.same{H H':Hp}{d:Addr}{hs:Xa}{ts:Xb}{ns:ae}{q:Pc}{ad:Str->Addr}(h:CY H d hs ts ns q ad)(s:aa H H'):CY H' d hs ts ns q ad:=#[s _ _ h.at_,λx hx=>s _ _ (h.is x hx)]
theorem GU.same{H H':Hp}{d:Addr}{hs:Xa}{ts:Xb}{q:Pc}(h:GU H d hs ts q)(s:aa H H'):GU H' d hs ts q:=by
 let#[ad,h]:=h;exact#[ad,h.same s]
def xb(H:Hp)(l d:Addr)(hs:Xa)(ts:Xb)(q:Pc):Prop:=∃ad,CY H d hs ts (aV hs) q ad/\∀x∈aV hs,ad x≠l
theorem xb.same{H H':Hp}{l d:Addr}{hs:Xa}{ts:Xb}{q:Pc}(h:xb H l d hs ts q)(s:aa H H'):xb H' l d hs ts q:=by
 let#[ad,h,n]:=h;exact#[ad,h.same s,n]
def xc(H:Hp)(l:Addr)(hs:Xa)(ts:Xb)(qs:aS):Prop:=∃ds:av,H l\.lst (ds.map V.ref)/\Paired (λd q=>GU H d hs ts q) ds qs
theorem xc.same{H H':Hp}{l:Addr}{hs:Xa}{ts:Xb}{qs:aS}(h:xc H l hs ts qs)(s:aa H H'):xc H' l hs ts qs:=by
 let#[ds,h1,h2]:=h;exact#[ds,s _ _ h1,Paired.aQ h2 λd q x=>x.same s]
section v
theorem CH:bQ ["goods","web","found","piece","exits","one"] ["goods"] (a_ lX):=bZ
inductive Nn (K:af) (CG CW:Addr) (vs:ag) (H:Hp) (Q:VK) (E:XK):Prop
 |mk:∀(g p:Addr) (hs:Xa) (ts:Xb) (qs:aS) (fp:av),vs=[.ref g]->Gs K CG CW H g p hs ts qs fp->(∀l H',aa H H'->H l=none->xc H' l hs ts qs->Q (.ref l) H')->Nn K CG CW vs H Q E
theorem hZ_{f CG CW CP:Addr}{fd:Ae}(F:bu K "exits_of" "exits_of" lX f fd)(T:gy K CG)(TW:Txt K mg CW)(cN:!bY CG 1 "names" pA (CQ K CG CW))(cH:!bY CW 1 "hands" pA (Gw K CW))(cE:!bY CW 2 "neighbours" wA (N7 K CW))(cM:!bY CG 3 "may_go" ["self","piece","one","other"] (lF K CG CW CP)):!ak bc 4 f fd ["goods"] (Nn K CG CW):=by
 exists F.bW CH;let#[g,p,hs,ts,qs,fp,rfl,G,k]:=h;let hu:=fP hr;let sz:=cK;let cX:=G.cX;let nl:=G.Gd.iV;let h8:=G.Gd.h8;let iU:=G.Gd.iU;have jO:aY 1 _:=hr.mono (by decide);have Cc:aY 2 _:=hr.mono (by decide);have Cb:aY 3 _:=hr.mono (by decide);refine' #[_,ax ?s1 (ax ?s2 (ax ?s3 (aJ ?s4))),?kk]
 case s1=>exact bw 1 CH.nd (ja (pv 0) U)
 case s2=>exact bw 2 CH.nd (eJ bR)
 case' s3=>refine' d9 dU U ?i3 ?g3 (ax ?b1 (ax ?b2 (aJ ?b3)))
 case i3=>exact d5 (Bs cN T.cl jO (pv 0))
 case g3=>exact bX 3 CH.nd
 case b1=>exact bw 4 CH.nd F0
 case' b2=>refine' d9 dU U ?i4 ?g4 (aJ ?b4)
 case i4=>exact d5 (Bs cH TW.cl jO (pv 1))
 case g4=>exact bX 5 CH.nd
 case' b4=>refine' u5 hu (pv 4) (pv 5) (jd ["other","goods","one","piece"] 1 [0,5,3] (d5 (j2 cE TW.cl Cc (pv 1) %[5|0])) (λfp s H=>?g5) (λfp s H=>?c5) (λfp s H=>?e5)) U
 case g5=>exact fu (i:=0) (show (["other","goods","one","piece"]:ae).Nodup by decide +kernel) U (Or.inl U)
 case c5=>exact Jj (d4 (j2 cM T.cl Cb (pv 1) %[3,2,0|0]))
 case e5=>exact pv 0
 case b3=>exact j9 (kQ kP qi qj pI (pv 2) %[4|0])
 case s4=>exact bp (pv 2)
 let#[dx,dw,dy,vs,dC,h1,h2,_]:=id G.G.ex;have gno:(de p dw dy).lookup ("names":Str)=none:=wM _ _ _ Z0 Z0 Z0;have gnm:(de p dw dy).lookup ("may_go":Str)=none:=wM _ _ _ Z0 Z0 Z0;apply#[_,U,g,CG,dx,_,_,U,h1,T.cl,T.nW,yM _ _ _,?_];apply#[zl,λl hl=>?_];let#[s1,e1]:=aC (o:=.lst []) hl;generalize upd H l (.lst [])=H1 at s1 e1 ⊢;apply#[_,U,g,dx,_,U,s1 _ _ h1,gno,g,p,hs,ts,qs,fp,U,G.G.same s1,λln x8=>?_];let#[s2,e2]:=aC (o:=.lst ((qs.map (·.1)).map V.str)) x8;have nln:H ln=none:=s1.free x8;have XF:ln≠l:=(bG e1 x8).symm;let el:=s2 _ _ e1;let iR:=s1.trans s2;generalize upd H1 ln (.lst ((qs.map (·.1)).map V.str))=H2 at s2 e2 el iR ⊢
 let Iv:dG:=λi σ H'=>∃(v3 v4 v5:aE) (ds:av),σ=[some (.ref g),some (.ref p),some (.ref l),v3,v4,v5]/\aa H H'/\H' ln\.lst ((qs.map (·.1)).map V.str)/\H' l\.lst (ds.map V.ref)/\Paired (λd q=>xb H' l d hs ts q) ds (qs.take i)
 apply#[ln,U,#[_,.of e2],ie (K:=K) (a:=ln) (xs:=(qs.map (·.1)).map V.str) Iv #[none,none,none,[],U,iR,e2,el,.nil] (λi σ H' _ ⟨_,_,_,_,_,_,q,_⟩=>.of q) ?_ ?_]
 ·rintro i y σ H3 hy ⟨v3,v4,v5,ds,rfl,dI,e3,uR,pd⟩;let#[n,hn,rfl]:=qu hy;rw[df,wZ] at hn;let#[q,hq,rfl]:=hn;let qm:=cJ hq;have hi:i<qs.length:=(cw.mp hq).1;intro d hd;let s4:=aa.new (o:=.dK []) hd;have e4:upd H3 d (.dK []) d\.dK (dZ [] λh=>.ref d):=aA;have dn:H d=none:=dI.free hd;let fI:=dI.trans s4;let i6:=s4 _ _ uR;let Tz:=s4 _ _ e3;let DX:=Paired.aQ (G:=λa q=>xb (upd H3 d (.dK [])) l a hs ts q/\a≠d) pd λa q x=>#[x.same s4,by let#[ad,x,_]:=x;exact bG x.at_ hd];have dl:d≠l:=(bG uR hd).symm;have dln:d≠ln:=(bG e3 hd).symm;generalize upd H3 d (.dK [])=H4 at s4 e4 fI i6 Tz DX ⊢;let W4:=h2.same fI;let#[jV,d1,l2,d3,xf,as,ef,w1,_]:=id h2.ex;have VH:(fi d1 l2 d3).lookup ("hands":Str)=none:=pE _ _ _ Z0 Z0 Z0;have VI:(fi d1 l2 d3).lookup ("neighbours":Str)=none:=pE _ _ _ Z0 Z0 Z0;apply#[_,U,p,jV,_,U,fI _ _ w1,VH,p,hs,ts,dC,U,W4,λlh eZ=>?_];let#[s5,e5]:=aC (o:=.lst ((aV hs).map V.str)) eZ;let jE:=fI.trans s5;have hn5:H lh=none:=fI.free eZ;have XM:lh≠d:=(bG e4 eZ).symm;let Ui:=s5 _ _ e4;let uQ:=s5 _ _ i6;let Tx:=s5 _ _ Tz;let Qp:=Paired.aQ (G:=λa q=>xb (upd H4 lh (.lst ((aV hs).map V.str))) l a hs ts q/\a≠d) DX λa q x=>#[x.1.same s5,x.2];generalize upd H4 lh (.lst ((aV hs).map V.str))=H5 at s5 e5 jE Ui uQ Tx Qp ⊢
  let Iw:dG:=λj σ H'=>∃(v5:aE) (ad:Str->Addr),σ=[some (.ref g),some (.ref p),some (.ref l),some (.str q.1),some (.ref d),v5]/\aa H H'/\H' ln\.lst ((qs.map (·.1)).map V.str)/\H' l\.lst (ds.map V.ref)/\H' lh\.lst ((aV hs).map V.str)/\Paired (λa q=>xb H' l a hs ts q/\a≠d) ds (qs.take i)/\CY H' d hs ts ((aV hs).take j) q ad/\∀x∈(aV hs).take j,ad x≠l
  apply#[lh,U,#[_,.of e5],ie (K:=K) (a:=lh) (xs:=(aV hs).map V.str) Iw #[_,_,U,jE,Tx,uQ,e5,Qp,#[Ui,by simp],by simp] (λj σ H' _ ⟨_,_,_,_,_,_,z,_⟩=>.of z) ?_ ?_]
  ·rintro j y σ H6 hy ⟨J9,ad,rfl,iq,MT,uP,e6,Hk,ex,IG⟩;let#[h,hh,rfl]:=qu hy;let hm:=cJ hh;have hj:j<(aV hs).length:=(cw.mp hh).1;let js:=(gv hs).mem_iff.mp hm;let LN:=Ti iU hh;let W6:=h2.same iq;apply#[_,U,p,jV,_,U,iq _ _ w1,VI,_,U,p,h,hs,ts,dC,U,W6,iU,js,λlx jP=>?_];let#[s7,e7]:=aC (o:=.lst ((near (aV hs) (bV ts) h).map V.str)) jP;generalize upd H6 lx (.lst ((near (aV hs) (bV ts) h).map V.str))=H7 at s7 e7 ⊢;have zZ:(near (aV hs) (bV ts) h).length<=8:=ic (List.length_filter_le ..) Y0;apply#[lx,U,#[_,.of e7],λD hD=>?_];apply kb (own:=1) (fv:=[some (.ref g),some (.str h),some (.str q.1)]) (xs:=(near (aV hs) (bV ts) h).map V.str) U fg (λi out H'=>aa H7 H'/\H' D\.lst out/\out=(((near (aV hs) (bV ts) h).take i).filter λo=>Cr hs ts q.2.2 (some h) (some o)).map V.str) #[aa.new hD,aA,U] (λi out H' _ ⟨sm,_,_⟩=>.of (sm _ _ e7)) (λout H8 ⟨sm,hD8,eo⟩=>?_) (λi' y out H' hy ⟨sm,dA,eo⟩=>?_)
   ·rw[aq,d_] at eo;let BW:=s7.trans sm;let FI:=ex.same BW;have Dn:H6 D=none:=s7.free hD;apply#[_,U,_,U,d,_,U,.k (k:=Sum.inr h) FI.at_ (by rw[oA,dM];omega),?_];have Dd:D≠d:=λz=>by rw[z,ex.at_] at Dn;cases Dn
    apply#[_,λx=>if x=h then D else ad x,U,fF (iq.trans BW) dn,by rw[aB dln.symm];exact BW _ _ MT,by rw[aB dl.symm];exact BW _ _ uP,by rw[aB XM];exact BW _ _ e6,Paired.aQ Hk λa q ⟨⟨Pw,x,xl⟩,ne⟩=>#[#[Pw,?_,xl],ne],#[?_,λx hx=>?_],λx hx=>?_]
    ·let x:=x.same BW;exact#[by rw[aB ne];exact x.at_,λz hz=>by rw[aB (bO (x.is z hz) FI.at_ (by intro e;cases e))];exact x.is z hz]
    ·rw[aA,u6 hh,Rw LN];exact eY (λz=>some (HO.dK z)) (JH λn _=>by split<;>rfl)
    ·rw[u6 hh] at hx;rcases dE.mp hx with hx|hx
     ·have:x≠h:=λe=>LN (by rw[<- e];exact hx);rw[aD this,aB (bO (FI.is x hx) FI.at_ (by intro e;cases e))];exact FI.is x hx
     rw[fw.mp hx,aK U,aB Dd,hD8,eo];rfl
    rw[u6 hh] at hx;rcases dE.mp hx with hx|hx
    ·have:x≠h:=λe=>LN (by rw[<- e];exact hx);show (if x=h then D else ad x)≠l;rw[aD this];exact IG x hx
    rw[fw.mp hx];show (if h=h then D else ad h)≠l;rw[aK U];exact λz=>by rw[z,uP] at Dn;cases Dn
   let#[o,ho,rfl]:=qu hy;apply#[_,U,U,λNx hN=>?_];let G':=G.G.same (((iq.trans s7)).trans sm);let uN:=(iq.trans s7).trans sm _ _ h1;apply#[_,U,g,dx,_,U,uN,gnm,_,U,_,U,_,U,g,p,.str q.1,.str h,.str o,some q.1,some h,some o,hs,ts,qs,fp,U,G',G.nd,iU,U,.inl #[q,qm,U,U,U,λH9 s9=>#[_,U,?_]]]
   have lo:out.length<=8:=by
    rw[eo,aq];exact ic (List.length_filter_le ..) (ic (by rw[dM];exact Nat.min_le_right ..) zZ)
   apply bH (λc=>?_) (λc=>?_)
   ·apply#[_,U,out,s9 _ _ dA,by omega,hN _ _ #[fF (sm.trans s9) hD,aA,?_]];rw[JL _ ho,eK,<- eo];rw[aK c];rfl
   apply hN out _ #[sm.trans s9,s9 _ _ dA,?_];rw[JL _ ho,eK,<- eo,aD c];simp
  rintro σ H6 ⟨J9,ad,rfl,iq,MT,uP,e6,Hk,ex,IG⟩;rw[aq,d_] at ex IG;let lp:=bI Hk;rw[dM] at lp;apply#[_,U,.inl #[U,_,.of uP],_,U,l,_,_,U,U,uP,by rw[aq];omega,?_];have pl:∀{a q},xb H6 l a hs ts q->xb (upd H6 l (.lst (ds.map V.ref++[.ref d]))) l a hs ts q:=λ{a q} ⟨Pw,x,xl⟩=>#[Pw,#[by rw[aB (bO x.at_ uP (by intro e;cases e))];exact x.at_,λz hz=>by rw[aB (xl z hz)];exact x.is z hz],xl];apply#[_,_,_,ds++[d],U,fF iq hl,by rw[aB XF];exact MT,?_,?_]
  ·rw[aA,eK];rfl
  rw[oE,hq];exact mI (Paired.aQ Hk λa q x=>pl x.1) (.cons (pl #[ad,ex,IG]) .nil)
 rintro σ H3 ⟨v3,v4,v5,ds,rfl,dI,e3,uR,pd⟩;rw[aq,aq,d_] at pd;exact#[_,U,k l H3 dI hl #[ds,uR,Paired.aQ pd λa q ⟨ad,x,_⟩=>#[ad,x]]]
end
end Ev
namespace Ev
open PySem L2
abbrev lO:Stmt:=pC rF 0
abbrev lM:Stmt:=pC rF 1
def ed(x a n:Addr):List (Str × V):=aP "newest" (.ref n) (aP u3 (.ref a) (aP j6 (.ref x) []))
theorem WJ:¬((j6:Str)=u3):=by decide +kernel
theorem WI:¬((j6:Str)="newest"):=by decide +kernel
theorem YZ(x a n:Addr):(ed x a n).lookup (j6:Str)\.ref x:=by
 unfold ed;rw[gT,aD WI,gT,aD WJ,gT,aK U]
theorem hV_(x a n:Addr){m:Str}(h1:¬m=j6)(h2:¬m=u3)(h3:¬m="newest"):(ed x a n).lookup m=none:=by
 unfold ed;rw[gT,aD h3,gT,aD h2,gT,aD h1]
 all_goals rfl
structure ui (K:af) (CR:Addr):Prop where
 cl:mR K CR
 nX:ml K CR j6
 nA:ml K CR u3
 nN:ml K CR "newest"
def uX(H:Hp):ag->List au->Prop:=Paired λy s=>∃t,y=.ref t/\H t\.tup (sV s)
theorem uX.keep{H H':Hp}{ys:ag}{l:List au}(h:uX H ys l)(k:∀b xs,H b\.tup xs->H' b\.tup xs):uX H' ys l:=Paired.aQ h λy s ⟨t,e,ht⟩=>#[t,e,k _ _ ht]
def PaV(H:Hp)(v:V):Option au->Prop
 |none=>v=.non
 |some q=>∃b,v=.ref b/\H b\.tup (sV q)
def PZ(H:Hp):List (aw × V)->List (au × Option au)->Prop:=Paired λkv e=>kv.1=sK e.1/\PaV H kv.2 e.2
theorem yJ{kvs:List (aw × V)}{k:aw}{v:V}(h:aZ kvs k=none):putK kvs k v=kvs++[(k,v)]:=by
 unfold putK;rw[CN,h];rfl
structure GM (CR:Addr) (H:Hp) (r a x n:Addr) (hs:Xa) (ts:Xb) (qs:aS) (pa:List (au × Option au)) (nw:List au):Prop where
 ins:∃dx,H r\.ins CR dx (ed x a n)
 ex:xc H x hs ts qs
 ah:∃kvs,H a\.dT kvs/\PZ H kvs pa
 ne:∃ys,H n\.lst ys/\uX H ys nw
section v
theorem nC:bQ ["self","goods","placed","first"] ["self","goods","placed"] (a_ lO):=bZ
inductive NX (K:af) (CG CW CR:Addr) (vs:ag) (H:Hp) (Q:VK) (E:XK):Prop
 |mk:∀(r dx g p d:Addr) (hs:Xa) (ts:Xb) (qs:aS) (fp:av) (f:bz),vs=[.ref r,.ref g,.ref d]->H r\.ins CR dx []->Gs K CG CW H g p hs ts qs fp->H d\.dK (gd (qs.map (·.1)) f)->(∀a x n H',(∀b o,H b\o->b≠r->H' b\o)->H a=none->GM CR H' r a x n hs ts qs [((qs.map (·.1)).map f,none)] [(qs.map (·.1)).map f]->Q .non H')->NX K CG CW CR vs H Q E
theorem _R{f CG CW CR:Addr}{fd:Ae}(F:bu K "__init__" "Reach.__init__" lO f fd)(T:ui K CR)(B:Bi mg)(cE:!bF 4 "exits_of" ["goods"] (Nn K CG CW)):!ak bc 5 f fd ["self","goods","placed"] (NX K CG CW CR):=by
 exists F.bW nC;let#[r,dx,g,p,d,hs,ts,qs,fp,f,rfl,Cd,G,hd,k]:=h;let hu:=fP hr;refine' #[_,ax ?s1 (ax ?s2 (ax ?s3 (aJ ?s4))),?kk]
 case s1=>exact bw 3 nC.nd (gS (T5 U) (by rfl) B.tuple oC %[JK (pv 2)|0])
 case s2=>exact wF (pv 0) (bj cE hr %[1|0]) U
 case s3=>exact wF (pv 0) (S4 hu (pv 3) ow) U
 case s4=>exact wF (pv 0) (eJ %[3|0]) U
 apply#[_,U,d,_,U,hd,λv hv=>?_];let#[s1,e1]:=aC (o:=qe v d) hv;generalize upd H v (qe v d)=H1 at s1 e1 ⊢;apply#[v,d,_,U,e1,s1 _ _ hd,λt ht=>?_]
 have ev:(gd (qs.map (·.1)) f).map (·.2)=sV ((qs.map (·.1)).map f):=by
  simp only[gd,dZ,sV,cA];rfl
 rw[ev];obtain⟨s0,RC⟩:∃s0,s0=(qs.map (·.1)).map f:=#[_,U];rw[<- RC];rw[<- RC] at k;let#[s2,e2]:=aC (o:=.tup (sV s0)) ht;let iR:=s1.trans s2;generalize upd H1 t (.tup (sV s0))=H2 at s2 e2 iR ⊢;apply#[_,U,g,p,hs,ts,qs,fp,U,G.same iR,λx H3 s3 nx ex=>?_];let dI:=iR.trans s3;apply#[_,U,r,CR,dx,[],U,dI _ _ Cd,T.cl,T.nX,by show 0<1000;decide,?_];have GZ:∀{b o},H3 b\o->b≠r->upd H3 r (.ins CR dx (aP j6 (.ref x) [])) b\o:=λe ne=>by rw[aB ne];exact e
 have r4:upd H3 r (.ins CR dx (aP j6 (.ref x) [])) r\.ins CR dx (aP j6 (.ref x) []):=aA
 have pY:∀{b},upd H3 r (.ins CR dx (aP j6 (.ref x) [])) b=none->H3 b=none:=λ{b} e=>by
  by_cases z:b=r
  ·rw[z,aA] at e;cases e
  rw[aB z] at e;exact e
 generalize upd H3 r (.ins CR dx (aP j6 (.ref x) []))=H4 at GZ r4 pY ⊢;let Cb:=dI _ _ Cd;have tr:t≠r:=bO (s3 _ _ e2) Cb nofun;have e4:H4 t\.tup (sV s0):=GZ (s3 _ _ e2) tr;intro a ha;let#[s5,e5]:=aC (o:=.dT []) ha;have an:H a=none:=dI.free (pY ha);have ar:a≠r:=(bG r4 ha).symm;generalize upd H4 a (.dT [])=H5 at s5 e5 ⊢;apply#[_,U,e5,t,sK s0,U,by rw[iQ];exact s5 _ _ e4,_,U,?_];have ta:t≠a:=bO (s5 _ _ e4) e5 nofun;have Ka:∀{b o},H5 b\o->b≠a->upd H5 a (.dT [(sK s0,.non)]) b\o:=λe ne=>by rw[aB ne];exact e
 have e6:upd H5 a (.dT [(sK s0,.non)]) a\.dT [(sK s0,.non)]:=aA
 have Iy:∀{b},upd H5 a (.dT [(sK s0,.non)]) b=none->H5 b=none:=λ{b} e=>by
  by_cases z:b=a
  ·rw[z,aA] at e;cases e
  rw[aB z] at e;exact e
 generalize upd H5 a (.dT [(sK s0,.non)])=H6 at Ka e6 Iy ⊢;apply#[r,CR,dx,_,U,Ka (s5 _ _ r4) ar.symm,T.cl,T.nA,by show 1<1000;decide,?_];have J_:∀{b o},H6 b\o->b≠r->upd H6 r (.ins CR dx (aP u3 (.ref a) (aP j6 (.ref x) []))) b\o:=λe ne=>by rw[aB ne];exact e
 have r7:upd H6 r (.ins CR dx (aP u3 (.ref a) (aP j6 (.ref x) []))) r\.ins CR dx (aP u3 (.ref a) (aP j6 (.ref x) [])):=aA
 have A5:∀{b},upd H6 r (.ins CR dx (aP u3 (.ref a) (aP j6 (.ref x) []))) b=none->H6 b=none:=λ{b} e=>by
  by_cases z:b=r
  ·rw[z,aA] at e;cases e
  rw[aB z] at e;exact e
 generalize upd H6 r (.ins CR dx (aP u3 (.ref a) (aP j6 (.ref x) [])))=H7 at J_ r7 A5 ⊢
 have e47:∀{b o},H3 b\o->b≠r->H7 b\o:=λ{b o} e ne=>by
  let e4':=s5 _ _ (GZ e ne)
  have ba:b≠a:=λz=>by
   have:=GZ e ne;rw[z,ha] at this;cases this
  exact J_ (Ka e4' ba) ne
 apply#[_,U,zl,λn hn=>?_];let#[s8,e8]:=aC (o:=.lst [.ref t]) hn;have nr:n≠r:=(bG r7 hn).symm;generalize upd H7 n (.lst [.ref t])=H8 at s8 e8 ⊢;apply#[_,U,r,CR,dx,_,U,s8 _ _ r7,T.cl,T.nN,by show 2<1000;decide,?_];have GY:∀{b o},H8 b\o->b≠r->upd H8 r (.ins CR dx (ed x a n)) b\o:=λe ne=>by rw[aB ne];exact e
 have r9:upd H8 r (.ins CR dx (ed x a n)) r\.ins CR dx (ed x a n):=aA;show Q .non (upd H8 r (.ins CR dx (ed x a n)));generalize upd H8 r (.ins CR dx (ed x a n))=H9 at GY r9 ⊢;have FP:∀{b o},H3 b\o->b≠r->H9 b\o:=λe ne=>GY (s8 _ _ (e47 e ne)) ne;apply k a x n H9 (λb o e ne=>FP (dI _ _ e) ne) an #[#[dx,r9],?_,#[_,GY (s8 _ _ (J_ e6 ar)) ar,.cons #[U,U] .nil],#[_,GY e8 nr,.cons #[t,U,FP (s3 _ _ e2) tr] .nil]];let#[ds,x1,x2]:=ex
 have KP:∀{b o},H3 b\o->(∀C dx fs,o≠.ins C dx fs)->b≠r:=λe no z=>by
  rw[z,Cb] at e;cases e;exact no _ _ _ U
 exact#[ds,FP x1 (KP x1 (by intro _ _ _ z;cases z)),Paired.aQ x2 λd q ⟨ad,y1,y2⟩=>#[ad,FP y1 (KP y1 (by intro _ _ _ z;cases z)),λh hh=>FP (y2 h hh) (KP (y2 h hh) (by intro _ _ _ z;cases z))]]
end
end Ev
namespace Ev
open PySem L2
theorem To{s:au}{i:Nat}(h:i<s.length)(o:Str):(sV s).take i++[V.str o]++(sV s).drop (i+1)=sV (s.set i o):=by
 show (s.map V.str).take i++[V.str o]++(s.map V.str).drop (i+1)=(s.set i o).map V.str;rw[List.set_eq_take_append_cons_drop,aK h,eK,fE,List.map_take,List.map_drop,List.append_assoc];rfl
def JY(hs:Xa)(ts:Xb)(qs:aS)(s:au)(i:Nat)(b:au):Prop:=∃(k:Nat) (q:Pc) (h h':Str),k<i/\qs[k]? = some q/\s[k]? = some h/\h'∈uO hs ts q h/\b=s.set k h'
theorem Zq{hs:Xa}{ts:Xb}{qs:aS}{s b:au}:JY hs ts qs s s.length b ↔ Nx hs ts qs s b:=by
 constructor
 ·rintro⟨k,q,h,h',_,h1,h2,h3,h4⟩;exact#[_,k,q,h,h',h1,h2,h3,h4,U]
 rintro⟨m,k,q,h,h',h1,h2,h3,h4,_⟩;exact#[k,q,h,h',(cw.mp h2).1,h1,h2,h3,h4]
theorem xc.at_{H:Hp}{l:Addr}{hs:Xa}{ts:Xb}{qs:aS}(h:xc H l hs ts qs){k:Nat}{q:Pc}(hq:qs[k]? = some q):∃(ds:av) (d:Addr),H l\.lst (ds.map V.ref)/\(ds.map V.ref)[k]? = some (.ref d)/\GU H d hs ts q:=by
 let#[ds,h1,h2]:=h;have hk:k<qs.length:=(cw.mp hq).1;let hl:=bI h2;have:=dP h2 k Y0 hk;rw[aX hk] at hq;cases hq;exact#[ds,ds[k]' Y0,h1,by rw[df,aX Y0];rfl,this]
section v
theorem Gv:bQ ["self","hands","found","place","one","other"] ["self","hands"] (a_ lM):=bZ
inductive Np (CR:Addr) (vs:ag) (H:Hp) (Q:VK) (E:XK):Prop
 |mk:∀(r dx t x a n:Addr) (hs:Xa) (ts:Xb) (qs:aS) (s:au),vs=[.ref r,.ref t]->H r\.ins CR dx (ed x a n)->xc H x hs ts qs->H t\.tup (sV s)->Vs hs qs s->(aV hs).length<=8->qs.length<64->(∀l ys L H',aa H H'->H l=none->H' l\.lst ys->uX H' ys L->(∀b,b∈L ↔ Nx hs ts qs s b)->L.length<=512->Q (.ref l) H')->Np CR vs H Q E
theorem _P{f CR:Addr}{fd:Ae}(F:bu K "one_move_on" "Reach.one_move_on" lM f fd)(T:ui K CR)(B:Bi mg):!ak bc 1 f fd ["self","hands"] (Np CR):=by
 exists F.bW Gv;let#[r,dx,t,x,a,n,hs,ts,qs,s,rfl,HY,ex,ht,v,n8,KN,k]:=h;let hu:=fP hr;let sz:=cK;let vl:=v.len;refine' #[_,ax ?s1 (ax ?s2 (aJ ?s3)),?kk]
 case s1=>exact bw 2 Gv.nd (eJ bR)
 case' s2=>refine' d9 dU U ?i2 ?g2 (aJ ?b2)
 case i2=>exact _C (by rfl) B.enum %[1|0]
 case g2=>exact jv U (di (bX 3 Gv.nd) (di (bX 4 Gv.nd) hW))
 case' b2=>refine' d9 dU U ?i3 ?g3 (aJ ?b3)
 case i3=>exact d5 (j_ hu (bg fX (ja (pv 0) U) (pv 3)) (pv 4))
 case g3=>exact bX 5 Gv.nd
 case b3=>exact j9 (kQ kP qi qj pI (pv 2) %[br wN (br wN (jg FK (pv 1) jc (je (pv 3))) (dD %[5|0])) (jg FK (pv 1) (je (br fG (pv 3) ay)) jc)|0])
 case s3=>exact bp (pv 2)
 apply#[zl,λl hl=>?_];let#[s1,e1]:=aC (o:=.lst []) hl;generalize upd H l (.lst [])=H1 at s1 e1 ⊢;apply#[_,U,t,U,#[_,.of (s1 _ _ ht)],?_]
 let Iv:dG:=λi σ H'=>∃(v3 v4 v5:aE) (ys:ag) (L:List au),σ=[some (.ref r),some (.ref t),some (.ref l),v3,v4,v5]/\aa H H'/\H' l\.lst ys/\uX H' ys L/\(∀b,b∈L ↔ JY hs ts qs s i b)/\L.length<=8 * i
 apply h1_ (xs:=sV s) Iv #[none,none,none,[],[],U,s1,e1,.nil,λb=>by simp[JY],by simp] (λi σ H' _ ⟨_,_,_,_,_,_,sm,_⟩=>.of (sm _ _ ht)) ?_ ?_
 ·rintro i y σ H2 hy ⟨v3,v4,v5,ys,L,rfl,s2,e2,sp,mem,len⟩ tt vV;let#[h,hh,rfl]:=qu hy;have hi:i<s.length:=(cw.mp hh).1;have hq:qs[i]? = some (qs[i]' Y0):=aX Y0;obtain⟨q,eq⟩:∃q,q=qs[i]' Y0:=#[_,U];rw[<- eq] at hq;let hm:=v.hZ h (cJ hh);let#[s3,e3]:=aC (o:=.tup [.int i,.str h]) vV;let dI:=s2.trans s3;let uR:=s3 _ _ e2;let Qh:=sp.keep λb xs e=>s3 _ _ e;show gi _ _ _ _ _ (upd H2 tt (.tup [.int i,.str h])) _;generalize upd H2 tt (.tup [.int i,.str h])=H3 at s3 e3 dI uR Qh ⊢;apply#[tt,_,U,.of e3,U,_,_,U,_,_,U,U,?_];let#[ds,d,x1,x2,ad,x3,x4]:=ex.at_ hq;apply#[_,U,r,CR,dx,_,_,U,dI _ _ HY,T.cl,T.nX,YZ _ _ _,_,U,x,_,i,.ref d,U,U,.of (dI _ _ x1),L2.cZ x2,_,U,d,.ref (ad h),U,?_,ad h,U,#[_,.of (dI _ _ (x4 h hm))],?_]
  ·have:=cO.k (k:=.inr h) (dI _ _ x3);rw[Bz (g:=λn=>V.ref (ad n)) hm] at this;exact this
  let Iw:dG:=λj σ H'=>∃(v5:aE) (ys:ag) (L:List au),σ=[some (.ref r),some (.ref t),some (.ref l),some (.int i),some (.str h),v5]/\aa H H'/\H' l\.lst ys/\uX H' ys L/\(∀b,b∈L ↔ JY hs ts qs s i b∨∃o∈(uO hs ts q h).take j,b=s.set i o)/\L.length<=8 * i+j
  have el8:(uO hs ts q h).length<=8:=ic (List.length_filter_le ..) (ic (List.length_filter_le ..) n8);apply ie (K:=K) (a:=ad h) (xs:=(uO hs ts q h).map V.str) Iw #[_,ys,L,U,dI,uR,Qh,λb=>by rw[mem];simp,by omega] (λj σ H' _ ⟨_,_,_,_,sm,_⟩=>.of (sm _ _ (x4 h hm))) ?_ ?_
  ·rintro j y σ H4 hy ⟨J9,ys,L,rfl,s4,i6,xy,iW,l7⟩;let#[o,ho,rfl]:=qu hy;have hj:j<(uO hs ts q h).length:=(cw.mp ho).1;let Lc:=bI xy;let uK:=s4 _ _ ht;apply#[_,U,.inl #[U,_,.of i6],?_];apply#[_,U,_,U,_,U,t,_,U,.of uK,?_,λp1 x5=>?_]
   ·rw[HT.eU,HT.d7,aq];omega
   rw[Tw];let#[s5,e5]:=aC (o:=.tup ((sV s).take i)) x5;generalize upd H4 p1 (.tup ((sV s).take i))=H5 at s5 e5 ⊢;apply#[_,U,zl,λp2 kI=>?_];let#[s6,e6]:=aC (o:=.tup [.str o]) kI;generalize upd H5 p2 (.tup [.str o])=H6 at s6 e6 ⊢;apply#[p1,p2,_,_,U,U,s6 _ _ e5,e6,by rw[dM,aq,oF];omega,λp3 H7 s7 e7=>?_];let Qk:=(s5.trans s6).trans s7;apply#[_,U,_,U,_,_,U,U,_,U,t,_,U,.of (Qk _ _ uK),?_,λp4 EM=>?_]
   ·rw[show ((i:Int)+1)=((i+1:Nat):Int) by omega,HT.d7,aq];omega
   rw[show ((i:Int)+1)=((i+1:Nat):Int) by omega,TB];let#[s8,e8]:=aC (o:=.tup ((sV s).drop (i+1))) EM;generalize upd H7 p4 (.tup ((sV s).drop (i+1)))=H8 at s8 e8 ⊢;apply#[p3,p4,_,_,U,U,s8 _ _ e7,e8,by rw[dN,dM,aq,oF,wY,aq];omega,λp5 H9 s9 e9=>?_];rw[To hi] at e9;let zJ:=(Qk.trans s8).trans s9;let yk:=zJ _ _ i6;apply#[l,_,_,U,U,yk,by omega,?_]
   have kt:∀b xs,H9 b\.tup xs->upd H9 l (.lst (ys++[.ref p5])) b\.tup xs:=λb xs e=>by
    rw[aB (bO e yk nofun)];exact e
   apply#[_,_,L++[s.set i o],U,fF (s4.trans zJ) hl,aA,mI ((xy.keep λb xs e=>zJ _ _ e).keep kt) (.cons #[p5,U,kt _ _ e9] .nil),λb=>?_,by rw[dN,oF];omega];rw[dE,iW,fw,u6 ho];constructor
   ·rintro ((x|⟨z,hz,e⟩)|e)
    ·exact .inl x
    ·exact .inr #[z,dE.mpr (.inl hz),e]
    exact .inr #[o,by simp,e]
   rintro (x|⟨z,hz,e⟩)
   ·exact .inl (.inl x)
   rcases dE.mp hz with hz|hz
   ·exact .inl (.inr #[z,hz,e])
   rw[fw.mp hz] at e;exact .inr e
  rintro σ H4 ⟨J9,ys,L,rfl,s4,i6,xy,iW,l7⟩;rw[aq] at iW l7;apply#[_,_,_,ys,L,U,s4,i6,xy,λb=>?_,by omega];rw[iW,d_];constructor
  ·rintro (⟨k',q',h',o',k1,k2⟩|⟨o,ho,e⟩)
   ·exact#[k',q',h',o',by omega,k2]
   exact#[i,q,h,o,by omega,hq,hh,ho,e]
  rintro⟨k',q',h',o',k1,k2,k3,k4,k5⟩;by_cases c:k'=i
  ·subst c;rw[hq] at k2;rw[hh] at k3;cases k2;cases k3;exact .inr #[o',k4,k5]
  exact .inl #[k',q',h',o',by omega,k2,k3,k4,k5]
 rintro σ H2 ⟨v3,v4,v5,ys,L,rfl,s2,e2,sp,mem,len⟩;rw[aq] at mem len;exact#[_,U,k l ys L H2 s2 hl e2 sp (λb=>(mem b).trans Zq) Y0]
end
end Ev
namespace Ev
open PySem L2
end Ev
namespace Ev
open PySem L2
def Cn(N:au->au->Prop):List au->Prop
 |[]=>True
 |[_]=>True
 |a::b::r=>N a b/\Cn N (b::r)
structure Row (N:au->au->Prop) (a s:au) (k:Nat) (row:List au):Prop where
 cn:Cn N row
 hd:row.head? = some a
 lt:row.getLast? = some s
 len:row.length=k+1
end Ev
namespace Ev
open PySem L2
end Ev
namespace Ev
open PySem L2
structure Cy (H:Hp) (d:Addr) (hs:Xa) (qs:aS) (fp:av) (s0:au) (ns:ae) (f:bz):Prop where
 hd:H d\.dK (gd ns f)
 pZ:d∉fp
 ok:N5 hs qs ns f
 s0:s0=(qs.map (·.1)).map f
theorem Cy.vs{H:Hp}{d:Addr}{hs:Xa}{qs:aS}{fp:av}{s0:au}{ns:ae}{f:bz}(S:Cy H d hs qs fp s0 ns f):Vs hs qs s0:=by
 apply#[by rw[S.s0,aq,aq],λh hh=>?_];rw[S.s0] at hh;let#[n,hn,rfl]:=bx.mp hh;exact (gv hs).mem_iff.mpr (S.ok.at_ n (S.ok.perm.mem_iff.mpr hn))
end Ev
namespace c_
open PySem PySem.W PyProof.Rows
section
variable{prog:Ad}{w:Af}{A:Ag}{E:Aa->Ab->Prop}{s:Ab}
end
end c_
namespace L2
open PySem PySem.Spec PyProof.Rows PySem.W
section
variable{X:Cx}{pins:List (Addr × Obj)}{σ:St}{H:Hp}{s:Ab}{d:Addr}{kvs:List (aw × V)}
end
end L2
namespace c_
open PySem PySem.W PyProof.Rows
section
variable{prog:Ad}{w:Af}{K:Type}[DecidableEq K]{knd:PySem.HeapKind prog w K}{A:Ag}
def mN(knd:PySem.HeapKind prog w K)(h:Heap):aj->List (K × Addr × Aa)->Prop:=Paired λv p=>∃a,v=.ref a/\IsTup h a (List.toArray [.ref p.2.1,p.2.2])/\knd.is h p.1 p.2.1
def gY(xs ps:List (K × Addr × Aa)):List (K × Addr × Aa):=ps.foldl (λacc p=>storedH acc p.1 p.2.1 p.2.2) xs
theorem eL_(xs:List (K × Addr × Aa))(k:K)(a:Addr)(v:Aa):(storedH xs k a v).length<=xs.length+1:=by
 unfold storedH;split
 ·simp
 simp
theorem Uz{h h':Heap}{d:Addr}{xs:List (K × Addr × Aa)}(q:h.DictOfH knd d xs)(k:∀o,h.get? d\o->h'.get? d\o)(t:∀x a,knd.is h x a->knd.is h' x a):h'.DictOfH knd d xs:=by
 let#[o,es,ep,ho,h1,h2,h3,h4,h5]:=q;exact#[o,es,ep,k _ ho,h1,h2,h3,λx hx=>t _ _ (h4 x hx),h5]
def BO(knd:PySem.HeapKind prog w K):Prop:=∀(h h':Heap) (x:K) (a:Addr),knd.is h x a->(∀o,h.get? a\o->h'.get? a\o)->knd.is h' x a
def uz(knd:PySem.HeapKind prog w K):Prop:=∀(h:Heap) (x:K) (a:Addr),knd.is h x a->∃ys,IsTup h a ys
theorem Sx{h:Heap}{b d:Addr}{ys:Array Aa}{xs:List (K × Addr × Aa)}(t:IsTup h b ys)(q:h.DictOfH knd d xs):b≠d:=λz=>by
 let#[o,ho,hc,_]:=t;let#[o2,es,ep,fK,jt,_]:=q;subst z;rw[ho] at fK;cases fK;let tq:=jt.1;rw[hc] at tq;exact absurd tq (by decide)
theorem Zw{it l d:Addr}(fm:BO knd)(ot:uz knd)(hu:knd.room A.in1)(L4:l≠it)(s_:d≠it)(Ck:d≠l)(hh:A.handled=none){its:aj}(rest:aj):∀(ps:List (K × Addr × Aa)) (i:Nat) (xs:List (K × Addr × Aa)) (s:Ab) (R:Result->Ab->Prop) (tk:Tok),its.drop i=rest->mN knd s.heap rest ps->
  s.heap.IsListIter it l i->s.heap.IsList l its.toArray->s.heap.DictOfH knd d xs->xs.length+ps.length<=1000->
  (∀h' fR,h'.DictOfH knd d (gY xs ps)->(∀b o,b≠d->b≠it->s.heap.get? b\o->h'.get? b\o)->R (.ok (.ret .none)) { s with heap:=h',toks:=fR })->
  codeAny (model prog w) A (.builtin "dict.update.loop" #[[.ref d,.ref it,.int i tk,.none],[]]) R s:=by
 induction rest with
 |nil=>
  intro ps i xs s R tk e hp hit hl hd hz hR;cases hp
  have hi:its.toArray[i]? = none:=by
   have:=eY List.length e;simp only[wY,List.length_nil] at this;simp;omega
  apply codeAny_builtin CL ?_;rw[yw qp _,CA];apply ai (wpAny_pyNext_list_end hh hit hl hi λh' he=>?_);apply ai (m:=Builtin.Dict.addKeywords d []) (aI (aI (hR h' s.toks (Uz hd (λo q=>he _ _ s_ q) λx a q=>fm _ _ _ _ q λo e=>he _ _ ?_ e) λb o _ hb q=>he b o hb q)));let#[ys,t]:=ot _ _ _ q;exact BI t hit
 |cons v rest ih=>
  intro ps i xs s R tk e hp hit hl hd hz hR;cases hp with
  |@cons _ p _ ps h0 hr=>
  let#[a,hv,ht,hk]:=h0;let#[k,ka,x]:=p;subst hv
  have hi:its.toArray[i]? = some (.ref a):=by
   have q:(its.drop i)[0]? = some (.ref a):=by rw[e];rfl
   rw[List.getElem?_drop] at q;simpa using q
  have e':its.drop (i+1)=rest:=by
   rw[<- List.drop_drop,e];rfl
  simp only[jz] at hz;apply codeAny_builtin CL ?_;rw[yw qp _,CA];apply ai (wpAny_pyNext_list_item hit hl hi λh1 AL xZ=>?_);let#[oo,LJ,AU,nt,Mf]:=id ht;have sY:h1.get? a\oo:=xZ.extBut _ _ (BI ht hit) LJ;apply ai (gR (ai (wpAny_tryCatch ?_)));unfold Builtin.Dict.pairItems;apply ai (wpAny_typeOf (T:="tuple") #[oo,sY,AU] ?_);rw[aK (by decide)];unfold seqItems?;apply ai (ai (wpAny_load sY ?_));rw[Mf];apply aI (aI ?_)
  have Et:∀x a,knd.is s.heap x a->knd.is h1 x a:=λx a q=>fm _ _ _ _ q λo e=>by
   let#[ys,t]:=ot _ _ _ q;exact xZ.extBut _ _ (BI t hit) e
  have pX:h1.DictOfH knd d xs:=Uz hd (λo q=>xZ.extBut _ _ s_ q) Et;apply (show wpAny _ _ (holding [Value.ref ka,x] (dictSet d (.ref ka) x)) _ _ _ from gR (wpAny_dictSet_heap hu (Et _ _ hk) pX (λh2 hd2 pT=>?_) (by have:=cK;omega)));have kp:∀b o,b≠d->b≠it->s.heap.get? b\o->h2.get? b\o:=λb o h3 h4 q=>pT.extBut _ _ h3 (xZ.extBut _ _ h4 q);let sZ:=AL.extBut pT.extBut (dJ s_);have c1:((i:Int)+1)=((i+1:Nat):Int):=by omega
  rw[c1];apply aI #[plainId_quiet qp _,?_];apply ih ps (i+1) (storedH xs k ka x) { s with heap:=h2,toks:=s.toks+knd.draws k } R 0 e' (L2.Paired.aQ hr λv p ⟨b,e1,t1,k1⟩=>#[b,e1,?_,fm _ _ _ _ k1 λo q=>?_]) sZ (hl.at λo q=>kp _ _ (dJ Ck) L4 q) hd2 (by have:=eL_ xs k ka x;omega) λh' fR g9 Er=>hR h' fR g9 λb o h3 h4 q=>Er b o h3 h4 (kp b o h3 h4 q)
  ·let#[o,ho,r]:=id t1;exact#[o,kp _ _ (Sx t1 hd) (BI t1 hit) ho,r]
  let#[ys,t]:=ot _ _ _ k1;exact kp _ _ (Sx t hd) (BI t hit) q
theorem iz{E:Aa->Ab->Prop}{s:Ab}{l:Addr}{its:aj}{n:Nat}{ps:List (K × Addr × Aa)}{Q:Aa->Ab->Prop}(fm:BO knd)(ot:uz knd)(hu:knd.room A.in1.in1)(hh:A.handled=none)(ho:s.heap.get? l\seqObj "list" its.toArray n)(hp:mN knd s.heap its ps)(hz:ps.length<=1000)
  (h:∀h' fR,h'.DictOfH knd s.heap.objs.size (gY [] ps)->(∀b o,s.heap.get? b\o->h'.get? b\o)->Q (.ref s.heap.objs.size) { s with heap:=h',toks:=fR }) :
  wpAny (model prog w) A (call (.type "dict") [.ref l]) Q E s:=by
 apply callType_codes (Q₁:=λobj aL=>obj=.ref s.heap.objs.size/\aL={ s with heap:=s.heap.push { cls:=.type "dict",data:=.dict #[] } }) F.kt_called_dict (F.kt_typeCall_dict_1 _) F.entry_dict_init (kt_code_dict_new _ #[U,U]) ?_;rintro obj aL ⟨rfl,rfl⟩;have gh:(s.heap.push { cls:=.type "dict",data:=.dict #[] }).DictOfH knd s.heap.objs.size []:=Heap.DictOfH.new s.heap;have fZ:(s.heap.push { cls:=.type "dict",data:=.dict #[] }).get? l\seqObj "list" its.toArray n:=bo _ ho;apply#[gh.typeIs,F.args_dict_init_2 _ _,?_];unfold Builtin.«dict.__init__» Builtin.Dict.selfAndRest;apply ai (ai (wpAny_notOrdered_dict gh.typeIs ?_));apply (show wpAny _ _ (pure (s.heap.objs.size,[Value.ref l])) _ _ _ from aI ?_);apply (show wpAny _ _ (Builtin.Dict.updateFrom "dict.__init__" s.heap.objs.size (.ref l) [] .none) _ _ _ from ?_);unfold Builtin.Dict.updateFrom;apply ai (wpAny_typeOf (T:="list") #[_,fZ,U] ?_);rw[aK (by decide)];apply ai (sO fZ hh λh2 P_ k2=>?_);simp only[Option.isNone_none,if_true];have jr:h2.get? l\seqObj "list" its.toArray n:=k2 _ _ fZ;apply ai (wpAny_rule (ai (wpAny_pyIter_list #[_,jr,U,_,U] ?_)));apply aI #[plainId_quiet qp _,?_];have all:∀{b o},s.heap.get? b\o->(h2.push { cls:=.type "list_iterator",data:=.fields (List.toArray [.ref l,.int 0 0]) }).get? b\o:=λq=>bo _ (k2 _ _ (bo _ q));let#[o1,es1,ep1,vX,r1,r2,r3,r4,r5]:=gh;have ze:s.heap.objs.size<h2.objs.size:=bK (k2 _ _ vX);have lz:l<s.heap.objs.size:=bK ho
 apply Zw (A:=A.in1) (knd:=knd) (its:=its) (it:=h2.objs.size) (l:=l) (d:=s.heap.objs.size) fm ot hu (dH (Nat.lt_trans lz ze)) (dH ze) (jf lz) hh its ps 0 [] _ _ 0 U (L2.Paired.aQ hp λv p ⟨b,e1,t1,k1⟩=>#[b,e1,t1.keeps λb o q=>all q,fm _ _ _ _ k1 λo q=>all q])
  #[_,dq _ U,U,U] #[_,bo _ jr,U,_,U] #[o1,es1,ep1,bo _ (k2 _ _ vX),r1,r2,r3,(by intro x hx;cases hx),r5] ⇑hz λh' fR g9 kp=>#[U,h h' fR g9 λb o q=>?_]
 have bl:b<s.heap.objs.size:=bK q;exact kp b o (dH bl) (dH (Nat.lt_trans bl ze)) (all q)
end
theorem tK{prog:Ad}{w:Af}{K:Type}[DecidableEq K](k:PySem.KeyKind prog w K):BO (tupleKind k):=λh h' x a q e=>by
 let#[o,ys,n,h1,h2]:=q;exact#[o,ys,n,e o h1,h2]
theorem oZ{prog:Ad}{w:Af}{K:Type}[DecidableEq K](k:PySem.KeyKind prog w K):uz (tupleKind k):=λh x a q=>by
 let#[o,ys,n,h1,h2,h3,_]:=q;exact#[ys,o,h1,h2,n,h3]
end c_
namespace L2
open PySem PySem.Spec PyProof.Rows PySem.W
def mK(H:Hp):ag->List (aw × V)->Prop:=Paired λy p=>∃a b,y=V.ref a/\H a\.tup [.ref b,p.2]/\H b\.tup (p.1.map kV)
def yG(kvs more:List (aw × V)):List (aw × V):=more.foldl (λacc kv=>putK acc kv.1 kv.2) kvs
theorem KT.gY{H:Hp}:∀{more:List (aw × V)} {rs:List (aw × Addr × Aa)} {kvs:List (aw × V)} {xs:List (aw × Addr × Aa)},KT H more rs->KT H kvs xs->KT H (yG kvs more) (c_.gY xs rs):=λ{more rs kvs xs} h=>by
 induction h generalizing kvs xs with
 |nil=>exact λh=>h
 |@cons p q _ _ h _ ih=>
  intro h2;let#[k,y]:=p;let#[k',b,u]:=q;let#[h1,h3,h4]:=h;have h1:k=k':=h1;subst h1;exact ih (h2.put k h3 h4)
theorem U4:∀(more kvs:List (aw × V)),(yG kvs more).length<=kvs.length+more.length
 |[],kvs=>a9 _
 |kv::more,kvs=>by
  let h1:=U4 more (putK kvs kv.1 kv.2);let h2:=JS kvs kv.1 kv.2;show (yG (putK kvs kv.1 kv.2) more).length<=_;simp only[jz];omega
inductive Tq (xs:ag) (H:Hp) (Q:VK):Prop
 |mk:∀p ys kvs,xs=[.ref p]->H p\.lst ys->mK H ys kvs->kvs.length<=1000->(∀l,H l=none->Q (.ref l) (upd H l (.dT (yG [] kvs))))->Tq xs H Q
theorem Pd{X:Cx}(hc:X.calm=true)(hu:X.A.units+2<cLine):gn X (.type "dict") Tq:=by
 intro pins s σ H xs us Q I r h;let#[p,ys,kvs,rfl,hp,t,hz,q]:=h;let#[u,rfl,ru]:=vals1 r;cases ru;let#[z,its,n,rv,hl,ho]:=I.jJ hp
 have gen:∀{ys:ag} {its:aj} {kvs:List (aw × V)},Vals ys its->mK H ys kvs->∃ps,KT H kvs ps/\c_.mN (tupleKind (d0 X.prog X.w)) s.heap its ps:=λ{ys its kvs} rv t=>by
  induction t generalizing its with
  |nil=>
   cases rv;exact#[[],.nil,.nil]
  |@cons y p ys kvs h t ih=>
   cases rv with
   |cons r0 rv=>
    let#[ps,h1,h2]:=ih rv;let#[a,b,e,sq,sb]:=h;subst e;cases r0;let#[tv,rt,it,_]:=I.tuple (fH.of sq);let#[key,x,e2,rk,rx]:=vals2 rt;subst e2;cases (show key=Value.ref b from rk);apply#[(p.1,b,x)::ps,Paired.cons (show p.1=p.1/\H b\.tup (p.1.map kV)/\RelV p.2 x from #[U,sb,rx]) h1,Paired.cons (show ∃a',Value.ref a=.ref a'/\IsTup s.heap a' (List.toArray [.ref b,x])/\(tupleKind (d0 X.prog X.w)).is s.heap p.1 b from #[a,U,it,wG I.aF sb]) h2]
 let#[ps,h1,h2]:=gen rv t;let lp:=bI h1;apply c_.iz (knd:=tupleKind (d0 X.prog X.w)) (c_.tK _) (c_.oZ _) (tupleKind_room_in1 (A:=X.A.in1) (by show X.A.units+1+1<cLine;omega)) (I.ok.hd hc) ho h2 Y0 λh' tk hd kp=>?_;let#[q1,es,ep,hq,g2,g3,g4,_,g5]:=hd;apply#[.ref s.heap.objs.size,_,I.laid (t':=tk) kp (a9 _) (show fj X.prog X.w _ h' _ (.dT (yG [] kvs)) from #[?_,beq_eq_false_iff_ne.mpr (dJ (dH I.big)),_,(KT.gY h1 .nil).keeps λc ys ec=>?_,q1,es,ep,hq,g2,g3,g4,g5]),U,q _ I.fresh]
 ·have:=U4 kvs [];have:=cK;simp only[List.length_nil] at *;omega
 rw[aB (bG ec I.fresh)];exact ec
theorem OR:∀(more kvs:List (aw × V)),((kvs++more).map (·.1)).Nodup->yG kvs more=kvs++more
 |[],kvs,_=>(List.append_nil _).symm
 |kv::more,kvs,nd=>by
  show yG (putK kvs kv.1 kv.2) more=_
  have e:putK kvs kv.1 kv.2=kvs++[kv]:=by
   unfold putK;rw[aD];intro h;let#[q,hq,e]:=List.any_eq_true.mp h;let e:=tP e;rw[eK,List.nodup_append] at nd;exact nd.2.2 q.1 (List.mem_map_of_mem hq) kv.1 Y1 e
  rw[e,OR more (kvs++[kv]) ⇑nd];simp
end L2
namespace L2
open PySem PySem.Spec PyProof.Rows
theorem Ta{K:af}{a:Addr}{xs:ag}{g:TG}{tc:TT}{te:TE}{own:Nat}{fv:List aE}{dec:V->Hp->List aE->Prop}{D:Addr}{H:Hp}{Q:VK}{iL:St}(o9:iL=List.replicate own none++fv)(G:BN g own fv dec)(Pv:Nat->ag->Hp->Prop)
  (h0:Pv 0 [] (upd H D (.lst []))) (hl:∀i out H',i<=xs.length->Pv i out H'->fH K H' a xs) (hd:∀out H',Pv xs.length out H'->Q (.ref D) H')
  (AO:∀i x out H',xs[i]? = some x->Pv i out H'->∃o3,dec x H' o3/\o3.length=own/\∀Nx:Hp->Prop,(∀iT H2,Pv (i+1) iT H2->Nx H2)->
   tc (o3++fv) H' λb H4=>if b=true then te (o3++fv) H4 λy H5=>∃eV,H5 D\.lst eV/\eV.length<sizeLine/\Nx (upd H5 D (.lst (eV++[y]))) else Nx H4) :
  yA (PL K a) g tc te iL D H Q:=by
 apply Jm o9 G xs.length Pv h0 (λout H' p=>#[#[xs,hl _ _ _ (a9 _) p,a9 _],hd out H' p]) λi out H' hi p=>?_;let q:=hl i out H' (Nat.le_of_lt hi) p;apply#[#[xs,xs[i],q,by simp[hi]],λx H2 y=>?_];let#[e,y]:=y;subst e;exact AO i x out _ (y xs q) p
theorem YS{X:Cx}{K:af}{e:Expr}{ta:TE}{f:Str}{pos:Pos}(hK:X.K=K)(he:PE X e ta)(hb:PySem.attributeBase e f X.env (eval e X.env)=eval e X.env):PE X (.Attribute e f pos) (Du K ta f):=by
 subst hK;exact ja he hb
end L2
namespace Ev
open PySem L2
def mP(K:af)(H:Hp)(v:V):Option Int->Prop
 |some i=>v=.int i
 |none=>(∃x,v=.bl x)∨∃t,dF K H v t/\PySem.W.kitOne K t (.type "int")\false
def kh(K:af)(H:Hp)(y:V):Option (ag × V)->Prop
 |some (zs,nv)=>∃a t,y=.ref a/\H a\.tup [.ref t,nv]/\H t\.tup zs/\(∀v∈zs,∃x,∀H',jh K H' v x)/\∃o,∀H',mP K H' nv o
 |none=>(∃t,dF K H y t/\PySem.W.kitOne K t (.type "tuple")\false)∨∃a xs,y=.ref a/\H a\.tup xs/\(xs.length≠2∨∃v r t,xs=v::r/\dF K H v t/\PySem.W.kitOne K t (.type "tuple")\false)
theorem I_{K:af}{t:String}(e:PySem.W.kitOne K (.type t) (.type t)\false):False:=by
 unfold PySem.W.kitOne at e;rw[aK Y1] at e;cases e
def iu(hs:Xa)(qs:aS)(c:Nat):Option (ag × V)->Prop
 |some (zs,nv)=>zs.length=qs.length/\(∀v∈zs,∃h,v=.str h/\h∈aV hs)/\∃n:Int,nv=.int n/\0<=n/\n<c
 |none=>False
section v
def qQ(K:af):Sp:=λvs H Q _=>∃v o,vs=[v]/\mP K H v o/\Q (.bl o.isSome) H
theorem ZG{f:Addr}{fd:Ae}(F:bu K "is_whole" "is_whole" vG f fd)(B:Bi mg):!ak bc 1 f fd fM (qQ K):=by
 exists F.bW xA;let#[v,o,rfl,iv,k]:=h;apply#[_,aJ (bp (oy (bT gM (by rfl) B.gA gE %[0,gN (v:=.ty "int") (by rfl) B.int FJ U|0]) (pB (Mz (bT gM (by rfl) B.gA gE %[0,gN (v:=.ty "bool") (by rfl) B.bool M5 U|0]))))),?_];cases o with
 |some i=>
  cases (show v=.int i from iv);exact#[_,U,_,_,_,_,U,.int i,U,_,U,bN #[_,U,_,_,_,_,U,.int i,U,_,U,k]]
 |none=>
  rcases iv with⟨x,rfl⟩|⟨t,ty,e⟩
  ·exact#[_,U,_,_,_,_,U,.bl x,U,_,U,bN #[_,U,_,_,_,_,U,.bl x,U,_,U,k]]
  exact#[_,U,_,_,_,_,U,ty,e,_,U,aH k]
inductive OC (K:af) (vs:ag) (H:Hp) (Q:VK) (E:XK):Prop
 |mk:∀(v:V) (o:Option Int) (a b:Int),vs=[v,.int a,.int b]->mP K H v o->Q (.bl (o.elim false λi=>decide (a<=i)&&decide (i<=b))) H->OC K vs H Q E
theorem gF_{f:Addr}{fd:Ae}(F:bu K "is_whole_within" "is_whole_within" IS f fd)(cI:!bF 1 "is_whole" fM (qQ K)):!ak bc 2 f fd yD (OC K):=by
 exists F.bW nB;let#[v,o,a,b,rfl,iv,k]:=h;apply#[_,aJ (bp (oy (bj cI hr %[0|0]) (pB (Nr tS tS (pv 1) (pv 0) (pv 2))))),?_];apply#[_,U,v,o,U,iv,_,U,?_];cases o with
 |none=>exact aH k
 |some i=>
  cases (show v=.int i from iv);apply bN #[_,U,_,U,_,_,U,U,_,U,?_];have k:Q (.bl (decide (a<=i)&&decide (i<=b))) H:=k;apply bH (λc=>?_) (λc=>?_)
  ·apply#[_,U,_,_,U,U,?_];rw[c] at k;exact k
  rw[show decide (a<=i)=false by simpa using c] at k;exact k
theorem oP:bQ oG oG (a_ O3):=bZ
inductive Ov (K:af) (CG CW:Addr) (vs:ag) (H:Hp) (Q:VK) (E:XK):Prop
 |mk:∀(g p:Addr) (y:V) (hs:Xa) (ts:Xb) (qs:aS) (fp:av) (th:Option (ag × V)) (c:Nat),vs=[.ref g,.int c,y]->Gs K CG CW H g p hs ts qs fp->kh K H y th->c<=100->(∀b H',aa H H'->(b=true ↔ iu hs qs c th)->Q (.bl b) H')->Ov K CG CW vs H Q E
theorem eH_{f CG CW:Addr}{fd:Ae}(F:bu K "is_entry" "is_entry" O3 f fd)(B:Bi mg)(T:gy K CG)(TW:Txt K mg CW)(cN:!bY CG 1 "names" pA (CQ K CG CW))(cH:!bY CW 1 "has_hand" mF (II K CW))(cW:!bF 2 "is_whole_within" yD (OC K)):!ak bc 3 f fd oG (Ov K CG CW):=by
 exists F.bW oP;let#[g,p,y,hs,ts,qs,fp,th,c,rfl,G,ht,c2,k]:=h;let sz:=cK;have jO:aY 1 _:=hr.mono (by decide);refine' #[_,ax ?s1 (ax ?s2 (aJ ?s3)),?kk]
 case s1=>exact b_ (iK (eM (d4 (bT gM (by rfl) B.gA gE %[2,gN (v:=.ty "tuple") (by rfl) B.tuple oC U|0]))) (jZ (eP ou (bT gx (by rfl) B.len fN %[2|0]) ay))).pt (aJ (bp jw)) cm
 case s2=>exact b_ (iK (eM (d4 (bT gM (by rfl) B.gA gE %[bg cj (pv 2) ay,gN (v:=.ty "tuple") (by rfl) B.tuple oC U|0]))) (jZ (eP ou (bT gx (by rfl) B.len fN %[bg cj (pv 2) ay|0]) (bT gx (by rfl) B.len fN %[Bs cN T.cl jO (pv 0)|0])))).pt (aJ (bp jw)) cm
 case' s3=>refine' bp (oy (bT (Ub U) (by rfl) B.all PyProof.Rows.Boot.«all» %[jd ["hand","goods"] 1 [0] (Q6 (bg cj (pv 2) ay)) (λfp s H=>?g3) (λfp s H=>jy) (λfp s H=>?e3)|0]) (pB (bj cW hr %[bg cj (pv 2) ay,ay,br CB (pv 1) ay|0])))
 case g3=>exact fu (i:=0) (show (["hand","goods"]:ae).Nodup by decide +kernel) U (Or.inl U)
 case e3=>exact j2 cH TW.cl jO (YS (K:=K) U (pv 1) U) %[0|0]
 match th,ht with
 |none,.inl ⟨t,ty,e⟩=>
  apply#[_,U,_,_,_,_,U,ty,e,_,U,bN ?_];exact k false H (aa.refl H) #[λh=>(by cases h),λh=>h.elim]
 |none,.inr ⟨a,xs,e,ha,hx⟩=>
  subst e;have no:∀H',aa H H'->Q (.bl false) H':=λH' sm=>k false H' sm #[λh=>(by cases h),λh=>h.elim];apply#[_,U,_,_,_,_,U,.tup ha,U,_,U,aH ?_];apply#[_,U,a,_,U,.inr (.of ha),U,_,U,?_];apply bH (λcc=>no H (aa.refl H)) (λcc=>?_)
  have l2:xs.length=2:=by
   by_cases q:xs.length=2
   ·exact q
   apply absurd ?_ cc;simp;omega
  rcases hx with h|⟨v,r,t,rfl,ty,e⟩
  ·exact absurd l2 h
  ·apply#[_,U,a,_,0,_,U,U,.of ha,L2.cZ (j:=0) U,_,_,_,_,U,ty,e,_,U,bN ?_];exact no H (aa.refl H)
 |some (zs,nv),⟨a,t,e,ha,vV,sv,⟨o,iv⟩⟩=>
  subst e;let cX:=G.cX;apply#[_,U,_,_,_,_,U,.tup ha,U,_,U,aH ?_];apply#[_,U,a,_,U,.inr (.of ha),U,_,U,?_];apply Ba (show V.int ((2:Nat):Int)=V.int 2 from U) ?_;let#[dx,dw,dy,vs,dC,h1,h2,_]:=id G.G.ex;apply#[_,U,a,_,0,_,U,U,.of ha,L2.cZ (j:=0) U,_,_,_,_,U,.tup vV,U,_,U,aH ?_];apply#[_,U,a,_,0,_,U,U,.of ha,L2.cZ (j:=0) U,t,_,U,.inr (.of vV),_,U,g,dx,_,U,h1,wM _ _ _ Z0 Z0 Z0,g,p,hs,ts,qs,fp,U,G.G,λl hl=>?_];let#[s1,e1]:=aC (o:=.lst ((qs.map (·.1)).map V.str)) hl;generalize upd H l (.lst ((qs.map (·.1)).map V.str))=H1 at s1 e1 ⊢;apply#[l,_,U,.inl (.of e1),U,_,U,?_];apply bH (λcc=>k false H1 s1 #[λh=>(by cases h),λh=>?_]) (λcc=>?_)
  ·have:=h.1;simp[this] at cc
  have lz:zs.length=qs.length:=by
   simp at cc;omega
  let Co:=s1 _ _ ha;let pS:=s1 _ _ vV;let Gg1:=G.same s1;apply#[_,U,a,_,0,_,U,U,.of Co,L2.cZ (j:=0) U,t,U,#[_,.of pS],λD hD=>?_]
  let Pp:V->Prop:=λv=>∃h,v=.str h/\h∈aV hs
  apply Ta (own:=1) (fv:=[some (.ref g)]) (xs:=zs) U fg (λj out H'=>aa H1 H'/\∃bs:List Bool,H' D\.lst (bs.map V.bl)/\out=bs.map V.bl/\bs.length=j/\((∀b∈bs,b=true) ↔ ∀v∈zs.take j,Pp v)) #[aa.new hD,[],aA,U,U,by simp] (λj out H' _ ⟨sm,_⟩=>.of (sm _ _ pS)) (λout H5 ⟨s5,bs,ju,eo,_,all⟩=>?_) (λj y out H' hy ⟨sm,bs,dA,eo,lb,all⟩=>?_);rotate_left 1
  ·have hj:j<zs.length:=(cw.mp hy).1;let#[x,sx]:=sv y (cJ hy);let Gg2:=Gg1.same sm;let#[dx2,dw2,dy2,vs2,MJ,q1,q2,_]:=id Gg2.G.ex;let#[jV,_,_,_,_,_,_,w1,_]:=id q2.ex;have l1:out.length<sizeLine:=by rw[eo,aq];omega
   have hb:xV (hs.map (·.1)) x=true ↔ Pp y:=by
    cases x with
    |some x=>
     have ey:y=.str x:=sx H;rw[ey];show decide (x∈hs.map (·.1))=true ↔ _;rw[uV,<- (gv hs).mem_iff];exact#[λh=>#[x,U,h],λ⟨h,e,hm⟩=>by cases e;exact hm]
    |none=>
     let#[t,ty,e]:=sx H;apply#[λh=>(by cases h),λ⟨h,e2,_⟩=>?_];subst e2;cases ty;exact (I_ e).elim
   apply#[_,U,U,λNx hN=>eQ ?_];apply#[_,U,g,CG,dx2,_,_,U,q1,T.cl,T.nW,yM _ _ _,p,jV,_,U,w1,pE _ _ _ Z0 Z0 Z0,_,U,p,y,x,hs,ts,MJ,U,q2,sx H',out,by rw[eo];exact dA,l1,hN (out++[.bl (xV (hs.map (·.1)) x)]) _ #[fF sm hD,bs++[xV (hs.map (·.1)) x],?_,?_,by rw[dN,lb];rfl,?_]]
   ·rw[aA,eo,eK];rfl
   ·rw[eo,eK];rfl
   rw[oE,hy];constructor
   ·intro h v hv;rcases dE.mp hv with hv|hv
    ·exact all.mp (λb hb=>h b (List.mem_append_left _ hb)) v hv
    have:v=y:=⇑hv
    rw[this];exact hb.mp (h _ (kg _ Y1))
   intro h b hbm;rcases dE.mp hbm with hbm|hbm
   ·exact all.mpr (λv hv=>h v (List.mem_append_left _ hv)) b hbm
   rw[fw.mp hbm];exact hb.mpr (h y (kg _ Y1))
  rw[d_] at all
  have al:bs.all id=true ↔ ∀v∈zs,Pp v:=by
   rw[<- all,List.all_eq_true];exact Iff.rfl
  apply#[D,bs,U,.of ju,_,U,?_];apply bH (λc1=>?_) (λc1=>?_)
  ·apply#[_,U,a,_,1,_,U,U,.of (s5 _ _ Co),L2.cZ (j:=1) U,_,U,_,_,U,U,nv,o,0,(c:Int) - 1,U,iv H5,?_];apply k _ H5 (s1.trans s5) ?_;cases o with
   |some i=>
    have en:nv=.int i:=iv H;show (decide ((0:Int)<=i)&&decide (i<=(c:Int) - 1))=true ↔ _;rw[yQ,uV,uV];constructor
    ·rintro⟨h1,h2⟩;exact#[lz,al.mp c1,i,en,h1,by omega]
    ·rintro⟨_,_,n,e,h1,h2⟩;rw[en] at e;cases e;omega
   |none=>
    apply#[λh=>(by cases h),λ⟨_,_,n,e,_,_⟩=>?_];subst e;rcases iv H with⟨x,e⟩|⟨t,ty,e⟩
    ·cases e
    cases ty;exact (I_ e).elim
  apply k false H5 (s1.trans s5) #[λh=>(by cases h),λh=>absurd (al.mpr h.2.1) c1]
end
end Ev
namespace Ev
open PySem L2
structure kE (ts:Xb) (p:Pc):Prop where
 g:kz ts p
 sub:∀ws,p.2.2\ws->∀w∈ws,w∈ts
theorem UY:∀us:Xb,Paired (λw u=>w=u∨w=(u.2,u.1)) us us
 |[]=>.nil
 |u::us=>.cons (.inl U) (UY us)
section v
theorem BB:bQ [gL,"_law_ties_here","_law_most",wC,"_law_k","_law_name_here","_law_some","_law_weight","_law_ways"] uo (a_ O_):=bZ
inductive OT (K:af) (vs:ag) (H:Hp) (Q:VK) (E:XK):Prop
 |mk:∀(l lt:Addr) (m:Nat) (zs:ag) (ts:Xb),vs=[.ref l,.ref lt,.int m]->m<=8->bJ H l->H lt\.lst zs->bS K H zs (ts.map kT)->lt≠l->ts.length<64->(∀t∈ts,wB t)->(ts.map kO).Nodup->(∀(a:Addr) (ys:ag) (ps:aS) (H':Hp),aM l H H'->bJ H' l->H a=none->H' a\.lst ys->j4 K H' ys ps->(∀p∈ps,kE ts p)->(ps.map (·.1)).Nodup->ps.length<=m->Q (.ref a) H')->OT K vs H Q E
theorem g5_{f:Addr}{fd:Ae}(F:bu K "_law_pieces" "_law_pieces" O_ f fd)(B:Bi mg)(cD:!bF 1 tV uY wO)(cN:!bF 2 "_law_name" [gL] NV):!ak bc 3 f fd uo (OT K):=by
 exists F.bW BB;let#[l,lt,m,zs,ts,rfl,m8,st,dR,tu,xT,cX,good,nd,k]:=h;let sz:=cK;let lz:=bI tu;rw[aq] at lz;refine' #[_,ax ?s1 (ax ?s2 (aJ ?s3)),?kk]
 case s1=>exact bw 3 BB.nd (eJ bR)
 case' s2=>refine' d9 dU U ?i2 ?g2 (ax ?b1 (aJ ?b2))
 case i2=>exact qq (by rfl) B.range %[bj cD hr %[0,br fG (pv 2) ay|0]|0]
 case g2=>exact bX 4 BB.nd
 case b1=>exact bw 5 BB.nd (bj cN hr %[0|0])
 case' b2=>refine' b_ (eP (Ud gK (kU hr 0)) (pv 5) (jd ["_law_piece"] 1 [] (d5 (pv 3)) (λfp s H=>?g3) (λfp s H=>jy) (λfp s H=>?e3)) (by with_unfolding_all rfl)) (ax ?c1 (ax ?c2 (ax ?c3 (aJ ?c4)))) cm
 case g3=>exact fu (i:=0) (show (["_law_piece"]:ae).Nodup by decide +kernel) U (Or.inl U)
 case e3=>exact bg (B7 (K:=K) jF cj) (pv 0) ay
 case c1=>exact bw 6 BB.nd (eJ %[br fG ay (bj cD hr %[0,ay|0]),br fG ay (bj cD hr %[0,ay|0]),br fG ay (bj cD hr %[0,br Yz ay ay|0])|0])
 case c2=>exact bw 7 BB.nd (bg fX (pv 6) (bj cD hr %[0,ay|0]))
 case' c3=>refine' MM (i:=8) ["_law_tie",gL] 1 [0] BB.nd U (Or.inl U) (d5 (pv 1)) (λfp s H=>?g4) (λfp s H=>?t4) (λfp s H=>?e4)
 case g4=>exact fu (i:=0) (show (["_law_tie",gL]:ae).Nodup by decide +kernel) U (Or.inl U)
 case t4=>exact Jj (eP Ft (bj cD hr %[1,ay|0]) ay)
 case e4=>exact pv 0
 case c4=>exact j9 (kQ kP qi qj pI (pv 3) %[dD %[5,7,bg fX (eJ %[ow,ow,8|0]) (bj cD hr %[0,ay|0])|0]|0])
 case s3=>exact bp (pv 3)
 apply#[zl,λa ha=>?_];let#[P3,o_]:=st.some;have fL:l≠a:=bG o_ ha;let#[s1,e1]:=aC (o:=.lst []) ha;let oN:=st.same s1;generalize upd H a (.lst [])=H1 at s1 e1 oN ⊢;apply#[_,U,_,U,_,_,U,U,l,(m:Int)+1,U,by omega,by omega,oN,λr H2 r0 rm b2 cQ=>?_];apply#[_,U,by show (-(2 ^ 62):Int)<=r;omega,by show r<(2 ^ 62:Int);omega,?_]
 let Iv:dG:=λi σ H'=>∃(v4 v5 v6 v7 v8:aE) (ys:ag) (ps:aS),σ=[some (.ref l),some (.ref lt),some (.int m),some (.ref a),v4,v5,v6,v7,v8]/\aM l H H'/\bJ H' l/\H' a\.lst ys/\Paired (λy p=>∃t v,y=.ref t/\H' t\.tup [.str p.1,.int p.2.1,v]/\cy K H' v p.2.2/\v≠.ref a) ys ps/\(∀p∈ps,kE ts p)/\(ps.map (·.1)).Nodup/\ps.length<=i
 apply ua (lo:=0) (n:=r.toNat) Iv #[none,none,none,none,none,[],[],U,(aM.of s1).trans b2,cQ,b2 _ _ e1 fL.symm,.nil,by simp,.nil,a9 _] ?_ ?_
 ·rintro i σ H3 hi ⟨v4,v5,v6,v7,v8,ys,ps,rfl,b3,dX,jT,Hn,gp,vJ,le⟩;let ly:=bI Hn;apply#[_,U,l,U,dX,λx H4 nx b4 gU=>?_];let#[Vx,AJ]:=dX.some;let wc:=b4 _ _ jT fL.symm
  have Hl:∀{Ha Hb:Hp},aM l Ha Hb->bJ Ha l->∀{y p},(∃t v,y=V.ref t/\Ha t\.tup [.str p.1,.int p.2.1,v]/\cy K Ha v p.2.2/\v≠.ref a)->∃t v,y=V.ref t/\Hb t\.tup [.str (p:Pc).1,.int p.2.1,v]/\cy K Hb v p.2.2/\v≠.ref a:=by
   intro Ha Hb bb sb y p h;let#[t,v,e,ht,wy,na]:=h;let#[xs,e2]:=sb.some;exact#[t,v,e,bb _ _ ht (bO ht e2 nofun),wy.but bb sb,na]
  let Qv:=Paired.aQ Hn λy p h=>Hl b4 dX h;apply#[_,U,_,U,a,U,#[_,.of wc],λD hD=>?_];apply kb (own:=1) (fv:=[]) (xs:=ys) U fg (λi out H'=>aa H4 H'/\H' D\.lst out/\out=((ps.take i).map (·.1)).map V.str) #[aa.new hD,aA,U] (λi out H' _ ⟨sm,_,_⟩=>.of (sm _ _ wc)) (λout H5 ⟨s5,ju,eo⟩=>?_) (λj y out H' hy ⟨sm,dA,eo⟩=>?_);rotate_left 1
  ·have hj:j<ys.length:=(cw.mp hy).1;let#[t,v,e,ht,_]:=dP Qv j hj Y0;rw[aX hj] at hy;cases hy;rw[e];have hp:ps[j]? = some (ps[j]' Y0):=aX Y0;apply#[_,U,U,λNx hN=>eQ ?_];apply#[_,U,t,_,0,_,U,U,.of (sm _ _ ht),L2.cZ (j:=0) U,out,dA,?_,hN _ _ #[fF sm hD,aA,?_]]
   ·rw[eo,aq,aq,dM];omega
   rw[vm _ hp,eK,eo];rfl
  rw[ly,d_] at eo;subst eo;have b5:aM l H H5:=(b3.trans b4).trans (aM.of s5);let iP:=gU.same s5;let Fl:=s5 _ _ wc;let Qu:=Paired.aQ Qv λy p h=>Hl (aM.of s5) gU h;apply#[x,_,U,TJ ju,_,U,?_];apply bH (λc=>?_) (λc=>?_)
  ·have B0:x∉ps.map (·.1):=⇑c
   apply#[_,U,l,3,U,by decide,by decide,iP,λr1 H6 q0 q1 b6 iO=>#[_,_,U,U,?_]];apply#[_,U,l,9,U,by decide,by decide,iO,λr2 H7 q2 q3 b7 gz=>#[_,_,U,U,?_]];apply#[_,U,_,_,U,U,#[by decide,by decide,by decide],l,_,U,by decide,by decide,gz,λr3 H8 q4 q5 b8 ni=>#[_,_,U,U,?_]];have q5:r3<1000000000:=q5;apply#[zl,λp hp=>?_];let#[s9,e9]:=aC (o:=.lst [.int (1+r1),.int (1+r2),.int (1+r3)]) hp;let il:=ni.same s9
   have pl:p≠l:=by
    let#[xs,e]:=ni.some;exact (bG e hp).symm
   have Vb:aM l H5 (upd H8 p (.lst [.int (1+r1),.int (1+r2),.int (1+r3)])):=((b6.trans b7).trans b8).trans (aM.of s9);generalize upd H8 p (.lst [.int (1+r1),.int (1+r2),.int (1+r3)])=H9 at s9 e9 il Vb ⊢;apply#[_,U,_,U,l,3,U,by decide,by decide,il,λr4 HA q6 q7 bA Dz=>?_];let#[y,hy,wt,ew,w1,w2]:=E9 (p:=λy:V=>∃n:Int,y=.int n/\1<=n/\n<=1000000000) (a:=V.int (1+r1)) (b:=.int (1+r2)) (c:=.int (1+r3)) q6 q7 #[_,U,by omega,by omega] #[_,U,by omega,by omega] #[_,U,by omega,by omega];subst ew;apply#[p,_,_,_,U,U,.of (bA _ _ e9 pl),hy,?_];let Pn:=Vb.trans bA;have RM:aM l H HA:=b5.trans Pn;let EX:=RM _ _ dR xT;let VY:=jb tu RM o_;apply#[_,U,lt,U,#[_,.of EX],λD2 oh=>?_]
   have PU:D2≠l:=by
    let#[xs,e]:=Dz.some;exact (bG e oh).symm
   apply kb (own:=1) (fv:=[some (.ref l)]) (xs:=zs) U fg (λi out H'=>∃us:Xb,aM l HA H'/\bJ H' l/\H' D2\.lst out/\bS K H' out (us.map kT)/\us.Sublist (ts.take i)) #[[],aM.of (aa.new oh),Dz.same (aa.new oh),aA,.nil,List.nil_sublist _] (λi out H' _ ⟨_,b,_⟩=>.of (b _ _ EX xT)) (λVo HB ⟨us,bB,Hc,Cq,VX,sub⟩=>?_) (λi x out H' hx ⟨us,b,stx,hDx,P8,sub⟩=>?_);rotate_left 1
   ·let#[t,ht,p,rfl,hp]:=ue VY hx;apply#[_,U,U,λNx hN=>?_];apply#[_,U,l,3,U,by decide,by decide,stx,λr2 H4 q0 q1 b4 gU=>#[_,_,U,U,_,U,?_]];let#[Vv,jP]:=stx.some;let yX:=jb P8 b4 jP;let tG:=b4 _ _ hDx PU;let#[VB,e1]:=Dz.some;have iZ:p≠l:=bO hp e1 nofun;apply bH (λc2=>?_) (λc2=>?_)
    ·let lo:=bI P8;rw[aq] at lo;let ls:=sub.length_le;rw[dM] at ls;let EM:=b4 _ _ (b _ _ hp iZ) iZ;apply#[_,U,out,tG,by omega,hN _ _ #[us++[t],λb' o e ne=>?_,?_,aA,?_,?_]]
     ·rw[aB (bG e oh)];exact b4 _ _ (b _ _ e ne) ne
     ·unfold bJ;rw[aB PU.symm];exact gU
     ·rw[eK];exact JE (gR_ yX EM) tG
     rw[uc,ht];exact sub.append (List.Sublist.refl _)
    apply hN _ _ #[us,b.trans b4,gU,tG,yX,sub.trans ?_];rw[uc];exact List.sublist_append_left _ _
   rw[lz,d_] at sub;let Pm:=Pn.trans bB;let R6:=Pm _ _ Fl fL.symm;let WV:=Paired.aQ Qu λy p h=>Hl Pm iP h
   have D2a:D2≠a:=λz=>by
    have:=Pn _ _ Fl fL.symm;rw[<- z,oh] at this;cases this
   apply#[_,U,.inl #[U,_,.of R6],_,U,_,U,_,U,zl,λlx jP=>?_];let#[sC,eC]:=aC (o:=.lst [.non,.non,.ref D2]) jP;let stC:=Hc.same sC
   have Ai:lx≠l:=by
    let#[xs,e]:=Hc.some;exact (bG e jP).symm
   generalize upd HB lx (.lst [.non,.non,.ref D2])=HC at sC eC stC ⊢;apply#[_,U,l,3,U,by decide,by decide,stC,λr5 HD q8 q9 bD G_=>?_];have GH:aM l HB HD:=(aM.of sC).trans bD;let VV:=jb VX GH (Hc.some.choose_spec);let hDD:=GH _ _ Cq PU;let#[v,hv,o,wy,fresh,gw,gs]:=E9 (p:=λv:V=>∃o,cy K HD v o/\v≠.ref a/\(∀ws,o\ws->FW ts ws)/\∀ws,o\ws->∀w∈ws,w∈ts) (a:=V.non) (b:=.non) (c:=.ref D2) q8 q9 #[none,U,nofun,(λws z=>by cases z),(λws z=>by cases z)] #[none,U,nofun,(λws z=>by cases z),(λws z=>by cases z)] #[some us,#[D2,Vo,U,hDD,VV],(λz=>D2a (V.ref.inj z)),(λws z=>by cases z;exact ZH good nd sub (UY us)),(λws z w hw=>by cases z;exact sub.subset hw)];apply#[lx,_,_,_,U,U,.of (bD _ _ eC Ai),hv,zl,λt ht=>?_];let haD:=GH _ _ R6 fL.symm;let#[sE,eE]:=aC (o:=.tup [.str x,.int wt,v]) ht;let BX:=Paired.aQ WV λy p h=>Hl (GH.trans (aM.of sE)) Hc h;let G8:=G_.same sE;let P4:=wy.same sE;let bE:=(b5.trans Pm).trans (GH.trans (aM.of sE));let Cm:=sE _ _ haD;generalize upd HD t (.tup [.str x,.int wt,v])=HE at sE eE BX G8 P4 bE Cm ⊢;apply#[a,_,_,U,U,Cm,by omega,?_];apply#[_,_,_,_,_,_,ps++[(x,wt,o)],U,λb' o' e ne=>?_,?_,aA,?_,?_,?_,?_]
   ·rw[aB (bG e ha)];exact bE _ _ e ne
   ·unfold bJ;rw[aB fL];exact G8
   ·exact mI (Paired.aQ BX λy p ⟨t',v,e,h_,wy,na⟩=>#[t',v,e,by rw[aB (bO h_ Cm nofun)];exact h_,wy.put Cm na,na]) (.cons #[t,v,U,by rw[aB (bO eE Cm nofun)];exact eE,P4.put Cm fresh,fresh] .nil)
   ·intro q hq;rcases dE.mp hq with hq|hq
    ·exact gp q hq
    rw[fw.mp hq];exact#[#[nx,w1,w2,gw],gs]
   ·rw[eK,List.nodup_append];exact#[vJ,by simp,λa1 h1 a2 h2 e=>B0 (by rw[<- (fw.mp h2:a2=x),<- e];exact h1)]
   rw[dN,oF];omega
  exact#[_,_,_,_,_,ys,ps,U,b5,iP,Fl,Qu,gp,vJ,by omega]
 rintro σ H3 ⟨v4,v5,v6,v7,v8,ys,ps,rfl,b3,dX,jT,Hn,gp,vJ,le⟩;exact#[_,U,k a ys ps H3 b3 dX ha jT (Paired.aQ Hn λy p ⟨t,v,e,ht,wy,_⟩=>#[t,v,e,ht,wy]) gp vJ Y0]
end
end Ev
namespace Ev
open PySem L2
section v
theorem rh:bQ oM oM (a_ Nv):=bZ
inductive Nc (K:af) (vs:ag) (H:Hp) (Q:VK) (E:XK):Prop
 |mk:∀(l lh lp:Addr) (yh yp:ag) (hs:Xa) (ps:aS),vs=[.ref l,.ref lh,.ref lp]->bJ H l->H lh\.lst yh->bS K H yh (hs.map kH)->lh≠l->1<=hs.length->hs.length<=8->H lp\.lst yp->j4 K H yp ps->lp≠l->(ps.map (·.1)).Nodup->ps.length<=8->(∀d f H',aM l H H'->bJ H' l->H d=none->H' d\.dK (gd (ps.map (·.1)) f)->(∀n∈ps.map (·.1),f n∈hs.map (·.1))->Q (.ref d) H')->Nc K vs H Q E
theorem gL_{f:Addr}{fd:Ae}(F:bu K "_law_stand" "_law_stand" Nv f fd)(B:Bi mg)(cD:!bF 1 tV uY wO):!ak bc 2 f fd oM (Nc K):=by
 exists F.bW rh;let#[l,lh,lp,yh,yp,hs,ps,rfl,st,eZ,th,uI,h1,h8,jq,pc,Ef,nd,p8,k]:=h;let sz:=cK;let uH:=bI th;rw[aq] at uH;let B2:=bI pc;refine' #[_,aJ (bp (gS (BH U) (by rfl) B.dict qg %[jd ["_law_piece",j5,gL] 1 [1,0] (d5 (pv 2)) (λfp s H=>?g1) (λfp s H=>jy) (λfp s H=>?e1)|0])),?kk]
 case g1=>exact fu (i:=0) (show (["_law_piece",j5,gL]:ae).Nodup by decide +kernel) U (Or.inl U)
 case e1=>exact dD %[bg (B7 (K:=K) jF cj) (pv 0) ay,bg (B7 (K:=K) jF cj) (bg (B7 (K:=K) vI fX) (pv 1) (bj cD hr %[2,bT (F1 (K:=K) Pk gx) (by rfl) B.len fN %[1|0]|0])) ay|0]
 let#[P3,o_]:=st.some;apply#[_,U,lp,U,#[_,.of jq],λD hD=>?_];have Dl:D≠l:=(bG o_ hD).symm;apply kb (own:=1) (fv:=[some (.ref lh),some (.ref l)]) (xs:=yp) U fg (λi out H'=>∃hh:au,aM l H H'/\bJ H' l/\H' D\.lst out/\hh.length=i/\(∀h∈hh,h∈hs.map (·.1))/\kM K H' out ((((ps.map (·.1)).take i).zip (sV hh)).map λp=>(Sum.inr p.1,p.2))) #[[],aM.of (aa.new hD),st.same (aa.new hD),aA,U,by simp,by simp;exact .nil] (λi out H' _ ⟨_,b,_⟩=>.of (b _ _ jq Ef)) (λout H5 ⟨hh,b5,iP,ju,Le,mem,pa⟩=>?_) (λi y out H' hy ⟨hh,b,stx,dA,XN,mem,pa⟩=>?_)
 ·rw[B2] at Le;have lt:(ps.map (·.1)).take yp.length=ps.map (·.1):=by rw[B2];exact vk Y1
  rw[lt] at pa;have ln:(ps.map (·.1)).length=ps.length:=aq _;rw[Ra nd (by rw[ln];exact Le)] at pa;apply#[D,out,_,U,ju,pa,by rw[oA,ln];omega,λd hd=>?_]
  have jn:((gd (ps.map (·.1)) (A7 (ps.map (·.1)) hh)).map (·.1)).Nodup:=by
   rw[CO,mG,ud];exact nd.imp λn e=>n (iB e)
  rw[yN jn];apply k d (A7 (ps.map (·.1)) hh) _ (b5.trans (aM.of (aa.new hd))) (iP.same (aa.new hd)) (b5.free iP hd) aA λn hn=>?_;let#[j,hj,e]:=gB hn;have vZ:j<hh.length:=by rw[Le,<- ln];exact hj
  rw[Iz nd (k:=j) (by rw[aX hj,e]) (aX vZ)];exact mem _ (ke vZ)
 have hi:i<yp.length:=(cw.mp hy).1;let#[t,v,e,ht,_]:=dP pc i hi Y0;rw[aX hi] at hy;cases hy;rw[e];have hp:ps[i]? = some (ps[i]' Y0):=aX Y0;obtain⟨pz,ep⟩:∃p,p=ps[i]' Y0:=#[_,U];rw[<- ep] at hp ht;have tl:t≠l:=bO ht o_ nofun;apply#[_,U,U,λNx hN=>eQ ?_];apply#[_,U,t,_,0,_,U,U,.of (b _ _ ht tl),L2.cZ (j:=0) U,_,U,_,U,_,U,lh,_,U,.inl (.of (b _ _ eZ uI)),l,(yh.length:Int),U,by omega,by omega,stx,λr H2 r0 r1 b2 cQ=>?_];let#[r,rfl]:=w4 r0;have RD:r<yh.length:=by omega
 let#[u,eu,hu]:=dP th r RD (by rw[aq];omega);let bb:=b.trans b2;have hh':(hs.map kH)[r]'(by rw[aq];omega)=kH (hs[r]' Y0):=w9 ..;rw[hh'] at hu;let hu2:=uL (bb _ _ hu (bO hu o_ nofun));apply#[lh,_,r,.ref u,U,U,.of (bb _ _ eZ uI),L2.cZ (by rw[aX RD,eu]),u,_,0,_,U,U,.of hu2,L2.cZ (j:=0) U,zl,λz hz=>?_];let#[s3,e3]:=aC (o:=.tup [.str pz.1,.str (hs[r]' Y0).1]) hz;let dX:=cQ.same s3;let yd:=s3 _ _ (b2 _ _ dA Dl);generalize upd H2 z (.tup [.str pz.1,.str (hs[r]' Y0).1])=H3 at s3 e3 dX yd ⊢;let lo:=bI pa;rw[aq,List.length_zip,dM,aq,aq] at lo
 have tD:∀{c xs},H3 c\.tup xs->upd H3 D (.lst (out++[.ref z])) c\.tup xs:=λe=>by
  rw[aB (bO e yd nofun)];exact e
 let#[Vv,jP]:=stx.some;apply#[out,yd,by omega,hN _ _ #[hh++[(hs[r]' Y0).1],λc o e ne=>?_,?_,aA,by rw[dN,XN];rfl,λh hm=>?_,?_]]
 ·rw[aB (bG e hD)];exact s3 _ _ (bb _ _ e ne)
 ·unfold bJ;rw[aB Dl.symm];exact dX
 ·rcases dE.mp hm with hm|hm
  ·exact mem h hm
  rw[fw.mp hm];exact bx.mpr #[_,ke Y0,U]
 have ez:((ps.map (·.1)).take (i+1)).zip (sV (hh++[(hs[r]' Y0).1]))=((ps.map (·.1)).take i).zip (sV hh)++[(pz.1,V.str (hs[r]' Y0).1)]:=by
  rw[u6 (n:=pz.1) (by rw[df,hp];rfl)];show _=_;rw[show sV (hh++[(hs[r]' Y0).1])=sV hh++[V.str (hs[r]' Y0).1] from eK,List.zip_append (by rw[dM,aq,aq];omega)];rfl
 rw[ez,eK];apply mI (Paired.aQ pa λy p ⟨c,e,hc⟩=>#[c,e,tD (s3 _ _ (b2 _ _ hc (bO hc jP nofun)))]) (.cons #[z,U,tD e3] .nil)
theorem Nd:bQ [j5,mE,"_law_spot",wC,"_law_k"] uq (a_ N9):=bZ
def jL(ss:aS)(s:au)(h:Str):Int:=ld (fS ss s) (ss.map e_) h
inductive OD (K:af) (vs:ag) (H:Hp) (Q:VK) (E:XK):Prop
 |mk:∀(lh lp t:Addr) (yh yp:ag) (hs:Xa) (ss:aS) (s:au),vs=[.ref lh,.ref lp,.ref t]->H lh\.lst yh->bS K H yh (hs.map kH)->(hs.map (·.1)).Nodup->hs.length<=8->H lp\.lst yp->j4 K H yp ss->(ss.map (·.1)).Nodup->ss.length<=8->H t\.tup (sV s)->s.length=ss.length->(∀h∈s,h∈hs.map (·.1))->(∀d H',aa H H'->H d=none->H' d\.dK (dZ (hs.map (·.1)) λh=>.int (jL ss s h))->Q (.ref d) H')->OD K vs H Q E
theorem h0_{f:Addr}{fd:Ae}(F:bu K "_law_loads" "_law_loads" N9 f fd)(B:Bi mg):!ak bc 1 f fd uq (OD K):=by
 exists F.bW Nd;let#[lh,lp,t,yh,yp,hs,ss,s,rfl,eZ,th,pU,h8,jq,pc,nd,p8,ht,ls,hZ,k]:=h;let hu:=fP hr;let sz:=cK;let uH:=bI th;rw[aq] at uH;let B2:=bI pc;refine' #[_,ax ?s1 (ax ?s2 (aJ ?s3)),?kk]
 case' s1=>refine' bw 3 Nd.nd (gS (BH U) (by rfl) B.dict qg %[jd wz 2 [] (d5 (pv 0)) (λfp s H=>?g1) (λfp s H=>jy) (λfp s H=>?e1)|0])
 case g1=>exact CD (n:=2) (di (fu (i:=0) (show (wz:ae).Nodup by decide +kernel) U (Or.inl U)) (di (fu (i:=1) (show (wz:ae).Nodup by decide +kernel) U (Or.inl U)) hW))
 case e1=>exact dD %[0,ay|0]
 case' s2=>refine' d9 dU U ?i2 ?g2 (aJ ?b2)
 case i2=>exact qq (by rfl) B.range %[bT gx (by rfl) B.len fN %[1|0]|0]
 case g2=>exact bX 4 Nd.nd
 case b2=>exact u5 hu (pv 3) (bg cj (pv 2) (pv 4)) (br fG (j_ hu (pv 3) (bg cj (pv 2) (pv 4))) (bg cj (bg fX (pv 1) (pv 4)) ay)) U
 case s3=>exact bp (pv 3)
 apply#[_,U,lh,U,#[_,.of eZ],λD hD=>?_];apply kb (own:=2) (fv:=[]) (xs:=yh) U wd (λi out H'=>aa H H'/\H' D\.lst out/\kM K H' out (dZ ((hs.map (·.1)).take i) λ_=>.int 0)) #[aa.new hD,aA,.nil] (λi out H' _ ⟨sm,_,_⟩=>.of (sm _ _ eZ)) (λout H5 ⟨sm,ju,pa⟩=>?_) (λi y out H' hy ⟨sm,dA,pa⟩=>?_);rotate_left 1
 ·let#[h,hh,p,rfl,hp]:=ue th hy;apply#[_,#[p,_,_,U,.of (sm _ _ (uL hp)),U],U,λNx hN=>eQ ?_];apply#[_,U,zl,λz hz=>?_];let#[s3,e3]:=aC (o:=.tup [.str h.1,.int 0]) hz;generalize upd H' z (.tup [.str h.1,.int 0])=H3 at s3 e3 ⊢;have hi:i<hs.length:=(cw.mp hh).1;let lo:=bI pa;rw[oA,dM,aq] at lo
  have tD:∀{c xs},H3 c\.tup xs->upd H3 D (.lst (out++[.ref z])) c\.tup xs:=λe=>by
   rw[aB (bO e (s3 _ _ dA) nofun)];exact e
  apply#[out,s3 _ _ dA,by omega,hN _ _ #[fF (sm.trans s3) hD,aA,?_]];rw[u6 (n:=h.1) (by rw[df,hh];rfl)];show kM K _ _ (((hs.map (·.1)).take i++[h.1]).map _);rw[eK];exact mI (Paired.aQ pa λy p ⟨c,e,hc⟩=>#[c,e,tD (s3 _ _ hc)]) (.cons #[z,U,tD e3] .nil)
 have lt:(hs.map (·.1)).take yh.length=hs.map (·.1):=vk (by rw[aq];omega);rw[lt] at pa;apply#[D,out,_,U,ju,pa,by rw[oA,aq];omega,λd hd=>?_]
 have jn:((dZ (hs.map (·.1)) λ_=>V.int 0).map (·.1)).Nodup:=by
  rw[CO,mG,ud];exact pU.imp λn e=>n (iB e)
 rw[yN jn];let#[s6,e6]:=aC (o:=.dK (dZ (hs.map (·.1)) λ_=>V.int 0)) hd;have dn:H d=none:=sm.free hd;let iq:=sm.trans s6;generalize upd H5 d (.dK (dZ (hs.map (·.1)) λ_=>V.int 0))=H6 at s6 e6 iq ⊢;apply#[_,U,lp,_,U,.inl (.of (iq _ _ jq)),_,U,by show (-(2 ^ 62):Int)<=(yp.length:Int);omega,by show (yp.length:Int)<2 ^ 62;omega,?_]
 let Iv:dG:=λi σ H'=>∃(v4:aE),σ=[some (.ref lh),some (.ref lp),some (.ref t),some (.ref d),v4]/\aa H H'/\H' d\.dK (dZ (hs.map (·.1)) λh=>.int (ld (fS ss s) ((ss.take i).map e_) h))
 apply ua (lo:=0) (n:=((yp.length:Nat):Int).toNat) Iv #[none,U,iq,e6] ?_ ?_
 ·rintro i σ H7 hi ⟨v4,rfl,s7,e7⟩;rw[Int.zero_add];have hi:i<ss.length:=by omega
  let#[u,v,eu,EC,_]:=dP pc i Y0 hi;have HW:s[i]? = some (s[i]' Y0):=aX Y0;obtain⟨h,eh⟩:∃h,h=s[i]' Y0:=#[_,U];obtain⟨q,eq⟩:∃q,q=ss[i]:=#[_,U];have hq:ss[i]? = some q:=by rw[eq];exact aX hi
  rw[<- eh] at HW;rw[<- eq] at EC;have hm:h∈hs.map (·.1):=hZ h (cJ HW);have Fh:ib (sV s) (i:Int)\.str h:=L2.cZ (by rw[df,HW];rfl);let RA:=s7 _ _ ht;have ff:fS ss s q.1=h:=Iz nd (k:=i) (by rw[df,hq];rfl) HW;apply#[_,U,_,U,_,U,t,_,i,_,U,U,.of RA,Fh,d,.int (ld (fS ss s) ((ss.take i).map e_) h),U,?_,?_]
  ·have:=cO.k (k:=.inr h) e7;rw[Bz (g:=λh=>V.int (ld (fS ss s) ((ss.take i).map e_) h)) hm] at this;exact this
  apply#[_,U,_,U,lp,_,i,.ref u,U,U,.of (s7 _ _ jq),L2.cZ (by rw[aX Y0,eu]),u,_,1,_,U,U,.of (s7 _ _ EC),L2.cZ (j:=1) U,_,_,U,U,?_];apply#[_,U,_,U,_,U,t,_,i,_,U,U,.of RA,Fh,d,_,U,.k (k:=Sum.inr h) e7 (by rw[oA,aq];omega),?_];apply#[_,U,fF s7 dn,?_];rw[aA,RN hm];apply eY (λz=>some (HO.dK z)) (JH λn _=>?_);rw[vm _ hq,Sw];show (if n=h then _ else _)=V.int (if n=fS ss s q.1 then _ else _);rw[ff];by_cases c:n=h
  ·rw[aK c,aK c,c];rfl
  rw[aD c,aD c]
 rintro σ H7 ⟨v4,rfl,s7,e7⟩;have:ss.take ((yp.length:Nat):Int).toNat=ss:=vk Y0;rw[this] at e7;exact#[_,U,k d H7 s7 dn e7]
end
end Ev
namespace Ev
open PySem L2
structure eN (ts:Xb) (ss qs:aS):Prop where
 qs:qs=ss.map pO
 dr:∀p∈ss,kE ts p
 nd:(ss.map (·.1)).Nodup
theorem eN.vN{ts:Xb}{ss qs:aS}(S:eN ts ss qs):qs.map (·.1)=ss.map (·.1):=by
 rw[S.qs,cA];rfl
theorem eN.ws{ts:Xb}{ss qs:aS}(S:eN ts ss qs):qs.map e_=ss.map e_:=by
 rw[S.qs,cA];rfl
theorem eN.wp{ts:Xb}{ss qs:aS}(S:eN ts ss qs):∀q∈qs,0<=q.2.1/\q.2.1<=1000000000:=λq hq=>by
 rw[S.qs] at hq;let#[p,hp,rfl]:=bx.mp hq;let g:=(S.dr p hp).g;let h1:=g.w1;let h2:=g.w2;exact#[by show 0<=p.2.1;omega,h2]
theorem eN.len{ts:Xb}{ss qs:aS}(S:eN ts ss qs):qs.length=ss.length:=by rw[S.qs,aq]
theorem Mr{ts:Xb}{ss qs:aS}(S:eN ts ss qs)(s:au)(h:Str):jL ss s h=ld (fS qs s) (qs.map e_) h:=by
 unfold jL fS;rw[S.vN,S.ws]
theorem Tc{hs:Xa}{ts:Xb}{ss qs:aS}(G:Good hs ts)(S:eN ts ss qs)(s:au)(l:Int × Int):mh hs qs s l=true ↔ ∀a∈hs,∀b∈hs,¬(l.1 * a.2 * b.2<l.2 * (jL ss s a.1 * b.2 - jL ss s b.1 * a.2)):=by
 rw[Ss];let mo:=Bu G
 have one:∀a∈hs,∀b∈hs,(¬(l.1 * a.2 * b.2<l.2 * (jL ss s a.1 * b.2 - jL ss s b.1 * a.2)) ↔ l.2 * (fJ hs qs (fS qs s) a.1 - fJ hs qs (fS qs s) b.1)<=l.1 * fD hs):=λa ha b hb=>by
  have am:a.1∈aV hs:=(gv hs).mem_iff.mpr (bx.mpr #[a,ha,U]);have bm:b.1∈aV hs:=(gv hs).mem_iff.mpr (bx.mpr #[b,hb,U]);have ea:strOf hs a.1=a.2:=SJ G.pU ha;have eb:strOf hs b.1=b.2:=SJ G.pU hb;let sa:=Bj G am;let sb:=Bj G bm;let ma:=mo.2.2 _ am;let mb:=mo.2.2 _ bm;rw[ea] at sa ma;rw[eb] at sb mb;let alg:=YO (La:=ld (fS qs s) (qs.map e_) a.1) (Lb:=ld (fS qs s) (qs.map e_) b.1) ma mb
  have e1:fJ hs qs (fS qs s) a.1=ld (fS qs s) (qs.map e_) a.1 * (fD hs / a.2):=by
   unfold fJ;rw[ea]
  have e2:fJ hs qs (fS qs s) b.1=ld (fS qs s) (qs.map e_) b.1 * (fD hs / b.2):=by
   unfold fJ;rw[eb]
  rw[Mr S,Mr S,e1,e2,Int.not_lt];have Vd:0<a.2 * b.2:=Int.mul_pos Y0 Y0
  have k1:l.2 * (ld (fS qs s) (qs.map e_) a.1 * b.2 - ld (fS qs s) (qs.map e_) b.1 * a.2) * fD hs=a.2 * b.2 * (l.2 * (ld (fS qs s) (qs.map e_) a.1 * (fD hs / a.2) - ld (fS qs s) (qs.map e_) b.1 * (fD hs / b.2))):=by
   rw[Int.mul_assoc,alg]
   grind
  have k2:l.1 * a.2 * b.2 * fD hs=a.2 * b.2 * (l.1 * fD hs):=by grind
  constructor
  ·intro h;have:=Int.mul_le_mul_of_nonneg_right h (iF mo.1);rw[k1,k2] at this;exact Int.le_of_mul_le_mul_left this Vd
  intro h;have:=Int.mul_le_mul_of_nonneg_left h (iF Vd);rw[<- k1,<- k2] at this;exact Int.le_of_mul_le_mul_right this mo.1
 constructor
 ·intro h a ha b hb;exact (one a ha b hb).mpr (h _ ((gv hs).mem_iff.mpr (bx.mpr #[a,ha,U])) _ ((gv hs).mem_iff.mpr (bx.mpr #[b,hb,U])))
 intro h x hx y hy;let#[a,ha,rfl]:=bx.mp ((gv hs).mem_iff.mp hx);let#[b,hb,rfl]:=bx.mp ((gv hs).mem_iff.mp hy);exact (one a ha b hb).mp (h a ha b hb)
section v
theorem BE:bQ [j5,mE,"_law_spot","_law_limit",wC,"_law_one","_law_strength","_law_other","_law_more","_law_over"] ux (a_ lU):=bZ
inductive NM (K:af) (vs:ag) (H:Hp) (Q:VK) (E:XK):Prop
 |mk:∀(lh lp t lt:Addr) (yh yp:ag) (hs:Xa) (ts:Xb) (ss qs:aS) (s:au) (l:Int × Int),vs=[.ref lh,.ref lp,.ref t,.ref lt]->H lh\.lst yh->bS K H yh (hs.map kH)->Good hs ts->H lp\.lst yp->j4 K H yp ss->eN ts ss qs->ss.length<=8->H t\.tup (sV s)->Vs hs qs s->hY H lt l->uW l->(∀H',aa H H'->Q (.bl (mh hs qs s l)) H')->NM K vs H Q E
theorem _r{f:Addr}{fd:Ae}(F:bu K "_law_even" "_law_even" lU f fd)(cL:!bF 1 "_law_loads" uq (OD K)):!ak bc 2 f fd ux (NM K):=by
 exists F.bW BE;let#[lh,lp,t,lt,yh,yp,hs,ts,ss,qs,s,l,rfl,eZ,th,G,jq,pc,S,s8,ht,v,hl,lo,k]:=h;let hu:=fP hr;let uH:=bI th;rw[aq] at uH;have hZ:∀h∈s,h∈hs.map (·.1):=λh hh=>(gv hs).mem_iff.mp (v.hZ h hh);refine' #[_,ax ?s1 (ax ?s2 (aJ ?s3)),?kk]
 case s1=>exact bw 4 BE.nd (bj cL hr %[0,1,2|0])
 case' s2=>refine' d9 dU U (d5 (pv 0)) ?g2 (aJ ?b2)
 case g2=>exact jv U (di (bX 5 BE.nd) (di (bX 6 BE.nd) hW))
 case' b2=>refine' d9 dU U (d5 (pv 0)) ?g3 (ax ?c1 (aJ ?c2))
 case g3=>exact jv U (di (bX 7 BE.nd) (di (bX 8 BE.nd) hW))
 case c1=>exact bw 9 BE.nd (br CB (br tZ (j_ hu (pv 4) (pv 5)) (pv 8)) (br tZ (j_ hu (pv 4) (pv 7)) (pv 6)))
 case c2=>exact b_ (eP Ft (br tZ (bg cj (pv 3) ay) (pv 9)) (br tZ (br tZ (bg cj (pv 3) ay) (pv 6)) (pv 8))) (aJ (bp jw)) cm
 case s3=>exact bp jw
 apply#[_,U,_,U,_,U,lh,lp,t,yh,yp,hs,ss,s,U,eZ,th,G.pU,G.h8,jq,pc,S.nd,s8,ht,by rw[v.len,S.len],hZ,λd H1 s1 n1 e1=>?_];let Qc:=th.same s1
 have QL:∀n,0<=jL ss s n/\jL ss s n<=64000000000:=λn=>by
  rw[Mr S];exact HP S.wp (by rw[S.len];omega) _ _
 let X:(Str × Int)->(Str × Int)->Prop:=λa b=>l.1 * a.2 * b.2<l.2 * (jL ss s a.1 * b.2 - jL ss s b.1 * a.2)
 let Iv:dG:=λi σ H'=>∃(v5 v6 v7 v8 v9:aE),σ=[some (.ref lh),some (.ref lp),some (.ref t),some (.ref lt),some (.ref d),v5,v6,v7,v8,v9]/\H'=H1/\∀a∈hs.take i,∀b∈hs,¬X a b
 apply#[_,U,lh,U,#[_,.of (s1 _ _ eZ)],?_];apply ie (K:=K) (a:=lh) (xs:=yh) Iv ?_ ?_ ?_ ?_
 ·exact#[none,none,none,none,none,U,U,by simp]
 ·rintro i σ H' _ ⟨_,_,_,_,_,_,rfl,_⟩;exact .of (s1 _ _ eZ)
 ·rintro i y σ H2 hy ⟨v5,v6,v7,v8,v9,rfl,rfl,no⟩;let#[a,ha,p,rfl,hp]:=ue Qc hy;let am:=cJ ha;have an:a.1∈hs.map (·.1):=bx.mpr #[a,am,U];let ga:=G.aF a am;apply#[p,_,U,.of (uL hp),U,_,_,U,_,_,U,U,?_]
  let Iw:dG:=λj σ H'=>∃(v7 v8 v9:aE),σ=[some (.ref lh),some (.ref lp),some (.ref t),some (.ref lt),some (.ref d),some (.str a.1),some (.int a.2),v7,v8,v9]/\H'=H2/\∀b∈hs.take j,¬X a b
  apply#[_,U,lh,U,#[_,.of (s1 _ _ eZ)],?_];apply ie (K:=K) (a:=lh) (xs:=yh) Iw ?_ ?_ ?_ ?_
  ·exact#[_,_,_,U,U,by simp]
  ·rintro j σ H' _ ⟨_,_,_,_,rfl,_⟩;exact .of (s1 _ _ eZ)
  ·rintro j y σ H3 hy ⟨v7,v8,v9,rfl,rfl,Hq⟩;let#[b,hb,q,rfl,hq]:=ue Qc hy;let bm:=cJ hb;have bn:b.1∈hs.map (·.1):=bx.mpr #[b,bm,U];let gb:=G.aF b bm;let la:=QL a.1;let lb:=QL b.1;let ga1:=ga.2.1;let ga2:=ga.2.2;let gb1:=gb.2.1;let gb2:=gb.2.2
   have dg:∀{n},n∈hs.map (·.1)->cO H3 d (.str n) (some (.int (jL ss s n))):=λ{n} hn=>by
    have:=cO.k (k:=.inr n) e1;rw[Bz (g:=λh=>V.int (jL ss s h)) hn] at this;exact this
   apply#[q,_,U,.of (uL hq),U,_,_,U,_,_,U,U,?_];apply#[_,U,_,U,d,_,U,dg an,_,U,_,_,U,U,.inr #[by omega,by omega],_,U,_,U,d,_,U,dg bn,_,U,_,_,U,U,.inr #[by omega,by omega],_,_,U,U,?_];have m1:0<=jL ss s a.1 * b.2/\jL ss s a.1 * b.2<=64000000000 * 1000:=#[Int.mul_nonneg la.1 Y0,Int.mul_le_mul la.2 gb2 Y0 (by decide)];have m2:0<=jL ss s b.1 * a.2/\jL ss s b.1 * a.2<=64000000000 * 1000:=#[Int.mul_nonneg lb.1 Y0,Int.mul_le_mul lb.2 ga2 Y0 (by decide)];apply#[_,U,lt,_,1,_,U,U,.of (s1 _ _ hl),L2.cZ (j:=1) U,_,U,_,_,U,U,.inr #[by omega,by omega],?_];apply#[_,U,lt,_,0,_,U,U,.of (s1 _ _ hl),L2.cZ (j:=0) U,_,U,_,_,U,U,.inr #[by omega,by omega],_,U,_,_,U,U,.inr #[by omega,by omega],_,_,U,U,_,U,?_];apply bH (λc=>?_) (λc=>?_)
   ·have hx:X a b:=tP c;let kk:=k H3 s1
    have:mh hs qs s l=false:=by
     rw[<- Bool.not_eq_true,Tc G S];exact λh=>h a am b bm hx
    rw[this] at kk;exact kk
   have hx:¬X a b:=λh=>absurd h (Int.not_lt.mpr ⇑c);apply#[_,_,_,U,U,λz hz=>?_];rw[oE,hb] at hz;rcases dE.mp hz with hz|hz
   ·exact Hq z hz
   have:z=b:=⇑hz
   rw[this];exact hx
  rintro σ H3 ⟨v7,v8,v9,rfl,rfl,Hq⟩;rw[uH,d_] at Hq;apply#[_,_,_,_,_,U,U,λz hz=>?_];rw[oE,ha] at hz;rcases dE.mp hz with hz|hz
  ·exact no z hz
  have:z=a:=⇑hz
  rw[this];exact Hq
 rintro σ H2 ⟨v5,v6,v7,v8,v9,rfl,rfl,no⟩;rw[uH,d_] at no;let kk:=k H2 s1;rw[(Tc G S s l).mpr no] at kk;exact kk
end
end Ev
namespace L2
open PySem PySem.Spec PyProof.Rows PySem.W jk c_
def KL(K:af){D:Type}[DecidableEq D](R:Rp D)(neg:Bool):V->V->Hp->VK->Prop:=λx y H Q=>∃(d:D) (es:List D) (a:Addr) (ys:ag),R H x d/\y=.ref a/\fH K H a ys/\Paired (R H) ys es/\Q (.bl (if neg then !decide (d∈es) else decide (d∈es))) H
theorem Yx{X:Cx}{n:Nat}{D:Type}[DecidableEq D]{R:Rp D}(c:jm X n R)(hu:X.A.units+n+1<cLine):dW X (compareOp .In) (KL X.K R false):=by
 intro pins s σ H x y v u Q I rx ry h;let#[d,es,a,ys,hx,rfl,t,q,hq]:=h;cases ry;let#[us,r,pl,_]:=I.tuple t;let#[f,h1,h2]:=LP c I (A:=X.A.in1) rx hx (by show X.A.units+1+n<cLine;omega) r q;apply SeqAt.in_tupleAt f (wV pl) (λw hw=>h1 w ⇑hw) #[.bl _,H,I,U,?_];rw[show us.toArray.any f=us.any f by simp,h2];exact hq
end L2
namespace Ev
open PySem L2
def iI(t:Str × Str)(h:Str):Str:=if t.1=h then t.2 else t.1
theorem NB{ts:Xb}{a b:Str}:aN a b∈bV ts ↔ (a,b)∈ts∨(b,a)∈ts:=by
 rw[Nf];constructor
 ·rintro⟨⟨x,y⟩,ht,e⟩;rcases Rh (a:=x) (b:=y) (c:=a) (d:=b) (by show kT (aN x y)=kT (aN a b);rw[<- e]) with⟨rfl,rfl⟩|⟨rfl,rfl⟩
  ·exact .inl ht
  exact .inr ht
 rintro (h|h)
 ·exact#[_,h,U]
 exact#[_,h,OJ _ _]
def gF(ts:Xb)(p:Pc):Xb:=p.2.2.getD ts
theorem Yk{ws:Xb}(g:∀t∈ws,wB t){h h':Str}:(∃t∈ws,(h=t.1∨h=t.2)/\h'=iI t h) ↔ (h,h')∈ws∨(h',h)∈ws:=by
 constructor
 ·rintro⟨⟨x,y⟩,ht,e,rfl⟩;let ne:=(g _ ht).2.2;rcases e with rfl|rfl
  ·left
   rw[show iI (h,y) h=y from aK U];exact ht
  right
  rw[show iI (x,h) h=x from aD ne];exact ht
 rintro (ht|ht)
 ·exact#[_,ht,.inl U,(aK U).symm]
 exact#[_,ht,.inr U,(aD (g _ ht).2.2).symm]
theorem Za{hs:Xa}{ts:Xb}(G:Good hs ts){p:Pc}(d:kE ts p){h h':Str}(hm:h∈aV hs):h'∈uO hs ts (pO p) h ↔ ∃t∈gF ts p,(h=t.1∨h=t.2)/\h'=iI t h:=by
 have gw:∀t∈gF ts p,t∈ts:=λt ht=>by
  unfold gF at ht;cases e:p.2.2 with
  |none=>
   rw[e] at ht;exact ht
  |some ws=>
   rw[e] at ht;exact d.sub ws e t ht
 rw[Yk λt ht=>G.tok t (gw t ht)]
 have jI:∀{o},o∈near (aV hs) (bV ts) h ↔ (h,o)∈ts∨(o,h)∈ts:=λ{o}=>by
  unfold near;rw[ub,decide_eq_true_iff,NB];apply#[λz=>z.2,λz=>#[?_,z]];rcases z with z|z
  ·exact (gv hs).mem_iff.mpr (G.yZ _ z).2
  exact (gv hs).mem_iff.mpr (G.yZ _ z).1
 unfold uO;rw[ub,jI];let js:=(gv hs).mem_iff.mp hm;constructor
 ·rintro⟨h1,h2⟩;cases e:p.2.2 with
  |none=>
   unfold gF;rw[e];exact h1
  |some ws=>
   have e2:(pO p).2.2\bV ws:=by
    show p.2.2.map bV=_;rw[e];rfl
   rw[e2] at h2;let h3:=(Bool.and_eq_true_iff.mp h2).2;have h4:aN h h'∈bV ws:=tP h3;unfold gF;rw[e];exact NB.mp h4
 intro z;have zt:(h,h')∈ts∨(h',h)∈ts:=z.imp (gw _) (gw _);apply#[zt,?_]
 have L3:h'∈hs.map (·.1):=by
  rcases zt with y|y
  ·exact (G.yZ _ y).2
  exact (G.yZ _ y).1
 have td:Cz hs ts (some h) (some h')=true:=by
  show (decide _&&(decide _&&decide _))=true;rw[dc js,dc L3,dc (jI.mpr zt)];rfl
 unfold Cr;rw[td,Bool.true_and];cases e:p.2.2 with
 |none=>
  have e2:(pO p).2.2=none:=by
   show p.2.2.map bV=_;rw[e];rfl
  rw[e2]
 |some ws=>
  have e2:(pO p).2.2\bV ws:=by
   show p.2.2.map bV=_;rw[e];rfl
  rw[e2];unfold gF at z;rw[e] at z;exact dc (NB.mpr z)
abbrev Me:=(Str × Str × Str) × au
def Bg(H:Hp):ag->List Me->Prop:=Paired λy e=>∃t m u,y=.ref t/\H t\.tup [.ref m,.ref u]/\H m\.tup [.str e.1.1,.str e.1.2.1,.str e.1.2.2]/\H u\.tup (sV e.2)
theorem Bg.keep{H H':Hp}{ys:ag}{L:List Me}(h:Bg H ys L)(k:∀b xs,H b\.tup xs->H' b\.tup xs):Bg H' ys L:=Paired.aQ h λy e ⟨t,m,u,e1,e2,e3,e4⟩=>#[t,m,u,e1,k _ _ e2,k _ _ e3,k _ _ e4]
def PH(hs:Xa)(ts:Xb)(qs:aS)(s:au)(i:Nat)(e:Me):Prop:=∃(k:Nat) (q:Pc) (h h':Str),k<i/\qs[k]? = some q/\s[k]? = some h/\h'∈uO hs ts q h/\e=((q.1,h,h'),s.set k h')
theorem Y8{hs:Xa}{ts:Xb}{qs:aS}{s:au}{e:Me}:PH hs ts qs s qs.length e ↔ Mv hs ts qs s e.2 e.1:=by
 constructor
 ·rintro⟨k,q,h,h',_,h1,h2,h3,rfl⟩;exact#[k,q,h,h',h1,h2,h3,U,U]
 rintro⟨k,q,h,h',h1,h2,h3,h4,h5⟩;exact#[k,q,h,h',(cw.mp h1).1,h1,h2,h3,Prod.ext h5 h4]
section v
theorem wL:bQ [mE,"_law_ties_here","_law_spot",wC,"_law_k","_law_name_here","_law_weight","_law_ways","_law_tie","_law_other","_law_later"] oK (a_ NH):=bZ
inductive Jy (K:af) (vs:ag) (H:Hp) (Q:VK) (E:XK):Prop
 |mk:∀(lp lt t:Addr) (yp zs:ag) (hs:Xa) (ts:Xb) (ss qs:aS) (s:au),vs=[.ref lp,.ref lt,.ref t]->H lp\.lst yp->j4 K H yp ss->H lt\.lst zs->bS K H zs (ts.map kT)->Good hs ts->eN ts ss qs->ss.length<=8->H t\.tup (sV s)->Vs hs qs s->(∀l ys L H',aa H H'->H l=none->H' l\.lst ys->Bg H' ys L->(∀e,e∈L ↔ Mv hs ts qs s e.2 e.1)->L.length<=512->Q (.ref l) H')->Jy K vs H Q E
theorem hM_{f:Addr}{fd:Ae}(F:bu K "_law_moves" "_law_moves" NH f fd)(B:Bi mg):!ak bc 1 f fd oK (Jy K):=by
 exists F.bW wL;let#[lp,lt,t,yp,zs,hs,ts,ss,qs,s,rfl,jq,pc,dR,tu,G,S,s8,ht,v,k]:=h;let sz:=cK;let B2:=bI pc;let vl:=v.len;let sl:=S.len;let xv:=G.xv;let lz:=bI tu;rw[aq] at lz;refine' #[_,ax ?s1 (ax ?s2 (aJ ?s3)),?kk]
 case s1=>exact bw 3 wL.nd (eJ bR)
 case' s2=>refine' d9 dU U ?i2 ?g2 (ax ?b1 (aJ ?b2))
 case i2=>exact qq (by rfl) B.range %[bT gx (by rfl) B.len fN %[0|0]|0]
 case g2=>exact bX 4 wL.nd
 case b1=>exact Br (bg fX (pv 0) (pv 4)) (jv U (di (bX 5 wL.nd) (di (bX 6 wL.nd) (di (bX 7 wL.nd) hW))))
 case' b2=>refine' d9 dU U (d5 (bg fX (eJ %[7,1|0]) (gS Uh (by rfl) B.int FJ %[wQ Yf (pv 7) ow|0]))) ?g3 (aJ ?b3)
 case g3=>exact bX 8 wL.nd
 case' b3=>refine' b_ (eP (Yx gK (kU hr 0)) (bg cj (pv 2) (pv 4)) (pv 8) (by with_unfolding_all rfl)) (ax ?c1 (ax ?c2 (aJ ?c3))) cm
 case c1=>exact bw 9 wL.nd (bg fX (eJ %[bg cj (pv 8) ay,bg cj (pv 8) ay|0]) (gS Uh (by rfl) B.int FJ %[wQ Lp (bg cj (pv 8) ay) (bg cj (pv 2) (pv 4))|0]))
 case c2=>exact bw 10 wL.nd (br wN (br wN (jg FK (pv 2) jc (je (pv 4))) (dD %[9|0])) (jg FK (pv 2) (je (br fG (pv 4) ay)) jc))
 case c3=>exact j9 (kQ kP qi qj pI (pv 3) %[dD %[dD %[5,bg cj (pv 2) (pv 4),9|0],10|0]|0])
 case s3=>exact bp (pv 3)
 apply#[zl,λl hl=>?_];let#[s1,e1]:=aC (o:=.lst []) hl;generalize upd H l (.lst [])=H1 at s1 e1 ⊢;apply#[_,U,lp,_,U,.inl (.of (s1 _ _ jq)),_,U,by show (-(2 ^ 62):Int)<=(yp.length:Int);omega,by show (yp.length:Int)<2 ^ 62;omega,?_]
 let Iv:dG:=λi σ H'=>∃(v4 v5 v6 v7 v8 v9 v10:aE) (ys:ag) (L:List Me),σ=[some (.ref lp),some (.ref lt),some (.ref t),some (.ref l),v4,v5,v6,v7,v8,v9,v10]/\aa H H'/\H' l\.lst ys/\Bg H' ys L/\(∀e,e∈L ↔ PH hs ts qs s i e)/\L.length<=64 * i
 apply ua (lo:=0) (n:=((yp.length:Nat):Int).toNat) Iv ?_ ?_ ?_
 ·exact#[none,none,none,none,none,none,none,[],[],U,s1,e1,.nil,λe=>#[λz=>absurd z ig,λ⟨_,_,_,_,z,_⟩=>absurd z (Nat.not_lt_zero _)],gO _]
 ·rintro i σ H2 hi ⟨v4,v5,v6,v7,v8,v9,v10,ys,L,rfl,s2,e2,me,mem,len⟩;have hi:i<yp.length:=by omega
  let#[tp,wv,ep,hp,wy]:=dP pc i hi Y0;have LD:ss[i]? = some (ss[i]' Y0):=aX Y0;obtain⟨p,epp⟩:∃p,p=ss[i]' Y0:=#[_,U];rw[<- epp] at hp wy LD;have hq:qs[i]? = some (pO p):=by rw[S.qs,df,LD];rfl
  have RB:i<s.length:=by omega
  obtain⟨h,eh⟩:∃h,h=s[i]:=#[_,U];have hh:s[i]? = some h:=by rw[aX RB,eh]
  have hV:(sV s)[i]? = some (.str h):=by rw[df,hh];rfl
  let hm:=v.hZ h (cJ hh);let dp:=S.dr p (cJ LD);let ex:=λ{h'}=>Za G dp (h':=h') hm;rw[show (0:Int)+(i:Nat)=(i:Int) by omega];apply#[_,U,_,U,lp,_,i,_,U,U,.of (s2 _ _ jq),L2.cZ (by rw[aX hi,ep]),?_];apply#[tp,_,U,.of (s2 _ _ hp),U,_,_,U,_,_,U,_,_,U,U,?_]
  obtain⟨la,C0,j,hj,fL,tl,B4⟩:∃(la:Addr) (C0:ag) (j:Nat),(if decide (wv=V.non)=true then (1:Int) else 0)=(j:Int)/\[wv,V.ref lt][j]? = some (.ref la)/\(H la\.lst C0/\bS K H C0 ((gF ts p).map kT))/\(gF ts p).length<64:=by
   unfold gF;cases e:p.2.2 with
   |none=>
    rw[e] at wy;have wy:wv=.non:=wy;subst wy;exact#[lt,zs,1,U,U,#[dR,tu],xv]
   |some ws=>
    rw[e] at wy;let#[a,ys,rfl,ha,ta]:=wy;let wl:=(dp.g.ws ws e).len;exact#[a,ys,0,U,U,#[ha,ta],by show ws.length<64;omega]
  let#[E1,tl]:=tl;apply#[_,U,_,U,zl,λlx jP=>?_];let#[s3,e3]:=aC (o:=.lst [wv,.ref lt]) jP;let dI:=s2.trans s3;let uR:=s3 _ _ e2;let QH:=me.keep λb xs e=>s3 _ _ e;generalize upd H2 lx (.lst [wv,.ref lt])=H3 at s3 e3 dI uR QH ⊢;apply#[_,U,U,.inr #[_,U,?_]];rw[hj];apply#[lx,_,j,_,U,U,.of e3,L2.cZ fL,la,U,#[_,.of (dI _ _ E1)],?_];let Hu:=bI tl;rw[aq] at Hu
  let Iw:dG:=λj σ H'=>∃(v8 v9 v10:aE) (ys:ag) (L:List Me),σ=[some (.ref lp),some (.ref lt),some (.ref t),some (.ref l),some (.int i),some (.str p.1),some (.int p.2.1),some wv,v8,v9,v10]/\aa H H'/\H' l\.lst ys/\Bg H' ys L/\(∀e,e∈L ↔ PH hs ts qs s i e∨∃u∈(gF ts p).take j,(h=u.1∨h=u.2)/\e=((p.1,h,iI u h),s.set i (iI u h)))/\L.length<=64 * i+j
  apply ie (K:=K) (a:=la) (xs:=C0) Iw ?_ ?_ ?_ ?_
  ·exact#[_,_,_,ys,L,U,dI,uR,QH,λe=>(mem e).trans #[.inl,λz=>z.elim id λ⟨_,z,_⟩=>absurd z ig],by omega]
  ·rintro j σ H' _ ⟨_,_,_,_,_,_,sm,_⟩;exact .of (sm _ _ E1)
  ·rintro j y σ H4 hy ⟨v8,v9,v10,ys,L,rfl,s4,i6,D_,iW,l7⟩;let#[u,hu,c,rfl,hc]:=ue tl hy;have Ij:H4 c\.tup [.str u.1,.str u.2]:=s4 _ _ hc;let uK:=s4 _ _ ht;have vZ:j<C0.length:=(cw.mp hy).1;let Lc:=bI D_
   have tk:∀z,z∈(gF ts p).take (j+1) ↔ z∈(gF ts p).take j∨z=u:=λz=>by
    rw[oE,hu];simp
   apply#[_,U,_,U,t,_,i,_,U,U,.of uK,L2.cZ hV,_,U,h,[u.1,u.2],c,_,U,U,.of Ij,.cons U (.cons U .nil),_,U,?_];apply bH (λcd=>?_) (λcd=>?_)
   ·have js:h=u.1∨h=u.2:=⇑cd
    have ho:[V.str u.1,V.str u.2][(if u.1=h then 1 else 0:Nat)]? = some (.str (iI u h)):=by
     unfold iI;by_cases z:u.1=h
     ·rw[aK z,aK z];rfl
     rw[aD z,aD z];rfl
    have hz:(if decide (V.str u.1=V.str h)=true then (1:Int) else 0)=((if u.1=h then 1 else 0:Nat):Int):=by
     by_cases z:u.1=h
     ·rw[aK z,z];simp
     rw[aD z,aD (by intro y;exact z (V.str.inj (tP y)))];rfl
    apply#[_,U,c,_,0,_,U,U,.of Ij,L2.cZ (j:=0) U,_,U,c,_,1,_,U,U,.of Ij,L2.cZ (j:=1) U,zl,λlo RK=>?_];let#[sA,eA]:=aC (o:=.lst [.str u.1,.str u.2]) RK;generalize upd H4 lo (.lst [.str u.1,.str u.2])=HA at sA eA ⊢;apply#[_,U,c,_,0,_,U,U,.of (sA _ _ Ij),L2.cZ (j:=0) U,_,U,_,U,t,_,i,_,U,U,.of (sA _ _ uK),L2.cZ hV,U,.inr #[_,U,?_]];rw[hz];apply#[lo,_,_,_,U,U,.of eA,L2.cZ ho,?_];let HV:=sA _ _ uK;apply#[_,U,_,U,_,U,t,_,U,.of HV,?_,λp1 x5=>?_]
    ·rw[HT.eU,HT.d7,aq];omega
    rw[Tw];let#[s5,e5]:=aC (o:=.tup ((sV s).take i)) x5;generalize upd HA p1 (.tup ((sV s).take i))=H5 at s5 e5 ⊢;apply#[_,U,zl,λp2 kI=>?_];let#[s6,e6]:=aC (o:=.tup [.str (iI u h)]) kI;generalize upd H5 p2 (.tup [.str (iI u h)])=H6 at s6 e6 ⊢;apply#[p1,p2,_,_,U,U,s6 _ _ e5,e6,by rw[dM,aq,oF];omega,λp3 H7 s7 e7=>?_];let Qj:=(s5.trans s6).trans s7;apply#[_,U,_,U,_,_,U,U,_,U,t,_,U,.of (Qj _ _ HV),?_,λp4 EM=>?_]
    ·rw[show ((i:Int)+1)=((i+1:Nat):Int) by omega,HT.d7,aq];omega
    rw[show ((i:Int)+1)=((i+1:Nat):Int) by omega,TB];let#[oT,e8]:=aC (o:=.tup ((sV s).drop (i+1))) EM;generalize upd H7 p4 (.tup ((sV s).drop (i+1)))=H8 at oT e8 ⊢;apply#[p3,p4,_,_,U,U,oT _ _ e7,e8,by rw[dN,dM,aq,oF,wY,aq];omega,λp5 H9 s9 e9=>?_];rw[To RB] at e9;let zJ:=sA.trans ((Qj.trans oT).trans s9);let yk:=zJ _ _ i6;apply#[_,U,.inl #[U,_,.of yk],_,U,_,U,_,U,t,_,i,_,U,U,.of (zJ _ _ uK),L2.cZ hV,_,U,zl,λm EV=>?_];let#[sB,eB]:=aC (o:=.tup [.str p.1,.str h,.str (iI u h)]) EV;generalize upd H9 m (.tup [.str p.1,.str h,.str (iI u h)])=HB at sB eB ⊢;apply#[_,U,zl,λx hx=>?_];let#[sC,eC]:=aC (o:=.tup [.ref m,.ref p5]) hx;generalize upd HB x (.tup [.ref m,.ref p5])=HC at sC eC ⊢;let l0:=sB.trans sC;let KH:=zJ.trans l0;let IQ:=KH _ _ i6;apply#[l,_,_,U,U,IQ,by omega,?_]
    have kt:∀b xs,HC b\.tup xs->upd HC l (.lst (ys++[.ref x])) b\.tup xs:=λb xs e=>by
     rw[aB (bO e IQ nofun)];exact e
    apply#[_,_,_,_,L++[((p.1,h,iI u h),s.set i (iI u h))],U,fF (s4.trans KH) hl,aA,mI ((D_.keep λb xs e=>KH _ _ e).keep kt) (.cons #[x,m,p5,U,kt _ _ eC,kt _ _ (sC _ _ eB),kt _ _ (l0 _ _ e9)] .nil),λe=>?_,by rw[dN,oF];omega];rw[dE,iW,fw];constructor
    ·rintro ((z|⟨z,vT,r⟩)|z)
     ·exact .inl z
     ·exact .inr #[z,(tk z).mpr (.inl vT),r]
     exact .inr #[u,(tk u).mpr (.inr U),js,z]
    rintro (z|⟨z,vT,r⟩)
    ·exact .inl (.inl z)
    rcases (tk z).mp vT with vT|rfl
    ·exact .inl (.inr #[z,vT,r])
    exact .inr r.2
   have kJ:¬(h=u.1∨h=u.2):=⇑cd
   apply#[_,_,_,ys,L,U,s4,i6,D_,λe=>(iW e).trans #[λz=>z.imp id λ⟨x,hx,r⟩=>#[x,(tk x).mpr (.inl hx),r],λz=>z.imp id λ⟨x,hx,r⟩=>?_],by omega];rcases (tk x).mp hx with hx|rfl
   ·exact#[x,hx,r]
   exact absurd r.1 kJ
  rintro σ H4 ⟨v8,v9,v10,ys,L,rfl,s4,i6,D_,iW,l7⟩;apply#[_,_,_,_,_,_,_,ys,L,U,s4,i6,D_,λe=>(iW e).trans ?_,by omega];rw[Hu,d_];constructor
  ·rintro (⟨k',q',h1,h2,z1,z2⟩|⟨x,hx,r,rfl⟩)
   ·exact#[k',q',h1,h2,by omega,z2]
   exact#[i,_,h,_,by omega,hq,hh,ex.mpr #[x,hx,r,U],U]
  rintro⟨k',q',h1,h2,z1,z2,z3,z4,z5⟩;by_cases ck:k'=i
  ·subst ck;rw[hq] at z2;cases dO z2;rw[hh] at z3;cases dO z3;let#[x,hx,r,rfl]:=ex.mp z4;exact .inr #[x,hx,r,z5]
  exact .inl #[k',q',h1,h2,by omega,z2,z3,z4,z5]
 rintro σ H2 ⟨v4,v5,v6,v7,v8,v9,v10,ys,L,rfl,s2,e2,me,mem,len⟩;have:((yp.length:Nat):Int).toNat=qs.length:=by omega
 rw[this] at mem len;exact#[_,U,k l ys L H2 s2 hl e2 me (λe=>(mem e).trans Y8) Y0]
end
end Ev
namespace Ev
open PySem L2
theorem hW_{α:Type}{xs:List α}(h:0<xs.length):ib xs (-1)=xs[xs.length - 1]?:=by
 unfold ib vS;rw[aD (by decide),aK Y0];show xs[((xs.length:Int) + -1).toNat]? = _;congr 1;omega
def kn(ks:List au):List (aw × V):=ks.map λs=>(sK s,.bl true)
theorem Sg(ks:List au):(kn ks).map (·.1)=ks.map sK:=by
 unfold kn;rw[cA];rfl
theorem RU{ks:List au}{s:au}(hs:s∉ks):aZ (kn ks) (sK s)=none:=u_ (by
 rw[Sg];intro hm;let#[x,hx,e]:=bx.mp hm;rw[<- FO e] at hs;exact hs hx)
theorem SF(ks:List au)(s:au):(aZ (kn ks) (sK s)).isSome=decide (s∈ks):=by
 by_cases c:s∈ks
 ·rw[dc c];exact OP (by rw[Sg];exact bx.mpr #[s,c,U])
 rw[fO c,RU c];rfl
theorem Rn{ks:List au}{s:au}(hs:s∉ks):putK (kn ks) (sK s) (.bl true)=kn (ks++[s]):=by
 rw[yJ (RU hs)];unfold kn;rw[eK];rfl
theorem By{K:af}{H H':Hp}{ys:ag}{ps:aS}(h:j4 K H ys ps)(s:aa H H'):j4 K H' ys ps:=Paired.aQ h λy p ⟨t,v,e,ht,wy⟩=>#[t,v,e,s _ _ ht,wy.same s]
def hX(H:Hp):ag->List (List au)->Prop:=Paired λy L=>∃a zs,y=.ref a/\H a\.lst zs/\uX H zs L
theorem hX.keep{H H':Hp}:∀{ys:ag} {LL:List (List au)},hX H ys LL->(∀a,V.ref a∈ys->∀xs,H a\.lst xs->H' a\.lst xs)->(∀b xs,H b\.tup xs->H' b\.tup xs)->hX H' ys LL
 |_,_,.nil,_,_=>.nil
 |_,_,.cons ⟨a,zs,e,h1,h2⟩ t,kl,kt=>.cons #[a,zs,e,kl a (by rw[e];exact fY) _ h1,h2.keep kt] (hX.keep t (λa m=>kl a (fo _ m)) kt)
theorem hX.same{H H':Hp}{ys:ag}{LL:List (List au)}(h:hX H ys LL)(s:aa H H'):hX H' ys LL:=h.keep (λ_ _ _ e=>s _ _ e) λ_ _ e=>s _ _ e
structure ji (N:au->au->Prop) (s0:au) (LL:List (List au)):Prop where
 is:∀(j:Nat) L,LL[j]? = some L->L.Nodup/\∀s,s∈L ↔ Ds N s0 j s
 last:∃n,LL.length=n+1/\LL[n]? = some []
 ne:∀(j:Nat) L,j+1<LL.length->LL[j]? = some L->L≠[]
theorem ji.mem{N:au->au->Prop}{s0:au}{LL:List (List au)}(h:ji N s0 LL){j:Nat}{s:au}(d:Ds N s0 j s):∃L,LL[j]? = some L/\s∈L:=by
 let#[n,hn,hl]:=h.last
 have hj:j<n:=by
  by_cases c:j<n
  ·exact c
  let#[t,ht]:=d.down n Y0;exact absurd (((h.is n _ hl).2 t).mpr ht) ig
 have hx:LL[j]? = some (LL[j]' Y0):=aX Y0;exact#[_,hx,((h.is j _ hx).2 s).mpr d]
theorem ji.flat{N:au->au->Prop}{s0:au}{LL:List (List au)}(h:ji N s0 LL):LL.flatten.Nodup:=by
 rw[mG,List.pairwise_flatten];apply#[λL hL=>?_,?_]
 ·let#[j,hj,e]:=gB hL;exact mG.mp (h.is j L (by rw[aX hj,e])).1
 rw[List.pairwise_iff_getElem];intro i j hi hj lt;intro s h1 t h2 e;subst e;let d1:=((h.is i _ (aX hi)).2 s).mp h1;let d2:=((h.is j _ (aX hj)).2 s).mp h2;have:=d1.inj d2;omega
theorem ji.all{N:au->au->Prop}{s0:au}{LL:List (List au)}(h:ji N s0 LL)(s:au):s∈LL.flatten ↔ ∃j,Wk N s0 j s:=by
 rw[List.mem_flatten];constructor
 ·rintro⟨L,hL,hs⟩;let#[j,hj,e]:=gB hL;exact#[j,(((h.is j L (by rw[aX hj,e])).2 s).mp hs).1]
 rintro⟨j,w⟩;let#[i,_,d]:=w.ds;let#[L,hL,hs]:=h.mem d;exact#[L,cJ hL,hs]
section v
theorem BG:bQ [mE,"_law_ties_here","_law_spot","_law_most","_law_known","_law_layers_here","_law_layer","_law_one","_law_move","_law_later"] ur (a_ NY):=bZ
inductive Nj (K:af) (vs:ag) (H:Hp) (Q:VK) (E:XK):Prop
 |mk:∀(lp lt t:Addr) (m:Nat) (yp zs:ag) (hs:Xa) (ts:Xb) (ss qs:aS) (s:au),vs=[.ref lp,.ref lt,.ref t,.int m]->H lp\.lst yp->j4 K H yp ss->H lt\.lst zs->bS K H zs (ts.map kT)->Good hs ts->eN ts ss qs->ss.length<=8->H t\.tup (sV s)->Vs hs qs s->(aV hs).length ^ qs.length<=m->m<=1000000->(∀l ys LL H',aa H H'->H l=none->H' l\.lst ys->hX H' ys LL->(∀b,V.ref b∈ys->H b=none)->ji (Nx hs ts qs) s LL->LL.flatten.length<=m->Q (.ref l) H')->Nj K vs H Q E
theorem gp_{f:Addr}{fd:Ae}(F:bu K "_law_layers" "_law_layers" NY f fd)(B:Bi mg)(cM:!bF 1 "_law_moves" oK (Jy K)):!ak bc 2 f fd ur (Nj K):=by
 exists F.bW BG;let#[lp,lt,t,m,yp,zs,hs,ts,ss,qs,s,rfl,jq,pc,dR,tu,G,S,s8,ht,v,bm,m6,k]:=h;let hu:=fP hr;let sz:=cK;refine' #[_,ax ?s1 (ax ?s2 (ax ?s3 (aJ ?s4))),?kk]
 case s1=>exact bw 4 BG.nd (S4 hu (pv 2) jw)
 case s2=>exact bw 5 BG.nd (eJ %[eJ %[2|0]|0])
 case' s3=>refine' Tn dU (PW.pt (Q4 ?w1 (SB ?w2))) (ax ?b1 (ax ?b2 (aJ ?b3)))
 case w1=>exact eP (NO (kU hr 0)) (bg fX (pv 5) (Be Bp ay)) (eJ bR)
 case w2=>exact eP tS (bT ge_ (by rfl) B.len fN %[4|0]) (pv 3)
 case b1=>exact bw 6 BG.nd (eJ bR)
 case' b2=>refine' d9 dU U (d5 (bg fX (pv 5) (Be Bp ay))) ?g2 (aJ ?c1)
 case g2=>exact bX 7 BG.nd
 case' c1=>refine' d9 dU U (d5 (bj cM hr %[0,1,7|0])) ?g3 (aJ ?c2)
 case g3=>exact jv U (di (bX 8 BG.nd) (di (bX 9 BG.nd) hW))
 case' c2=>refine' b_ (qk (GG hu (pv 9) (pv 4))) (ax ?d1 (aJ ?d2)) cm
 case d1=>exact u5 hu (pv 4) (pv 9) jw U
 case d2=>exact j9 (kQ kP qi qj pI (pv 6) %[9|0])
 case b3=>exact j9 (kQ kP qi qj pI (pv 5) %[6|0])
 case s4=>exact bp (pv 5)
 intro d hd;have hK:∀{H':Hp},H' t\.tup (sV s)->H' t\.tup ((sK s).map kV):=λe=>by rw[iQ];exact e
 apply#[_,U,aA,t,sK s,U,by rw[aB (bG ht hd)];exact hK ht,?_];have s1:aa H (upd (upd H d (.dT [])) d (.dT [(sK s,.bl true)])):=fF (aa.new hd) hd;have e1:upd (upd H d (.dT [])) d (.dT [(sK s,.bl true)]) d\.dT (kn [s]):=aA;generalize upd (upd H d (.dT [])) d (.dT [(sK s,.bl true)])=H1 at s1 e1 ⊢;apply#[_,U,zl,λa0 Fn=>?_];let#[s2,e2]:=aC (o:=.lst [.ref t]) Fn;have a0n:H a0=none:=s1.free Fn;let T4:=s2 _ _ e1;let iR:=s1.trans s2;generalize upd H1 a0 (.lst [.ref t])=H2 at s2 e2 T4 iR ⊢;apply#[zl,λl hl=>?_];let#[s3,e3]:=aC (o:=.lst [.ref a0]) hl;have ln:H l=none:=iR.free hl;have a0l:a0≠l:=bG e2 hl;let uT:=s3 _ _ T4;let T_:=s3 _ _ e2;let dI:=iR.trans s3;generalize upd H2 l (.lst [.ref a0])=H3 at s3 e3 uT T_ dI ⊢
 let N:au->au->Prop:=Nx hs ts qs
 let Wv:dG:=λn σ H'=>∃(v6 v7 v8 v9:aE) (k:Nat) (ys:ag) (LL:List (List au)) (ks nw:List au),σ=[some (.ref lp),some (.ref lt),some (.ref t),some (.int m),some (.ref d),some (.ref l),v6,v7,v8,v9]/\aa H H'/\H' d\.dT (kn ks)/\H' l\.lst ys/\hX H' ys LL/\(∀b,V.ref b∈ys->H b=none/\b≠l)/\LL.length=k+1/\LL[k]? = some nw/\(∀(j:Nat) L,LL[j]? = some L->L.Nodup/\∀s',s'∈L ↔ Ds N s j s')/\Bf N s k ks nw/\(∀s'∈ks,Vs hs qs s')/\n=(aV hs).length ^ qs.length - ks.length+(if nw=[] then 0 else 1)/\k+(if nw=[] then 0 else 1)<=ks.length/\∀(j:Nat) L,j<k->LL[j]? = some L->L≠[]
 apply#[Wv,#[_,none,none,none,none,0,[.ref a0],[[s]],[s],[s],U,dI,uT,e3,.cons #[a0,_,U,T_,.cons #[t,U,dI _ _ ht] .nil] .nil,?_,U,U,?_,Bf.start,?_,U,?_,λj L z=>absurd z (Nat.not_lt_zero _)],?_]
 ·intro b hb;cases V.ref.inj (fw.mp hb);exact#[a0n,a0l]
 ·intro j L hj;cases j with
  |zero=>
   cases dO hj;exact#[by simp,(Bf.start (N:=N) (s0:=s)).new]
  |succ j=>cases hj
 ·intro s' hs';rw[fw.mp hs'];exact v
 ·simp
 rintro n σ H4 ⟨v6,v7,v8,v9,kk,ys,LL,ks,nw,rfl,s4,IU,i6,K_,pY,l7,vP,Rb,GC,J5,hn,kle,ne4⟩;let kB:=Jn (ns:=aV hs) (n:=qs.length) GC.nd λs' hs'=>#[(J5 s' hs').len,(J5 s' hs').hZ];let QM:=bI K_;have hk:kk<ys.length:=by omega
 let#[an,yn,T7,han,xy]:=dP K_ kk hk Y0;rw[aX Y0] at vP;rw[dO vP] at xy
 have x9:ib ys (-1)\.ref an:=by
  rw[hW_ Y0,show ys.length - 1=kk by omega,aX hk,T7]
 have anm:V.ref an∈ys:=by rw[<- T7];exact ke hk
 let Hv:=bI xy;apply#[_,U,_,U,l,ys,_,_,U,U,.of i6,x9,zl,λle hle=>?_];let#[s5,e5]:=aC (o:=.lst []) hle;let jE:=s4.trans s5;let Bb:=s5 _ _ IU;let uQ:=s5 _ _ i6;let Hx:=K_.same s5;let tw:=s5 _ _ han;let Hd:=xy.keep λb xs e=>s5 _ _ e;generalize upd H4 le (.lst [])=H5 at s5 e5 jE Bb uQ Hx tw Hd ⊢;apply#[an,le,yn,U,U,.of tw,.of e5,_,U,?_];by_cases cn:nw=[]
 ·have J3:yn=[]:=by
   rw[cn] at Hv;exact List.length_eq_zero_iff.mp Hv
  rw[J3];apply aH (aH #[_,U,?_]);rw[cn] at GC;have ok:ji (Nx hs ts qs) s LL:=#[Rb,#[kk,l7,by rw[aX Y0];exact vP.trans (by rw[cn])],λj L z=>ne4 j L Y0];apply k l ys LL H5 jE ln uQ Hx (λb hb=>(pY b hb).1) ok (ic (Jn ok.flat λs' hs'=>?_) bm);let#[j,wj]:=(ok.all s').mp hs';exact#[(wj.vs v).len,(wj.vs v).hZ]
 have J3:yn.isEmpty=false:=by
  cases yn with
  |nil=>exact absurd (List.length_eq_zero_iff.mp Hv.symm) cn
  |cons _ _=>rfl
 rw[J3];apply bN #[_,U,d,_,U,Bb,_,U,_,_,U,U,_,U,?_];have lk:(kn ks).length=ks.length:=aq _;rw[aD cn] at hn kle;have ct:decide (((kn ks).length:Int)<=(m:Int))=true:=dc Y0;rw[ct];apply bN #[λbf H'=>∃m',m'<n/\Wv m' bf H',λ_ _ h=>h,?_];apply#[zl,λla fL=>?_];let#[s6,e6]:=aC (o:=.lst []) fL;have QS:H la=none:=jE.free fL;have Li:la≠l:=(bG uQ fL).symm;have ana:an≠la:=bG tw fL;have Pt:an≠l:=(pY an anm).2;have and_:an≠d:=bO tw Bb nofun
 have fra:∀b,V.ref b∈ys->b≠la:=λb hb=>by
  let#[i,hi,ei]:=gB hb;let#[a',zs',e',h',_]:=dP Hx i hi Y0;rw[ei] at e';cases e';exact bG h' fL
 let iq:=jE.trans s6;let T3:=s6 _ _ Bb;let uP:=s6 _ _ uQ;let QJ:=Hx.same s6;let AX:=s6 _ _ tw;let Qg:=Hd.keep λb xs e=>s6 _ _ e;generalize upd H5 la (.lst [])=H6 at s6 e6 iq T3 uP QJ AX Qg ⊢
 let J:List au->Hp->Prop:=λseen H'=>∃(iX fd:List au) (fs:ag),aa H H'/\H' d\.dT (kn iX)/\H' l\.lst ys/\hX H' ys LL/\H' an\.lst yn/\uX H' yn nw/\H' la\.lst fs/\uX H' fs fd/\Wd ks seen iX fd/\(∀s'∈iX,Vs hs qs s')/\iX.length=ks.length+fd.length
 let Iv:dG:=λi σ H'=>∃(v7 v8 v9:aE) (seen:List au),σ=[some (.ref lp),some (.ref lt),some (.ref t),some (.int m),some (.ref d),some (.ref l),some (.ref la),v7,v8,v9]/\J seen H'/\(∀b,b∈seen ↔ ∃h∈nw.take i,N h b)
 apply#[_,U,_,U,l,ys,_,_,U,U,.of uP,x9,an,U,#[_,.of AX],?_];apply ie (K:=K) (a:=an) (xs:=yn) Iv ?_ ?_ ?_ ?_
 ·exact#[_,_,_,[],U,#[ks,[],[],iq,T3,uP,QJ,AX,Qg,e6,.nil,Wd.start GC.nd,J5,U],λb=>#[λz=>absurd z ig,λ⟨_,z,_⟩=>absurd z ig]]
 ·rintro i σ H' _ ⟨_,_,_,_,_,⟨_,_,_,_,_,_,_,e,_⟩,_⟩;exact .of e
 ·rintro i y σ H7 hy ⟨VS,xg,VR,seen,rfl,⟨HJ,pf,SO,nI,FN,wu,K9,Fj,xx,yo,zj,Da,BQ,QO⟩,mem⟩;have hi:i<yn.length:=(cw.mp hy).1
  obtain⟨h,hh,u,rfl,hu7⟩:∃h,nw[i]? = some h/\∃u,y=.ref u/\H7 u\.tup (sV h):=by
   have:=dP xx i hi Y0;rw[aX hi] at hy;cases hy;exact#[nw[i]' Y0,aX Y0,this]
  let hm:=cJ hh;let AR:=(GC.new h).mp hm;have vh:Vs hs qs h:=AR.1.vs v;apply#[_,U,_,U,_,U,lp,lt,u,yp,zs,hs,ts,ss,qs,h,U,nI _ _ jq,By pc nI,nI _ _ dR,tu.same nI,G,S,s8,hu7,vh,λl3 C_ L H8 oT BZ e8 QG Ac XO=>?_];have l3l:l3≠l:=λz=>by rw[z,wu] at BZ;cases BZ
  have XX:l3≠la:=λz=>by rw[z,yo] at BZ;cases BZ
  have l3d:l3≠d:=λz=>by rw[z,FN] at BZ;cases BZ
  let XH:=bI QG
  let Iw:dG:=λj σ H'=>∃(v8 v9:aE) (gW:List au),σ=[some (.ref lp),some (.ref lt),some (.ref t),some (.int m),some (.ref d),some (.ref l),some (.ref la),some (.ref u),v8,v9]/\H' l3\.lst C_/\Bg H' C_ L/\J gW H'/\(∀b,b∈gW ↔ b∈seen∨∃e∈L.take j,b=e.2)
  apply#[l3,U,#[_,.of e8],?_];apply ie (K:=K) (a:=l3) (xs:=C_) Iw ?_ ?_ ?_ ?_
  ·exact#[_,_,seen,U,e8,QG,#[HJ,pf,SO,nI.trans oT,oT _ _ FN,oT _ _ wu,K9.same oT,oT _ _ Fj,xx.keep λb xs e=>oT _ _ e,oT _ _ yo,zj.keep λb xs e=>oT _ _ e,Da,BQ,QO],λb=>#[.inl,λz=>z.elim id λ⟨_,w,_⟩=>absurd w (ig)]]
  ·rintro j σ H' _ ⟨_,_,_,_,e,_⟩;exact .of e
  ·rintro j y σ H9 hy ⟨J8,J7,gW,rfl,e9,Ht,⟨pP,S8,MH,xF,FM,yk,Hw,Fi,vC,T8,zi,J4,Dc,QN⟩,vO⟩;have hj:j<C_.length:=(cw.mp hy).1
   obtain⟨e,he,tt,mm,uu,rfl,ED,_,Ry⟩:∃e,L[j]? = some e/\∃t m u,y=.ref t/\H9 t\.tup [.ref m,.ref u]/\H9 m\.tup [.str e.1.1,.str e.1.2.1,.str e.1.2.2]/\H9 u\.tup (sV e.2):=by
    have:=dP Ht j hj Y0;rw[aX hj] at hy;cases hy;exact#[L[j]' Y0,aX Y0,this]
   have bL:N h e.2:=#[e.1,(Ac e).mp (cJ he)]
   have tk:∀c,(∃e∈L.take (j+1),c=e.2) ↔ (∃e∈L.take j,c=e.2)∨c=e.2:=λc=>by
    rw[oE,he];constructor
    ·rintro⟨x,hx,r⟩;rcases dE.mp hx with hx|hx
     ·exact .inl #[x,hx,r]
     have:x=e:=⇑hx
     rw[this] at r;exact .inr r
    rintro (⟨x,hx,r⟩|r)
    ·exact#[x,dE.mpr (.inl hx),r]
    exact#[e,by simp,r]
   have Io:H9 uu\.tup ((sK e.2).map kV):=by rw[iQ];exact Ry
   apply#[tt,_,U,.of ED,U,_,_,U,_,_,U,U,?_];apply#[_,U,_,U,d,_,U,.t FM Io,_,U,?_];rw[SF];by_cases c:e.2∈pP
   ·rw[dc c];apply aH ?_;apply#[_,_,gW++[e.2],U,e9,Ht,#[pP,S8,MH,xF,FM,yk,Hw,Fi,vC,T8,zi,J4.skip c,Dc,QN],λz=>?_];rw[dE,vO,tk,fw,or_assoc]
   rw[fO c];apply bN ?_;let kB9:=Jn (ns:=aV hs) (n:=qs.length) J4.nd λs' hs'=>#[(Dc s' hs').len,(Dc s' hs').hZ];let lf:=bI zi;have XJ:(kn pP).length=pP.length:=aq _;apply#[_,U,_,U,d,_,U,.t FM Io Y0,?_];rw[Rn c];have kA:∀{c o},H9 c\o->c≠d->upd H9 d (.dT (kn (pP++[e.2]))) c\o:=λe ne=>by rw[aB ne];exact e
   have tA:∀c xs,H9 c\.tup xs->upd H9 d (.dT (kn (pP++[e.2]))) c\.tup xs:=λc xs e=>kA e (bO e FM nofun);have lA:∀c xs,H9 c\.lst xs->upd H9 d (.dT (kn (pP++[e.2]))) c\.lst xs:=λc xs e=>kA e (bO e FM nofun);have sA:aa H (upd H9 d (.dT (kn (pP++[e.2])))):=fF xF hd;have eA:upd H9 d (.dT (kn (pP++[e.2]))) d\.dT (kn (pP++[e.2])):=aA;generalize upd H9 d (.dT (kn (pP++[e.2])))=HA at kA tA lA sA eA ⊢;let IX:=lA _ _ T8;apply#[_,U,.inl #[U,_,.of IX],_,U,la,_,_,U,U,IX,by omega,?_];have lB:∀c xs,c≠la->H9 c\.lst xs->upd HA la (.lst (MH++[.ref uu])) c\.lst xs:=λc xs ne e=>by rw[aB ne];exact lA _ _ e
   have tB:∀c xs,H9 c\.tup xs->upd HA la (.lst (MH++[.ref uu])) c\.tup xs:=λc xs e=>by
    rw[aB (bO (tA _ _ e) IX nofun)];exact tA _ _ e
   have XU:d≠la:=bO eA IX nofun;apply#[_,_,gW++[e.2],U,lB _ _ XX e9,Ht.keep tB,#[pP++[e.2],S8++[e.2],_,fF sA QS,by rw[aB XU];exact eA,lB _ _ Li.symm yk,Hw.keep (λb hb xs e=>lB _ _ (fra b hb) e) tB,lB _ _ ana Fi,vC.keep tB,aA,mI (zi.keep tB) (.cons #[uu,U,tB _ _ Ry] .nil),J4.add c,λs' hs'=>?_,?_],λz=>?_]
   ·rcases dE.mp hs' with hs'|hs'
    ·exact Dc s' hs'
    rw[fw.mp hs'];exact bL.vs vh
   ·rw[dN,dN,QN];rfl
   rw[dE,vO,tk,fw,or_assoc]
  rintro σ H9 ⟨J8,J7,gW,rfl,e9,Ht,jj,vO⟩;apply#[_,_,_,gW,U,jj,λb=>?_];rw[vO,mem,show C_.length=L.length from XH,d_,oE,hh];simp only[Option.toList_some,dE,fw];constructor
  ·rintro (⟨h',EV,nx⟩|⟨e,he,rfl⟩)
   ·exact#[h',.inl EV,nx]
   exact#[h,.inr U,e.1,(Ac e).mp he]
  rintro⟨h',EV|rfl,nx⟩
  ·exact .inl #[h',EV,nx]
  let#[mm,nx]:=nx;exact .inr #[(mm,b),(Ac (mm,b)).mpr nx,U]
 rintro σ H7 ⟨VS,xg,VR,seen,rfl,⟨HJ,pf,SO,nI,FN,wu,K9,Fj,xx,yo,zj,Da,BQ,QO⟩,mem⟩;rw[Hv,d_] at mem;let U6:=GC.next Da mem;apply#[_,U,.inl #[U,_,.of wu],_,U,l,_,_,U,U,wu,by omega,?_];have lB:∀c xs,c≠l->H7 c\.lst xs->upd H7 l (.lst (ys++[.ref la])) c\.lst xs:=λc xs ne e=>by rw[aB ne];exact e
 have tB:∀c xs,H7 c\.tup xs->upd H7 l (.lst (ys++[.ref la])) c\.tup xs:=λc xs e=>by
  rw[aB (bO e wu nofun)];exact e
 let kB7:=Jn (ns:=aV hs) (n:=qs.length) Da.nd λs' hs'=>#[(BQ s' hs').len,(BQ s' hs').hZ];have dl:d≠l:=bO FN wu nofun
 have gl:(LL++[pf])[kk+1]? = some pf:=by
  rw[yP Y0,show kk+1 - LL.length=0 by omega];rfl
 have fl:pf=[]->pf.length=0:=λz=>by rw[z];rfl
 have IA:pf≠[]->0<pf.length:=λz=>List.length_pos_iff.mpr z;apply#[(aV hs).length ^ qs.length - HJ.length+(if pf=[] then 0 else 1),?_,_,_,_,_,kk+1,_,LL++[pf],HJ,pf,U,fF nI ln,by rw[aB dl];exact FN,aA,mI (K9.keep (λb hb xs e=>lB _ _ (pY b hb).2 e) tB) (.cons #[la,_,U,lB _ _ Li yo,zj.keep tB] .nil),?_,by rw[dN,l7];rfl,gl,?_,U6,BQ,U,?_,?_]
 ·by_cases z:pf=[]
  ·rw[aK z];have:=fl z;omega
  rw[aD z];have:=IA z;omega
 ·intro b hb;rcases dE.mp hb with hb|hb
  ·exact pY b hb
  cases V.ref.inj (fw.mp hb);exact#[QS,Li]
 ·intro j L hL;by_cases c:j<LL.length
  ·rw[w6 c] at hL;exact Rb j L hL
  let vZ:=(cw.mp hL).1;rw[dN,oF] at vZ;have:j=kk+1:=by omega
  subst this;rw[gl] at hL;cases dO hL;exact#[Da.nf,U6.new]
 ·by_cases z:pf=[]
  ·rw[aK z];omega
  rw[aD z];have:=IA z;omega
 intro j L hj hL;rw[w6 Y0] at hL;by_cases c:j<kk
 ·exact ne4 j L c hL
 have:j=kk:=by omega
 subst this;rw[aX Y0,dO vP] at hL;rw[<- dO hL];exact cn
end
end Ev
namespace L2
open PySem PySem.Spec PyProof.Rows PySem.W jk c_
section
variable{X:Cx}
end
end L2
namespace Ev
open PySem L2
structure JX (K:af) (H:Hp) (lh lp lt ll:Addr) (hs:Xa) (ts:Xb) (ss qs:aS) (l:Int × Int):Prop where
 hh:∃yh,H lh\.lst yh/\bS K H yh (hs.map kH)
 hp:∃yp,H lp\.lst yp/\j4 K H yp ss
 ht:∃zs,H lt\.lst zs/\bS K H zs (ts.map kT)
 hl:hY H ll l
 lo:uW l
 G:Good hs ts
 S:eN ts ss qs
 s8:ss.length<=8
theorem JX.same{K:af}{H H':Hp}{lh lp lt ll:Addr}{hs:Xa}{ts:Xb}{ss qs:aS}{l:Int × Int}(h:JX K H lh lp lt ll hs ts ss qs l)(s:aa H H'):JX K H' lh lp lt ll hs ts ss qs l:=by
 let#[#[yh,a1,a2],#[yp,b1,b2],#[zs,c1,c2],d,e,f,g,i]:=h;exact#[#[yh,s _ _ a1,a2.same s],#[yp,s _ _ b1,By b2 s],#[zs,s _ _ c1,c2.same s],s _ _ d,e,f,g,i]
end Ev
namespace Ev
open PySem L2
end Ev
namespace Ev
open PySem L2
theorem LZ{α:Type}{p:α->Prop}{xs:List α}{r:Int}(h0:0<=r)(h1:r<xs.length)(all:∀x∈xs,p x):∃x,ib xs r\x/\p x:=by
 let#[j,rfl]:=w4 h0;have hj:j<xs.length:=by omega
 exact#[xs[j],L2.cZ (aX hj),all _ (ke hj)]
theorem gq.but{K:af}{CG CW:Addr}{H H':Hp}{l g p:Addr}{hs:Xa}{ts:Xb}{qs:aS}{fp:av}(G:gq K CG CW H g p hs ts qs fp)(b:aM l H H')(st:bJ H l)(nl:l∉fp):gq K CG CW H' g p hs ts qs fp:=by
 let#[xs,e]:=st.some;exact G.keep (λc hc o ho=>b _ _ ho λz=>nl (by rw[<- z];exact hc)) (λc zs hz=>b _ _ hz (bO hz e nofun))
theorem gq.DH{K:af}{CG CW:Addr}{H:Hp}{g p:Addr}{hs:Xa}{ts:Xb}{qs:aS}{fp:av}(G:gq K CG CW H g p hs ts qs fp):∃kK,gq K CG CW H g p hs ts qs kK/\(∀b∈kK,∃o,H b\o)/\∀c∈kK,c∈fp:=by
 let#[dx,dw,dy,vs,dC,h1,h2,h3,h4,h5,m1,m2,m3,m4,m5]:=G.ex;have hZ:∀{b:Addr} {o:HO},b∈fp->H b\o->b∈fp.filter λb=>(H b).isSome:=λm e=>ub.mpr #[m,by rw[e];rfl];apply#[fp.filter λb=>(H b).isSome,#[dx,dw,dy,vs,dC,h1,h2,h3,h4,h5,hZ m1 h1,hZ m2 h3,hZ m3 h4,λb hb=>?_,λv hv a z=>?_],λb hb=>?_,λb hb=>(ub.mp hb).1]
 ·let#[o,e]:=h2.has hb;exact hZ (m4 b hb) e
 ·let#[i,hi,ev]:=gB hv;let le:=bI h5;let w:=dP h5 i hi Y0;rw[ev,z] at w;cases o:(qs[i]' Y0).2.2 with
  |none=>
   rw[o] at w;cases (show V.ref a=.non from w)
  |some ws=>
   rw[o] at w;let#[a',ys,e,h,_]:=w;cases e;exact hZ (m5 v hv a z) h
 exact Option.isSome_iff_exists.mp (ub.mp hb).2
theorem g4_{hs:Xa}{ts:Xb}{qs:aS}{f:bz}{r:Int}(G:Good hs ts)(wp:∀q∈qs,0<=q.2.1/\q.2.1<=1000000000)(cX:qs.length<64)(R:CK hs qs f r):uW (fr r (fD hs)):=by
 let rl:=Sr G wp cX R;let mo:=Bu G;let fb:=QY rl.1 rl.2 mo.1 mo.2.1;let#[f1,f2,f3,f4,f5]:=fb;apply#[f3,?_,?_,?_,f5]<;>omega
end Ev
namespace L2
open PySem PySem.Spec PyProof.Rows
section
variable{M:Model}{A:Ag}{E:Aa->Ab->Prop}{s:Ab}
end
section
variable{X:Cx}{E:XK}
end
section v
section
variable{N:ae}{qual:Str}{scope:Scope}{f:Addr}{cd:Aa}{A:Ag}{outer:List Env}{s:Ab}{H:Hp}{E:XK}
end
end
end L2
namespace L2
open PySem PySem.Spec PySem.Calls PyProof.Rows PySem.W
section
variable{M:Model}{A:Ag}{E:Aa->Ab->Prop}{s:Ab}{base:Heap}{env:Env}{outer:List Env}{L e:Addr}{cls a0:Aa}{Q:Unit->Ab->Prop}
end
end L2
namespace L2
open PySem PySem.Spec PySem.Calls PyProof.Rows PySem.W
section
variable{prog:Ad}{w:Af}{A:Ag}{E:Aa->Ab->Prop}{h:Heap}{g:Array GenState}{d:Drawn}{t:Nat}{os:OsState}{nm q:Str}{C N f:Addr}{bs bm U5:aj}{Mh:Bool}{sn:ae}{sub:aj}{ab:Bool}{col:Option Bool}{dd:Option Addr}{k0 k1 k2 k3 k5:Option Aa}{B newId Aw:String}{K:af}{rest:aj}
end
end L2
namespace L2
open PySem PySem.Spec PySem.Calls PyProof.Rows PySem.W Builtin Builtin.ObjectAttr
def A8(C CE:Addr):aj:=[.ref C,.ref CE,.type "ValueError",.type "Exception",.type "BaseException",.type "object"]
section
variable{prog:Ad}{w:Af}{A:Ag}{E:Aa->Ab->Prop}{s:Ab}{K:af}{x C CE:Addr}{ox:Obj}{od:Option Obj}{name:Str}{tk:Tok}{v:Aa}{cd:ClassData}
end
end L2
namespace L2
open PySem PySem.Spec PySem.Calls PyProof.Rows PySem.W
section
variable{M:Model}{A:Ag}{E:Aa->Ab->Prop}{s:Ab}{env:Env}{nm q:Str}{C N:Addr}{bs bm:aj}{Mh:Bool}{sn:ae}{sub:aj}{ab:Bool}{col:Option Bool}{dd:Option Addr}{k0 k1 k2 k3 k5:Option Aa}{newId:String}
end
end L2
namespace L2
open PySem PySem.Spec PySem.Calls PyProof.Rows PySem.W
def A9(K:af)(C:Addr)(U5:aj)(newId:String):Bool:=
 match K.lookup C with
 |some ⟨.type "type",_,.cls cd,sl⟩=>
  match cd.mro,sl.toList with
  |.ref C'::bm,[_,_,_,_,some (.builtin n),_]=>C' == C&&n == newId&&!cd.hasDel&&tailIn K U5 bm&&nsOkIn K cd.ns
  |_,_=>false
 |_=>false
def On(K:af)(C CE:Addr):Bool:=
 match clsIn K C with
 |some cd=>cd.mro == A8 C CE&&cd.hasDict
 |none=>false
structure ExO (K:af) (C CE:Addr):Prop where
 kx:PR K C
 ex:A9 K C bmV "ValueError.__new__"=true
 es:findIn K (.ref C) "__setattr__"\some (.builtin "object.__setattr__")
 cl:On K C CE=true
structure ExF (K:af) (C:Addr) (f:Str):Prop where
 tk:takerIn K C f\none
 fd:findIn K (.ref C) f\none
structure ExB (K:af) (CE:Addr):Prop where
 sp:specialIn K (.ref CE) "__getattribute__"\some (.builtin "type.__getattribute__")
 rd:readsIn K CE (.type "type")=true
 fc:findCls K (.ref CE) (.type "type") "__init__"\.val (.builtin "ValueError.__init__")
section
variable{P:Ad}{w:Af}{H:Hp}{h:Heap}{e C a0 d:Addr}{dd:Option Addr}{fs:List (Str × V)}
end
section
variable{X:Cx}{C CE:Addr}{x f:Str}{p apos pos pos':Pos}{o e value:Expr}{es:List Expr}{ta tv:TE}{t:TA}
end
end L2
namespace L2
open PySem PySem.Spec PySem.Calls PyProof.Rows PySem.W
section
variable{X:Cx}{pins:List (Addr × Obj)}{σ:St}{H H':Hp}{s s1:Ab}{B h:Heap}{a:Addr}{cls a0:Aa}{dd:Option Addr}{E:XK}
end
section
variable{P:Ad}{w:Af}{K:af}{mg:Str->Option Aa}{base:Heap}{N:ae}{qual:Str}{scope:Scope}{f:Addr}{cd:Aa}{A:Ag}{outer:List Env}{s:Ab}{H:Hp}{E:XK}
end
section
variable{X:Cx}{x:Str}{C f:Addr}{fd:Ae}{ps:ae}{sp:Sp}{k:Nat}{np cu pos:Pos}{e:Expr}{es:List Expr}{t:TA}{E:XK}
end
end L2
namespace L2
open PySem PySem.Spec PySem.Calls PyProof.Rows PySem.W
section
variable{X:Cx}{i:Nat}{x n:Str}{D C:Addr}{np AB pos:Pos}{BA:Stmt}{qN body:List Stmt}{tb:XK->TS}{ts:TS}{rest:List ExceptHandler}
end
end L2
namespace L2
open PySem PySem.Spec PySem.Calls PyProof.Rows PySem.W
section
variable{P:Ad}{w:Af}{K:af}{mg:Str->Option Aa}{base:Heap}{N:ae}{qual:Str}{scope:Scope}{f:Addr}{cd:Aa}{A:Ag}{outer:List Env}{s:Ab}{H:Hp}{E:XK}
end
section
variable{X:Cx}{i:Nat}{x x2 n:Str}{D C D2 C2:Addr}{np AB np2 RG pos:Pos}{BA c₀:Stmt}{qN Ku body:List Stmt}{tb:XK->TS}{ts ts2:TS}
end
section
variable{X:Cx}
end
end L2
namespace L2
open PySem PySem.Spec PySem.Calls PyProof.Rows PySem.W
section
variable{X:Cx}{i:Nat}{x n:Str}{D:Addr}{ok:Addr->Prop}{np AB pos:Pos}{BA:Stmt}{qN body:List Stmt}{tb:XK->TS}{ts:TS}
end
end L2
namespace L2
open PySem PySem.Spec PySem.Calls PyProof.Rows PySem.W
end L2
namespace L2
open PySem PySem.Spec PyProof.Rows
section
variable{X:Cx}
end
section
variable{X:Cx}{k:Nat}{ps:ae}{x:Str}{p pos:Pos}{e:Expr}{es:List Expr}{tn:TE}{t:TA}
end
end L2
namespace L2
open PySem PySem.Spec PyProof.Rows PySem.W
structure Jz (ps dh:ae) (scope:Scope):Prop where
 nd:(ps++dh).Nodup
 kind:scope.kind=.function
 co:scope.isCoroutine=false
 gen:scope.isGenerator=false
 par:∀p∈ps,scope.names.lookup p\.local
 fv:∀x∈dh,scope.names.lookup x\.free
 all:∀x,scope.names.lookup x\.free->x∈dh
 sN:∀x∈scope.names,x.2≠.cell
def Cs(CX:kZ)(P:Ad)(w:Af)(K:af)(mg:Str->Option Aa)(base:Heap)(N:ae)(qual:Str)(scope:Scope)(f:Addr)(cd:Aa)(cl:List (Str × Addr))(A:Ag)(outer:List Env)(s:Ab)(H:Hp)(E:XK):Cx where
 prog:=P
 w:=w
 K:=K
 mg:=mg
 base:=base
 A:=A.deeper (envX qual scope s.heap.objs.size f cd cl)
 N:=N
 dk:=s
 ku:=H
 env:=envX qual scope s.heap.objs.size f cd cl
 outer:=outer
 stack:=envX qual scope s.heap.objs.size f cd cl::outer
 ex:=[]
 calm:=true
 fn:=λ_=>false
 pn:=[]
 xe:=λe s'=>wpAny (model P w) (A.deeper (envX qual scope s.heap.objs.size f cd cl)) (leaving (envX qual scope s.heap.objs.size f cd cl) e) (λ_ pM=>CX outer H s E e pM) (λe' pM=>CX outer H s E e' pM) s'
theorem Ug{x:Str}{u:Aa}:∀{l:List (Str × Aa)},(l.map (·.1)).Nodup->(x,u)∈l->l.lookup x\u
 |(y,v)::l,nd,h=>by
  let n:=kW.mp nd;rcases cg.mp h with e|h
  ·cases e;simp[List.lookup]
  have ne:x≠y:=λz=>n.1 (by rw[<- z];exact bx.mpr #[_,h,U]);have:(x == y)=false:=⇑ne
  rw[qr,this];exact Ug n.2 h
theorem Rx:∀(ps:ae) (us:aj),((ps.zip us).map (·.1)).Sublist ps
 |[],_=>by simp
 |_::_,[]=>by simp
 |p::ps,u::us=>by
  simp only[List.zip_cons_cons,fE];exact (Rx ps us).cons₂ p
theorem dd_{ps:ae}{us:aj}{i:Nat}{x:Str}{u:Aa}(nd:ps.Nodup)(h1:ps[i]? = some x)(h2:us[i]? = some u):(ps.zip us).reverse.lookup x\u:=by
 apply Ug ?_ (List.mem_reverse.mpr (cJ (i:=i) ?_))
 ·rw[List.map_reverse];apply (List.reverse_perm _).nodup_iff.mpr (nd.sublist ?_);exact Rx ps us
 rw[List.getElem?_zip_eq_some];exact#[h1,h2]
structure Js (dh:ae) (cl:List (Str × Addr)) (gs:ag) (h:Heap):Prop where
 inj:∀x y c,cl.lookup x\c->cl.lookup y\c->x=y
 has:∀x∈dh,∃c,cl.lookup x\c
 all:∀x c,cl.lookup x\c->∃v,h.IsCell c v
 is:∀(i:Nat) x v,dh[i]? = some x->gs[i]? = some v->∃c u,cl.lookup x\c/\RelV v u/\h.IsCell c (some u)
theorem IsCell.keeps{h h':Heap}{c:Addr}{v:Option Aa}(x:h.IsCell c v)(k:∀o,h.get? c\o->h'.get? c\o):h'.IsCell c v:=let #[o,e,d]:=x;#[o,k o e,d]
theorem YY{CX:kZ}{P:Ad}{w:Af}{K:af}{mg:Str->Option Aa}{base:Heap}{ps dh:ae}{qual:Str}{scope:Scope}{f:Addr}{cd:Aa}{cl:List (Str × Addr)}{A:Ag}{outer:List Env}{s:Ab}{H:Hp}{E:XK}{us:aj}{vs gs:ag}{h1:Heap}{tk:Nat}
  (S:Jz ps dh scope) (hd:A.handled=none) (e0:iH P w K mg base A outer s H) (hl:vs.length=ps.length) (hg:gs.length=dh.length) (r:Vals vs us) (C:Js dh cl gs s.heap) (fc:∀x c,cl.lookup x\c->H c=none)
  (ns:h1.Ns s.heap.objs.size λx=>(ps.zip us).reverse.lookup x) (k:∀b o,s.heap.get? b\o->h1.get? b\o) :
  Inv (Cs CX P w K mg base (ps++dh) qual scope f cd cl A outer s H E) [] (vs.map some++gs.map some) H { s with heap:=h1,toks:=tk }:=by
 have vM:∀b:Addr,b∉(Cs CX P w K mg base (ps++dh) qual scope f cd cl A outer s H E).ex:=λb z=>absurd (show b∈([]:av) from z) Y1
 apply#[#[e0.mod,S.kind,U,U,a9 _,C.inj,λy hy=>?_,λy c h=>(by cases h),λ_=>hd,Around.frames_deeper e0.frames,.inr #[U,U],λb z=>absurd z (vM b),e0.bs,e0.tW,λb _ _=>vM b,λb z=>absurd z (vM b),e0.fW,e0.wk],
  rfl,e0.bare,Un.kept k,#[_,ns,λi y v uN h2 h3=>?_],λy c h=>?_,e0.aF.fresh (a9 _),fc,λp hp=>absurd (show p∈([]:List (Addr × Obj)) from hp) Y1,e0.aF.kept k,?_]
 ·have hy:scope.names.lookup y\.cell∨scope.names.lookup y\.free:=hy;rcases hy with hy|hy
  ·exact absurd U (S.sN _ (qh hy))
  exact C.has y (S.all y hy)
 ·have uN:(ps++dh)[i]? = some y:=uN;by_cases hi:i<ps.length
  ·rw[w6 hi] at uN;rw[w6 (by simpa [hl] using hi),df] at h2;let#[v',hv,e]:=wZ.mp h2;cases e;let#[u,hu,rv]:=r.get hv;apply#[u,rv,.inl #[S.par y (cJ uN),?_]];have Hs:ps.Nodup:=(List.nodup_append.mp S.nd).1;show (ps.zip us).reverse.lookup y\u;exact dd_ Hs uN hu
  rw[yP Y0] at uN;rw[yP (by simp[hl];omega),df,aq,hl] at h2;let#[v',hv,e]:=wZ.mp h2;cases e;let#[c,u,e1,rv,ce]:=C.is _ _ _ uN hv;exact#[u,rv,.inr #[.inr (S.fv y (cJ uN)),c,e1,IsCell.keeps ce λo e=>k _ _ e]]
 ·let#[v,ce]:=C.all y c h;exact#[v,IsCell.keeps ce λo e=>k _ _ e]
 show _=(ps++dh).length;rw[dN,dN,aq,aq,hl,hg]
theorem ZA{CX:kZ}{P:Ad}{w:Af}{K:af}{mg:Str->Option Aa}{base:Heap}{k:Nat}{ps dh:ae}{qual:Str}{params:Arguments}{body:PySem.Expr}{scope:Scope}{f c':Addr}{pm kL:Aa}{cl:List (Str × Addr)}{A:Ag}{outer:List Env}{s:Ab}{H:Hp}{Q:VK}{E:XK}{us:aj}{vs gs:ag}{t:TE}
  (S:Jz ps dh scope) (hr:aY (k+1) A) (e0:iH P w K mg base A outer s H) (hf:s.heap.get? f\kla_obj "<lambda>" qual params body scope cl pm c' kL) (iy:s.heap.CodeRec (.ref c') qual)
  (hb:bindArgs (kla_fn "<lambda>" qual params body scope cl pm (.ref c') kL) #[us,[]]=pure (ps.zip us)) (hl:vs.length=ps.length) (hg:gs.length=dh.length) (r:Vals vs us) (C:Js dh cl gs s.heap) (fc:∀x c,cl.lookup x\c->H c=none)
  (ht:aY k (A.deeper (envX qual scope s.heap.objs.size f (.ref c') cl))->PE (Cs CX P w K mg base (ps++dh) qual scope f (.ref c') cl A outer s H E) body t) (hq:t (vs.map some++gs.map some) H Q) :
  codeAny (model P w) A (.call (.ref f) #[us,[]]) (CR CX outer P w H s Q E) s:=by
 have lim:s.heap.NoLimit:=e0.mod.nolimit.keeps λb o e=>(e0.bs b o e).1;apply kla_callFunE hr.depth hf U S.co S.gen U iy ?_;rw[hb];apply aI (wpAny_newFunctionEnv S.sN (λx hx=>?_) (λh1 ns sb=>?_) S.kind)
 ·exact S.par x.1 (List.of_mem_zip hx).1
 have k1:∀b o,s.heap.get? b\o->h1.get? b\o:=λb o e=>sb.extBut b o (dH (bK e)) (bo _ e);apply#[lim.keeps k1,?_];show codeAny _ _ (.expr body (envX qual scope s.heap.objs.size f (.ref c') cl)) _ _;let I:=YY (CX:=CX) (qual:=qual) (f:=f) (cd:=.ref c') (E:=E) (tk:=s.toks+(ps.zip us).length) S hr.hd e0 hl hg r C fc ns k1;apply kla_codeExpr (wpAny_mono (ht (hr.deeper _) [] _ _ H _ I hq) (λv s' hs=>?_) λe s' hs=>hs);let#[x,H',J,rv,q]:=hs;exact#[x,H',J.os,J.bare,J.base,J.aF,rv,q]
end L2
namespace L2
open PySem PySem.Spec PyProof.Rows PySem.W
def jN(f:Addr)(qual:Str)(params:Arguments)(body:PySem.Expr)(scope:Scope)(cl:List (Str × Addr))(c':Addr):HO:=.ext λh=>∃pm kL,h.get? f\kla_obj "<lambda>" qual params body scope cl pm c' kL
def Bh(c':Addr)(qual:Str):HO:=.ext λh=>∃o vs t,h.get? c'\o/\o.data=.fields vs/\vs[1]? = some (.str qual t)
inductive xo (P:Addr) (qual:Str) (params:Arguments) (body:PySem.Expr) (scope:Scope) (pos:Pos) (cl:List (Str × Addr)) (H:Hp) (Q:VK):Prop
 |mk:∀ps,H P\.tbl ps->TriplesOk ps.toList->((codeAmong pos ps.toList=none/\∀c' f,H c'=none->H f=none->c'≠f->Q (.ref f) (upd (upd (upd H P (.tbl (ps++(List.toArray [rawInt pos.line,rawInt pos.col,.ref c'])))) c' (Bh c' qual)) f (jN f qual params body scope cl c')))∨∃c',codeAmong pos ps.toList\.ref c'/\∀f,H f=none->Q (.ref f) (upd H f (jN f qual params body scope cl c')))->xo P qual params body scope pos cl H Q
def Dt(P:Addr)(qual:Str)(params:Arguments)(body:PySem.Expr)(scope:Scope)(pos:Pos)(cl:List (Str × Addr)):TE:=λ_ H Q=>xo P qual params body scope pos cl H Q
theorem Yy{X:Cx}{params:Arguments}{body:PySem.Expr}{scope:Scope}{pos:Pos}{cl:List (Str × Addr)}{c P:Addr}(Mg:defaultsOf params X.env=([],[]))(wa:closureFor scope X.env=pure cl)(ya:X.env.code=.ref c)(C:CodeHd X.base c P)(hbm:X.base.BuiltinsAt X.mg P) :
  PE X (.Lambda params body scope pos) (Dt P (X.env.qual++"<lambda>") params body scope pos cl):=by
 intro pins s σ H Q I h;let#[ps,hP,ht,h]:=h;have R9:s.heap.get? P\tabObj ps:=I.aF P _ hP
 have RT:H mainGlobals=none:=by
  let#[o,_,_,e,_]:=I.mod.glob;exact (I.bs _ _ e).2
 apply kla_eval Mg ?_;rcases h with⟨hn,q⟩|⟨c',hf,q⟩
 ·apply kla_makeFunction wa I.ok.glob (I.mod.glob.keeps I.bk) ya (C.keeps I.bk) R9 ht hn (λz=>by rw[z,hP] at RT;cases RT) (hbm.keeps I.bk) λc' kL h' tk hx L5 dR LC Rz=>?_;have fz:s.heap.objs.size<=h'.objs.size:=ic L5 (Nat.le_of_lt dR);have nc:H c'=none:=I.aF.fresh L5;have nf:H h'.objs.size=none:=I.aF.fresh fz;have cf:c'≠h'.objs.size:=dH dR;have Pc:P≠c':=bG hP nc;have Pf:P≠h'.objs.size:=bG hP nf
  have old:∀{b u},H b\u->b≠P->upd (upd (upd H P (.tbl (ps++(List.toArray [rawInt pos.line,rawInt pos.col,.ref c'])))) c' (Bh c' (X.env.qual++"<lambda>"))) h'.objs.size (jN h'.objs.size (X.env.qual++"<lambda>") params body scope cl c') b\u:=λ{b u} e n=>by
   rw[aB (bG e nf),aB (bG e nc),aB n];exact e
  have sH:∀{b u},H b\u->(∀ps,u≠.tbl ps)->b≠P:=λ{b u} e n z=>by
   rw[z,hP] at e;cases e;exact n _ U
  have kp:∀b o,b≠P->s.heap.get? b\o->(h'.push (kla_obj "<lambda>" (X.env.qual++"<lambda>") params body scope cl ((X.mg "__name__").getD .none) c' kL)).get? b\o:=λb o n e=>bo _ (hx b o n e);apply#[.ref h'.objs.size,_,I.un (t':=tk) #[λb o e n _ _=>kp b o (λz=>by rw[z,hP] at n;cases n) e,λb o e n _ _=>#[o.slots,kp b o (λz=>by rw[z,hP] at n;cases n) e],λb o e n _=>?_,λb o e _=>?_,λb xs e=>old e (sH e Y1),λb o u e=>old e (sH e Y1),λb qs e=>?_] (λb u e=>?_),U,q c' h'.objs.size nc nf cf]
  ·let lt:=bK e;rw[aB (dH (jA lt fz)),aB (dH (jA lt L5)),aB (λz=>by rw[z,hP] at n;cases n)];exact n
  ·by_cases z:b=P
   ·subst z;exact#[_,bo _ Rz]
   exact#[o,kp b o z e]
  ·by_cases z:b=P
   ·subst z;rw[hP] at e;cases e;exact#[_,by rw[aB Pf,aB Pc,aA]]
   exact#[#[],by rw[Array.append_empty];exact old e z]
  by_cases z1:b=h'.objs.size
  ·subst z1;rw[aA] at e;cases e;exact#[#[_,_,dq _ U],#[_,dq _ U],λh1 h2 ⟨pm,cv,e1⟩ k=>#[pm,cv,k _ e1]]
  rw[aB z1] at e;by_cases z2:b=c'
  ·subst z2;rw[aA] at e;cases e;let#[c2,oc,vs,t,ec,ER,hd,hv]:=LC;cases ec;exact#[#[oc,vs,t,bo _ ER,hd,hv],#[_,bo _ ER],λh1 h2 ⟨o,vs,t,e1,r⟩ k=>#[o,vs,t,k _ e1,r]]
  rw[aB z2] at e;by_cases z3:b=P
  ·subst z3;rw[aA] at e;cases e;exact bo _ Rz
  rw[aB z3] at e;apply (I.aF b u e).cB (λd v hd e1=>kp d v ?_ e1) (λd e1=>old e1 (sH e1 Y1)) λd xs e1=>old e1 (sH e1 Y1);rcases hd with rfl|hd
  ·exact z3
  exact sH hd Y1
 apply kla_makeFunctionHit wa I.ok.glob (I.mod.glob.keeps I.bk) ya (C.keeps I.bk) R9 ht hf (hbm.keeps I.bk) λkL h' tk hk hsz=>?_;have nf:H h'.objs.size=none:=I.aF.fresh hsz;apply#[.ref h'.objs.size,_,I.laid (t':=tk) (λb o e=>bo _ (hk b o e)) hsz ?_,U,q _ nf];exact#[#[_,_,dq _ U],#[_,dq _ U],λh1 h2 ⟨pm,cv,e1⟩ k=>#[pm,cv,k _ e1]]
end L2
namespace L2
open PySem PySem.Spec PyProof.Rows PySem.W
theorem vK{P:Ad}{w:Af}{K:af}{mg:Str->Option Aa}{base:Heap}{N:ae}{qual:Str}{scope:Scope}{f:Addr}{cd:Aa}{cl:List (Str × Addr)}{A:Ag}{outer:List Env}{s:Ab}{H:Hp}{E:XK}:wU bc (Cs bc P w K mg base N qual scope f cd cl A outer s H E) E:=λ_ _ _ _ _ _ _ h=>h.elim
section
variable{cs:List (Addr × Obj)}{H H':Hp}{b:Addr}{o:Obj}{u:HO}
variable{P:Ad}{w:Af}{h:Heap}
end
section
variable{X:Cx}{pins:List (Addr × Obj)}{σ:St}{H:Hp}{s s':Ab}{cs:List (Addr × Obj)}
def kr(P:Ad)(w:Af)(K:af)(mg:Str->Option Aa)(base:Heap)(k:Nat)(qual:Str)(params:Arguments)(body:PySem.Expr)(scope:Scope)(ps dh:ae)(sp:ag->ag->Hp->VK->XK->Prop):Prop:=
 ∀(A:Ag) (outer:List Env) (s:Ab) (H:Hp) (f c':Addr) (pm kL:Aa) (cl:List (Str × Addr)) (us:aj) (vs gs:ag) (Q:VK) (E:XK),aY k A->iH P w K mg base A outer s H->s.heap.get? f\kla_obj "<lambda>" qual params body scope cl pm c' kL->s.heap.CodeRec (.ref c') qual->
  vs.length=ps.length->gs.length=dh.length->Vals vs us->Js dh cl gs s.heap->(∀x c,cl.lookup x\c->H c=none)->sp vs gs H Q E->codeAny (model P w) A (.call (.ref f) #[us,[]]) (CR bc outer P w H s Q E) s
theorem Eh{P:Ad}{w:Af}{K:af}{mg:Str->Option Aa}{base:Heap}{k:Nat}{qual:Str}{params:Arguments}{body:PySem.Expr}{scope:Scope}{ps dh:ae}{sp:ag->ag->Hp->VK->XK->Prop}(S:Jz ps dh scope)
  (hb:∀pm c' kL cl us,us.length=ps.length->bindArgs (kla_fn "<lambda>" qual params body scope cl pm (.ref c') kL) #[us,[]]=pure (ps.zip us))
  (fU:∀(A:Ag) (outer:List Env) (s:Ab) (H:Hp) (f:Addr) (cd:Aa) (cl:List (Str × Addr)) (vs gs:ag) (Q:VK) (E:XK),aY k (A.deeper (envX qual scope s.heap.objs.size f cd cl))->sp vs gs H Q E->wU bc (Cs bc P w K mg base (ps++dh) qual scope f cd cl A outer s H E) E->
   ∃t,PE (Cs bc P w K mg base (ps++dh) qual scope f cd cl A outer s H E) body t/\t (vs.map some++gs.map some) H Q):!kr (k+1) qual params body scope ps dh sp:=by
 intro A outer s H f c' pm kL cl us vs gs Q E hr e0 hf iy hl hg r C fc kG;let#[t,ht,hq]:=fU A outer s H f (.ref c') cl vs gs Q E (hr.deeper _) kG vK;exact ZA S hr e0 hf iy (hb pm c' kL cl us (by rw[<- r.length];exact hl)) hl hg r C fc (λ_=>ht) hq
end
end L2
namespace L2
open PySem PySem.Spec PyProof.Rows PySem.W
structure JZ (dh:ae) (cl:List (Str × Addr)) (cs:List (Addr × Obj)) (gs:ag):Prop where
 len:gs.length=dh.length
 inj:∀x y c,cl.lookup x\c->cl.lookup y\c->x=y
 has:∀x∈dh,∃c,cl.lookup x\c
 all:∀x c,cl.lookup x\c->∃o v,cs.lookup c\o/\o.data=.cell v
 is:∀(i:Nat) x v,dh[i]? = some x->gs[i]? = some v->∃c o u,cl.lookup x\c/\cs.lookup c\o/\o.data=.cell (some u)/\RelV v u
section
variable{X:Cx}{k:Nat}{x:Str}{p pos:Pos}{tn:TE}{qual:Str}{params:Arguments}{body:PySem.Expr}{scope:Scope}{dh ps:ae}{BV:ag->ag->Hp->VK->XK->Prop}{E:XK}
end
section
variable{X:Cx}{k:Nat}{x:Str}{p pos:Pos}{e:PySem.Expr}{es:List PySem.Expr}{ta:TA}{dh ps:ae}{sp:Sp}{f:Addr}{fd:Ae}{cl:List (Str × Addr)}{is:List Nat}
end
end L2
namespace L2
open PySem PySem.Spec PyProof.Rows PySem.W
theorem hq_{P:Ad}{w:Af}{K:af}{mg mb:Str->Option Aa}{CX:kZ}{k:Nat}{fa a:Addr}{ts:av}{fd:Ae}{x:Str}{sp:Sp}{aL:Ab}{vs:aj}{ns:List Int}
  (hT:∀T∈ts,K.lookup T=none) (eT:∀T∈ts,aL.heap.get? T\tabObj #[]) (AU:∀T∈ts,isCodeTable aL.heap T)
  (KX:K.In aL.heap) (LO:aL.heap.Ns mainGlobals mg) (hb:aL.heap.Ns builtinsNs mb) (hbb:∀x:Str,x≠"__name__"->mb x=bootBuiltins x) (LW:aL.heap.NoLimit) (hg:aL.gens=#[])
  (ha:aL.heap.get? a=some { cls:=.type "list",data:=.seq vs.toArray }) (hi:IntsAre vs ns) (hl:ns.length<=sizeLine) (hr:aY k callerA)
  (hbm:∃bm ob,mg "__builtins__"\.ref bm/\bm≠builtinsNs/\aL.heap.get? bm\ob/\ob.cls=.type "module"/\ob.dict\builtinsNs/\ob.data=.plain)
  (F:∀base:Heap,K.In base->base.Ns mainGlobals mg->(∀T∈ts,base.BuiltinsAt mg T)->!ak CX k fa fd [x] sp) (Fg:∀(s:Ab) (u:Aa),BindsTo s fd #[[u],[]] [(x,u)])
  (kG:∀H:Hp,(∀T∈ts,H T\.tbl #[])->d6 K H a (ns.map V.int)->sp [.ref a] H (λv _=>v=.bl true) λ_ _ _=>False)
  (Mt:∀H e s',CX [] H aL (λ_ _ _=>False) e s'->False) :
  codeAny (model P w) callerA (.call (.ref fa) #[[.ref a],[]]) (λr s'=>r=.ok (.ret (.bool true))/\OldK aL.heap s'.heap/\s'.os=aL.os/\AllBare s'.gens) aL:=by
 let rv:=Tv hi;let Lf:=hi.length
 have aT:∀{b},b∈ts->b≠a:=λ{b} hb z=>by
  have:=eT b hb;rw[z,ha] at this;cases this
 have core:∀H:Hp,(∀b,H b=none∨(b∈ts/\H b\.tbl #[])∨(b∉ts/\∃o xs,H b\.frz o (.lst xs)))->(∀T∈ts,H T\.tbl #[])->d6 K H a (ns.map V.int)->fQ P w H aL.heap->(∀b,H b≠none->b=a∨b∈ts)->(H a≠none->K.lookup a=none)->
   codeAny (model P w) callerA (.call (.ref fa) #[[.ref a],[]]) (λr s'=>r=.ok (.ret (.bool true))/\OldK aL.heap s'.heap/\s'.os=aL.os/\AllBare s'.gens) aL:=by
  intro H hO hHT hS aF hA hK;have i_:∀{b:Addr} {o:Obj},aL.heap.get? b\o->H b=none->(ix aL.heap H).get? b\o:=λe n=>hU_ e n
  have vM:∀{b:Addr} {o:Obj} {es:Array DictEntry} {ep:Nat},aL.heap.get? b\o->o.data=.dict es ep->H b=none:=λ{b o es ep} e d=>by
   cases q:H b with
   |none=>rfl
   |some u=>
    rcases hA b (by rw[q];simp) with e'|e'
    ·subst e';rw[ha] at e;cases e;have d':Data.seq vs.toArray _=Data.dict es ep:=d;cases d'
    rw[eT b e'] at e;cases e;cases d
  have Ho:∀{b:Addr} {m:Str->Option Aa},aL.heap.Ns b m->(ix aL.heap H).Ns b m:=λ{b m} ⟨o,es,ep,e,d,r⟩=>#[o,es,ep,i_ e (vM e d),d,r]
  have Sf:K.In (ix aL.heap H):=λb o e=>i_ (KX b o e) (by
   cases q:H b with
   |none=>rfl
   |some u=>
    rcases hA b (by rw[q];simp) with e'|e'
    ·subst e';rw[hK (by rw[q];simp)] at e;cases e
    rw[hT b e'] at e;cases e)
  have hB:∀T∈ts,(ix aL.heap H).BuiltinsAt mg T:=λT Fo=>by
   let#[bm,ob,h1,h2,h3,h4,h5,h6]:=hbm
   have n1:bm≠mainGlobals:=λz=>by
    let#[o,es,ep,e,d,_]:=LO;rw[z,e] at h3;cases h3;rw[d] at h6;cases h6
   have n2:∀{b},b∈ts->bm≠b:=λ{b} hb z=>by
    rw[z,eT b hb] at h3;cases h3;cases h6
   apply#[bm,ob,h1,h2,n1,n2 Fo,i_ h3 ?_,h4,h5,h6];cases q:H bm with
   |none=>rfl
   |some u=>
    rcases hA bm (by rw[q];simp) with e'|e'
    ·subst e';rw[ha] at h3;cases h3;cases h6
    exact absurd U (n2 e')
  have hM:Mod K mg (ix aL.heap H):=#[Sf,Ho LO,#[mb,Ho hb,hbb],let #[mc,h1,h2]:=LW;#[mc,Ho h1,h2]];have e0:iH P w K mg (ix aL.heap H) callerA [] aL H:=#[U,hM,λb o e=>ZQ e,Nat.le_of_eq (he_ _ _),trivial,λb hb=>absurd (show b∈([]:av) from hb) Y1,aF,.of_eq hg];apply codeAny_mono ((F _ Sf (Ho LO) hB).run callerA [] aL H #[[.ref a],[]] [.ref a] [.ref a] _ _ hr e0 (Fg aL (.ref a)) (.cons U .nil) (kG H hHT hS)) λr s' h=>?_;cases r with
  |error e=>exact (Mt H e s' h).elim
  |ok fl=>
   cases fl with
   |next=>exact False.elim h
   |brk=>exact False.elim h
   |cont=>exact False.elim h
   |ret u=>
    let#[v,H',os,bare,un,EN,r',q]:=h;have q':v=.bl true:=q;subst q';obtain rfl:u=Value.bool true:=r'
    have main:∀b o,aL.heap.get? b\o->s'.heap.get? b\o∨(b∈ts/\o=tabObj #[]/\∃more,s'.heap.get? b\tabObj (#[]++more)):=λb o e=>by
     cases q:H b with
     |none=>exact .inl (un.keep b o e q (by intro z;exact absurd (show b∈([]:av) from z) Y1) Y1)
     |some u=>
      rcases hO b with z|⟨zT,z⟩|⟨_,ob,xs,z⟩
      ·rw[q] at z;cases z
      ·rw[eT b zT] at e;cases e;let#[more,z]:=un.ik b _ z;exact .inr #[zT,U,more,EN b _ z]
      let z2:=un.hG b ob _ z;let#[e1,_]:=aF b _ z;let#[e2,_]:=EN b _ z2;rw[e] at e1;cases e1;exact .inl e2
    apply#[U,#[λb o e=>?_,λb o e=>?_],os,bare]
    ·rcases main b o e with z|⟨zT,rfl,more,z⟩
     ·exact .inl z
     exact .inr (.inl #[AU b zT,U,_,_,U,z])
    rcases main b o e with z|⟨_,_,more,z⟩
    ·exact#[_,z]
    exact#[_,z]
 cases hk:K.lookup a with
 |some o=>
  let e:=KX a o hk;rw[ha] at e;cases e;apply core (λb=>if b∈ts then some (.tbl #[]) else none) (λb=>?_) (λT h=>aK h) (.inr #[_,vs.toArray,_,hk,U,U,U,by rw[cY,Lf];exact hl,by simpa using rv]) (λb u z=>?_) (λb z=>?_) λz=>absurd (aD λq=>aT q U) z
  ·by_cases hb:b∈ts
   ·exact .inr (.inl #[hb,aK hb])
   exact .inl (aD hb)
  ·by_cases hb:b∈ts
   ·let z':=(aK hb).symm.trans z;cases z';exact eT b hb
   let z':=(aD hb).symm.trans z;cases z'
  ·by_cases hb:b∈ts
   ·exact .inr hb
   ·exact absurd (aD hb) z
 |none=>
  have T2:∀{b:Addr},b∈ts->(λb=>if b∈ts then some (.tbl #[]) else if b=a then some (HO.frz { cls:=.type "list",data:=.seq vs.toArray } (.lst (ns.map V.int))) else none) b\.tbl #[]:=λ{b} hb=>aK hb;apply core (λb=>if b∈ts then some (.tbl #[]) else if b=a then some (.frz { cls:=.type "list",data:=.seq vs.toArray } (.lst (ns.map V.int))) else none) (λb=>?_) (λT h=>aK h) (.inl (.inr #[{ cls:=.type "list",data:=.seq vs.toArray },(aD λq=>aT q U).trans (aK U)])) (λb u z=>?_) (λb z=>?_) λ_=>hk
  ·by_cases md:b∈ts
   ·exact .inr (.inl #[md,aK md])
   by_cases hb:b=a
   ·exact .inr (.inr #[md,_,_,(aD md).trans (aK hb)])
   exact .inl ((aD md).trans (aD hb))
  ·by_cases md:b∈ts
   ·let z':=(aK md).symm.trans z;cases z';exact eT b md
   by_cases hb:b=a
   ·let z':=((aD md).trans (aK hb)).symm.trans z;cases z';subst hb;exact#[ha,by rw[aq];exact hl,vs,_,rv,ha]
   let z':=((aD md).trans (aD hb)).symm.trans z;cases z'
  by_cases md:b∈ts
  ·exact .inr md
  by_cases hb:b=a
  ·exact .inl hb
  exact absurd ((aD md).trans (aD hb)) z
theorem fH_{K:af}{T:Addr}(h:T∉K.map (·.1)):K.lookup T=none:=by
 induction K with
 |nil=>rfl
 |cons p K ih=>
  let#[b,o]:=p;simp only[fE,cg,not_or] at h;rw[qr,show (T == b)=false by simpa using h.1];exact ih h.2
theorem qw{l:PySem.W.OpenLaw}{n k:Nat}{q:Ad}{loose:ae}{XP:(Str->Option Aa)->Heap->Prop}{d:DefRec}{K:Params->af}{as ts:av}{IV:∀P:Params,as=(K P).map (·.1)}{CX:Af->kZ}{sp:Af->Sp}{x:Str}
  (hn:l.most\n) (x6:n<=sizeLine) (Ff:d.params.defaults=[]) (hr:aY k callerA)
  (Lz:(ts.all λT=>!as.contains T)=true)
  (F:∀(w:Af) (mg:Str->Option Aa) (fa:Addr) (h:Heap),(K w.params).In h->h.Ns mainGlobals mg->mg d.name\.ref fa->
   ∃fd:Ae,(∀(s:Ab) (u:Aa),BindsTo s fd #[[u],[]] [(x,u)])/\(∀T∈ts,isCodeTable h T) /\
    ∀base:Heap,(K w.params).In base->base.Ns mainGlobals mg->(∀T∈ts,base.BuiltinsAt mg T)->ak l.prog w (K w.params) mg base (CX w) k fa fd [x] (sp w))
  (kG:∀(w:Af) (H:Hp) (a:Addr) (ns:List Int),ns.length<=n->(∀T∈ts,H T\.tbl #[])->d6 (K w.params) H a (ns.map V.int)->sp w [.ref a] H (λv _=>v=.bl true) λ_ _ _=>False)
  (Mt:∀(w:Af) (H:Hp) (s:Ab) (e:Aa) (s':Ab),CX w [] H s (λ_ _ _=>False) e s'->False) :
  PySem.W.WalkO q loose XP (kmHook K as IV ts).says l.row.toRowW d [] (λf vs=>PySem.call f vs):=by
 apply Vg.j8 hn Ff λw dk aL mg mb fa o pm cd doc a vs ns G Y ho hd iy hmg AE hints hlen hg=>?_;have KX:(K w.params).In aL.heap:=km_in_of Y;have eT:∀T∈ts,aL.heap.get? T\tabObj #[]:=Y.2;let#[fd,hb,AU,hF]:=F w mg fa _ KX G.T.g hmg;apply hq_ (λT h=>fH_ ?_) eT AU KX G.T.g G.T.b G.T.builtins G.T.nolimit hg AE hints (ic hlen x6) hr G.T.bmain hF hb (λH hO hS=>kG w H a ns hlen hO hS) λH e s'=>Mt w H aL e s';have:=List.all_eq_true.mp Lz T h;rw[<- IV w.params];simpa using this
end L2
namespace L2
open PySem PySem.Spec PyProof.Rows
section
variable{X:Cx}
end
open PySem.W in
def mC:List (Pos × Addr)->aj
 |[]=>[]
 |(p,c)::es=>rawInt p.line::rawInt p.col::.ref c::mC es
def mz(H:Hp)(T:Addr)(qual:Str):Prop:=∃es:List (Pos × Addr),H T\.tbl (mC es).toArray/\∀e∈es,H e.2\Bh e.2 qual
theorem mz.same{H H':Hp}{T:Addr}{qual:Str}(s:aa H H')(h:mz H T qual):mz H' T qual:=by
 let#[es,a,b]:=h;exact#[es,s _ _ a,λe he=>s _ _ (b e he)]
theorem S9:∀es:List (Pos × Addr),TriplesOk (mC es)
 |[]=>trivial
 |(p,c)::es=>by
  have:=S9 es;simp[mC,TriplesOk,rawInt,this]
theorem TH:∀(es:List (Pos × Addr)) (p:Pos) (c:Addr),mC (es++[(p,c)])=mC es++[rawInt p.line,rawInt p.col,.ref c]
 |[],p,c=>rfl
 |(p',c')::es,p,c=>by
  show rawInt p'.line::rawInt p'.col::.ref c'::mC (es++[(p,c)])=_;rw[TH es p c];rfl
theorem UX(pos:Pos):∀es:List (Pos × Addr),codeAmong pos (mC es)=none∨∃e∈es,codeAmong pos (mC es)\.ref e.2
 |[]=>.inl U
 |(p,c)::es=>by
  by_cases h:codeAmong pos (mC ((p,c)::es))\.ref c
  ·exact .inr #[(p,c),fY,h]
  have e:codeAmong pos (mC ((p,c)::es))=codeAmong pos (mC es):=by
   show codeAmong pos (rawInt p.line::rawInt p.col::.ref c::mC es)=_;have h:¬codeAmong pos (rawInt p.line::rawInt p.col::.ref c::mC es)=some (.ref c):=h;simp only[codeAmong,rawInt] at h ⊢;split at h
   ·exact absurd U h
   rename_i q
   rw[aD q]
  rcases UX pos es with q|⟨x,hx,q⟩
  ·exact .inl (e.trans q)
  exact .inr #[x,fo _ hx,e.trans q]
end L2
namespace L2
open PySem PySem.Spec PyProof.Rows PySem.W jk
section
variable{X:Cx}{pins:List (Addr × Obj)}{σ:St}{H:Hp}{s:Ab}
theorem Inv.yY{h':Heap}{t':Nat}{fp:av}{T:Addr}{ys:ag}{its:aj}{n:Nat}(I:Inv X pins σ H s)(k:∀b o,b∉fp->s.heap.get? b\o->h'.get? b\o)(hf:∀b∈fp,du X pins H b)
  (hT:T∈fp) (hz:ys.length<=sizeLine) (r:Vals ys its) (ht:h'.get? T=some { cls:=.type "list",data:=.seq its.toArray n }):Inv X pins σ (upd H T (.lst ys)) { s with heap:=h',toks:=t' }:=by
 have fT:H T=none:=(hf T hT).1;have nf:∀b u,H b\u->b∉fp:=λb u e hb=>by rw[(hf b hb).1] at e;cases e
 have old:∀{b u},H b\u->upd H T (.lst ys) b\u:=λe=>by rw[aB (bG e fT)];exact e
 apply I.step (g':=s.gens) (d':=s.drawn) (ch:=fp) (λb hb=>?_) (λb o _ _ hc e _=>k b o hc e) (λb o _ _ hc e _=>#[o.slots,k b o hc e]) (λb o hc e n=>?_)
  (λb o hc e=>#[o,k b o hc e]) (λb ys e=>old e) (λb o u e=>old e) (λb ps e=>#[#[],by rw[Array.append_empty];exact old e]) (λm hm=>?_) (λb u e=>?_) I.bare
 ·let#[f0,f1,f2,f3,f4,f5]:=hf b hb;exact#[f3,f1,f4,f5]
 ·rw[aB (λz=>hc (by rw[z];exact hT))];exact n
 ·let#[o,es,ep,ho,r]:=hm;exact#[o,es,ep,k _ o (λhb=>(hf _ hb).2.1 U) ho,r]
 by_cases z:b=T
 ·subst z;rw[aA] at e;cases e;exact#[hz,its,n,r,ht]
 rw[aB z] at e;apply (I.aF b u e).cB (λc v hc q=>k c v ?_ q) (λ_ q=>old q) λ_ _ q=>old q;rcases hc with z|z
 ·rw[z];exact nf b u e
 exact nf c _ z
theorem du.at{H':Hp}{b:Addr}(f:du X pins H b)(n:H' b=none):du X pins H' b:=#[n,f.2]
end
section
variable{X:Cx}{pins:List (Addr × Obj)}{σ:St}{H:Hp}{s:Ab}{B:Ag}
theorem Y5{xs zs:ag}{kf:V->aw}{p:Array Nat}(g:Good xs.length p)(up:Up (λi j=>bM ((xs.map kf).getD i []) ((xs.map kf).getD j [])) p xs.length)(ez:zs=p.toList.map λi=>xs.getD i .non):zs.Perm xs/\zs.map kf=bh (xs.map kf):=by
 have gk:Good (xs.map kf).length p:=by rw[aq];exact g
 let asc:=M6 (ks:=xs.map kf) (λi j _ _=>rfl) gk (by rw[aq];exact up)
 have perm:(p.toList.map λi=>(xs.map kf).getD i []).Perm (xs.map kf):=by
  have:=GD gk λi=>(xs.map kf).getD i [];rwa [GI] at this
 let es:=NW perm asc;apply#[?_,?_]
 ·have:=GD (n:=xs.length) g λi=>xs.getD i .non;rw[GI] at this;rw[ez];exact this
 rw[<- es,ez,cA];apply u9 λi hi=>?_;have m:i∈(List.range xs.length).toArray:=g.mem_iff.mp ⇑hi;have m:i<xs.length:=⇑m
 show kf (xs.getD i .non)=(xs.map kf).getD i [];simp[List.getD,m]
end
end L2
namespace L2
open PySem PySem.Spec PyProof.Rows PySem.W jk
section
variable{X:Cx}{pins:List (Addr × Obj)}{σ:St}{H:Hp}{s:Ab}
theorem Inv.tN{dh:ae}{cl:List (Str × Addr)}{is:List Nat}{gs:ag}(I:Inv X pins σ H s)(js:∀q∈cl,X.env.cells.lookup q.1\q.2)(wa:∀x∈dh,∃c,cl.lookup x\c)(E7:∀x∈dh,X.env.scope.names.lookup x\.cell)(hN:is.map (λi=>X.N[i]?)=dh.map some)
  (Ci:is.map (λi=>σ[i]?)=gs.map (λv=>some (some v))):gs.length=dh.length/\Js dh cl gs s.heap/\∀x c,cl.lookup x\c->H c=none:=by
 have lk:∀{x c},cl.lookup x\c->(x,c)∈cl:=λe=>qh e;apply#[?_,#[λa b c h1 h2=>I.ok.inj a b c (js _ (lk h1)) (js _ (lk h2)),wa,λa c h1=>I.cell a c (js _ (lk h1)),λj a v h1 h2=>?_],λx c e=>I.eI x c (js _ (lk e))]
 ·let a:=eY List.length Ci;let b:=eY List.length hN;simp only[aq] at a b;omega
 let#[c,hc]:=wa a (cJ h1);have e1:(is.map λi=>X.N[i]?)[j]? = some (some a):=by rw[hN,df,h1];rfl
 have e2:(is.map λi=>σ[i]?)[j]? = some (some (some v)):=by rw[Ci,df,h2];rfl
 rw[df] at e1 e2;let#[i,hi,e1]:=wZ.mp e1;rw[hi] at e2;have e2:σ[i]? = some (some v):=dO e2;let#[m,_,hl]:=I.loc;let kd:=E7 a (cJ h1);let#[u,ru,lo]:=hl i a v e1 e2 (.inr (.inl kd));rcases lo with⟨z,_⟩|⟨_,c2,e3,o,e4,e5⟩
 ·have z:X.env.scope.names.lookup a\.local:=z;rw[kd] at z;cases z
 rw[js _ (lk hc)] at e3;cases e3;exact#[c,u,hc,ru,o,e4,e5]
end
def PD(K:af)(H:Hp)(x:V)(xs:ag):Prop:=(∃l,x=.ref l/\d6 K H l xs)∨∃d kvs,x=.ref d/\H d\.dK kvs/\xs=kvs.map λkv=>kV kv.1
end L2
namespace L2
open PySem PySem.Spec PyProof.Rows PySem.W jk
theorem hC_{xs zs:ag}{kf:V->Str}(h:(zs.map λx=>bP (kf x))=bh (xs.map λx=>bP (kf x))):zs.map kf=iE (xs.map kf):=by
 apply S0 ?_;rw[Oe,cA,cA];exact h
theorem fL_{prog:Ad}{w:Af}{A:Ag}{s:Ab}{xs:ag}{kf:V->Str}{vs:aj}(r:StrsAre vs (xs.map kf))(h2:2<=vs.length):uB prog w A (λi j=>bM ((xs.map λx=>bP (kf x)).getD i []) ((xs.map λx=>bP (kf x)).getD j [])) vs s:=by
 have:=TL (prog:=prog) (w:=w) (A:=A) (s:=s) r h2;rw[cA] at this;exact this
section
variable{X:Cx}{pins:List (Addr × Obj)}{σ:St}{H:Hp}{s:Ab}
def IJ(X:Cx)(σ:St)(B:Ag)(fv:Aa)(H0:Hp)(kf:V->Str)(xs:ag):Prop:=
 ∀(pins:List (Addr × Obj)) (H:Hp) (s:Ab) (x:V) (u:Aa),Inv X pins σ H s->aa H0 H->x∈xs->RelV x u->
  wpAny (model X.prog X.w) B (call fv [u]) (EP X pins σ λv H'=>aa H H'/\v=.str (kf x)) (λ_ _=>False) s
theorem _F{B:Ag}{fv:Aa}{a kS:Addr}{e1:Nat}{H0:Hp}{kf:V->Str}{all:ag}{Q:PUnit->Ab->Prop}{E:Aa->Ab->Prop}{body:Aa->PUnit->Sem (ForInStep PUnit)}(l8:a≠kS)(jX:IJ X σ B fv H0 kf all)
  (hb:∀(u:Aa) (s:Ab) (Qb:ForInStep PUnit->Ab->Prop),wpAny (model X.prog X.w) B (call fv [u]) (λk s'=>wpAny (model X.prog X.w) B (Builtin.List.listUpdate (.ref kS) (·.push k)) (λ_ pM=>Qb (.yield ⟨⟩) pM) E s') (λ_ _=>False) s->wpAny (model X.prog X.w) B (body u ⟨⟩) Qb E s) :
  ∀(xs:ag) (us:aj) (ks:ag) (kvs:aj) (kk:ae) (H:Hp) (s:Ab) (c:Nat),Vals xs us->(∀x∈xs,x∈all)->Inv X pins σ H s->aa H0 H->du X pins H a->du X pins H kS->s.heap.get? a\seqObj "list" #[] e1->s.heap.get? kS\seqObj "list" kvs.toArray c->
   Vals ks kvs->ks=kk.map V.str->kvs.length+us.length<64->
   (∀H' s' fC c',Inv X pins σ H' s'->aa H0 H'->du X pins H' a->du X pins H' kS->s'.heap.get? a\seqObj "list" #[] e1->s'.heap.get? kS\seqObj "list" fC.toArray c'->fC.length=kvs.length+us.length->(∃iX,Vals iX fC/\iX=(kk++xs.map kf).map V.str)->Q ⟨⟩ s')->
   wpAny (model X.prog X.w) B (forIn us PUnit.unit body) Q E s:=by
 intro xs
 induction xs with
 |nil=>
  intro us ks kvs kk H s c rv _ I sm fa fk ha hk r t _ q;cases rv;rw[List.forIn_nil];exact aI (q H s kvs c I sm fa fk ha hk Y1 #[ks,r,by simpa using t])
 |cons x xs ih=>
  intro us ks kvs kk H s c rv hx I sm fa fk ha hk r t hz q
  obtain⟨u,us,rfl,ru,rr⟩:∃u P5,us=u::P5/\RelV x u/\Vals xs P5:=by
   cases rv with
   |cons h t=>exact#[_,_,U,h,t]
  rw[List.forIn_cons];rw[jz] at hz;apply ai (hb u s _ ?_)
  have hf:∀b∈[a,kS],du X pins H b:=λb hb=>by
   rcases cg.mp hb with rfl|hb
   ·exact fa
   obtain rfl:b=kS:=⇑hb
   exact fk
  let I1:=I.pinned (fp:=[a,kS]) hf (λb hb=>by
   rcases cg.mp hb with rfl|hb
   ·exact#[_,ha,λv z=>by cases z]
   obtain rfl:b=kS:=⇑hb
   exact#[_,hk,λv z=>by cases z])
  apply wpAny_mono (jX _ H s x u I1 sm (hx x fY) ru) (λk s1 ⟨v,H1,J,rv,Wr,ev⟩=>?_) λ_ _ z=>z
  have pa:(a,seqObj "list" #[] e1)∈wW [a,kS] s.heap:=by
   unfold wW;exact yO.mpr #[a,by simp,by rw[ha];rfl]
  have pk:(kS,seqObj "list" kvs.toArray c)∈wW [a,kS] s.heap:=by
   unfold wW;exact yO.mpr #[kS,by simp,by rw[hk];rfl]
  let#[Co,Xn,_]:=J.pin _ (kg _ (kg _ pa));let#[Ig,Xj,_]:=J.pin _ (kg _ (kg _ pk));have Co:s1.heap.get? a\seqObj "list" #[] e1:=Co;have Ig:s1.heap.get? kS\seqObj "list" kvs.toArray c:=Ig;let J0:=J.eS;let fa1:=fa.at (H':=H1) Xn;let S1:=fk.at (H':=H1) Xj;have B4:kvs.length<64:=by omega
  apply listUpdate_at Ig U ?_ (by rw[cY,cK];omega) (ic (Nat.le_of_eq (Array.size_push ..)) (by rw[cY,cK];omega));have iI:∀b o,b∉[kS]->s1.heap.get? b\o->(s1.heap.update kS (Obj.mapSeq (·.push k))).get? b\o:=λb o hb e=>(u7 _ _ (λz=>hb (by simp[z]))).trans e;have ea:kvs.toArray.push k=(kvs++[k]).toArray:=by simp
  obtain⟨c2,jt⟩:∃c2,(s1.heap.update kS (Obj.mapSeq (·.push k))).get? kS\seqObj "list" (kvs++[k]).toArray c2:=#[_,by rw[<- ea];exact get?_update_seq Ig (·.push k)]
  have I2:Inv X pins σ H1 { s1 with heap:=s1.heap.update kS (Obj.mapSeq (·.push k)) }:=J0.gP (t':=s1.toks) (fp:=[kS]) iI (λb hb=>by
   obtain rfl:b=kS:=⇑hb
   exact S1)
  subst ev;apply ih us (ks++[.str (kf x)]) (kvs++[k]) (kk++[kf x]) H1 _ c2 rr (λy hy=>hx y (fo _ hy)) I2 (sm.trans Wr) fa1 S1 ?_ jt (r.append (.cons rv .nil)) ?_ (by rw[dN,oF];omega) λH' s' fC c' a1 a2 a3 a4 a5 a6 a7 a8=>?_
  ·exact iI a _ ⇑l8 Co
  ·rw[eK,<- t];rfl
  apply q H' s' fC c' a1 a2 a3 a4 a5 a6 (by rw[a7,dN,oF,jz];omega) ?_;let#[iX,b1,b2]:=a8;exact#[iX,b1,by simpa using b2]
end
section
variable{X:Cx}{pins:List (Addr × Obj)}{σ:St}{H:Hp}{s:Ab}{B:Ag}
theorem fJ_{f a:Addr}{xs:ag}{us:aj}{n:Nat}{P:PySem.Fin->Ab->Prop}{E:Aa->Ab->Prop}{kf:V->Str}(I:Inv X pins σ H s)(fa:du X pins H a)(ho:s.heap.get? a\seqObj "list" us.toArray n)(r:Vals xs us)(cX:us.length<64)(jX:IJ X σ B (.ref f) H kf xs)
  (h:∀zs H' s',Inv X pins σ (upd H' a (.lst zs)) s'->aa H H'->H' a=none->zs.Perm xs->zs.map kf=iE (xs.map kf)->P (.done (.ret .none)) s'):wpAny (model X.prog X.w) B (ksk_tree a (.ref f) false) P E s:=by
 let lx:=r.length;obtain⟨e1,vX⟩:∃e1,(s.heap.update a (Obj.mapSeq λ_=>(#[]:Array Aa))).get? a\seqObj "list" #[] e1:=#[_,get?_update_seq ho λ_=>#[]];have iI:∀b o,b∉[a]->s.heap.get? b\o->(s.heap.update a (Obj.mapSeq λ_=>(#[]:Array Aa))).get? b\o:=λb o hb e=>(u7 _ _ (λz=>hb (by simp[z]))).trans e
 have I1:Inv X pins σ H { s with heap:=s.heap.update a (Obj.mapSeq λ_=>(#[]:Array Aa)) }:=I.gP (t':=s.toks) (fp:=[a]) iI (λb hb=>by
  obtain rfl:b=a:=⇑hb
  exact fa)
 unfold ksk_tree;apply ai (listItems_at ho U ?_);apply ai (listUpdate_at ho U ?_ (by rw[cY,cK];omega) (gO _));apply ai (seqEpoch_at vX U ?_);apply ai (wpAny_newTuple ?_ (by show us.length<=_;rw[cK];omega));apply ai (wpAny_newList ?_ (gO _));apply gR ?_;have I2:Inv X pins σ H { s with heap:=(s.heap.update a (Obj.mapSeq λ_=>(#[]:Array Aa))).push (seqObj "tuple" us.toArray 0) }:=I1.kept (t':=s.toks) λb u e=>bo _ e;have I3:Inv X pins σ H { s with heap:=((s.heap.update a (Obj.mapSeq λ_=>(#[]:Array Aa))).push (seqObj "tuple" us.toArray 0)).push (seqObj "list" #[] 0) }:=I2.kept (t':=s.toks) λb u e=>bo _ e;have fk:du X pins H ((s.heap.update a (Obj.mapSeq λ_=>(#[]:Array Aa))).push (seqObj "tuple" us.toArray 0)).objs.size:=I2.i5 (a9 _) (I2.aF.fresh (a9 _));have jT:(((s.heap.update a (Obj.mapSeq λ_=>(#[]:Array Aa))).push (seqObj "tuple" us.toArray 0)).push (seqObj "list" #[] 0)).get? a\seqObj "list" #[] e1:=bo _ (bo _ vX);have Cf:(((s.heap.update a (Obj.mapSeq λ_=>(#[]:Array Aa))).push (seqObj "tuple" us.toArray 0)).push (seqObj "list" #[] 0)).get? ((s.heap.update a (Obj.mapSeq λ_=>(#[]:Array Aa))).push (seqObj "tuple" us.toArray 0)).objs.size\seqObj "list" #[] 0:=dq _ U;have l8:a≠((s.heap.update a (Obj.mapSeq λ_=>(#[]:Array Aa))).push (seqObj "tuple" us.toArray 0)).objs.size:=dH (bK (bo (seqObj "tuple" us.toArray 0) vX));show wpAny (model X.prog X.w) B (ksk_rest a (.ref f) false us.toArray e1 (.ref ((s.heap.update a (Obj.mapSeq λ_=>(#[]:Array Aa))).push (seqObj "tuple" us.toArray 0)).objs.size)) P E { s with heap:=((s.heap.update a (Obj.mapSeq λ_=>(#[]:Array Aa))).push (seqObj "tuple" us.toArray 0)).push (seqObj "list" #[] 0) };generalize ((s.heap.update a (Obj.mapSeq λ_=>(#[]:Array Aa))).push (seqObj "tuple" us.toArray 0)).objs.size=kS at fk Cf l8 ⊢;generalize ((s.heap.update a (Obj.mapSeq λ_=>(#[]:Array Aa))).push (seqObj "tuple" us.toArray 0)).push (seqObj "list" #[] 0)=h3 at I3 jT Cf ⊢;clear I2 I1 iI;unfold ksk_rest;apply ai (wpAny_rule ?_);rw[List.forIn_toArray];apply ai (_F (pins:=pins) (E:=E) (e1:=e1) l8 jX (λu s4 Qb hq=>?_) xs us [] [] [] H _ 0 r (λx hx=>hx) I3 (aa.refl H) fa fk jT Cf .nil U ⇑cX λH5 s5 kvs c5 I5 We Tb fk5 Fl RP lk ⟨ks,rk,tk⟩=>?_)
 ·apply ai (wpAny_attempt (wpAny_mono hq (λk pM hk=>?_) λ_ _ hF=>hF.elim));exact ai (wpAny_mono hk (λ_ s6 h6=>aI h6) λ_ _ z=>z)
 rw[List.nil_append] at tk;rw[List.length_nil,Nat.zero_add] at lk;apply ai (listItems_at RP U ?_)
 have tail:∀(p:Array Nat) (st:SortSt),Good xs.length p->Up (λi j=>bM ((xs.map λx=>bP (kf x)).getD i []) ((xs.map λx=>bP (kf x)).getD j [])) p xs.length->(arrOf st).map (·.2)=(mr p us).toArray->failedOf st=none->wpAny (model X.prog X.w) B (ksk_tail a false e1 (.ref kS) st) P E s5:=λp st g up LI L9=>by
  have gu:Good us.length p:=by rw[<- lx];exact g
  have hz:(mr p us).length=us.length:=by
   unfold mr;rw[aq,uf];exact gu.size
  let s1:=Heap.SameBut.update s5.heap kS (Obj.mapSeq λ_=>(#[]:Array Aa));have wb:(s5.heap.update kS (Obj.mapSeq λ_=>(#[]:Array Aa))).get? a\seqObj "list" #[] e1:=(u7 _ _ (dJ l8)).trans Fl;unfold ksk_tail;dsimp only;rw[LI];apply ai (listUpdate_at RP U ?_ (by rw[cY,cK];omega) (gO _));apply ai (wpAny_letGo ?_);apply ai (seqEpoch_at wb U ?_);simp only[pJ,if_false];apply ai (listUpdate_at wb U ?_ (gO _) (by rw[cY,hz,cK];omega));rw[L9];simp only[bne_self_eq_false,pJ,if_false]
  have zl:(p.toList.map λi=>xs.getD i .non).length<=sizeLine:=by
   rw[aq,uf,g.size,cK];omega
  let#[pz,ek]:=Y5 (kf:=λx=>bP (kf x)) (zs:=p.toList.map λi=>xs.getD i .non) g up U;let ek:=hC_ ek;apply aI (h _ H5 _ (I5.yY (t':=s5.toks) (fp:=[a,kS]) (T:=a) (λb o hb e=>?_) (λb hb=>?_) Y1 zl (NL r gu) (get?_update_seq wb _)) We Tb.1 pz ek)
  ·have n1:b≠a:=λz=>hb (by simp[z]);have n2:b≠kS:=λz=>hb (by simp[z]);exact (u7 _ _ (dJ n1)).trans ((u7 _ _ (dJ n2)).trans e)
  rcases cg.mp hb with rfl|hb
  ·exact Tb
  obtain rfl:b=kS:=⇑hb
  exact fk5
 unfold ksk_end;dsimp only;simp only[pJ,if_false];by_cases h2:us.toArray.size<2
 ·rw[aK h2,aK h2];apply ai (aI ?_);rw[StateT.run_pure];apply ai (aI (tail (List.range xs.length).toArray _ (Array.Perm.refl _) (λi j oa hj=>?_) ?_ U))
  ·have e:i=j:=by
    simp only[cY] at h2;omega
   subst e;exact NQ _
  show ((kvs.toArray.zip us.toArray).map λx:Keyed=>x.2)=_;rw[show xs.length=us.length from lx,U2];apply Array.ext' ?_;simp[List.map_snd_zip,lk]
 rw[aD h2,aD h2]
 have g_:2<=us.length:=by
  simp only[cY] at h2;omega
 let#[κ,hk,hc]:=fL_ (prog:=X.prog) (w:=X.w) (A:=B) (s:=s5) (kf:=kf) (xs:=xs) (Ua (tk▸rk)) Y0;apply ai (wpAny_mono (hk (λk s'=>k=κ/\s'=s5) #[U,U]) (λk s7 E5=>?_) λ_ _ x=>x.elim);let#[rfl,rfl]:=E5;have O:Ord (λi j=>bM ((xs.map λx=>bP (kf x)).getD i []) ((xs.map λx=>bP (kf x)).getD j [])):=Nm _
 apply ai (wpAny_mono (kat_run (ks:=kvs) (vs:=us) (G:=λp s'=>s'=s7/\Good us.length p/\Up (λi j=>bM ((xs.map λx=>bP (kf x)).getD i []) ((xs.map λx=>bP (kf x)).getD j [])) p us.length)
  (Q:=λdY s'=>∃p:Array Nat,arrOf dY=p.map (kas_item (kvs.toArray.zip us.toArray))/\failedOf dY=none/\s'=s7/\Good us.length p/\Up (λi j=>bM ((xs.map λx=>bP (kf x)).getD i []) ((xs.map λx=>bP (kf x)).getD j [])) p us.length)
  lk g_ cX (λp dY s' _ q1 q2 q3=>#[p,q1,q2,q3]) (Ok.wp (n:=us.length) (λi j C hi hj=>hc i j C Y0 Y0) (λp q=>#[U,q]) (SG O Y0))) ?_ λ_ _ x=>x)
 rintro⟨⟨⟩,dY⟩ s' ⟨p,Mm,hf,hs',g,u⟩;subst hs';rw[<- lx] at g u;exact tail p dY g u (kat_snds lk Mm) hf
end
section
variable{X:Cx}{pins:List (Addr × Obj)}{σ:St}{H:Hp}{s:Ab}
theorem hP_{B:Ag}{k:Nat}{qual:Str}{params:Arguments}{body:PySem.Expr}{scope:Scope}{p:Str}{dh:ae}{sp:ag->ag->Hp->VK->XK->Prop}{f c':Addr}{cl:List (Str × Addr)}{is:List Nat}{gs xs:ag}{kf:V->Str}{H0:Hp}(F:kr X.prog X.w X.K X.mg X.base k qual params body scope [p] dh sp)(hr:aY k B)(hB:B.frames=X.A.frames)
  (hf:H0 f\jN f qual params body scope cl c') (hc:H0 c'\Bh c' qual) (js:∀q∈cl,X.env.cells.lookup q.1\q.2) (wa:∀x∈dh,∃c,cl.lookup x\c) (E7:∀x∈dh,X.env.scope.names.lookup x\.cell) (hN:is.map (λi=>X.N[i]?)=dh.map some) (Ci:is.map (λi=>σ[i]?)=gs.map (λv=>some (some v)))
  (kG:∀H x,aa H0 H->x∈xs->sp [x] gs H (λv H'=>aa H H'/\v=.str (kf x)) (λ_ _ _=>False)):IJ X σ B (.ref f) H0 kf xs:=by
 intro pins H s x u I sm hx ru;let#[#[pm,kL,ef],_]:=I.aF f _ (sm _ _ hf);let#[#[oc,J6,t,ec,d1,d2],_]:=I.aF c' _ (sm _ _ hc);let#[hg,C,fc]:=I.tN js wa E7 hN Ci;let e0:=I.A_;apply wpAny_call (codeAny_mono (F B X.stack s H f c' pm kL cl [u] [x] gs _ _ hr #[hB.trans e0.frames,e0.mod,e0.bs,e0.tW,e0.fW,e0.wk,e0.aF,e0.bare] ef #[c',oc,J6,t,U,ec,d1,d2] U hg (.cons ru .nil) C fc (kG H x sm hx)) λr s' hq=>?_);cases r with
 |error e=>
  let#[a,cls,H',B,a0,dd,rfl,os,bare,un,aF,fl,i,hE]:=hq
 |ok fl=>
  cases fl with
  |ret u=>exact I.after hq
  |next=>exact False.elim hq
  |brk=>exact False.elim hq
  |cont=>exact False.elim hq
theorem qW{f:Addr}{x:Aa}{xs:ag}{kf:V->Str}{Q:VK}{E:Aa->Ab->Prop}(I:Inv X pins σ H s)(cX:xs.length<64)(jX:IJ X σ X.A.in1.in1 (.ref f) H kf xs)
  (l_:∀R:aj->Ab->Prop,(∀vs s1,Inv X pins σ H s1->Vals xs vs->R vs s1)->wpAny (model X.prog X.w) X.A.in1 (collect x) R E s)
  (q:∀l zs H',aa H H'->H' l=none->H l=none->zs.Perm xs->zs.map kf=iE (xs.map kf)->Q (.ref l) (upd H' l (.lst zs))):wpAny (model X.prog X.w) X.A (call (.builtin "sorted") [x] [(Str.ofString "key",.ref f)]) (EP X pins σ Q) E s:=by
 apply call_function_entry_kw kind_sorted plain_sorted entry_sorted (ksk_s1 _ _) ?_;unfold Builtin.«sorted»;apply ai (m:=checkCount "sorted" 1 1 _) (aI ?_);apply ai (l_ _ λvs s1 I1 r=>?_);let lv:=r.length;apply ai (wpAny_newList ?_ (by rw[cK];omega));have H_:(s1.heap.push (seqObj "list" vs.toArray 0)).get? s1.heap.objs.size\seqObj "list" vs.toArray 0:=dq _ U;have I2:Inv X pins σ H { s1 with heap:=s1.heap.push (seqObj "list" vs.toArray 0) }:=I1.kept (t':=s1.toks) λb u e=>bo _ e;have fa:du X pins H s1.heap.objs.size:=I1.i5 (a9 _) (I1.aF.fresh (a9 _));have nl:H s1.heap.objs.size=none:=I1.aF.fresh (a9 _);apply ai (gR (wpAny_call_entry_kw slot_list_sort #[_,H_,U] entry_list_sort ?body (ksk_l1 _ _)))
 case body=>
  show wpAny (model X.prog X.w) X.A.in1.in1 (Builtin.«list.sort» #[[.ref s1.heap.objs.size],[(Str.ofString "key",.ref f)]]) _ _ _;rw[ksk_t1];apply fJ_ (s:={ s1 with heap:=s1.heap.push (seqObj "list" vs.toArray 0) }) I2 fa H_ r Y0 jX λzs H' s' I' sm na pz ek=>?_;exact#[_,U,aI #[_,U,.ref _,_,I',U,q _ zs H' sm na nl pz ek]]
end
inductive TC (K:af) (qual:Str) (params:Arguments) (body:PySem.Expr) (scope:Scope) (cl:List (Str × Addr)) (is:List Nat) (sp:ag->ag->Hp->VK->XK->Prop) (σ:St) (H:Hp) (Q:VK) (vs:ag) (ws:ag) (H2:Hp):Prop
 |mk:∀x f c' xs kf gs,vs=[x]->ws=[.ref f]->H2 f\jN f qual params body scope cl c'->H2 c'\Bh c' qual->PD K H2 x xs->xs.length<64->is.map (λi=>σ[i]?)=gs.map (λv=>some (some v))->(∀H x,aa H2 H->x∈xs->sp [x] gs H (λv H'=>aa H H'/\v=.str (kf x)) (λ_ _ _=>False))->(∀l zs H',aa H2 H'->H' l=none->H2 l=none->zs.Perm xs->zs.map kf=iE (xs.map kf)->Q (.ref l) (upd H' l (.lst zs)))->TC K qual params body scope cl is sp σ H Q vs ws H2
def vw(K:af)(qual:Str)(params:Arguments)(body:PySem.Expr)(scope:Scope)(cl:List (Str × Addr))(is:List Nat)(sp:ag->ag->Hp->VK->XK->Prop)(t tk:TA):TE:=λσ H Q=>t σ H λvs H1=>tk σ H1 λws H2=>TC K qual params body scope cl is sp σ H Q vs ws H2
theorem gV_{X:Cx}{e:PySem.Expr}{t tk:TA}{p pos kp sS:Pos}{k:Nat}{params:Arguments}{body:PySem.Expr}{scope:Scope}{px:Str}{dh:ae}{qual:Str}{sp:ag->ag->Hp->VK->XK->Prop}{cl:List (Str × Addr)}{is:List Nat}(hc:X.calm=true)(hg:Gl X "sorted")(hm:X.mg "sorted"=none)(ha:PA X [e] t)(hkw:PK X [#[some "key",.Lambda params body scope sS,kp]] tk)
  (F:kr X.prog X.w X.K X.mg X.base k qual params body scope [px] dh sp) (hr:aY (k+2) X.A) (js:∀q∈cl,X.env.cells.lookup q.1\q.2) (wa:∀x∈dh,∃c,cl.lookup x\c) (E7:∀x∈dh,X.env.scope.names.lookup x\.cell) (hN:is.map (λi=>X.N[i]?)=dh.map some)
  (he:starEach [e] X.env=[(false,eval e X.env)]:=by rfl) (AY:(backToKw pos (keywordEach [#[some "key",.Lambda params body scope sS,kp]] X.env)).all (·.1.isSome)=true:=by rfl) (E5:(backToKw pos (keywordEach [#[some "key",.Lambda params body scope sS,kp]] X.env)).filterMap (·.1)=[Str.ofString "key"]:=by rfl)
  (hkn:(backToKw pos (keywordEach [#[some "key",.Lambda params body scope sS,kp]] X.env)).any (·.1.isNone)=false:=by rfl):PE X (.Call (.Name "sorted" p) [e] [#[some "key",.Lambda params body scope sS,kp]] pos) (vw X.K qual params body scope cl is sp t tk):=by
 intro pins s σ H Q I h;apply wpAny_Call_Name_kw (wJ I hg hm JJ ?_);let hA:=ha pos pins s σ H _ I h;rw[he] at hA ⊢;apply callWith_builtin_kwB (first:=[]) U hkn (evalArgs_kwB AY (aU hA λus s1 ⟨vs,H1,I1,r1,q1⟩=>?_));apply aU (hkw pos pins s1 σ H1 _ I1 q1) λws s2 ⟨zs,H2,I2,rz,x,f,c',xs,kf,gs,ev,ez,hf,iy,src,cX,Ci,kG,q⟩=>?_;subst ev ez;let#[u,rfl,ru]:=Vals.one r1;let#[fv,rfl,rf]:=Vals.one rz;cases rf;rw[E5];have hd:X.A.in1.handled=none:=I.ok.hd hc;apply qW I2 cX (hP_ F hr.in1.in1 U hf iy js wa E7 hN Ci kG) (λR hR=>?_) q;rcases src with⟨l,rfl,hl⟩|⟨d,kvs,rfl,hd2,rfl⟩
 ·cases ru;exact _N I2 hl Y0 hR
 cases ru;exact Rc hd I2 (.inl hd2) hR
end L2
namespace L2
open PySem PySem.Spec PyProof.Rows
structure xa (K:af) (x qual:Str) (st:Stmt) (f c:Addr) (fd:Ae):Prop where
 ex:∃(oc:Aa) (od:Option Addr) (kV doc pm:Aa) (an:Option Addr) (ct:Aa) (jG:Array (Option Aa)),
  fd=PySem.W.fnOf x qual (gQ st) (f_ st) (a_ st) .none kV doc pm an (.ref c) ct/\K.lookup f=some #[oc,od,.func fd,jG]/\PySem.W.codeIn K (.ref c) qual=true
 kp:PySem.W.keepIn K (.ref f)=true
theorem xa.ok{P:Ad}{w:Af}{K:af}{mg:Str->Option Aa}{base:Heap}{x qual:Str}{st:Stmt}{f c:Addr}{fd:Ae}{N ps:ae}{k:Nat}{sp:Sp}(F:xa K x qual st f c fd)(S:bQ N ps (a_ st))(len:∀vs H Q E,sp vs H Q E->vs.length=ps.length)
  (fU:∀(A:Ag) (outer:List Env) (s:Ab) (H:Hp) (vs:ag) (Q:VK) (E:XK),aY k (A.deeper (envOfC qual (a_ st) s.heap.objs.size f (.ref c)))->sp vs H Q E->
   ∃t,km (i7 bc P w K mg base N qual (a_ st) f (.ref c) A outer s H E).xO (f_ st) t/\t { nx:=λ_ H'=>Q .non H',rt:=Q } (start N vs) H):!ak bc (k+1) f fd ps sp:=by
 let#[oc,od,kV,doc,pm,an,ct,jG,rfl,lk,iy]:=F.ex;apply QT lk iy S len λA outer s H vs Q E hr kG=>?_;let#[t,h,q]:=fU A outer s H vs Q E hr kG;exact#[t,h.xO,q]
end L2
namespace Ev
open PySem L2
def NT(H G:Hp):Prop:=∀b o,H b\o->(∀vs,o≠.tbl vs)->G b\o
theorem NT.of{H G:Hp}(s:aa H G):NT H G:=λb o e _=>s b o e
theorem NT.refl(H:Hp):NT H H:=NT.of (aa.refl H)
theorem NT.trans{H G J:Hp}(s:NT H G)(t:NT G J):NT H J:=λb o e n=>t b o (s b o e n) n
theorem aM.nt{T:Addr}{H G:Hp}{vs:Array Aa}(b:aM T H G)(hT:H T\.tbl vs):NT H G:=λc o e n=>b c o e (λz=>by
 rw[z,hT] at e;exact n _ (dO e).symm)
theorem NT.tup{H G:Hp}(s:NT H G){a:Addr}{xs:ag}(h:H a\.tup xs):G a\.tup xs:=s _ _ h nofun
theorem NT.lst{H G:Hp}(s:NT H G){a:Addr}{xs:ag}(h:H a\.lst xs):G a\.lst xs:=s _ _ h nofun
theorem NT.dK{H G:Hp}(s:NT H G){a:Addr}{xs:List (Key × V)}(h:H a\.dK xs):G a\.dK xs:=s _ _ h nofun
theorem X4{H:Hp}{T:Addr}{qual q':Str}{a a':Arguments}{b b':Expr}{sc Hf:Scope}{ps:Pos}{cl:List (Str × Addr)}{σ:St}{Q:VK}(h:mz H T qual)(e1:q'=qual)(e2:a'=a)(e3:b'=b)(e4:Hf=sc)(q:∀f c' H1,aM T H H1->mz H1 T qual->H1 f\jN f qual a b sc cl c'->H1 c'\Bh c' qual->Q (.ref f) H1):Dt T q' a' b' Hf ps cl σ H Q:=by
 subst e1 e2 e3 e4;let#[es,h,v_]:=h;apply#[_,h,S9 es,?_];rcases UX ps es with e|⟨e,he,q1⟩
 ·apply .inl #[e,λc' f n1 n2 n3=>?_];have Xp:T≠c':=bG h n1;have Xo:T≠f:=bG h n2
  have B:aM T H (upd (upd (upd H T (.tbl ((mC es).toArray++(List.toArray [rawInt ps.line,rawInt ps.col,.ref c'])))) c' (Bh c' q')) f (jN f q' a' b' Hf cl c')):=λb o e n=>by
   rw[aB (bG e n2),aB (bG e n1),aB n];exact e
  apply q f c' _ B #[es++[(ps,c')],?_,λx hx=>?_] aA ?_
  ·rw[aB Xo,aB Xp,aA,TH];simp
  ·rcases dE.mp hx with hx|hx
   ·exact B _ _ (v_ x hx) (λz=>by have:=v_ x hx;rw[z,h] at this;cases this)
   rw[fw.mp hx];show upd _ f _ c'=_;rw[aB n3,aA]
  rw[aB n3,aA]
 apply .inr #[e.2,q1,λf hf=>?_];let s:=aa.new (o:=jN f q' a' b' Hf cl e.2) hf;exact q f e.2 _ (aM.of s) #[es,s _ _ h,λx hx=>s _ _ (v_ x hx)] aA (s _ _ (v_ e he))
theorem Yp{H:Hp}{T:Addr}{qual:Str}(h:mz H T qual):∃vs,H T\.tbl vs:=by
 let#[es,e,_]:=h;exact#[_,e]
def vQ:Expr->Scope
 |.Lambda _ _ s _=>s
 |_=>a_ fe
def Lg:Expr->Expr
 |.Lambda _ b _ _=>b
 |e=>e
def Lh:Expr->Arguments
 |.Lambda a _ _ _=>a
 |_=>gQ fe
def X6:Expr->Expr
 |.Call _ _ (k::_) _=>k.value
 |e=>e
def zV(l:List Stmt)(i:Nat):Stmt:=l.getD i (.Pass #[0,0,0,0])
theorem X5{ps:aS}(nd:(ps.map (·.1)).Nodup){a b:Pc}(ha:a∈ps)(hb:b∈ps)(e:a.1=b.1):a=b:=by
 let#[i,hi,rfl]:=gB ha;let#[j,hj,rfl]:=gB hb;have:i=j:=(List.getElem?_inj (l:=ps.map (·.1)) (by rw[aq];exact hi) nd).mp (by rw[df,df,aX hi,aX hj,Option.map_some,Option.map_some,e]);subst this;rfl
theorem X2{ts:Xb}{ps ss qs:aS}(Q:Qs ps qs)(nd:(ps.map (·.1)).Nodup)(p:ss.Perm ps)(e:ss.map (·.1)=iE (ps.map (·.1)))(dr:∀q∈ps,kE ts q):eN ts ss qs:=by
 have en:qs.map (·.1)=ss.map (·.1):=by rw[Q.vN,e]
 have le:qs.length=ss.length:=by rw[<- aq (as:=qs) (f:=λq:Pc=>q.1),en,aq]
 apply#[?_,λq hq=>dr q (p.mem_iff.mp hq),?_]
 ·apply List.ext_getElem (by rw[aq,le]) ?_;intro j h1 h2;rw[w9];have hs:j<ss.length:=by omega
  let#[x,hx,ex]:=Q.mem qs[j] (ke h1);have n1:(qs.map (·.1))[j]? = some qs[j].1:=by rw[df,aX h1];rfl
  have n2:(ss.map (·.1))[j]? = some (ss[j]).1:=by rw[df,aX hs];rfl
  rw[en,n2] at n1;have n3:(ss[j]).1=qs[j].1:=dO n1;have n4:qs[j].1=x.1:=by rw[ex];rfl
  rw[ex,X5 nd hx (p.mem_iff.mp (ke hs)) (n4.symm.trans n3.symm)]
 exact (p.map (·.1)).nodup_iff.mpr nd
theorem eK_{α β:Type}{F:α->β->Prop}{zs ys:List α}(p:zs.Perm ys):∀{ps:List β},Paired F ys ps->∃ss,ss.Perm ps/\Paired F zs ss:=by
 induction p with
 |nil=>exact λ{ps} h=>#[ps,.refl _,h]
 |cons x _ ih=>
  intro ps h;cases h with
  |cons h t=>
   let#[ss,q,r]:=ih t;exact#[_,q.cons _,.cons h r]
 |swap x y l=>
  intro ps h;cases h with
  |cons h t=>
   cases t with
   |cons h2 t=>exact#[_,.swap _ _ _,.cons h2 (.cons h t)]
 |trans _ _ _t _s=>
  intro ps h;let#[ss,q,r]:=_s h;let#[s2,q2,r2]:=_t r;exact#[s2,q2.trans q,r2]
def KW(H:Hp):V->Str
 |.ref t=>match H t with
  |some (.tup (.str n::_))=>n
  |_=>⟨#[]⟩
 |_=>⟨#[]⟩
theorem M0{K:af}{H:Hp}:∀{ys:ag} {ps:aS},j4 K H ys ps->ys.map (KW H)=ps.map (·.1)
 |_,_,.nil=>rfl
 |_,_,.cons (b:=p) ⟨t,v,e,ht,_⟩ r=>by
  rw[fE,fE,M0 (K:=K) r,e]
  have:KW H (.ref t)=p.1:=by
   show (match H t with|some (.tup (.str n::_))=>n|_=>(⟨#[]⟩:Str))=p.1;rw[ht]
  rw[this]
end Ev
namespace Ev
open PySem L2
def FF:Stmt->List Stmt
 |.For _ _ b _ _=>b
 |_=>[]
def Pr:Stmt->Expr
 |.Assign _ e _=>e
 |_=>.Constant .none 0 #[0,0,0,0]
def o8:Expr:=X6 (Pr (zV (FF (zV (f_ fe) 0)) 5))
abbrev qL:Str:="law.<locals>.<lambda>"
theorem Fy:∀y∈(vQ o8).names,y.2=.free->y.1∈([]:ae):=by decide +kernel
theorem zA:Jz ["_law_piece"] [] (vQ o8):=#[by decide +kernel,U,U,U,by decide +kernel,by decide +kernel,λx h=>Fy (x,.free) (qh h) U,by decide +kernel]
inductive nu (vs:ag) (gs:ag) (H:Hp) (Q:VK):Prop
 |mk:∀(t:Addr) (n:Str) (r:ag),vs=[.ref t]->gs=[]->H t\.tup (.str n::r)->Q (.str n) H->nu vs gs H Q
def zk:ag->ag->Hp->VK->XK->Prop:=λvs gs H Q _=>nu vs gs H Q
theorem Oq{L f:Addr}{cd:Aa}:closureFor (vQ o8) (PyProof.Rows.envOfC "law" (a_ fe) L f cd)=pure []:=by rfl
section v
theorem YV:!kr 1 qL (Lh o8) (Lg o8) (vQ o8) ["_law_piece"] [] zk:=by
 apply Eh zA (λpm c' kL cl us hl=>?_) (λA outer s H f cd cl vs gs Q E hr h hp=>?_)
 ·match us,hl with
  |[_],_=>rfl
 let#[t,n,r,rfl,rfl,ht,k]:=h;apply#[_,bg cj (pv 0) ay,?_];exact#[_,U,t,_,0,_,U,U,.of ht,L2.cZ (j:=0) U,k]
end
end Ev
namespace L2
open PySem PySem.Spec PyProof.Rows PySem.W jk c_ Ev
end L2
namespace Ev
open PySem L2
section
variable{K:af}{CG CW:Addr}
theorem YI{H:Hp}{R:Addr->Hp->Prop}{E:XK}{lh lt:Addr}{yh yt:ag}{hs:Xa}{ts:Xb}(G:Good hs ts)(h1:H lh\.lst yh)(h2:bS K H yh (hs.map kH))(h3:H lt\.lst yt)(h4:bS K H yt (ts.map kT))
  (k:∀p fp H',aa H H'->hU K CW H' p hs ts fp->(∀b∈fp,H b=none)->R p H'):∀x dx,H x=none->H dx=none->dx≠x->IL K CW (.ref x::([.ref lh,.ref lt]++[])) (upd (upd H dx (.own x)) x (.ins CW dx [])) (λv H2=>v=.non/\R x H2) E:=by
 intro p dx hp Fc ne;have s4:aa H (upd (upd H dx (.own p)) p (.ins CW dx [])):=(aa.new Fc).trans (aa.new (by rw[aB ne.symm];exact hp));apply#[p,dx,lh,lt,yh,yt,hs,ts,U,aA,s4 _ _ h1,h2.same s4,s4 _ _ h3,h4.same s4,G,λdC H5 kp W fr=>#[U,?_]];apply k p dC H5 (λb o e=>kp b o (s4 _ _ e) (bG e hp)) W λb hb=>?_;rcases fr b hb with rfl|z
 ·exact hp
 exact s4.free z
theorem hT_{H:Hp}{R:Addr->Hp->Prop}{E:XK}{p lp:Addr}{yp:ag}{hs:Xa}{ts:Xb}{ps:aS}{dC:av}(W:hU K CW H p hs ts dC)(G:Good hs ts)(h1:H lp\.lst yp)(h2:j4 K H yp ps)(gp:∀q∈ps,kz ts q)(nd:(ps.map (·.1)).Nodup)(len:ps.length<64)
  (k:∀g qs fp H',aa H H'->gq K CG CW H' g p hs ts qs fp->Qs ps qs->(∀b∈fp,b∈dC∨H b=none)->R g H'):∀x dx,H x=none->H dx=none->dx≠x->Je K CG CW (.ref x::([.ref p,.ref lp]++[])) (upd (upd H dx (.own x)) x (.ins CG dx [])) (λv H2=>v=.non/\R x H2) E:=by
 intro g dx hg Fc ne;have s4:aa H (upd (upd H dx (.own g)) g (.ins CG dx [])):=(aa.new Fc).trans (aa.new (by rw[aB ne.symm];exact hg))
 have gw:g∉dC:=λm=>by
  let#[o,e]:=W.has m;rw[hg] at e;cases e
 apply#[g,dx,p,lp,yp,ps,hs,ts,dC,U,aA,W.same s4,gw,G,s4 _ _ h1,Paired.aQ h2 λ_ _ q=>q.same s4,gp,nd,len,λqs fp H5 kp GA Qq fr=>#[U,?_]];apply k g qs fp H5 (λb o e=>kp b o (s4 _ _ e) (bG e hg)) GA Qq λb hb=>?_;rcases fr b hb with rfl|z|z
 ·exact .inr hg
 ·exact .inl z
 exact .inr (s4.free z)
end
theorem K0{σ:St}{H:Hp}{k:ag->Hp->Prop}(h:k [] H):gG σ H k:=h
theorem FZ{te:TE}{t:TA}{σ:St}{H:Hp}{k:ag->Hp->Prop}(h:te σ H λx H1=>t σ H1 λxs H2=>k (x::xs) H2):p7 te t σ H k:=h
theorem M7:∀{LL:List (List au)},(∀(j:Nat) L,j+1<LL.length->LL[j]? = some L->L≠[])->LL.length<=LL.flatten.length+1
 |[],_=>by simp
 |[L],_=>by simp
 |L::L2::r,h=>by
  let ih:=M7 (LL:=L2::r) λj M hj hM=>h (j+1) M ⇑hj ⇑hM;have h0:L≠[]:=h 0 L Y1 U;have:=List.length_pos_iff.mpr h0;rw[List.flatten_cons,dN];rw[jz (a:=L)];omega
theorem mz.Pb{H G:Hp}{T l:Addr}{q:Str}{xs:ag}(h:mz H T q)(b:aM l H G)(hl:H l\.lst xs):mz G T q:=by
 let#[es,e,c]:=h;exact#[es,b _ _ e (bO e hl nofun),λx hx=>b _ _ (c x hx) (bO (c x hx) hl nofun)]
structure Dr (K:af) (H:Hp) (l lh lt lp d:Addr) (hs:Xa) (ts:Xb) (ps:aS) (f:bz):Prop where
 st:bJ H l
 hh:∃yh,H lh\.lst yh/\bS K H yh (hs.map kH)
 ht:∃zs,H lt\.lst zs/\bS K H zs (ts.map kT)
 hp:∃yp,H lp\.lst yp/\j4 K H yp ps
 hd:H d\.dK (gd (ps.map (·.1)) f)
 n1:lh≠l
 n2:lt≠l
 n3:lp≠l
theorem Dr.but{K:af}{H H':Hp}{l lh lt lp d:Addr}{hs:Xa}{ts:Xb}{ps:aS}{f:bz}(h:Dr K H l lh lt lp d hs ts ps f)(b:aM l H H')(st:bJ H' l):Dr K H' l lh lt lp d hs ts ps f:=by
 let#[a0,#[yh,a1,a2],#[zs,b1,b2],#[yp,c1,c2],d1,n1,n2,n3]:=h;let#[xs,e]:=a0.some;exact#[st,#[yh,b _ _ a1 n1,jb a2 b e],#[zs,b _ _ b1 n2,jb b2 b e],#[yp,b _ _ c1 n3,Paired.aQ c2 λy p q=>q.but b a0],b _ _ d1 (bO d1 e nofun),n1,n2,n3]
theorem Dr.same{K:af}{H H':Hp}{l lh lt lp d:Addr}{hs:Xa}{ts:Xb}{ps:aS}{f:bz}(h:Dr K H l lh lt lp d hs ts ps f)(s:aa H H'):Dr K H' l lh lt lp d hs ts ps f:=h.but (aM.of s) (h.st.same s)
theorem bS.nt{K:af}{H G:Hp}{ys:ag}{ks:List aw}(h:bS K H ys ks)(s:NT H G):bS K G ys ks:=Paired.aQ h λy k ⟨a,z,q⟩=>#[a,z,s.tup q]
theorem cy.nt{K:af}{H G:Hp}{v:V}{o:Option (Xb)}(h:cy K H v o)(s:NT H G):cy K G v o:=by
 cases o with
 |none=>exact h
 |some ws=>
  let#[a,ys,e,ha,t]:=h;exact#[a,ys,e,s.lst ha,bS.nt t s]
theorem Dr.nt{K:af}{H H':Hp}{l lh lt lp d:Addr}{hs:Xa}{ts:Xb}{ps:aS}{f:bz}(h:Dr K H l lh lt lp d hs ts ps f)(s:NT H H'):Dr K H' l lh lt lp d hs ts ps f:=by
 let#[a0,#[yh,a1,a2],#[zs,b1,b2],#[yp,c1,c2],d1,n1,n2,n3]:=h;apply#[?_,#[yh,s.lst a1,bS.nt a2 s],#[zs,s.lst b1,bS.nt b2 s],#[yp,s.lst c1,Paired.aQ c2 λy p ⟨t,v,e,ht,w⟩=>#[t,v,e,s.tup ht,w.nt s]],s.dK d1,n1,n2,n3];rcases a0 with⟨n,e⟩|⟨n,m,c,e⟩
 ·exact .inl #[n,s.lst e]
 exact .inr #[n,m,c,s.lst e]
theorem ZV{K:af}{H H':Hp}{a:Addr}{xs:ag}(s:aa H H')(h:d6 K H a xs):d6 K H' a xs:=by
 rcases h with (h|⟨o,h⟩)|h
 ·exact .inl (.inl (s _ _ h))
 ·exact .inl (.inr #[o,s _ _ h])
 exact .inr h
theorem aM.same{l:Addr}{H H1 H2:Hp}(b:aM l H1 H2)(n:H l=none)(s:aa H H1):aa H H2:=λc o e=>b c o (s c o e) (bG e n)
section v
theorem bF.imp{k:Nat}{x:Str}{ps:ae}{sp BV:Sp}(c:!bF k x ps sp)(h:∀vs H Q E,BV vs H Q E->sp vs H Q E):!bF k x ps BV:=by
 let#[f,fd,F,m]:=c.ex;exact#[f,fd,F.imp h,m]
end
end Ev
namespace Ev
open PySem L2
abbrev kY:=Option (ag × V)
def uZ:kY->ag
 |some (zs,_)=>zs
 |none=>[]
def mB(hs:Xa)(qs:aS)(c:Nat)(l:List kY)(k:Nat):Prop:=∃th,l[k]? = some th/\(¬iu hs qs c th∨∃j k_,j<k/\l[j]? = some k_/\uZ k_=uZ th)
def yq(K:af)(H:Hp):ag->List kY->Prop:=Paired (kh K H)
theorem Rg{K:af}{H H':Hp}{v:V}{t:Aa}(h:dF K H v t)(s:aa H H'):dF K H' v t:=by
 cases h with
 |non=>exact .non
 |bl x=>exact .bl x
 |int i=>exact .int i
 |str x=>exact .str x
 |flt x=>exact .flt x
 |lst e=>exact .lst (s _ _ e)
 |frz e=>exact .frz (s _ _ e)
 |tup e=>exact .tup (s _ _ e)
 |dK e=>exact .dK (s _ _ e)
 |dT e=>exact .dT (s _ _ e)
 |ins e a b c d f=>exact .ins (s _ _ e) a b c d f
theorem kh.same{K:af}{H H':Hp}{y:V}{th:kY}(h:kh K H y th)(s:aa H H'):kh K H' y th:=by
 match th,h with
 |none,.inl ⟨t,ty,e⟩=>exact .inl #[t,Rg ty s,e]
 |none,.inr ⟨a,xs,e,ha,.inl h⟩=>exact .inr #[a,xs,e,s _ _ ha,.inl h]
 |none,.inr ⟨a,xs,e,ha,.inr ⟨v,r,t,h,ty,q⟩⟩=>exact .inr #[a,xs,e,s _ _ ha,.inr #[v,r,t,h,Rg ty s,q]]
 |some (zs,nv),⟨a,t,e,h1,h2,h3,h4⟩=>exact#[a,t,e,s _ _ h1,s _ _ h2,h3,h4]
theorem iu.qO{hs:Xa}{qs:aS}{c:Nat}{th:kY}(h:iu hs qs c th):∃(z:au) (n:Nat),th\(sV z,.int n)/\Vs hs qs z/\n<c:=by
 match th,h with
 |some (zs,nv),⟨h1,h2,n,e,h3,h4⟩=>
  have:∃z:au,zs=sV z/\∀x∈z,x∈aV hs:=by
   clear h1
   induction zs with
   |nil=>exact#[[],U,by simp]
   |cons v r ih=>
    let#[x,ex,hx]:=h2 v Y1;let#[z,ez,hz]:=ih λw hw=>h2 w (by simp[hw])
    exact#[x::z,by rw[ex,ez];rfl,λy hy=>by
     rcases cg.mp hy with rfl|hy
     ·exact hx
     exact hz y hy]
  let#[z,rfl,hz]:=this;apply#[z,n.toNat,?_,#[by simpa using h1,hz],by omega];rw[e,Int.toNat_of_nonneg h3]
section v
theorem nD:bQ ["goods","count","shut","known","k","thing"] ["goods","count","shut"] (a_ zG):=bZ
inductive lC (K:af) (CG CW:Addr) (vs:ag) (H:Hp) (Q:VK) (E:XK):Prop
 |mk:∀(g p:Addr) (y0:V) (hs:Xa) (ts:Xb) (qs:aS) (fp:av) (c:Nat),vs=[.ref g,.int c,y0]->Gs K CG CW H g p hs ts qs fp->c<=100->((∃t,dF K H y0 t/\PySem.W.kitOne K t (.type "list")\false/\Q (.int (-1)) H)∨∃(lS:Addr) (ys:ag) (l:List kY),y0=.ref lS/\H lS\.lst ys/\yq K H ys l/\l.length<=1000/\(∀H',aa H H'->(∀k,¬mB hs qs c l k)->Q .non H')/\∀H' (k:Nat),aa H H'->mB hs qs c l k->(∀j,j<k->¬mB hs qs c l j)->Q (.int k) H')->lC K CG CW vs H Q E
theorem ZE{f CG CW:Addr}{fd:Ae}(F:bu K "place_of_wrong_form" "place_of_wrong_form" zG f fd)(B:Bi mg)(cE:!bF 3 "is_entry" oG (Ov K CG CW)):!ak bc 4 f fd ["goods","count","shut"] (lC K CG CW):=by
 exists F.bW nD;let#[g,p,y0,hs,ts,qs,fp,c,rfl,G,c2,h]:=h;let hu:=fP hr;let sz:=cK;refine' #[_,ax ?s1 (ax ?s2 (ax ?s3 (aJ ?s4))),?kk]
 case s1=>exact b_ (eM (d4 (bT gM (by rfl) B.gA gE %[2,gN (v:=.ty "list") (by rfl) B.list qf U|0]))) (aJ (bp (Be Bp ay))) cm
 case s2=>exact bw 3 nD.nd S2
 case' s3=>refine' d9 dU U (Sq (by rfl) B.enum %[2|0]) ?g3 (ax ?b1 (aJ ?b2))
 case g3=>exact jv U (di (bX 4 nD.nd) (di (bX 5 nD.nd) hW))
 case b1=>exact b_ (iK (eM (d4 (bj cE hr %[0,1,5|0]))) (jZ (qk (Bk hu (bg cj (pv 5) ay) (pv 3))))).pt (aJ (bp (pv 4))) cm
 case b2=>exact u5 hu (pv 3) (bg cj (pv 5) ay) jw U
 case s4=>exact bp ow
 rcases h with⟨t,ty,e,q⟩|⟨lS,ys,l,rfl,hl,th,l3,kN,kB⟩
 ·apply#[_,U,_,_,_,_,U,ty,e,_,U,bN ?_];exact#[_,U,q]
 let B1:=bI th;apply#[_,U,_,_,_,_,U,.lst hl,U,_,U,aH ?_];intro d hd;let s1:=aa.new (o:=.dT []) hd;have e1:upd H d (.dT []) d\.dT (kn []):=aA;generalize upd H d (.dT [])=H1 at s1 e1 ⊢
 let Iv:dG:=λi σ H'=>∃(v4 v5:aE) (zl:List au),σ=[some (.ref g),some (.int c),some (.ref lS),some (.ref d),v4,v5]/\aa H H'/\H' d\.dT (kn zl)/\zl.length=i/\(∀(j:Nat) z,zl[j]? = some z->∃th,l[j]? = some th/\uZ th=sV z)/\∀j,j<i->¬mB hs qs c l j
 apply#[_,U,lS,U,#[_,.of (s1 _ _ hl)],SV (K:=K) (a:=lS) (xs:=ys) Iv #[none,none,[],U,s1,e1,U,λj z e=>(by cases e),λj h=>absurd h (Nat.not_lt_zero _)] (λi σ H' _ ⟨_,_,_,_,sm,_⟩=>.of (sm _ _ hl)) ?_ ?_]
 ·rintro i y σ H2 hy ⟨v4,v5,zl,rfl,s2,e2,C6,yU,good⟩ tt vV;have hi:i<ys.length:=(cw.mp hy).1
  obtain⟨x,hx,xh⟩:∃x,l[i]? = some x/\kh K H y x:=by
   have:=dP th i hi Y0;rw[aX hi] at hy;cases hy;exact#[l[i]' Y0,aX Y0,this]
  let#[s3,e3]:=aC (o:=.tup [.int i,y]) vV;let dI:=s2.trans s3;let uT:=s3 _ _ e2;show gi _ _ _ _ _ (upd H2 tt (.tup [.int i,y])) _;generalize upd H2 tt (.tup [.int i,y])=H3 at s3 e3 dI uT ⊢;apply#[tt,_,U,.of e3,U,_,_,U,_,_,U,U,?_];apply#[_,U,_,U,_,U,g,p,y,hs,ts,qs,fp,x,c,U,G.same dI,xh.same dI,c2,λb H4 s4 hb=>#[_,U,?_]];let fI:=dI.trans s4;let IU:=s4 _ _ uT;cases b with
  |false=>
   apply bN ?_;exact#[_,U,kB H4 i fI #[x,hx,.inl λh=>by have:=hb.mpr h;cases this] good]
  |true=>
   apply aH ?_;let ok:=hb.mp U;let#[z,n,rfl,v,nc]:=ok.qO;let#[a,t,rfl,ha,ht,_,_]:=xh;have hK:H4 t\.tup ((sK z).map kV):=by rw[iQ];exact fI _ _ ht
   apply#[_,U,a,_,0,_,U,U,.of (fI _ _ ha),L2.cZ (j:=0) U,_,U,d,_,U,.t IU hK,_,U,?_];rw[SF];by_cases cz:z∈zl
   ·rw[dc cz];apply bN ?_;let#[j,hj,ej]:=gB cz;let#[k_,h1,h2]:=yU j z (by rw[aX hj,ej]);exact#[_,U,kB H4 i fI #[_,hx,.inr #[j,k_,by omega,h1,h2]] good]
   rw[fO cz];apply aH ?_
   have lk:(kn zl).length<sizeLine:=by
    unfold kn;rw[aq];omega
   apply#[_,U,_,U,a,_,0,_,U,U,.of (fI _ _ ha),L2.cZ (j:=0) U,d,_,U,.t IU hK lk,?_];rw[Rn cz];apply#[_,_,zl++[z],U,fF fI hd,aA,by rw[dN,C6];rfl,λj y hj=>?_,λj hj=>?_]
   ·by_cases q:j<zl.length
    ·rw[w6 q] at hj;exact yU j y hj
    let vZ:=(cw.mp hj).1;rw[dN,oF] at vZ;have:j=zl.length:=by omega
    subst this;rw[yP (a9 _),Nat.sub_self] at hj;cases hj;exact#[_,by rw[C6];exact hx,U]
   by_cases q:j<i
   ·exact good j q
   have:j=i:=by omega
   subst this;rintro⟨th,e,h|⟨j',k_,LX,e',es⟩⟩
   ·rw[hx] at e;cases e;exact h ok
   rw[hx] at e;cases e;have vT:zl[j']? = some (zl[j']' Y0):=aX Y0;let#[V3,h1,h2]:=yU j' _ vT;rw[e'] at h1;cases h1;rw[h2] at es;have:zl[j']' Y0=z:=List.map_inj_right (λx y e=>by cases e;rfl) |>.mp es;rw[<- this] at cz;exact cz (ke _)
 rintro σ H2 ⟨v4,v5,zl,rfl,s2,_,_,_,good⟩;apply kN H2 s2 λk=>?_;by_cases q:k<ys.length
 ·exact good k q
 rintro⟨th,e,_⟩;have:=(cw.mp e).1;omega
end
end Ev
namespace Ev
open PySem L2
theorem hs_{α:Type}{ns:List α}(nd:ns.Nodup){i:Nat}{n:α}(h:ns[i]? = some n):n∉ns.take i:=λhm=>by
 let#[j,hj,e]:=gB hm;rw[dM] at hj;rw[List.getElem_take] at e;have:=(List.getElem?_inj Y0 nd).mp (show ns[j]? = ns[i]? by rw[h,aX Y0,e]);omega
def gf(l:List (au × Nat)):List (aw × V):=l.map λe=>(sK e.1,.int (e.2:Nat))
theorem NJ(l:List (au × Nat)):(gf l).map (·.1)=(l.map (·.1)).map sK:=by
 unfold gf;rw[cA,cA];rfl
theorem JD{l:List (au × Nat)}{z:au}(h:z∉l.map (·.1)):aZ (gf l) (sK z)=none:=u_ (by
 rw[NJ];intro hm;let#[x,hx,e]:=bx.mp hm;rw[<- FO e] at h;exact h hx)
theorem pG:∀{l:List (au × Nat)} {z:au} {n:Nat},(l.map (·.1)).Nodup->(z,n)∈l->aZ (gf l) (sK z)\.int (n:Nat)
 |[],_,_,_,h=>by cases h
 |(y,m)::r,z,n,nd,h=>by
  rw[fE,kW] at nd;rcases cg.mp h with e|h
  ·cases e;exact yK U
  have ne:¬sK y=sK z:=λe=>by
   have:=FO e;subst this;exact nd.1 (bx.mpr #[(y,n),h,U])
  rw[show aZ (gf ((y,m)::r)) (sK z)=aZ (gf r) (sK z) from yI ne];exact pG nd.2 h
section v
theorem xC:bQ ["goods","stand","limit","count","placed"] uj (a_ zH):=bZ
inductive qU (K:af) (CG CW:Addr) (vs:ag) (H:Hp) (Q:VK) (E:XK):Prop
 |mk:∀(g p d lt:Addr) (hs:Xa) (ts:Xb) (qs:aS) (fp:av) (s0:au) (ns:ae) (f:bz) (l:Int × Int) (c:Nat),vs=[.ref g,.ref d,.ref lt,.int c]->Gs K CG CW H g p hs ts qs fp->Cy H d hs qs fp s0 ns f->hY H lt l->uW l->1<=c->c<=100->(∀d' H',aa H H'->H d'=none->H' d'\.dK (gd (qs.map (·.1)) f)->Q (.ref d') H')->qU K CG CW vs H Q E
theorem X_{f0 CG CW:Addr}{fd:Ae}(F:bu K "checked_shut_start" "checked_shut_start" zH f0 fd){tk:Tok}(mM:mg "MOST_COUNT"\.int 100 tk)(cL:!bF 4 "check_limit" fM qV)(cS:!bF 2 "checked_stand" yu (Jt K CG CW))(cW:!bF 2 "is_whole_within" yD Jc):!ak bc 5 f0 fd uj (qU K CG CW):=by
 exists F.bW xC;let#[g,p,d,lt,hs,ts,qs,fp,s0,ns,f,l,c,rfl,G,S,hl,lo,c1,c2,k]:=h;refine' #[_,ax ?s1 (ax ?s2 (ax ?s3 (aJ ?s4))),?kk]
 case s1=>exact j9 (bj cL hr %[2|0])
 case s2=>exact bw 4 xC.nd (bj cS hr %[0,1|0])
 case s3=>exact b_ (eM (d4 (bj cW hr %[3,ay,CF (v:=.int 100) (by rfl) mM #[tk,U]|0]))) gC cm
 case s4=>exact bp (pv 4)
 apply#[_,U,lt,l,U,hl,lo,?_];apply#[_,U,_,U,g,p,d,hs,ts,qs,fp,ns,f,U,G.G,S.pZ,S.hd,S.ok,G.nd,G.cX,λd1 H1 s1 n1 e1=>?_];apply#[_,U,c,1,100,U,_,U,?_];rw[dc (show (1:Int)<=(c:Int) by omega),dc (show (c:Int)<=100 by omega)];exact aH #[_,U,k d1 H1 s1 n1 e1]
end
def Out(N:au->au->Prop)(l:List (au × Nat))(z:au)(m:Nat):Prop:=∃y,N z y/\∀k,(y,k)∈l->m+1<k
section v
theorem nE:bQ ["reach","hands","number_by_hands","most"] uk (a_ lQ):=bZ
inductive N2 (K:af) (CR:Addr) (vs:ag) (H:Hp) (Q:VK) (E:XK):Prop
 |mk:∀(r dx t x a n nd:Addr) (hs:Xa) (ts:Xb) (qs:aS) (l:List (au × Nat)) (z:au) (m:Nat),vs=[.ref r,.ref t,.ref nd]->H r\.ins CR dx (ed x a n)->xc H x hs ts qs->H t\.tup (sV z)->Vs hs qs z->(aV hs).length<=8->qs.length<64->H nd\.dT (gf l)->(l.map (·.1)).Nodup->(z,m)∈l->(∀e∈l,e.2<=100)->(∀b H',aa H H'->(b=true ↔ Out (Nx hs ts qs) l z m)->Q (.bl b) H')->N2 K CR vs H Q E
theorem _v{f CR:Addr}{fd:Ae}(F:bu K "leads_out" "leads_out" lQ f fd)(T:ui K CR)(B:Bi mg)(cM:!bY CR 1 "one_move_on" ["self","hands"] (Np CR)):!ak bc 2 f fd uk (N2 K CR):=by
 exists F.bW nE;let#[r,dx,t,x,a,n,nd,hs,ts,qs,l,z,m,rfl,HY,ex,ht,v,n8,KN,pU,HG,zm,X1,k]:=h;let hu:=fP hr;let sz:=cK;refine' #[_,ax ?s1 (aJ ?s2),?kk]
 case s1=>exact bw 3 nE.nd (br fG (j_ hu (pv 2) (pv 1)) ay)
 case' s2=>refine' bp (bT (_Q U) (by rfl) B.any PyProof.Rows.Boot.«any» %[jd ["after","most","number_by_hands"] 1 [3,2] (d5 (j2 cM T.cl hr (pv 0) %[1|0])) (λfp s H=>?g2) (λfp s H=>jy) (λfp s H=>?e2)|0])
 case g2=>exact fu (i:=0) (show (["after","most","number_by_hands"]:ae).Nodup by decide +kernel) U (Or.inl U)
 case e2=>exact wQ Ft (ZT hu (pv 2) (pv 0) (br fG (pv 1) ay) #[U,U,U,U]) (pv 1)
 have hK:H t\.tup ((sK z).map kV):=by rw[iQ];exact ht
 have g0:cO H nd (.ref t) (some (.int (m:Nat))):=by
  have:=cO.t pU hK;rw[pG HG zm] at this;exact this
 apply#[_,U,_,U,nd,_,U,g0,_,_,U,U,?_];apply#[_,U,r,dx,_,U,HY,hV_ _ _ _ Z0 Z0 Z0,_,U,r,dx,t,x,a,n,hs,ts,qs,z,U,HY,ex,ht,v,n8,KN,λla ys L H1 s1 nla e1 sp mem lL=>?_];let B1:=bI sp;apply#[la,U,#[_,.of e1],λD hD=>?_]
 have num:∀y:au,∃o:Option Nat,aZ (gf l) (sK y)=o.map (λk=>V.int (k:Nat))/\∀k,(y,k)∈l ↔ o=some k:=λy=>by
  by_cases c:y∈l.map (·.1)
  ·let#[e,he,rfl]:=bx.mp c;apply#[some e.2,pG HG he,λk=>#[λh=>?_,λh=>?_]]
   ·have:=(pG HG h).symm.trans (pG HG he);have:=V.int.inj (dO this);congr 1;omega
   cases h;exact he
  exact#[none,JD c,λk=>#[λh=>absurd (bx.mpr #[_,h,U]) c,λh=>by cases h]]
 apply kb (own:=1) (fv:=[some (.int ((m:Int)+1)),some (.ref nd)]) (xs:=ys) U fg (λj out H'=>aa H1 H'/\∃bs:List Bool,H' D\.lst (bs.map V.bl)/\out=bs.map V.bl/\bs.length=j/\(true∈bs ↔ ∃y∈L.take j,∀k,(y,k)∈l->m+1<k)) #[aa.new hD,[],aA,U,U,by simp] (λj out H' _ ⟨sm,_⟩=>.of (sm _ _ e1)) (λout H5 ⟨s5,bs,ju,eo,_,all⟩=>?_) (λj y out H' hy ⟨sm,bs,dA,eo,lb,all⟩=>?_);rotate_left 1
 ·have hj:j<ys.length:=(cw.mp hy).1
  obtain⟨u,EC,tu,rfl,htu⟩:∃u,L[j]? = some u/\∃t,y=.ref t/\H1 t\.tup (sV u):=by
   have:=dP sp j hj Y0;rw[aX hj] at hy;cases hy;exact#[L[j]' Y0,aX Y0,this]
  have Io:H' tu\.tup ((sK u).map kV):=by rw[iQ];exact sm _ _ htu
  have ET:H' nd\.dT (gf l):=sm _ _ (s1 _ _ pU);let#[o,eo',mo]:=num u
  have g1:cO H' nd (.ref tu) (o.map λk=>V.int (k:Nat)):=by
   rw[<- eo'];exact cO.t ET Io
  have l1:out.length<sizeLine:=by rw[eo,aq];omega
  have tk:∀(Pp:au->Prop),(∃y∈L.take (j+1),Pp y) ↔ (∃y∈L.take j,Pp y)∨Pp u:=λPp=>by
   rw[oE,EC];constructor
   ·rintro⟨x,hx,r⟩;rcases dE.mp hx with hx|hx
    ·exact .inl #[x,hx,r]
    have:x=u:=⇑hx
    rw[this] at r;exact .inr r
   rintro (⟨x,hx,r⟩|r)
   ·exact#[x,dE.mpr (.inl hx),r]
   exact#[u,by simp,r]
  obtain⟨vn,MP,HU⟩:∃vn:Int,(o.map λk=>V.int (k:Nat)).getD (.int ((m:Int)+1+1))=.int vn/\((m:Int)+1<vn ↔ ∀k,(u,k)∈l->m+1<k):=by
   cases o with
   |none=>exact#[_,U,#[λ_ k hk=>(by have:=(mo k).mp hk;cases this),λ_=>by omega]]
   |some q=>
    apply#[(q:Nat),U,#[λh k hk=>?_,λh=>?_]]
    ·have:=(mo k).mp hk;cases this;omega
    have:=h q ((mo q).mpr U);omega
  apply#[_,U,U,λNx hN=>eQ ?_];apply#[_,U,nd,U,.inr #[_,.inl ET],_,U,_,U,_,_,U,U,_,g1,?_];rw[MP];apply#[_,U,_,_,U,U,out,by rw[eo];exact dA,l1,hN (out++[.bl (decide ((m:Int)+1<vn))]) _ #[fF sm hD,bs++[decide ((m:Int)+1<vn)],?_,?_,by rw[dN,lb];rfl,?_]]
  ·rw[aA,eo,eK];rfl
  ·rw[eo,eK];rfl
  rw[tk,dE,all,fw,eq_comm,uV,HU]
 rw[B1,d_] at all;apply#[D,bs,U,.of ju,?_];apply k _ H5 (s1.trans s5) ?_;rw[List.any_eq_true];constructor
 ·rintro⟨b,hb,e⟩;have e:b=true:=e;rw[e] at hb;let#[y,hy,h]:=all.mp hb;exact#[y,(mem y).mp hy,h]
 rintro⟨y,hy,h⟩;exact#[true,all.mpr #[y,(mem y).mpr hy,h],U]
end
end Ev
namespace Ev
open PySem L2
def ft(H:Hp):ag->List (au × Nat)->Prop:=Paired λy e=>∃a t,y=.ref a/\H a\.tup [.ref t,.int (e.2:Nat)]/\H t\.tup (sV e.1)
theorem Jq{H:Hp}:∀{ys:ag} {l:List (au × Nat)},ft H ys l->mK H ys (gf l)
 |_,_,.nil=>.nil
 |_,_,.cons ⟨a,t,e,h1,h2⟩ r=>.cons #[a,t,e,h1,by rw[iQ];exact h2] (Jq r)
abbrev Flt:=Option (Str × Option Int)
def RF(H:Hp)(v:V):Flt->Prop
 |none=>v=.non
 |some (w,none)=>∃t,v=.ref t/\H t\.tup [.str w]
 |some (w,some k)=>∃t,v=.ref t/\H t\.tup [.str w,.int k]
noncomputable def gj (N:au->au->Prop) (c:Nat) (ev:au->Bool) (es:List (au × Nat)):List (au × Nat)->Nat->Flt
 |[],_=>none
 |e::r,k=>if ev e.1=true then some ("even",some (k:Int)) else if h:@decide (e.2<c - 1/\Out N es e.1 e.2) (Classical.propDecidable _)=true then some ("open",some (k:Int)) else gj N c ev es r (k+1)
noncomputable def flt (N:au->au->Prop) (s0:au) (c:Nat) (ev:au->Bool) (es:List (au × Nat)):Flt:=if @decide ((s0,0)∈es) (Classical.propDecidable _)=true then gj N c ev es es 0 else some ("first",none)
theorem Gu{N:au->au->Prop}{c:Nat}{ev:au->Bool}{es:List (au × Nat)}:∀{l:List (au × Nat)} {i k:Nat},(∀e∈l.take i,ev e.1=false/\¬(e.2<c - 1/\Out N es e.1 e.2))->gj N c ev es l k=gj N c ev es (l.drop i) (k+i)
 |_,0,_,_=>rfl
 |[],i+1,k,_=>rfl
 |e::r,i+1,k,h=>by
  let#[h1,h2]:=h e Y1;show (if ev e.1=true then _ else _)=_;rw[aD (by rw[h1];decide),dif_neg (by rw[@decide_eq_true_iff _ (Classical.propDecidable _)];exact h2),Gu (i:=i) λx hx=>h x (by simp[hx])];show _=gj N c ev es (r.drop i) (k+(i+1));rw[show k+1+i=k+(i+1) by omega]
section v
theorem BF:bQ ["goods","stand","limit","count","shut","placed","wrong","number_by_hands","reach","k","entry"] oJ (a_ lK):=bZ
theorem Mu{K:af}{H:Hp}:∀{ys:ag} {es:List (au × Nat)},ft H ys es->yq K H ys (es.map λe=>(some (sV e.1,.int (e.2:Nat)):kY))
 |_,_,.nil=>.nil
 |_,_,.cons ⟨a,t,e,h1,h2⟩ r=>.cons #[a,t,e,h1,h2,λv hv=>by
   let#[x,_,rfl]:=bx.mp hv;exact#[some x,λ_=>rfl],some _,λ_=>rfl] (Mu r)
theorem Sl{hs:Xa}{qs:aS}{c:Nat}{es:List (au × Nat)}(nd:(es.map (·.1)).Nodup)(hv:∀e∈es,Vs hs qs e.1/\e.2<c)(k:Nat):¬mB hs qs c (es.map λe=>(some (sV e.1,.int (e.2:Nat)):kY)) k:=by
 rintro⟨th,e,h⟩;rw[df] at e;let#[x,hx,rfl]:=wZ.mp e;rcases h with h|⟨j,k_,hj,e',Ct⟩
 ·let#[v,n]:=hv x (cJ hx)
  exact h #[by rw[aq];exact v.len,λw hw=>by
   let#[y,hy,rfl]:=bx.mp hw;exact#[y,U,v.hZ y hy],_,U,by omega,by omega]
 rw[df] at e';let#[y,hy,rfl]:=wZ.mp e';have ez:y.1=x.1:=List.map_inj_right (λa b e=>by cases e;rfl) |>.mp Ct;have:=hs_ nd (i:=k) (n:=x.1) (by rw[df,hx];rfl);rw[<- List.map_take] at this;apply this (bx.mpr #[y,?_,ez]);exact cJ (show (es.take k)[j]? = some y by rw[List.getElem?_take,aK hj];exact hy)
inductive Jr (K:af) (CG CW:Addr) (vs:ag) (H:Hp) (Q:VK) (E:XK):Prop
 |mk:∀(g p d lt:Addr) (y0:V) (hs:Xa) (ts:Xb) (qs:aS) (fp:av) (s0:au) (ns:ae) (f:bz) (lim:Int × Int) (c:Nat),vs=[.ref g,.ref d,.ref lt,.int c,y0]->Gs K CG CW H g p hs ts qs fp->Cy H d hs qs fp s0 ns f->hY H lt lim->uW lim->1<=c->c<=100->(((∃t,(∀H',aa H H'->dF K H' y0 t)/\PySem.W.kitOne K t (.type "list")\false)/\∀v H',aa H H'->RF H' v (some ("form",some (-1)))->Q v H')∨(∃(lS:Addr) (ys:ag) (l:List kY) (k:Nat),y0=.ref lS/\H lS\.lst ys/\yq K H ys l/\l.length<=1000/\mB hs qs c l k/\(∀j,j<k->¬mB hs qs c l j)/\∀v H',aa H H'->RF H' v (some ("form",some (k:Int)))->Q v H')∨∃(lS:Addr) (ys:ag) (es:List (au × Nat)),y0=.ref lS/\H lS\.lst ys/\ft H ys es/\es.length<=1000/\(es.map (·.1)).Nodup/\(∀e∈es,Vs hs qs e.1/\e.2<c)/\∀v H',aa H H'->RF H' v (flt (Nx hs ts qs) s0 c (λz=>mh hs qs z lim) es)->Q v H')->Jr K CG CW vs H Q E
theorem hJ_{f0 CG CW CR:Addr}{fd:Ae}(F:bu K "shut_fault" "shut_fault" lK f0 fd)(B:Bi mg)(T:ui K CR)(cC:!bF 5 "checked_shut_start" uj (qU K CG CW))(cP:!bF 4 "place_of_wrong_form" ["goods","count","shut"] (lC K CG CW))(cR:!mT CR 5 "Reach" ["self","goods","placed"] (NX K CG CW CR))(cE:!bF 7 "is_even" oH (O0 K CG CW))(cL:!bF 2 "leads_out" uk (N2 K CR)):!ak bc 8 f0 fd oJ (Jr K CG CW):=by
 exists F.bW BF;let#[g,p,d,lt,y0,hs,ts,qs,fp,s0,ns,f,lim,c,rfl,G,S,dR,lo,c1,c2,hc]:=h;let hu:=fP hr;let sz:=cK;have n8:(aV hs).length<=8:=by rw[G.Gd.iV];exact G.Gd.h8
 refine' #[_,ax ?s1 (ax ?s2 (ax ?s3 (ax ?s4 (ax ?s5 (ax ?s6 (ax ?s7 (aJ ?s8))))))),?kk]
 case s1=>exact bw 5 BF.nd (bj cC hr %[0,1,2,3|0])
 case s2=>exact bw 6 BF.nd (bj cP hr %[0,3,4|0])
 case s3=>exact b_ (eP SA (pv 6) ow) (aJ (bp (dD %[j0,6|0]))) cm
 case s4=>exact bw 7 BF.nd (gS (Pd U (kU hr 1)) (by rfl) B.dict qg %[4|0])
 case s5=>exact b_ (eP ou (_L hu (pv 7) (gS (T5 U) (by rfl) B.tuple oC %[JK (pv 5)|0]) #[U,U,U,U]) ay) (aJ (bp (gS JM (by rfl) B.tuple oC %[eJ %[j0|0]|0]))) cm
 case s6=>exact bw 8 BF.nd (Lo cR hr %[0,5|0])
 case' s7=>refine' d9 dU U (Sq (by rfl) B.enum %[4|0]) ?g7 (ax ?b1 (aJ ?b2))
 case g7=>exact jv U (di (bX 9 BF.nd) (di (bX 10 BF.nd) hW))
 case b1=>exact b_ (d4 (bj cE hr %[0,bg cj (pv 10) ay,2|0])) (aJ (bp (dD %[j0,9|0]))) cm
 case b2=>exact b_ (Q4 (eP Fv (bg cj (pv 10) ay) (br CB (pv 3) ay)) (SB (d4 (bj cL hr %[8,bg cj (pv 10) ay,7|0])))).pt (aJ (bp (dD %[j0,9|0]))) cm
 case s8=>exact bp ow
 let BR:=S.vs
 let ev:au->Bool:=λz=>mh hs qs z lim
 apply#[_,U,_,U,_,U,_,U,g,p,d,lt,hs,ts,qs,fp,s0,ns,f,lim,c,U,G,S,dR,lo,c1,c2,λd1 H1 s1 n1 e1=>?_];have FE:∀{H2:Hp} {q:Int},aa H H2->(∀v H',aa H H'->RF H' v (some ("form",some q))->Q v H')->∀t,H2 t=none->Q (.ref t) (upd H2 t (.tup [.str "form",.int q])):=λs2 k t ht=>k _ _ (s2.trans (aa.new ht)) #[t,U,aA];rcases hc with⟨⟨t,ty,e⟩,k⟩|⟨lS,ys,l,k,rfl,hl,th,l3,bad,fst,kk⟩|⟨lS,ys,l,rfl,hl,sh,l3,nZ,B9,kk⟩
 ·apply#[_,U,_,U,_,U,g,p,y0,hs,ts,qs,fp,c,U,G.same s1,c2,.inl #[t,ty H1 s1,e,?_]];apply#[_,U,U,_,U,bN ?_];exact#[_,U,zl,FE s1 k]
 ·apply#[_,U,_,U,_,U,g,p,.ref lS,hs,ts,qs,fp,c,U,G.same s1,c2,.inr #[lS,ys,l,U,s1 _ _ hl,Paired.aQ th λ_ _ q=>q.same s1,l3,λH2 s2 no=>absurd bad (no k),λH2 k' s2 mq A4=>?_]]
  have ek:k'=k:=by
   rcases Nat.lt_trichotomy k' k with q|q|q
   ·exact absurd mq (fst k' q)
   ·exact q
   exact absurd bad (A4 k q)
  subst ek;apply#[_,U,U,_,U,bN ?_];exact#[_,U,zl,FE (s1.trans s2) kk]
 let B1:=bI sh;apply#[_,U,_,U,_,U,g,p,.ref lS,hs,ts,qs,fp,c,U,G.same s1,c2,.inr #[lS,ys,_,U,s1 _ _ hl,Mu (Paired.aQ sh λy e ⟨a,t,q,h1,h2⟩=>#[a,t,q,s1 _ _ h1,s1 _ _ h2]),by rw[aq];exact l3,λH2 s2 _=>?_,λH2 k' s2 mq _=>absurd mq (Sl nZ B9 k')]];let iR:=s1.trans s2;apply#[_,U,U,_,U,aH ?_];apply#[_,U,lS,ys,gf l,U,iR _ _ hl,Jq (Paired.aQ sh λy e ⟨a,t,q,h1,h2⟩=>#[a,t,q,iR _ _ h1,iR _ _ h2]),by unfold gf;rw[aq];exact l3,λnd iU=>?_]
 have jn:((gf l).map (·.1)).Nodup:=by
  rw[NJ,mG,ud];exact (mG.mp nZ).imp λn e=>n (FO e)
 rw[OR (gf l) [] ⇑jn,List.nil_append];let#[s3,e3]:=aC (o:=.dT (gf l)) iU;let dI:=iR.trans s3;let uT:=(s2.trans s3) _ _ e1;generalize upd H2 nd (.dT (gf l))=H3 at s3 e3 dI uT ⊢;apply#[_,U,nd,U,.inr #[_,.inl e3],_,U,d1,_,U,uT,λv hv=>?_];let#[s4,e4]:=aC (o:=qe v d1) hv;generalize upd H3 v (qe v d1)=H4 at s4 e4 ⊢;apply#[v,d1,_,U,e4,s4 _ _ uT,λt ht=>?_]
 have evv:(gd (qs.map (·.1)) f).map (·.2)=sV s0:=by
  rw[S.s0];simp only[gd,dZ,sV,cA];rfl
 rw[evv];let#[s5,e5]:=aC (o:=.tup (sV s0)) ht;let zK:=s4.trans s5;let jE:=dI.trans zK;let Bb:=zK _ _ uT;let K3:=zK _ _ e3;generalize upd H4 t (.tup (sV s0))=H5 at s5 e5 zK jE Bb K3 ⊢;have hK:H5 t\.tup ((sK s0).map kV):=by rw[iQ];exact e5
 apply#[_,.t K3 hK,?_]
 obtain⟨vn,MP,Wh,HU⟩:∃vn:V,(aZ (gf l) (sK s0)).getD .non=vn/\zq vn (.int 0)=true/\(vn=.int 0 ↔ (s0,0)∈l):=by
  by_cases q:s0∈l.map (·.1)
  ·let#[e,he,ee]:=bx.mp q;have pV:(s0,e.2)∈l:=by rw[<- ee];exact he
   apply#[.int (e.2:Nat),by rw[pG nZ pV];rfl,U,#[λh=>?_,λh=>?_]]
   ·let h:=V.int.inj h;have:e.2=0:=by omega
    rw[<- this];exact pV
   have:=(pG nZ h).symm.trans (pG nZ pV);exact (dO this).symm
  exact#[.non,by rw[JD q];rfl,U,#[λh=>(by cases h),λh=>absurd (bx.mpr #[_,h,U]) q]]
 rw[MP];apply#[Wh,_,U,?_];apply bH (λcc=>?_) (λcc=>?_)
 ·have nf:(s0,0)∉l:=λh=>by
   have:=HU.mpr h;rw[this] at cc;simp at cc
  have ef:flt (Nx hs ts qs) s0 c ev l\(("first":Str),none):=by
   unfold flt;rw[aD (by rw[@decide_eq_true_iff _ (Classical.propDecidable _)];exact nf)]
  apply#[zl,λl1 fZ=>?_];let#[s6,e6]:=aC (o:=.lst [.str "first"]) fZ;generalize upd H5 l1 (.lst [.str "first"])=H6 at s6 e6 ⊢;apply#[l1,_,U,.inl #[.of e6,λt ht=>?_]];exact kk _ _ ((jE.trans s6).trans (aa.new ht)) (by rw[show (λz=>mh hs qs z lim)=ev from U,ef];exact#[t,U,aA])
 have first:(s0,0)∈l:=HU.mp ⇑cc
 have ef:flt (Nx hs ts qs) s0 c ev l=gj (Nx hs ts qs) c ev l l 0:=by
  unfold flt;rw[aK (by rw[@decide_eq_true_iff _ (Classical.propDecidable _)];exact first)]
 apply#[_,U,_,U,λr dx Cd Fc ne=>?_];have s6:aa H5 (upd (upd H5 dx (.own r)) r (.ins CR dx [])):=(aa.new Fc).trans (aa.new (by rw[aB ne.symm];exact Cd));have e6:upd (upd H5 dx (.own r)) r (.ins CR dx []) r\.ins CR dx []:=aA;generalize upd (upd H5 dx (.own r)) r (.ins CR dx [])=H6 at s6 e6 ⊢;let iq:=jE.trans s6;apply#[r,dx,g,p,d1,hs,ts,qs,fp,f,U,e6,G.same iq,s6 _ _ Bb,λa x n H7 k7 an R7=>#[U,?_]];have zI:aa H5 H7:=λb o e=>k7 b o (s6 _ _ e) (bG e Cd);let nI:=jE.trans zI;let Xm:=zI _ _ K3;let#[#[dx7,h7r],ex7,_,_]:=R7
 let Iv:dG:=λi σ H'=>∃(v9 v10:aE),σ=[some (.ref g),some (.ref d),some (.ref lt),some (.int c),some (.ref lS),some (.ref d1),some .non,some (.ref nd),some (.ref r),v9,v10]/\aa H7 H'/\∀e∈l.take i,ev e.1=false/\¬(e.2<c - 1/\Out (Nx hs ts qs) l e.1 e.2)
 apply#[_,U,lS,U,#[_,.of (nI _ _ hl)],SV (K:=K) (a:=lS) (xs:=ys) Iv #[_,_,U,aa.refl _,by simp] (λi σ H' _ ⟨_,_,_,sm,_⟩=>.of (sm _ _ (nI _ _ hl))) ?_ ?_]
 ·rintro i y σ H8 hy ⟨v9,v10,rfl,s8,no⟩ tt vV;have hi:i<ys.length:=(cw.mp hy).1
  obtain⟨e,he,a',t',rfl,ha,h_⟩:∃e,l[i]? = some e/\∃a t,y=.ref a/\H a\.tup [.ref t,.int (e.2:Nat)]/\H t\.tup (sV e.1):=by
   have:=dP sh i hi Y0;rw[aX hi] at hy;cases hy;exact#[l[i]' Y0,aX Y0,this]
  let em:=cJ he
  have dr:l.drop i=e::l.drop (i+1):=by
   rw[List.drop_eq_getElem_cons Y0];rw[aX Y0] at he;rw[dO he]
  have eg:flt (Nx hs ts qs) s0 c ev l=gj (Nx hs ts qs) c ev l (e::l.drop (i+1)) i:=by
   rw[ef,Gu no,dr,Nat.zero_add]
  let hv:=B9 e em;let#[s9,e9]:=aC (o:=.tup [.int i,.ref a']) vV;let KG:=s8.trans s9;show gi _ _ _ _ _ (upd H8 tt (.tup [.int i,.ref a'])) _;generalize upd H8 tt (.tup [.int i,.ref a'])=H9 at s9 e9 KG ⊢;let xF:=nI.trans KG;apply#[tt,_,U,.of e9,U,_,_,U,_,_,U,U,?_];apply#[_,U,_,U,a',_,0,_,U,U,.of (xF _ _ ha),L2.cZ (j:=0) U,_,U,g,p,t',lt,hs,ts,qs,fp,e.1,lim,U,G.same xF,xF _ _ h_,hv.1,xF _ _ dR,lo,λHA sA=>#[_,U,?_]];let DR:=xF.trans sA;let DP:=KG.trans sA;apply bH (λce=>?_) (λce=>?_)
  ·apply#[_,U,zl,λt9 ED=>?_];apply kk _ _ (DR.trans (aa.new ED)) ?_;rw[show (λz=>mh hs qs z lim)=ev from U,eg];unfold gj;rw[aK (show ev e.1=true from ce)];exact#[t9,U,aA]
  have ce:ev e.1=false:=⇑ce
  have tk:∀e'∈l.take (i+1),e'∈l.take i∨e'=e:=λe' h'=>by
   rw[oE,he] at h';rcases dE.mp h' with h'|h'
   ·exact .inl h'
   exact .inr ⇑h'
  apply#[_,U,a',_,1,_,U,U,.of (DR _ _ ha),L2.cZ (j:=1) U,_,U,_,_,U,U,_,_,U,U,_,U,?_];apply bH (λcl=>?_) (λcl=>?_)
  ·have cl:e.2<c - 1:=by
    have:=tP cl;omega
   apply#[_,U,_,U,a',_,0,_,U,U,.of (DR _ _ ha),L2.cZ (j:=0) U,_,U,r,dx7,t',x,a,n,nd,hs,ts,qs,l,e.1,e.2,U,DP _ _ h7r,ex7.same DP,DR _ _ h_,hv.1,n8,G.cX,DP _ _ Xm,nZ,em,λe' h'=>by have:=(B9 e' h').2;omega,λb HB sB hb=>#[_,U,?_]];apply bH (λco=>?_) (λco=>?_)
   ·apply#[_,U,zl,λt9 ED=>?_];apply kk _ _ ((DR.trans sB).trans (aa.new ED)) ?_;rw[show (λz=>mh hs qs z lim)=ev from U,eg];unfold gj;rw[aD (by rw[ce];decide),dif_pos (by rw[@decide_eq_true_iff _ (Classical.propDecidable _)];exact#[cl,hb.mp co])];exact#[t9,U,aA]
   apply#[_,_,U,DP.trans sB,λe' h'=>?_];rcases tk e' h' with h'|rfl
   ·exact no e' h'
   exact#[ce,λh=>co (hb.mpr h.2)]
  apply#[_,_,U,DP,λe' h'=>?_];rcases tk e' h' with h'|rfl
  ·exact no e' h'
  apply#[ce,λh=>absurd (dc ?_) cl];have:=h.1;omega
 rintro σ H8 ⟨v9,v10,rfl,s8,no⟩;rw[B1,d_] at no;apply kk _ H8 (nI.trans s8) ?_;rw[show (λz=>mh hs qs z lim)=ev from U,ef,Gu (i:=l.length) (by rw[d_];exact no),List.drop_length];rfl
end
end Ev
namespace L2
open PySem PySem.Spec PyProof.Rows PySem.W jk c_
def oV:Option Str->V
 |none=>.non
 |some x=>.str x
def rO:Rp (Option Str):=λ_ x d=>x=oV d
theorem Mw{d e:Option Str}(h:oV d=oV e):d=e:=by
 cases d with
 |none=>cases e with
  |none=>rfl
  |some y=>cases h
 |some x=>cases e with
  |none=>cases h
  |some y=>rw[V.str.inj h]
def KJ(K:af){D:Type}(R:Rp D):Rp (List D):=λH x ds=>∃a xs,x=.ref a/\fH K H a xs/\Paired (R H) xs ds
section
variable{X:Cx}
theorem Oj:jm X 0 rO where
 eq:=λ{pins σ H s A x y u v d e} I ru rv hx hy hu=>by
  have hx:x=oV d:=hx;have hy:y=oV e:=hy;subst hx;subst hy;have fl:∀o:Option Str,qb (oV o)=true:=λo=>by cases o<;>rfl
  let q:=yE (A:=A) (s:=s) ru rv (fl d) (fl e)
  have e2:ph (oV d) (oV e)=decide (d=e):=by
   cases d with
   |none=>cases e with
    |none=>rfl
    |some y=>rfl
   |some x=>cases e with
    |none=>rfl
    |some y=>
     show (x == y)=_;by_cases h:x=y
     ·subst h;simp
     simp[h]
  rwa [e2] at q
 one:=λ{pins σ H s x d e} I hx hy=>Mw (Eq.trans (Eq.symm hx) hy)
theorem RX{D:Type}[DecidableEq D]{ds es:List D}:((List.range (min ds.length es.length)).all (λj=>decide (ds[j]? = es[j]?))&&ds.length == es.length)=decide (ds=es):=by
 by_cases hl:ds.length=es.length
 ·rw[hl,Nat.min_self,<- hl,UL hl];simp
 rw[fO (λz=>hl (by rw[z])),show (ds.length == es.length)=false by rw[beq_eq_false_iff_ne];exact hl,Bool.and_false]
theorem yF{n:Nat}{D:Type}[DecidableEq D]{R:Rp D}(c:jm X n R):jm X (n+1) (KJ X.K R) where
 one:=λ{pins σ H s x d e} I hx hy=>by
  let#[a,xs,rfl,t,q]:=hx;let#[b,ys,e0,t',q']:=hy;cases e0;let e1:=I.dz t t';subst e1;exact Ou c I q q'
 eq:=λ{pins σ H s A x y u v d e} I ru rv hx hy hu=>by
  let#[a,xs,rfl,t,q]:=hx;let#[b,ys,rfl,t',q']:=hy;cases ru;cases rv;by_cases tE:a=b
  ·subst tE;let e1:=I.dz t t';subst e1;rw[dc (Ou c I q q')];exact SeqAt.EqAt.same _
  let#[us,r,pl,_]:=I.tuple t;let#[vs,r',uF,_]:=I.tuple t';let l1:=r.length;let l2:=r'.length;let l3:=bI q;let l4:=bI q';let key:=SeqAt.EqAt.of_refs tE (SeqAt.RcAt.tuples (A:=A) (s:=s) (wV pl) (wV uF) Y0 (NF c I r r' q q' (A:=A.in1) (by show A.units+1+n<cLine;omega)));rw[show us.toArray.size=d.length by simp only[cY];omega,show vs.toArray.size=e.length by simp only[cY];omega,RX] at key;exact key
end
end L2
namespace Ev
open PySem L2
def GL(l:List kY):Prop:=∀th∈l,∃os:List (Option Str),uZ th=os.map oV
section v
theorem FQ:bQ [j5,mE,"_law_count","_law_shut","_law_names","_law_known","_law_k","_law_row"] uw (a_ rY):=bZ
theorem Ri{p:Prop}{i:Decidable p}(h:@decide p i=true):p:=@tP p i h
theorem Q8{p:Prop}{i:Decidable p}(h:p):@decide p i=true:=@dc p i h
theorem N6{H:Hp}:∀os:List (Option Str),Paired (rO H) (os.map oV) os
 |[]=>.nil
 |_::r=>.cons U (N6 r)
theorem fV_{a b:List (Option Str)}(h:a.map oV=b.map oV):a=b:=(List.map_inj_right λ_ _ e=>Mw e).mp h
theorem Zb(o:Option Str):qb (oV o)=true:=by cases o<;>rfl
theorem gD_(ns:ae):(ns.map V.str).all qb=true:=by
 rw[List.all_eq_true];intro x hx;let#[n,_,rfl]:=bx.mp hx;rfl
theorem Rk(o:Option Str)(ns:ae):HR (oV o) (ns.map V.str)=true ↔ ∃h,o\h/\h∈ns:=by
 unfold HR;rw[List.any_map,List.any_eq_true];constructor
 ·rintro⟨x,hx,e⟩;cases o with
  |none=>cases e
  |some y=>exact#[y,U,by rw[<- beq_iff_eq.mp (show (x == y)=true from e)];exact hx]
 rintro⟨h,rfl,hm⟩;exact#[h,hm,show (h == h)=true by simp]
inductive lG (K:af) (vs:ag) (H:Hp) (Q:VK) (E:XK):Prop
 |mk:∀(lh lp lS:Addr) (yh yp ys:ag) (hs:Xa) (ts:Xb) (ss qs:aS) (l:List kY) (c:Nat),vs=[.ref lh,.ref lp,.int c,.ref lS]->H lh\.lst yh->bS K H yh (hs.map kH)->Good hs ts->H lp\.lst yp->j4 K H yp ss->eN ts ss qs->ss.length<=8->H lS\.lst ys->yq K H ys l->GL l->l.length<=1000->c<=100->(∀H',aa H H'->(∀k,¬mB hs qs c l k)->Q .non H')->(∀t H' (k:Nat),aa H H'->H' t\.tup [.str "form",.int k]->mB hs qs c l k->(∀j,j<k->¬mB hs qs c l j)->Q (.ref t) H')->lG K vs H Q E
theorem ZN{f:Addr}{fd:Ae}(F:bu K "_law_form" "_law_form" rY f fd)(B:Bi mg):!ak bc 1 f fd uw (lG K):=by
 exists F.bW FQ;let#[lh,lp,lS,yh,yp,ys,hs,ts,ss,qs,l,c,rfl,eZ,th,G,jq,pc,S,s8,hl,Qa,so,l3,c2,kN,kB]:=h;let hu:=fP hr;let sz:=cK;let uH:=bI th;rw[aq] at uH;let h8:=G.h8;refine' #[_,ax ?s1 (ax ?s2 (ax ?s3 (aJ ?s4))),?kk]
 case' s1=>refine' bw 4 FQ.nd (jd wz 2 [] (d5 (pv 0)) (λfp s H=>?g1) (λfp s H=>jy) (λfp s H=>?e1))
 case g1=>exact CD (n:=2) (di (fu (i:=0) (show (wz:ae).Nodup by decide +kernel) U (Or.inl U)) (di (fu (i:=1) (show (wz:ae).Nodup by decide +kernel) U (Or.inl U)) hW))
 case e1=>exact pv 0
 case s2=>exact bw 5 FQ.nd (eJ bR)
 case' s3=>refine' d9 dU U (qq (by rfl) B.range %[bT gx (by rfl) B.len fN %[3|0]|0]) (bX 6 FQ.nd) (ax ?b1 (ax ?b2 (ax ?b3 (ax ?b4 (aJ ?b5)))))
 case b1=>exact bw 7 FQ.nd (bg fX (pv 3) (pv 6))
 case b2=>exact b_ (iK (eM (d4 (bT gM (by rfl) B.gA gE %[7,gN (v:=.ty "tuple") (by rfl) B.tuple oC U|0]))) (iK (eP ou (bT gx (by rfl) B.len fN %[7|0]) ay) (iK (eM (d4 (bT gM (by rfl) B.gA gE %[bg cj (pv 7) ay,gN (v:=.ty "tuple") (by rfl) B.tuple oC U|0]))) (jZ (eP (IF (yF Oj) (kU hr 1)) (bg cj (pv 7) ay) (pv 5) (by with_unfolding_all rfl)))))).pt (aJ (bp (dD %[j0,6|0]))) cm
 case b3=>exact b_ (iK (eM (d4 (bT gM (by rfl) B.gA gE %[bg cj (pv 7) ay,gN (v:=.ty "int") (by rfl) B.int FJ U|0]))) (iK (d4 (bT gM (by rfl) B.gA gE %[bg cj (pv 7) ay,gN (v:=.ty "bool") (by rfl) B.bool M5 U|0])) (jZ (eM (NP tS Fv ay (bg cj (pv 7) ay) (pv 2)))))).pt (aJ (bp (dD %[j0,6|0]))) cm
 case' b4=>refine' b_ (iK (eP ou (bT gx (by rfl) B.len fN %[bg cj (pv 7) ay|0]) (bT gx (by rfl) B.len fN %[1|0])) (jZ (eP (NO (kU hr 0)) (jd ["_law_hand","_law_names"] 1 [4] (Q6 (bg cj (pv 7) ay)) (λfp s H=>?g4) (λfp s H=>?t4) (λfp s H=>?e4)) (eJ bR)))).pt (aJ (bp (dD %[j0,6|0]))) cm
 case g4=>exact fu (i:=0) (show (["_law_hand","_law_names"]:ae).Nodup by decide +kernel) U (Or.inl U)
 case t4=>exact Jj (eP (Qw (K:=K) (λK=>KM K true) e3_) (pv 0) (pv 1) (by with_unfolding_all rfl))
 case e4=>exact pv 0
 case b5=>exact j9 (kQ kP qi qj pI (pv 5) %[bg cj (pv 7) ay|0])
 case s4=>exact bp ow
 apply#[_,U,lh,U,#[_,.of eZ],λD hD=>?_];apply kb (own:=2) (fv:=[]) (xs:=yh) U wd (λj out H'=>aa H H'/\H' D\.lst out/\out=((hs.take j).map (·.1)).map V.str) #[aa.new hD,aA,U] (λj out H' _ ⟨sm,_⟩=>.of (sm _ _ eZ)) (λout H1 ⟨s1,Sj,eo⟩=>?_) (λj y out H' hy ⟨sm,dA,eo⟩=>?_);rotate_left 1
 ·let#[h,hh,p,rfl,hp]:=ue th hy;apply#[_,#[p,_,_,U,.of (sm _ _ (uL hp)),U],U,λNx hN=>eQ ?_];apply#[_,U,out,dA,?_,hN _ _ #[fF sm hD,aA,?_]]
  ·rw[eo,aq,aq,dM];omega
  rw[vm _ hh,eK,eo];rfl
 rw[uH,d_] at eo;subst eo;apply#[zl,λlk Ic=>?_];let#[s2,e2]:=aC (o:=.lst []) Ic;let iR:=s1.trans s2;have hDk:D≠lk:=bG Sj Ic
 have hk0:H lk=none:=by
  cases q:H lk with
  |none=>rfl
  |some o=>rw[s1 _ _ q] at Ic;cases Ic
 let oh:=s2 _ _ Sj;generalize upd H1 lk (.lst [])=H2 at s2 e2 iR oh ⊢;let B1:=bI Qa;let B2:=bI pc;let QK:=S.len
 let Iv:dG:=λi σ H'=>∃(v6 v7:aE) (zs:ag) (pN:List (List (Option Str))),σ=[some (.ref lh),some (.ref lp),some (.int c),some (.ref lS),some (.ref D),some (.ref lk),v6,v7]/\aa H H'/\H' D\.lst ((hs.map (·.1)).map V.str)/\H' lk\.lst zs/\Paired (λy os=>∃t,y=V.ref t/\H t\.tup (os.map oV)) zs pN/\pN.length=i/\(∀(j:Nat) os,pN[j]? = some os->∃th,l[j]? = some th/\uZ th=os.map oV)/\∀j,j<i->¬mB hs qs c l j
 apply#[_,U,lS,ys,U,.inl (.of (iR _ _ hl)),_,U,by show (-(2 ^ 62):Int)<=(ys.length:Int);omega,by show (ys.length:Int)<2 ^ 62;omega,?_];apply ua (lo:=0) (n:=((ys.length:Nat):Int).toNat) Iv #[none,none,[],[],U,iR,oh,e2,.nil,U,λj z e=>(by cases e),λj h=>absurd h (Nat.not_lt_zero _)] ?_ ?_
 ·rintro i σ H3 hi ⟨v6,v7,zs,pN,rfl,s3,yd,Cf,pz,lo,yU,good⟩;have hi:i<ys.length:=by omega
  obtain⟨x,hx,xh⟩:∃x,l[i]? = some x/\kh K H ys[i] x:=#[l[i]' Y0,aX Y0,dP Qa i hi Y0];obtain⟨y,hy⟩:∃y,y=ys[i]:=#[_,U];rw[<- hy] at xh;let xh:=xh.same s3;rw[show (0:Int)+(i:Nat)=(i:Int) by omega];let K8:=bI pz;apply#[_,U,_,U,lS,_,i,_,U,U,.of (s3 _ _ hl),L2.cZ (by rw[aX hi,<- hy]),?_];have bad:¬iu hs qs c x∨(∃j k_,j<i/\l[j]? = some k_/\uZ k_=uZ x)->∀t H',aa H H'->H' t\.tup [.str "form",.int i]->Q (.ref t) H':=λh t H' s' ht=>kB t H' i s' ht #[x,hx,h] good;have say:(¬iu hs qs c x∨∃j k_,j<i/\l[j]? = some k_/\uZ k_=uZ x)->∀H',aa H H'->∀t,H' t=none->Q (.ref t) (upd H' t (.tup [.str "form",.int i])):=λh H' s' t ht=>bad h t _ (s'.trans (aa.new ht)) aA
  match x,xh with
  |none,.inl ⟨t,ty,e⟩=>
   apply#[_,U,_,_,_,_,U,ty,e,_,U,bN ?_];exact#[_,U,zl,say (.inl λh=>h) H3 s3]
  |none,.inr ⟨a,xs,e,ha,hxs⟩=>
   subst e;apply#[_,U,_,_,_,_,U,.tup ha,U,_,U,aH ?_];apply#[_,U,a,_,U,.inr (.of ha),U,_,U,?_];apply bH (λcc=>#[_,U,zl,say (.inl λh=>h) H3 s3]) (λcc=>?_)
   have l2:xs.length=2:=by
    by_cases q:xs.length=2
    ·exact q
    apply absurd ?_ cc;simp;omega
   rcases hxs with h|⟨v,r,t,rfl,ty,e⟩
   ·exact absurd l2 h
   ·apply#[_,U,a,_,0,_,U,U,.of ha,L2.cZ (j:=0) U,_,_,_,_,U,ty,e,_,U,bN ?_];exact#[_,U,zl,say (.inl λh=>h) H3 s3]
  |some (us,nv),⟨a,t,e,ha,ht,sv,⟨o,iv⟩⟩=>
   subst e;let#[os,MS]:=so _ (cJ hx);have MS:us=os.map oV:=MS;subst MS;apply#[_,U,_,_,_,_,U,.tup ha,U,_,U,aH ?_];apply#[_,U,a,_,U,.inr (.of ha),U,_,U,?_];apply Ba (show V.int ((2:Nat):Int)=V.int 2 from U) ?_;apply#[_,U,a,_,0,_,U,U,.of ha,L2.cZ (j:=0) U,_,_,_,_,U,.tup ht,U,_,U,aH ?_];apply#[_,U,a,_,0,_,U,U,.of ha,L2.cZ (j:=0) U,_,U,os,pN,#[t,_,U,.of ht,N6 os],#[lk,zs,U,.of Cf,Paired.aQ pz λy' KO ⟨t',e',h'⟩=>#[t',_,e',.of (s3 _ _ h'),N6 KO]],_,U,?_];apply bH (λcc=>#[_,U,zl,say (.inr ?_) H3 s3]) (λcc=>?_)
   ·let#[j,hj,ej]:=gB (Ri cc);let#[k_,h1,h2]:=yU j os (by rw[aX hj,ej]);exact#[j,k_,by omega,h1,h2]
   have B0:os∉pN:=λh=>cc (Q8 h);have Av:∀{o:Option Int},(∀H',mP K H' nv o)->(¬∃n:Int,nv=.int n/\0<=n/\n<c)->¬iu hs qs c (some (os.map oV,nv)):=λ_ h h2=>h h2.2.2;apply#[_,U,a,_,1,_,U,U,.of ha,L2.cZ (j:=1) U,?_];cases o with
   |none=>
    let GE:=Av (o:=none) iv λ⟨n,e,_⟩=>by
     subst e;rcases iv H3 with⟨x,e⟩|⟨t,ty,e⟩
     ·cases e
     cases ty;exact I_ e
    rcases iv H3 with⟨b,e⟩|⟨t,ty,e⟩
    ·subst e;apply#[_,_,_,_,U,.bl b,U,_,U,aH ?_];apply#[_,U,a,_,1,_,U,U,.of ha,L2.cZ (j:=1) U,_,_,_,_,U,.bl b,U,_,U,bN ?_];exact#[_,U,zl,say (.inl GE) H3 s3]
    ·apply#[_,_,_,_,U,ty,e,_,U,bN ?_];exact#[_,U,zl,say (.inl GE) H3 s3]
   |some n=>
    have en:nv=.int n:=iv H3;subst en;apply#[_,_,_,_,U,.int n,U,_,U,aH ?_];apply#[_,U,a,_,1,_,U,U,.of ha,L2.cZ (j:=1) U,_,_,_,_,U,.int n,U,_,U,aH ?_];apply#[_,U,a,_,1,_,U,U,.of ha,L2.cZ (j:=1) U,?_];apply#[_,_,U,U,_,U,?_];apply bH (λc1=>?_) (λc1=>?_)
    ·apply#[_,U,_,_,U,U,_,U,?_];apply bH (λc3=>?_) (λc3=>?_)
     ·apply#[_,U,zl,say (.inl (Av (o:=some n) iv λ⟨m,e,h1,h2⟩=>?_)) H3 s3];cases e;simp[h2] at c3
     have inr:0<=n/\n<c:=#[Ri c1,by simpa using c3];apply#[_,U,a,_,0,_,U,U,.of ha,L2.cZ (j:=0) U,t,_,U,.inr (.of ht),_,U,lp,_,U,.inl (.of (s3 _ _ jq)),U,_,U,?_];apply bH (λcc=>#[_,U,zl,say (.inl λh=>?_) H3 s3]) (λcc=>?_)
     ·have:=h.1;simp at cc this;omega
     have lz:(os.map oV).length=qs.length:=by
      simp at cc ⊢;omega
     apply#[_,U,a,_,0,_,U,U,.of ha,L2.cZ (j:=0) U,t,U,#[_,.of ht],λD2 Fs=>?_]
     let Pp:Option Str->Prop:=λo=>∃h,o\h/\h∈hs.map (·.1)
     apply Ta (own:=1) (fv:=[some (.ref D)]) (xs:=os.map oV) U fg (λj out H'=>aa H3 H'/\H' D2\.lst out/\out.length<=j/\(out=[] ↔ ∀o∈os.take j,Pp o)) #[aa.new Fs,aA,a9 _,by simp] (λj out H' _ ⟨sm,_⟩=>.of (sm _ _ ht)) (λout H5 ⟨s5,ju,_,all⟩=>?_) (λj y out H' hy ⟨sm,dA,Eg,all⟩=>?_);rotate_left 1
     ·rw[df] at hy;let#[o,ho,rfl]:=wZ.mp hy;let lq:=S.len;let hj:=(cw.mp ho).1;rw[aq] at lz;apply#[_,U,U,λNx hN=>?_];apply#[_,U,_,U,D,_,U,.inl (.of (sm _ _ yd)),Zb o,gD_ _,_,U,?_];have tk:os.take (j+1)=os.take j++[o]:=by rw[oE,ho];rfl
      apply bH (λcb=>?_) (λcb=>?_)
      ·have no:¬Pp o:=by
        rw[aK U,Bool.not_eq_true',<- Bool.not_eq_true,Rk] at cb;exact cb
       apply#[_,U,out,dA,by omega,hN _ _ #[fF sm Fs,aA,?_,?_]]
       ·rw[dN];exact Nat.succ_le_succ Eg
       rw[tk];exact#[λh=>by simp at h,λh=>absurd (h o Y1) no]
      have yes:Pp o:=by
       rw[aK U,Bool.not_eq_true',Bool.not_eq_false,Rk] at cb;exact cb
      apply hN _ _ #[sm,dA,by omega,?_];rw[tk,all]
      exact#[λh x hx=>by
       rcases dE.mp hx with hx|hx
       ·exact h x hx
       rw[fw.mp hx];exact yes,λh x hx=>h x (List.mem_append_left _ hx)]
     rw[aq,d_] at all;apply#[zl,λle hle=>?_];let#[s6,e6]:=aC (o:=.lst []) hle;let xE:=s5.trans s6;let Ip:=s6 _ _ ju;generalize upd H5 le (.lst [])=H6 at s6 e6 xE Ip ⊢;let iq:=s3.trans xE
     have js:(∀v∈os.map oV,∃h,v=.str h/\h∈aV hs) ↔ ∀o∈os,Pp o:=by
      constructor
      ·intro h o ho;let#[x,e,hx]:=h _ (bx.mpr #[o,ho,U]);exact#[x,Mw (e.trans (show V.str x=oV (some x) from U)),(gv hs).mem_iff.mp hx]
      intro h v hv;let#[o,ho,rfl]:=bx.mp hv;let#[x,rfl,hx]:=h o ho;exact#[x,U,(gv hs).mem_iff.mpr hx]
     apply#[D2,le,out,U,U,.of Ip,.of e6,_,U,?_];apply bH (λJB=>#[_,U,zl,say (.inl λh=>?_) H6 iq]) (λJB=>?_)
     ·have:=all.mpr (js.mp h.2.1);rw[this] at JB;cases JB
     have o0:out=[]:=by
      cases out with
      |nil=>rfl
      |cons x r=>exact absurd U JB
     have ok:iu hs qs c (some (os.map oV,.int n)):=#[lz,js.mpr (all.mp o0),n,U,inr];let RO:=xE _ _ Cf;apply#[_,U,.inl #[U,_,.of RO],_,U,a,_,0,_,U,U,.of (xE _ _ ha),L2.cZ (j:=0) U,lk,_,_,U,U,RO,by omega,?_];apply#[_,_,zs++[.ref t],pN++[os],U,fF iq hk0,by rw[aB hDk];exact xE _ _ yd,aA,?_,by rw[dN,lo];rfl,?_,?_]
     ·let#[a2,t2,e2',tF,Ca,_]:=id xh;cases e2';have:=(s3 _ _ tF).symm.trans ha
      have:t2=t:=by
       cases this;rfl
      subst this;exact mI pz (.cons #[t2,U,Ca] .nil)
     ·intro j y hj;by_cases q:j<pN.length
      ·rw[w6 q] at hj;exact yU j y hj
      let vZ:=(cw.mp hj).1;rw[dN,oF] at vZ;have:j=pN.length:=by omega
      subst this;rw[yP (a9 _),Nat.sub_self] at hj;cases hj;exact#[_,by rw[lo];exact hx,U]
     intro j hj;by_cases q:j<i
     ·exact good j q
     have:j=i:=by omega
     subst this;rintro⟨th,e,h|⟨j',k_,LX,e',es⟩⟩
     ·rw[hx] at e;cases e;exact h ok
     rw[hx] at e;cases e;have vT:pN[j']? = some (pN[j']' Y0):=aX Y0;let#[V3,h1,h2]:=yU j' _ vT;rw[e'] at h1;cases h1;rw[h2] at es;have:=fV_ es;rw[<- this] at B0;exact B0 (ke _)
    apply#[_,U,?_];apply bN ?_;apply#[_,U,zl,say (.inl (Av (o:=some n) iv λ⟨m,e,h1,h2⟩=>?_)) H3 s3];cases e;simp[h1] at c1
 rintro σ H3 ⟨v6,v7,zs,pN,rfl,s3,_,_,_,_,_,good⟩;apply kN H3 s3 λk=>?_;by_cases q:k<ys.length
 ·exact good k Y0
 rintro⟨th,e,_⟩;have:=(cw.mp e).1;omega
end
end Ev
namespace Ev
open PySem L2
def tU(K:af)(H:Hp)(hs:Xa)(ts:Xb)(qs:aS)(s0:au)(c:Nat)(lim:Int × Int)(y0:V)(r:Flt):Prop:=
 (∃t,(∀H',aa H H'->dF K H' y0 t)/\PySem.W.kitOne K t (.type "list")\false/\r=(some (("form":Str),some (-1)):Flt)) ∨
 (∃(lS:Addr) (ys:ag) (l:List kY) (k:Nat),y0=.ref lS/\H lS\.lst ys/\yq K H ys l/\GL l/\l.length<=1000/\mB hs qs c l k/\(∀j,j<k->¬mB hs qs c l j)/\r=(some (("form":Str),some (k:Int)):Flt)) ∨
 ∃(lS:Addr) (ys:ag) (es:List (au × Nat)),y0=.ref lS/\H lS\.lst ys/\ft H ys es/\es.length<=1000/\(es.map (·.1)).Nodup/\(∀e∈es,Vs hs qs e.1/\e.2<c)/\r=flt (Nx hs ts qs) s0 c (λz=>mh hs qs z lim) es
theorem YE(es:List (au × Nat)):GL (es.map λe=>(some (sV e.1,.int (e.2:Nat)):kY)):=λth h=>by
 let#[e,_,rfl]:=bx.mp h;exact#[e.1.map some,by show sV e.1=_;rw[cA];rfl]
theorem tU.same{K:af}{H H':Hp}{hs:Xa}{ts:Xb}{qs:aS}{s0:au}{c:Nat}{lim:Int × Int}{y0:V}{r:Flt}(h:tU K H hs ts qs s0 c lim y0 r)(s:aa H H'):tU K H' hs ts qs s0 c lim y0 r:=by
 rcases h with⟨t,ty,e,er⟩|⟨lS,ys,l,k,e,hl,th,so,l3,bad,fst,er⟩|⟨lS,ys,es,e,hl,sh,l3,nd,hv,er⟩
 ·exact .inl #[t,λH2 s2=>ty H2 (s.trans s2),e,er]
 ·exact .inr (.inl #[lS,ys,l,k,e,s _ _ hl,Paired.aQ th λ_ _ q=>q.same s,so,l3,bad,fst,er])
 exact .inr (.inr #[lS,ys,es,e,s _ _ hl,Paired.aQ sh λy e ⟨a,t,q,h1,h2⟩=>#[a,t,q,s _ _ h1,s _ _ h2],l3,nd,hv,er])
theorem S7(p:Nat->Prop):∀n,(∃k,k<n/\p k)->∃k,p k/\∀j,j<k->¬p j
 |0,⟨_,h,_⟩=>absurd h (Nat.not_lt_zero _)
 |n+1,⟨k,hk,pk⟩=>by
  by_cases h:∃j,j<n/\p j
  ·exact S7 p n h
  apply#[k,pk,λj hj pj=>h #[j,by omega,pj]]
theorem Re{K:af}{H:Hp}{hs:Xa}{qs:aS}{c:Nat}:∀{ys:ag} {l:List kY},yq K H ys l->(∀th∈l,iu hs qs c th)->∃es,ft H ys es/\l=es.map (λe=>(some (sV e.1,.int (e.2:Nat)):kY))/\∀e∈es,Vs hs qs e.1/\e.2<c
 |_,_,.nil,_=>#[[],.nil,U,by simp]
 |_,_,.cons (b:=th) h t,ok=>by
  let#[es,e1,e2,e3]:=Re t λx hx=>ok x (fo _ hx);let#[z,n,rfl,v,nc]:=(ok th fY).qO;let#[a,t,e,ha,ht,_,_]:=h;apply#[(z,n)::es,.cons #[a,t,e,ha,ht] e1,by rw[e2];rfl,λx hx=>?_];rcases cg.mp hx with rfl|hx
  ·exact#[v,nc]
  exact e3 x hx
theorem YF{K:af}{H:Hp}{hs:Xa}{ts:Xb}{qs:aS}{s0:au}{c:Nat}{lim:Int × Int}{lS:Addr}{ys:ag}{l:List kY}(hl:H lS\.lst ys)(th:yq K H ys l)(so:GL l)(l3:l.length<=1000):∃r,tU K H hs ts qs s0 c lim (.ref lS) r:=by
 by_cases h:∃k,mB hs qs c l k
 ·let#[k,bk]:=h;let#[k,b,f]:=S7 (mB hs qs c l) (k+1) #[k,by omega,bk];exact#[some (("form":Str),some (k:Int)),.inr (.inl #[lS,ys,l,k,U,hl,th,so,l3,b,f,U])]
 have ok:∀x∈l,iu hs qs c x:=λx hx=>Classical.byContradiction λno=>by
  let#[j,hj,e]:=gB hx;exact h #[j,x,by rw[aX hj,e],.inl no]
 let#[es,e1,rfl,e3]:=Re th ok;apply#[_,.inr (.inr #[lS,ys,es,U,hl,e1,by rw[aq] at l3;exact l3,?_,e3,U])];rw[mG,List.pairwise_iff_getElem];intro i j hi hj lt e;rw[aq] at hi hj;rw[w9,w9] at e;apply h #[j,_,by rw[df,aX hj];rfl,.inr #[i,_,lt,by rw[df,aX hi];rfl,?_]];show sV _=sV _;rw[e]
inductive Ng (K:af) (CG CW:Addr) (vs:ag) (H:Hp) (Q:VK) (E:XK):Prop
 |mk:∀(g p d lt:Addr) (y0:V) (hs:Xa) (ts:Xb) (qs:aS) (fp:av) (s0:au) (ns:ae) (f:bz) (lim:Int × Int) (c:Nat) (r:Flt),vs=[.ref g,.ref d,.ref lt,.int c,y0]->Gs K CG CW H g p hs ts qs fp->Cy H d hs qs fp s0 ns f->hY H lt lim->uW lim->1<=c->c<=100->tU K H hs ts qs s0 c lim y0 r->(∀v H',aa H H'->RF H' v r->Q v H')->Ng K CG CW vs H Q E
theorem _G{K:af}{CG CW:Addr}:∀vs H Q E,Ng K CG CW vs H Q E->Jr K CG CW vs H Q E:=λvs H Q E h=>by
 let#[g,p,d,lt,y0,hs,ts,qs,fp,s0,ns,f,lim,c,r,e,G,S,h1,lo,c1,c2,ff,k]:=h;apply#[g,p,d,lt,y0,hs,ts,qs,fp,s0,ns,f,lim,c,e,G,S,h1,lo,c1,c2,?_];rcases ff with⟨t,ty,e,rfl⟩|⟨lS,ys,l,k',e,hl,th,so,l3,bad,fst,rfl⟩|⟨lS,ys,es,e,hl,sh,l3,nd,hv,rfl⟩
 ·exact .inl #[#[t,ty,e],k]
 ·exact .inr (.inl #[lS,ys,l,k',e,hl,th,l3,bad,fst,k])
 exact .inr (.inr #[lS,ys,es,e,hl,sh,l3,nd,hv,k])
section v
theorem t6:bQ ["_law_parts","_law_first","_law_limit","_law_count","_law_shut",j5,mE,"_law_ties_here","_law_fault","_law_numbers","_law_k","_law_spot","_law_number","_law_move","_law_later"] uy (a_ r_):=bZ
inductive lH (K:af) (vs:ag) (H:Hp) (Q:VK) (E:XK):Prop
 |mk:∀(lq lh lp B3 t0 ll:Addr) (y0:V) (hs:Xa) (ts:Xb) (ss qs:aS) (s0:au) (lim:Int × Int) (c:Nat) (r:Flt),vs=[.ref lq,.ref t0,.ref ll,.int c,y0]->H lq\.tup [.ref lh,.ref lp,.ref B3]->H t0\.tup (sV s0)->JX K H lh lp B3 ll hs ts ss qs lim->Vs hs qs s0->1<=c->c<=100->tU K H hs ts qs s0 c lim y0 r->(∀v H',aa H H'->RF H' v r->Q v H')->lH K vs H Q E
set_option maxHeartbeats 1600000 in
theorem Zy{f:Addr}{fd:Ae}(F:bu K "_law_due" "_law_due" r_ f fd)(B:Bi mg)(cF:!bF 1 "_law_form" uw (lG K))(cE:!bF 2 "_law_even" ux (NM K))(cM:!bF 1 "_law_moves" oK (Jy K)):!ak bc 3 f fd uy (lH K):=by
 exists F.bW t6;let#[lq,lh,lp,B3,t0,ll,y0,hs,ts,ss,qs,s0,lim,c,r,rfl,hq,ht0,Z,v0,c1,c2,ff,k]:=h;let hu:=fP hr;let sz:=cK;refine' #[_,ax ?s1 (ax ?s2 (ax ?s3 (ax ?s4 (ax ?s5 (ax ?s6 (ax ?s7 (aJ ?s8))))))),?kk]
 case s1=>exact Br (pv 0) (jv U (di (bX 5 t6.nd) (di (bX 6 t6.nd) (di (bX 7 t6.nd) hW))))
 case s2=>exact b_ (eM (d4 (bT gM (by rfl) B.gA gE %[4,gN (v:=.ty "list") (by rfl) B.list qf U|0]))) (aJ (bp (dD %[j0,Be Bp ay|0]))) cm
 case s3=>exact bw 8 t6.nd (bj cF hr %[5,6,3,4|0])
 case s4=>exact b_ (eP SA (pv 8) ow) (aJ (bp (pv 8))) cm
 case s5=>exact bw 9 t6.nd (gS (Pd U (kU hr 1)) (by rfl) B.dict qg %[4|0])
 case s6=>exact b_ (iK (qk (GG hu (pv 1) (pv 9))) (jZ (eP ou (j_ hu (pv 9) (pv 1)) ay))).pt (aJ (bp (dD %[j0|0]))) cm
 case' s7=>refine' d9 dU U (qq (by rfl) B.range %[bT gx (by rfl) B.len fN %[4|0]|0]) (bX 10 t6.nd) (ax ?b1 (ax ?b2 (aJ ?b3)))
 case b1=>exact Br (bg fX (pv 4) (pv 10)) (jv U (di (bX 11 t6.nd) (di (bX 12 t6.nd) hW)))
 case b2=>exact b_ (d4 (bj cE hr %[5,6,11,2|0])) (aJ (bp (dD %[j0,10|0]))) cm
 case' b3=>refine' b_ (eP Fv (pv 12) (br CB (pv 3) ay)) (aJ (d9 dU U (d5 (bj cM hr %[6,7,11|0])) ?g3 (aJ ?d3))) cm
 case g3=>exact jv U (di (bX 13 t6.nd) (di (bX 14 t6.nd) hW))
 case d3=>exact b_ (iK (qk (GG hu (pv 14) (pv 9))) (jZ (eP Ft (j_ hu (pv 9) (pv 14)) (br fG (pv 12) ay)))).pt (aJ (bp (dD %[j0,10|0]))) cm
 case s8=>exact bp ow
 let#[#[yh,a1,a2],#[yp,b1,b2],#[zs,O9,O4]]:=And.intro Z.hh (And.intro Z.hp Z.ht);apply#[_,U,lq,_,U,.of hq,U,_,_,U,_,_,U,_,_,U,U,?_];have say:∀{H2:Hp} {a:Str} {q:Int},aa H H2->r\(a,some q)->∀t,H2 t=none->Q (.ref t) (upd H2 t (.tup [.str a,.int q])):=λs2 e t ht=>k _ _ (s2.trans (aa.new ht)) (by rw[e];exact#[t,U,aA]);rcases ff with⟨t,ty,e,er⟩|⟨lS,ys,l,kk,rfl,hl,th,so,l3,bad,fst,er⟩|⟨lS,ys,l,rfl,hl,sh,l3,nZ,B9,er⟩
 ·apply#[_,U,_,_,_,_,U,ty H (aa.refl H),e,_,U,bN ?_];exact#[_,U,zl,say (aa.refl H) er]
 ·apply#[_,U,_,_,_,_,U,.lst hl,U,_,U,aH ?_];apply#[_,U,_,U,_,U,_,U,lh,lp,lS,yh,yp,ys,hs,ts,ss,qs,l,c,U,a1,a2,Z.G,b1,b2,Z.S,Z.s8,hl,th,so,l3,c2,λH2 s2 no=>absurd bad (no kk),λt H2 k' s2 ht mq A4=>?_]
  have ek:k'=kk:=by
   rcases Nat.lt_trichotomy k' kk with q|q|q
   ·exact absurd mq (fst k' q)
   ·exact q
   exact absurd bad (A4 kk q)
  subst ek;apply#[_,U,U,_,U,bN ?_];exact#[_,U,k _ _ s2 (by rw[er];exact#[t,U,ht])]
 let B1:=bI sh;apply#[_,U,_,_,_,_,U,.lst hl,U,_,U,aH ?_];apply#[_,U,_,U,_,U,_,U,lh,lp,lS,yh,yp,ys,hs,ts,ss,qs,_,c,U,a1,a2,Z.G,b1,b2,Z.S,Z.s8,hl,Mu sh,YE l,by rw[aq];exact l3,c2,λH2 s2 _=>?_,λt H2 k' s2 ht mq _=>absurd mq (Sl nZ B9 k')];apply#[_,U,U,_,U,aH ?_];apply#[_,U,lS,ys,gf l,U,s2 _ _ hl,Jq (Paired.aQ sh λy e ⟨a,t,q,h1,h2⟩=>#[a,t,q,s2 _ _ h1,s2 _ _ h2]),by unfold gf;rw[aq];exact l3,λnd iU=>?_]
 have jn:((gf l).map (·.1)).Nodup:=by
  rw[NJ,mG,ud];exact (mG.mp nZ).imp λn e=>n (FO e)
 rw[OR (gf l) [] ⇑jn,List.nil_append];let#[s3,e3]:=aC (o:=.dT (gf l)) iU;let dI:=s2.trans s3;generalize upd H2 nd (.dT (gf l))=H3 at s3 e3 dI ⊢
 let ev:au->Bool:=λz=>mh hs qs z lim
 have hK:∀{H':Hp} {t:Addr} {z:au},H' t\.tup (sV z)->H' t\.tup ((sK z).map kV):=λe=>by rw[iQ];exact e
 have body:(s0,0)∈l->r=gj (Nx hs ts qs) c ev l l 0:=λh=>by
  rw[er];unfold flt;rw[aK (by rw[@decide_eq_true_iff _ (Classical.propDecidable _)];exact h)]
 have MK:(s0,0)∉l->r\(("first":Str),none):=λh=>by
  rw[er];unfold flt;rw[aD (by rw[@decide_eq_true_iff _ (Classical.propDecidable _)];exact h)]
 have g0:cO H3 nd (.ref t0) (aZ (gf l) (sK s0)):=.t e3 (hK (dI _ _ ht0));apply#[_,U,_,U,nd,_,U,g0,_,U,?_];have xi:(s0,0)∉l->∀t,H3 t=none->Q (.ref t) (upd H3 t (.tup [.str "first"])):=λh t ht=>k _ _ (dI.trans (aa.new ht)) (by rw[MK h];exact#[t,U,aA]);by_cases first:(s0,0)∈l;rotate_left 1
 ·by_cases q:s0∈l.map (·.1)
  ·let#[e,he,ee]:=bx.mp q;have pV:(s0,e.2)∈l:=by rw[<- ee];exact he
   rw[pG nZ pV] at g0 ⊢;apply aH #[_,U,_,U,nd,_,U,g0,U,_,U,?_];apply bH (λcc=>#[zl,xi first]) (λcc=>absurd ?_ first)
   have:e.2=0:=by
    simp at cc;omega
   rw[<- this];exact pV
  rw[JD q];exact bN #[zl,xi first]
 rw[pG nZ first] at g0 ⊢;apply aH #[_,U,_,U,nd,_,U,g0,U,_,U,?_];apply Ba (show V.int ((0:Nat):Int)=V.int 0 from U) ?_;let eb:=body first
 let Iv:dG:=λi σ H'=>∃(va vb vc vd ve:aE),σ=[some (.ref lq),some (.ref t0),some (.ref ll),some (.int c),some (.ref lS),some (.ref lh),some (.ref lp),some (.ref B3),some .non,some (.ref nd),va,vb,vc,vd,ve]/\aa H3 H'/\∀e∈l.take i,ev e.1=false/\¬(e.2<c - 1/\Out (Nx hs ts qs) l e.1 e.2)
 apply#[_,U,lS,ys,U,.inl (.of (dI _ _ hl)),_,U,by show (-(2 ^ 62):Int)<=(ys.length:Int);omega,by show (ys.length:Int)<2 ^ 62;omega,?_];apply ua (lo:=0) (n:=((ys.length:Nat):Int).toNat) Iv #[_,_,_,_,_,U,aa.refl _,by simp] ?_ ?_
 ·rintro i σ H4 hi ⟨va,vb,vc,vd,ve,rfl,s4,no⟩;have hi:i<ys.length:=by omega
  obtain⟨e,he,a',t',ea,ha,h_⟩:∃e,l[i]? = some e/\∃a t,ys[i]=.ref a/\H a\.tup [.ref t,.int (e.2:Nat)]/\H t\.tup (sV e.1):=#[l[i]' Y0,aX Y0,dP sh i hi Y0];let em:=cJ he
  have dr:l.drop i=e::l.drop (i+1):=by
   rw[List.drop_eq_getElem_cons Y0];rw[aX Y0] at he;rw[dO he]
  have eg:r=gj (Nx hs ts qs) c ev l (e::l.drop (i+1)) i:=by
   rw[eb,Gu no,dr,Nat.zero_add]
  let hv:=B9 e em;let fI:=dI.trans s4;let nd4:=s4 _ _ e3;let Z4:=Z.same fI;rw[show (0:Int)+(i:Nat)=(i:Int) by omega];let#[#[Vu,a14,a24],#[Vr,b14,b24],#[P0,c14,c24]]:=And.intro Z4.hh (And.intro Z4.hp Z4.ht);apply#[_,U,_,U,lS,_,i,_,U,U,.of (fI _ _ hl),L2.cZ (by rw[aX hi,ea]),a',_,U,.of (fI _ _ ha),U,_,_,U,_,_,U,U,?_];apply#[_,U,_,U,_,U,_,U,lh,lp,t',ll,Vu,Vr,hs,ts,ss,qs,e.1,lim,U,a14,a24,Z.G,b14,b24,Z.S,Z.s8,fI _ _ h_,hv.1,Z4.hl,Z.lo,λH5 s5=>#[_,U,?_]];let jE:=fI.trans s5;let zK:=s4.trans s5;apply bH (λce=>?_) (λce=>?_)
  ·apply#[_,U,zl,say jE ?_];rw[eg];unfold gj;rw[aK (show ev e.1=true from ce)]
  have ce:ev e.1=false:=⇑ce
  have tk:∀e'∈l.take (i+1),e'∈l.take i∨e'=e:=λe' h'=>by
   rw[oE,he] at h';rcases dE.mp h' with h'|h'
   ·exact .inl h'
   exact .inr ⇑h'
  apply#[_,U,_,U,_,_,U,U,_,_,U,U,_,U,?_];apply bH (λcl=>?_) (λcl=>?_)
  ·have cl:e.2<c - 1:=by
    have:=tP cl;omega
   have out:Out (Nx hs ts qs) l e.1 e.2->r\(("open":Str),some (i:Int)):=λo=>by
    rw[eg];unfold gj;rw[aD (by rw[ce];decide),dif_pos (by rw[@decide_eq_true_iff _ (Classical.propDecidable _)];exact#[cl,o])]
   let Z5:=Z.same jE;let#[#[Vq,b15,b25],#[Vj,c15,c25]]:=And.intro Z5.hp Z5.ht;apply#[_,U,_,U,_,U,lp,B3,t',Vq,Vj,hs,ts,ss,qs,e.1,U,b15,b25,c15,c25,Z.G,Z.S,Z.s8,jE _ _ h_,hv.1,λla ym L H6 s6 _ fL me mL lL=>?_];let iq:=jE.trans s6;let xE:=zK.trans s6;let XA:=bI me;apply#[la,U,#[_,.of fL],?_];apply ie (K:=K) (a:=la) (xs:=ym) (λj σ H'=>∃(vd ve:aE),σ=[some (.ref lq),some (.ref t0),some (.ref ll),some (.int c),some (.ref lS),some (.ref lh),some (.ref lp),some (.ref B3),some .non,some (.ref nd),some (.int i),some (.ref t'),some (.int (e.2:Nat)),vd,ve]/\aa H6 H'/\∀m∈L.take j,∃k,(m.2,k)∈l/\k<=e.2+1) #[_,_,U,aa.refl _,by simp] (λj σ H' _ ⟨_,_,_,sm,_⟩=>.of (sm _ _ fL)) ?_ ?_
   ·rintro j y σ H7 hy ⟨vd,ve,rfl,s7,al⟩;have hj:j<ym.length:=(cw.mp hy).1
    obtain⟨m,hm,t,mm,u,rfl,h1,h2,h3⟩:∃m,L[j]? = some m/\∃t m' u,y=.ref t/\H6 t\.tup [.ref m',.ref u]/\H6 m'\.tup [.str m.1.1,.str m.1.2.1,.str m.1.2.2]/\H6 u\.tup (sV m.2):=by
     have:=dP me j hj Y0;rw[aX hj] at hy;cases hy;exact#[L[j]' Y0,aX Y0,this]
    have nx:Nx hs ts qs e.1 m.2:=#[_,(mL m).mp (cJ hm)];let Wp:=xE.trans s7;let nI:=iq.trans s7;have g7:cO H7 nd (.ref u) (aZ (gf l) (sK m.2)):=.t (Wp _ _ e3) (hK (s7 _ _ h3));apply#[t,_,U,.of (s7 _ _ h1),U,_,_,U,_,_,U,U,?_];apply#[_,U,_,U,nd,_,U,g7,_,U,?_];have bad:(∀k,(m.2,k)∈l->e.2+1<k)->∀t,H7 t=none->Q (.ref t) (upd H7 t (.tup [.str "open",.int i])):=λh=>say nI (out #[m.2,nx,h]);by_cases q:m.2∈l.map (·.1)
    ·let#[e2,he2,ee2]:=bx.mp q;have pV:(m.2,e2.2)∈l:=by rw[<- ee2];exact he2
     rw[pG nZ pV] at g7 ⊢;apply aH #[_,U,_,U,nd,_,U,g7,_,U,_,_,U,U,_,_,U,U,_,U,?_];apply bH (λcc=>#[_,U,zl,bad λk hk=>?_]) (λcc=>?_)
     ·have:=(pG nZ hk).symm.trans (pG nZ pV);have:=(V.int.inj (dO this));simp at cc;omega
     apply#[_,_,U,s7,λx hx=>?_];rw[oE,hm] at hx;rcases dE.mp hx with hx|hx
     ·exact al x hx
     have:x=m:=⇑hx
     subst this;apply#[_,pV,?_];simp at cc;omega
    rw[JD q];exact bN #[_,U,zl,bad λk hk=>absurd (bx.mpr #[_,hk,U]) q]
   rintro σ H7 ⟨vd,ve,rfl,s7,al⟩;rw[XA,d_] at al;apply#[_,_,_,_,_,U,xE.trans s7,λe' h'=>?_];rcases tk e' h' with h'|rfl
   ·exact no e' h'
   apply#[ce,λ⟨_,y,⟨mv,hmv⟩,ny⟩=>?_];let#[k,hk,kl]:=al (mv,y) ((mL (mv,y)).mpr hmv);have:=ny k hk;omega
  apply#[_,_,_,_,_,U,zK,λe' h'=>?_];rcases tk e' h' with h'|rfl
  ·exact no e' h'
  apply#[ce,λh=>absurd (dc ?_) cl];have:=h.1;omega
 rintro σ H4 ⟨va,vb,vc,vd,ve,rfl,s4,no⟩;rw[show ((ys.length:Nat):Int).toNat=l.length by omega,d_] at no;apply k _ H4 (dI.trans s4) ?_;rw[eb,Gu (i:=l.length) (by rw[d_];exact no),List.drop_length];rfl
end
end Ev
namespace HT
open PySem PySem.Spec PyProof.Rows PySem.W jk c_
theorem fh{prog:Ad}{w:Af}{A:Ag}{E:Aa->Ab->Prop}{s:Ab}{t sl:Addr}{items:Array Aa}{vl vu:Aa}{lo hi:Option Int}{Q:Aa->Ab->Prop}(ht:IsTup s.heap t items)(hs:s.heap.IsSliceOf sl vl vu .none)(pl:IsPart vl lo)(pu:IsPart vu hi)
  (hw:bU items.size 0 lo=0/\bU items.size items.size hi=items.size) (h:Q (.ref t) s):wpAny (model prog w) A (getItem (.ref t) (.ref sl)) Q E s:=by
 let#[os,AD,Ii,AR]:=id hs;have Fo:s.TypeIs (.ref sl) "slice":=#[os,AD,Ii];unfold getItem
 try with_reducible apply gR ?_
 first|refine ai (aI ?_)|skip
 apply ai (wpAny_sequenceKey ht.typeIs (by decide) ?_)
 apply ai (wK (name:=Str.ofString "__getitem__") ht.typeIs PyProof.Rows.slot_tuple_getitem
  (tQ PyProof.Rows.slot_tuple_getitem ht.typeIs entry_tuple_getitem ?_ (args_tuple_getitem _ _)))
 show wpAny _ _ (Builtin.Tuple.tupleItemsOf (.ref t) >>= _) _ _ s;apply ai (tupleItemsOf_ ht ?_);apply ai (wpAny_typeOf Fo ?_);rw[aK (by decide)];apply ai (U9 hs pl pu ?_)
 have Lx:(((bU items.size 0 lo:Nat):Int) == 0&&(1:Int) == 1&&(bU items.size items.size hi - bU items.size 0 lo) == items.size)=true:=by
  rw[hw.1,hw.2];simp
 show wpAny _ _ (if (((bU items.size 0 lo:Nat):Int) == 0&&(1:Int) == 1&&(bU items.size items.size hi - bU items.size 0 lo) == items.size)=true then _ else _) _ _ s;rw[aK Lx];apply ai (m:=Builtin.Tuple.tupleIsExact _) ?_;apply ai (m:=typeOf _) (wpAny_typeOf ht.typeIs (aI ?_));show wpAny _ _ (if (Value.type "tuple" == Value.type "tuple")=true then _ else _) _ _ s;rw[aK (by decide)];apply ai (wpAny_rule ?_)
 first
  |exact ai (aI ⟨_,rfl,aI h⟩)
  |exact aI ⟨_,rfl,aI h⟩
  |exact ai (aI (aI ⟨_,rfl,aI h⟩))
end HT
namespace L2
open PySem PySem.Spec PyProof.Rows PySem.W
inductive zM (x:V) (lo:Option Int) (hi:Option Int) (H:Hp) (Q:VK):Prop
 |mk:∀a xs,x=.ref a->H a\.tup xs->(∀p H',aa H H'->H' p\.tup (cq xs lo hi)->Q (.ref p) H')->zM x lo hi H Q
theorem IZ{X:Cx}:JW X zM:=by
 intro pins s σ H x v vl vu lo hi sl Q I rx hs pl pu h;let#[a,xs,rfl,hx,q]:=h;by_cases hw:HT.bU xs.length 0 lo=0/\HT.bU xs.length xs.length hi=xs.length
 ·cases rx;let#[its,r,ht,hz]:=I.tuple (.of hx);have hlen:its.toArray.size=xs.length:=by rw[cY];exact r.length.symm
  apply⟨"tuple",_,PyProof.Rows.slot_tuple_getitem.lookup,ht.typeIs,?_⟩;apply HT.fh ht hs pl pu (by rw[hlen];exact hw) ⟨.ref a,H,I,rfl,q _ _ (aa.refl H) ?_⟩;unfold cq;rw[hw.1,hw.2,List.drop_zero,Nat.sub_zero,d_];exact hx
 exact FK pins s σ H (.ref a) v vl vu lo hi sl Q I rx hs pl pu ⟨a,xs,rfl,.of hx,hw,λp hp=>q _ _ (aa.new hp) aA⟩
end L2
namespace L2
open PySem PySem.Spec PyProof.Rows PySem.W jk c_
theorem Na{α β:Type}{f g:α->Option β}:∀{l:List α},(∀x∈l,f x=g x)->l.filterMap f=l.filterMap g
 |[],_=>rfl
 |a::l,h=>by rw[List.filterMap_cons,List.filterMap_cons,h a fY,Na λx hx=>h x (fo _ hx)]
theorem hQ_(its:aj):slicePick its.toArray none none (some (-1))=its.reverse.toArray:=by
 have key:((List.range its.length).map λk=>its[its.length - 1 - k]?)=its.reverse.map some:=by
  apply List.ext_getElem ?_ ?_
  ·simp
  intro i h1 h2;have hi:i<its.length:=⇑h1
  simp only[w9,List.getElem_range,List.getElem_reverse];rw[aX Y0]
 have e:(sliceRange (sliceBounds none none (some (-1)) its.toArray.size).1 (sliceBounds none none (some (-1)) its.toArray.size).2.1 (sliceBounds none none (some (-1)) its.toArray.size).2.2).filterMap (its.toArray[·]?)=((List.range its.length).map λk=>its[its.length - 1 - k]?).filterMap id:=by
  have c:(if (((its.length:Nat):Int) - 1) > -1 then ((((its.length:Nat):Int) - 1) - -1 - -1 - 1) / (- -1) else 0).toNat=its.length:=by
   by_cases z:(((its.length:Nat):Int) - 1) > -1
   ·rw[aK z,show (- -1:Int)=1 by decide,Int.ediv_one];omega
   rw[aD z];omega
  show (((List.range (if (((its.length:Nat):Int) - 1) > -1 then ((((its.length:Nat):Int) - 1) - -1 - -1 - 1) / (- -1) else 0).toNat).map λ(k:Nat)=>((((its.length:Nat):Int) - 1) + -1 * (k:Int)).toNat)).filterMap (its.toArray[·]?)=_;rw[c,List.filterMap_map,List.filterMap_map];apply Na λk hk=>?_;have hk:k<its.length:=List.mem_range.mp hk;show its.toArray[((((its.length:Nat):Int) - 1) + -1 * (k:Int)).toNat]? = its[its.length - 1 - k]?;rw[List.getElem?_toArray];congr 1;omega
 unfold slicePick;rw[e,key,List.filterMap_map];congr 1;exact (Na λ_ _=>rfl).trans List.filterMap_some
section
variable{X:Cx}{e st:Expr}{te ts:TE}{pos p2:Pos}
def Do(K:af)(te ts:TE):TE:=λσ H Q=>te σ H λx H1=>ts σ H1 λy H2=>y=.int (-1)/\∃a xs,x=.ref a/\d6 K H2 a xs/\∀p,H2 p=none->Q (.ref p) (upd H2 p (.lst xs.reverse))
theorem Uc:∀{xs:ag} {us:aj},Vals xs us->Vals xs.reverse us.reverse
 |_,_,.nil=>.nil
 |_,_,.cons h t=>by
  rw[List.reverse_cons,List.reverse_cons];exact (Uc t).append (.cons h .nil)
theorem YU(he:PE X e te)(hs:PE X st ts):PE X (.Subscript e (.Slice none none (some st) p2) pos) (Do X.K te ts):=by
 intro pins s σ H Q I h;apply Subscript_ (aU (he pins s σ H _ I h) λv s1 ⟨x,H1,I1,r1,q1⟩=>?_);apply wpAny_Slice ?_;rw[evalPart_none];apply aI (aI ?_);rw[evalPart_some];apply aU (hs pins s1 σ H1 _ I1 q1) λvs s3 ⟨y,H3,I3,ry,ey,a,xs,ex,hx,q⟩=>?_;subst ex ey;let#[t,rfl]:=ry;cases r1;have I4:Inv X pins σ H3 { s3 with heap:=s3.heap.push { cls:=.type "slice",data:=.fields (List.toArray [.none,.none,.int (-1) t]) } }:=I3.kept (t':=s3.toks) λb ob q=>bo _ q;let#[its,r,ht,hz]:=I4.list hx;let hlen:=r.length;show wpAny (model X.prog X.w) X.A (subscriptTail e (.Slice none none (some st) p2) (.ref a) (.ref s3.heap.objs.size)) (EP X pins σ Q) X.xe { s3 with heap:=s3.heap.push { cls:=.type "slice",data:=.fields (List.toArray [.none,.none,.int (-1) t]) } };apply tail_any (ops:=[.ref a,.ref s3.heap.objs.size]) ht.isList.typeIs slot_list_getitem.lookup (wpAny_getItem_list_slice ht.isList (Heap.IsSliceOf.new ..) .none .none (.int (-1) t) Y1 ?_ (by rw[cY]<;>omega)) (by with_unfolding_all rfl)
 rw[hQ_];apply#[.ref _,upd H3 _ (.lst xs.reverse),I4.laid (t':=s3.toks) (λb o e=>bo _ e) (a9 _) ?_,U,q _ (I4.aF.fresh (a9 _))];exact#[by rw[List.length_reverse];exact hz,_,0,Uc r,dq _ U]
end
section
variable{X:Cx}
def rN:Rp Unit:=λ_ x _=>x=.non
theorem Ol:jm X 0 rN where
 eq:=λ{pins σ H s A x y u v d e} I ru rv hx hy hu=>by
  have hx:x=.non:=hx;have hy:y=.non:=hy;subst hx;subst hy;exact yE (A:=A) (s:=s) ru rv U U
 one:=λ{pins σ H s x d e} I hx hy=>rfl
def J1(X:Cx)(H:Hp)(x y:V):Prop:=∃(n:Nat) (D:Type) (_:DecidableEq D) (R:Rp D) (d:D),n<=8/\jm X n R/\R H x d/\R H y d
inductive l5 (X:Cx) (x:V) (y:V) (H:Hp) (Q:VK):Prop
 |mk:∀a b xs ys,x=.ref a->y=.ref b->d6 X.K H a xs->d6 X.K H b ys->Paired (J1 X H) xs ys->Q (.bl false) H->l5 X x y H Q
theorem SY(hu:X.A.units+8+1<cLine):dW X (compareOp .NotEq) (l5 X):=by
 intro pins s σ H x y v u Q I rx ry h;let#[a,b,xs,ys,rfl,rfl,t,t',pp,hq]:=h;cases rx;cases ry;let#[us,r,pl,_]:=I.list t;let#[vs,r',uF,_]:=I.list t';let l1:=r.length;let l2:=r'.length;let l3:=bI pp;apply GV.iJ pl.isList uF.isList (e:=λ_=>true) (by simp only[cY];omega) Y0 (λj h1 h2=>?_) ⟨.bl _,H,I,rfl,?_⟩
 ·simp only[cY] at h1 h2;let#[n,D,i,R,d,hn,c,q1,q2]:=dP pp j Y0 Y0;let k:=c.eq (A:=X.A.in1) I (dP r j Y0 h1) (dP r' j Y0 h2) q1 q2 (by show X.A.units+1+n<cLine;omega);rwa [dc rfl] at k
 rw[show ((List.range us.toArray.size).all λ_=>true)=true from List.all_eq_true.mpr λ_ _=>rfl];exact hq
end
end L2
namespace Ev
open PySem L2
def Kp(l f:Addr)(H H':Hp):Prop:=∀b o,H b\o->b≠l->b≠f->H' b\o
inductive El (K:af) (l f:Addr) (H:Hp):V->Prop
 |ent (a t:Addr) (os:List (Option Str)) (nv:V) (o:Option Int):H a\.tup [.ref t,nv]->H t\.tup (os.map oV)->(∀H',mP K H' nv o)->El K l f H (.ref a)
 |non:El K l f H .non
 |int (i:Int):El K l f H (.int i)
 |tup (a:Addr) (xs:ag):H a\.tup xs->(xs.length≠2∨∃s r,xs=.str s::r)->El K l f H (.ref a)
 |tupL (a b:Addr) (r xs:ag):H a\.tup (.ref b::r)->b≠l->b≠f->H b\.lst xs->El K l f H (.ref a)
 |lst (a:Addr) (xs:ag):a≠l->a≠f->H a\.lst xs->El K l f H (.ref a)
theorem El.keep{K:af}{l f:Addr}{H H':Hp}{v:V}(h:El K l f H v)(kt:∀b xs,H b\.tup xs->H' b\.tup xs)(kl:∀b xs,H b\.lst xs->b≠l->b≠f->H' b\.lst xs):El K l f H' v:=by
 cases h with
 |ent a t os nv o h1 h2 h3=>exact .ent a t os nv o (kt _ _ h1) (kt _ _ h2) h3
 |non=>exact .non
 |int i=>exact .int i
 |tup a xs h1 h2=>exact .tup a xs (kt _ _ h1) h2
 |tupL a b r xs h1 n1 n2 h2=>exact .tupL a b r xs (kt _ _ h1) n1 n2 (kl _ _ h2 n1 n2)
 |lst a xs n1 n2 h=>exact .lst a xs n1 n2 (kl _ _ h n1 n2)
theorem El.but{K:af}{l f:Addr}{H H':Hp}{v:V}(h:El K l f H v)(b:aM l H H')(st:bJ H l):El K l f H' v:=by
 let#[xs,e]:=st.some;exact h.keep (λc ys q=>b _ _ q (bO q e nofun)) λc ys q n _=>b _ _ q n
theorem El.same{K:af}{l f:Addr}{H H':Hp}{v:V}(h:El K l f H v)(s:aa H H'):El K l f H' v:=h.keep (λ_ _ q=>s _ _ q) λ_ _ q _ _=>s _ _ q
theorem El.app{K:af}{l f:Addr}{H:Hp}{v:V}{vs ws:ag}(h:El K l f H v)(e:H f\.lst vs):El K l f (upd H f (.lst ws)) v:=h.keep (λc ys q=>by rw[aB (bO q e nofun)];exact q) λc ys q _ n=>by rw[aB n];exact q
theorem El.th{K:af}{l f:Addr}{H:Hp}{v:V}(h:El K l f H v):∃th,kh K H v th/\∃os:List (Option Str),uZ th=os.map oV:=by
 cases h with
 |ent a t os nv o h1 h2 h3=>
  apply#[some (os.map oV,nv),#[a,t,U,h1,h2,λv hv=>?_,o,h3],os,U];let#[x,_,rfl]:=bx.mp hv;cases x with
  |none=>exact#[none,λH'=>#[_,.non,U]]
  |some x=>exact#[some x,λH'=>rfl]
 |non=>exact#[none,.inl #[_,.non,U],[],U]
 |int i=>exact#[none,.inl #[_,.int i,U],[],U]
 |tup a xs h1 h2=>
  apply#[none,.inr #[a,xs,U,h1,h2.imp id λ⟨s,r,e⟩=>#[_,r,_,e,.str s,U]],[],U]
 |tupL a b r xs h1 n1 n2 h2=>exact#[none,.inr #[a,_,U,h1,.inr #[_,r,_,U,.lst h2,U]],[],U]
 |lst a xs n1 n2 h=>exact#[none,.inl #[_,.lst h,U],[],U]
theorem SE{K:af}{l f:Addr}{H:Hp}:∀{zs:ag},(∀z∈zs,El K l f H z)->∃ls,yq K H zs ls/\GL ls
 |[],_=>#[[],.nil,λth h=>by cases h]
 |z::zs,h=>by
  let#[ls,a,b]:=SE λx hx=>h x (fo _ hx);let#[th,c,d]:=(h z fY).th;apply#[th::ls,.cons c a,λx hx=>?_];rcases cg.mp hx with rfl|hx
  ·exact d
  exact b x hx
theorem Q0{K:af}{l f:Addr}{H:Hp}:∀{ys:ag} {es:List (au × Nat)},ft H ys es->∀y∈ys,El K l f H y
 |_,_,.nil,y,hy=>by cases hy
 |_,_,.cons (b:=e) ⟨a,t,q,h1,h2⟩ r,y,hy=>by
  rcases cg.mp hy with rfl|hy
  ·rw[q];exact .ent a t (e.1.map some) _ (some (e.2:Nat)) h1 (by rw[cA];exact h2) λH'=>rfl
  exact Q0 r y hy
def Bd(K:af)(l f:Addr)(H:Hp)(v:V):Prop:=v=.non∨(∃a xs,v=.ref a/\H a\.tup xs)∨(∃a kvs,v=.ref a/\a≠l/\a≠f/\H a\.dT kvs)∨∃a zs,v=.ref a/\a≠l/\a≠f/\H a\.lst zs/\zs.length<=800/\∀z∈zs,El K l f H z
theorem Bd.keep{K:af}{l f:Addr}{H H':Hp}{v:V}(h:Bd K l f H v)(kt:∀b xs,H b\.tup xs->H' b\.tup xs)(kd:∀b xs,H b\.dT xs->b≠l->b≠f->H' b\.dT xs)(kl:∀b xs,H b\.lst xs->b≠l->b≠f->H' b\.lst xs):Bd K l f H' v:=by
 rcases h with e|⟨a,xs,e,h⟩|⟨a,kvs,e,n1,n2,h⟩|⟨a,zs,e,n1,n2,h,le,al⟩
 ·exact .inl e
 ·exact .inr (.inl #[a,xs,e,kt _ _ h])
 ·exact .inr (.inr (.inl #[a,kvs,e,n1,n2,kd _ _ h n1 n2]))
 exact .inr (.inr (.inr #[a,zs,e,n1,n2,kl _ _ h n1 n2,le,λz hz=>(al z hz).keep kt kl]))
theorem Bd.but{K:af}{l f:Addr}{H H':Hp}{v:V}(h:Bd K l f H v)(b:aM l H H')(st:bJ H l):Bd K l f H' v:=by
 let#[xs,e]:=st.some;exact h.keep (λc ys q=>b _ _ q (bO q e nofun)) (λc ys q n _=>b _ _ q n) λc ys q n _=>b _ _ q n
theorem Bd.app{K:af}{l f:Addr}{H:Hp}{v:V}{vs ws:ag}(h:Bd K l f H v)(e:H f\.lst vs):Bd K l f (upd H f (.lst ws)) v:=h.keep (λc ys q=>by rw[aB (bO q e nofun)];exact q) (λc ys q _ n=>by rw[aB n];exact q) λc ys q _ n=>by rw[aB n];exact q
theorem Kp.refl(l f:Addr)(H:Hp):Kp l f H H:=λ_ _ e _ _=>e
theorem Kp.trans{l f:Addr}{H H1 H2:Hp}(h:Kp l f H H1)(h2:Kp l f H1 H2):Kp l f H H2:=λb o e n m=>h2 b o (h b o e n m) n m
theorem Kp.but{l f:Addr}{H H1:Hp}(h:aM l H H1):Kp l f H H1:=λb o e n _=>h b o e n
structure kD (K:af) (l f:Addr) (n:Nat) (H:Hp):Prop where
 st:bJ H l
 ne:f≠l
 ex:∃vs,H f\.lst vs/\vs.length<=n/\∀v∈vs,Bd K l f H v
theorem kD.but{K:af}{l f:Addr}{n:Nat}{H H':Hp}(h:kD K l f n H)(b:aM l H H')(st:bJ H' l):kD K l f n H':=by
 let#[s,ne,vs,e,le,al]:=h;exact#[st,ne,vs,b _ _ e ne,le,λv hv=>(al v hv).but b s]
theorem kD.more{K:af}{l f:Addr}{n m:Nat}{H:Hp}(h:kD K l f n H)(k:n<=m):kD K l f m H:=by
 let#[s,ne,vs,e,le,al]:=h;exact#[s,ne,vs,e,by omega,al]
def Ge(l:Addr)(σ:St)(H:Hp)(t:TE)(R:Hp->V->Prop):Prop:=∀(H':Hp) (Q:VK),aM l H H'->bJ H' l->(∀v H2,aM l H' H2->bJ H2 l->R H2 v->Q v H2)->t σ H' Q
def Go(l:Addr)(σ:St)(H:Hp)(t:TO)(o:Option Int):Prop:=∀(H':Hp) (Q:Option Int->Hp->Prop),aM l H H'->bJ H' l->(∀H2,aM l H' H2->bJ H2 l->Q o H2)->t σ H' Q
def Nl(K:af)(l f:Addr)(H0:Hp)(n:Nat)(H:Hp)(v:V):Prop:=∃q zs,v=.ref q/\q≠l/\H0 q=none/\H q\.lst zs/\zs.length<=n/\∀z∈zs,El K l f H z
section
variable{K:af}{l f:Addr}{σ:St}{H H' H0:Hp}{n m:Nat}{v:V}
theorem j3{a:Addr}(st:bJ H l)(h:H a=none):a≠l:=λz=>by
 let#[xs,e]:=st.some;rw[z,e] at h;cases h
theorem Gx{b:Addr}(h:aM l H H')(s:bJ H' l)(e:H' b=none):H b=none:=by
 cases z:H b with
 |none=>rfl
 |some o=>rw[h b o z (j3 s e)] at e;cases e
theorem Nl.but(h:Nl K l f H0 n H v)(b:aM l H H')(st:bJ H l):Nl K l f H0 n H' v:=by
 let#[q,zs,e,ne,h0,hq,le,al]:=h;exact#[q,zs,e,ne,h0,b _ _ hq ne,le,λz hz=>(al z hz).but b st]
theorem p6{R:Hp->V->Prop}{i:Nat}(h:σ[i]? = some (some v))(r:∀H',aM l H H'->bJ H' l->R H' v):Ge l σ H (dj i) R:=λH' Q b st k=>#[v,h,k v H' (aM.refl _ _) st (r H' b st)]
theorem A1{R:Hp->V->Prop}(r:∀H',R H' v):Ge l σ H (tC v) R:=λH' Q b st k=>k v H' (aM.refl _ _) st (r H')
theorem yB:Go l σ H Jd none:=λH' Q b st k=>k H' (aM.refl _ _) st
theorem yy{t:TE}{i:Int}(h:Ge l σ H t λ_ v=>v=.int i):Go l σ H (yx t) (some i):=λH' Q b st k=>h H' _ b st λv H2 b2 cQ e=>#[i,e,k H2 b2 cQ]
theorem we{i:Nat}{a:Addr}{ys:ag}{tl th:TO}{lo hi:Option Int}(h:σ[i]? = some (some (.ref a)))(ha:H a\.lst ys)(ne:a≠l)(zh:bJ H l)(el:∀y∈ys,El K l f H y)(hn:ys.length<=n)(hl:Go l σ H tl lo)(hh:Go l σ H th hi):Ge l σ H (Dk (si K) (dj i) tl th) (Nl K l f H n):=λH' Q b st kk=>#[_,h,hl H' _ b st λH2 b2 cQ=>hh H2 _ (b.trans b2) cQ λH3 b3 dX=>by
 let Pq:=(b.trans b2).trans b3;let le:=GB ys lo hi;apply#[a,_,U,.of (Pq _ _ ha ne),λq hq=>?_];let s4:=aa.new (o:=.lst (cq ys lo hi)) hq;apply kk _ _ ((b2.trans b3).trans (aM.of s4)) (dX.same s4) #[q,_,U,j3 dX hq,Gx Pq dX hq,aA,by omega,λz hz=>((el z ?_).but Pq zh).same s4];unfold cq at hz;exact List.mem_of_mem_drop (List.mem_of_mem_take hz)]
theorem yg{t:TE}(h:Ge l σ H t (λH2 v=>El K l f H2 v)):Ge l σ H (vx (p7 t gG)) (Nl K l f H 1):=λH' Q b st kk=>h H' _ b st λv H2 b2 cQ r=>by
 apply#[zl,λq hq=>?_];let s4:=aa.new (o:=.lst [v]) hq;apply kk _ _ (b2.trans (aM.of s4)) (cQ.same s4) #[q,_,U,j3 cQ hq,Gx (b.trans b2) cQ hq,aA,a9 _,λz hz=>?_];rw[fw.mp hz];exact r.same s4
theorem tI{t u:TE}(h:Ge l σ H t (Nl K l f H n))(h2:Ge l σ H u (Nl K l f H m))(k:n+m<=1000):Ge l σ H (mX oU t u) (Nl K l f H (n+m)):=λH' Q b st kk=>h H' _ b st λv H2 b2 cQ r=>h2 H2 _ (b.trans b2) cQ λw H3 b3 dX r2=>by
 let sz:=cK;let#[a,xs,rfl,n1,_,ha,le,al]:=r.but b3 cQ;let#[c,ys,rfl,n2,_,hc,QQ,Pu]:=r2;apply#[a,c,_,_,U,U,ha,hc,by omega,λq hq=>?_];let s4:=aa.new (o:=.lst (xs++ys)) hq;apply kk _ _ ((b2.trans b3).trans (aM.of s4)) (dX.same s4) #[q,_,U,j3 dX hq,Gx ((b.trans b2).trans b3) dX hq,aA,by rw[dN];omega,λz hz=>?_];rcases dE.mp hz with hz|hz
 ·exact (al z hz).same s4
 exact (Pu z hz).same s4
theorem tH{i:Nat}{a:Addr}{ys:ag}{u:TE}(h:σ[i]? = some (some (.ref a)))(ha:H a\.lst ys)(ne:a≠l)(zh:bJ H l)(el:∀y∈ys,El K l f H y)(hn:ys.length<=n)(h2:Ge l σ H u (Nl K l f H m))(k:n+m<=1000):Ge l σ H (mX oU (dj i) u) (Nl K l f H (n+m)):=λH' Q b st kk=>#[_,h,h2 H' _ b st λw H3 b3 dX r2=>by
 let sz:=cK;let#[c,zs,rfl,n2,_,hc,QQ,Pu]:=r2;apply#[a,c,_,_,U,U,(b.trans b3) _ _ ha ne,hc,by omega,λq hq=>?_];let s4:=aa.new (o:=.lst (ys++zs)) hq;apply kk _ _ (b3.trans (aM.of s4)) (dX.same s4) #[q,_,U,j3 dX hq,Gx (b.trans b3) dX hq,aA,by rw[dN];omega,λz hz=>?_];rcases dE.mp hz with hz|hz
 ·exact ((el z hz).but (b.trans b3) zh).same s4
 exact (Pu z hz).same s4]
theorem jU{t:TE}{D:Ends}{i:Nat}(hi:σ[i]? = some (some (.ref f)))(F:kD K l f n H)(hn:n<=100000)(h:Ge l σ H t (Nl K l f H m))(hm:m<=800)
  (k:∀H2,Kp l f H H2->kD K l f (n+1) H2->D.nx σ H2):xq (Qf K "list" N0 (dj i) (p7 t gG)) D σ H:=by
 let sz:=cK;let#[st,ne,vs,e,le,al]:=F;apply#[_,hi,.inl #[U,_,.of e],h H _ (aM.refl _ _) st λv H1 b1 oN r=>?_];let#[q,zs,rfl,n1,h0,hq,lz,az]:=r
 have nf:q≠f:=λz=>by
  rw[z,e] at h0;cases h0
 let e1:=b1 _ _ e ne;apply#[f,vs,.ref q,U,U,e1,by omega,k _ (λb o hb n1 n2=>by rw[aB n2];exact b1 _ _ hb n1) #[?_,ne,vs++[.ref q],aA,by rw[dN];simp;omega,λx hx=>?_]]
 ·unfold bJ;rw[aB ne.symm];exact oN
 rcases dE.mp hx with hx|hx
 ·exact ((al x hx).but b1 st).app e1
 rw[fw.mp hx];exact .inr (.inr (.inr #[q,zs,U,n1,nf,by rw[aB nf];exact hq,by omega,λz hz=>(az z hz).app e1]))
def kj(n:Nat)(H:Hp)(v:V):Prop:=∃(t:Addr) (os:List (Option Str)),v=.ref t/\H t\.tup (os.map oV)/\os.length<=n
theorem kj.but{v:V}(h:kj n H v)(b:aM l H H')(st:bJ H l):kj n H' v:=by
 let#[t,os,e,ht,le]:=h;let#[xs,e2]:=st.some;exact#[t,os,e,b _ _ ht (bO ht e2 nofun),le]
theorem Bc{tx ty:TE}(h:Ge l σ H tx (kj n))(h2:Ge l σ H ty λ_ v=>∃o,∀H',mP K H' v o):Ge l σ H (qB (p7 tx (p7 ty gG))) (λH2 v=>El K l f H2 v):=λH' Q b st kk=>h H' _ b st λv H2 b2 cQ r=>h2 H2 _ (b.trans b2) cQ λw H3 b3 dX ⟨o,iv⟩=>by
 let#[t,os,rfl,ht,_]:=r.but b3 cQ;apply#[zl,λq hq=>?_];let s4:=aa.new (o:=.tup [.ref t,w]) hq;exact kk _ _ ((b2.trans b3).trans (aM.of s4)) (dX.same s4) (.ent q t os w o aA (s4 _ _ ht) iv)
theorem IR{tx:TE}(h:Ge l σ H tx λ_ v=>∃o,v=oV o):Ge l σ H (qB (p7 tx gG)) (kj 1):=λH' Q b st kk=>h H' _ b st λv H2 b2 cQ ⟨o,e⟩=>by
 subst e;apply#[zl,λq hq=>?_];let s4:=aa.new (o:=.tup [oV o]) hq;exact kk _ _ (b2.trans (aM.of s4)) (cQ.same s4) #[q,[o],U,aA,a9 _]
theorem FX{tx ty:TE}(h:Ge l σ H tx (kj n))(h2:Ge l σ H ty (kj m))(k:n+m<=1000):Ge l σ H (mX sG tx ty) (kj (n+m)):=λH' Q b st kk=>h H' _ b st λv H2 b2 cQ r=>h2 H2 _ (b.trans b2) cQ λw H3 b3 dX r2=>by
 let sz:=cK;let#[t,os,rfl,ht,le]:=r.but b3 cQ;let#[u,us,rfl,hu,QQ]:=r2;apply#[t,u,_,_,U,U,ht,hu,by rw[aq,aq];omega,λp H4 s4 hp=>?_];exact kk _ _ ((b2.trans b3).trans (aM.of s4)) (dX.same s4) #[p,os++us,U,by rw[hp,eK],by rw[dN];omega]
theorem oq{i:Nat}{v:V}{tl th:TO}{lo hi:Option Int}(h:σ[i]? = some (some v))(r:kj n H v)(zh:bJ H l)(hl:Go l σ H tl lo)(hh:Go l σ H th hi):Ge l σ H (Dk zM (dj i) tl th) (kj n):=λH' Q b st kk=>#[_,h,hl H' _ b st λH2 b2 cQ=>hh H2 _ (b.trans b2) cQ λH3 b3 dX=>by
 let#[t,os,rfl,ht,le]:=r.but ((b.trans b2).trans b3) zh;apply#[t,_,U,ht,λp H4 s4 hp=>?_];apply kk _ _ ((b2.trans b3).trans (aM.of s4)) (dX.same s4) #[p,(os.drop (HT.bU (os.map oV).length 0 lo)).take (HT.bU (os.map oV).length (os.map oV).length hi - HT.bU (os.map oV).length 0 lo),U,?_,?_]
 ·rw[hp];unfold cq;rw[List.map_take,List.map_drop]
 rw[dM,wY];omega]
def Ga(K:af)(l f:Addr)(σ:St)(H:Hp)(t:TA)(n:Nat):Prop:=∀(H':Hp) (Q:ag->Hp->Prop),aM l H H'->bJ H' l->(∀vs H2,aM l H' H2->bJ H2 l->vs.length=n->(∀v∈vs,El K l f H2 v)->Q vs H2)->t σ H' Q
theorem yj:Ga K l f σ H gG 0:=λH' Q b st k=>k [] H' (aM.refl _ _) st U λv hv=>by cases hv
theorem qo{t:TE}{ts:TA}(h:Ge l σ H t (λH2 v=>El K l f H2 v))(hs:Ga K l f σ H ts n):Ga K l f σ H (p7 t ts) (n+1):=λH' Q b st k=>h H' _ b st λv H2 b2 cQ q=>hs H2 _ (b.trans b2) cQ λvs H3 b3 dX le al=>k _ H3 (b2.trans b3) dX ⇑le λy hy=>by
 rcases cg.mp hy with rfl|hy
 ·exact q.but b3 cQ
 exact al y hy
theorem yi{t:TA}(h:Ga K l f σ H t n)(k:n<=1000):Ge l σ H (vx t) (Nl K l f H n):=λH' Q b st kk=>h H' _ b st λvs H2 b2 cQ le al=>by
 let sz:=cK;apply#[by omega,λq hq=>?_];let s4:=aa.new (o:=.lst vs) hq;exact kk _ _ (b2.trans (aM.of s4)) (cQ.same s4) #[q,vs,U,j3 cQ hq,Gx (b.trans b2) cQ hq,aA,by omega,λz hz=>(al z hz).same s4]
theorem El.kp(h:El K l f H v)(k:Kp l f H H')(st:bJ H l){vs:ag}(e:H f\.lst vs):El K l f H' v:=by
 let#[xs,e2]:=st.some;exact h.keep (λc ys q=>k _ _ q (bO q e2 nofun) (bO q e nofun)) λc ys q n1 n2=>k _ _ q n1 n2
theorem kj.kp(h:kj n H v)(k:Kp l f H H')(st:bJ H l){vs:ag}(e:H f\.lst vs):kj n H' v:=by
 let#[t,os,q,ht,le]:=h;let#[xs,e2]:=st.some;exact#[t,os,q,k _ _ ht (bO ht e2 nofun) (bO ht e nofun),le]
end
end Ev
namespace Ev
open PySem L2
theorem yf{l:Addr}{σ:St}{H:Hp}{R:Hp->V->Prop}{t:TE}{u:TS}{i:Nat}{D:Ends}(h:Ge l σ H t R)(st:bJ H l)(k:∀v H2,aM l H H2->bJ H2 l->R H2 v->u D (σ.set i (some v)) H2):qE (vz t (jx i)) u D σ H:=h H _ (aM.refl _ _) st k
theorem LY{α:Type}{p:α->Prop}{xs:List α}{r:Int}(h0:0<=r)(h1:r<xs.length)(h:∀x∈xs,p x):∃x,ib xs r\x/\p x:=by
 have l:r.toNat<xs.length:=by omega
 let#[n,rfl]:=w4 h0;exact#[xs[n],L2.cZ (aX Y0),h _ (ke _)]
section v
theorem oz:bQ [gL,"_law_shut",j5,mE,wC,"_law_k","_law_spot","_law_number","_law_other","_law_at","_law_odd","_law_thing"] uv (a_ OH):=bZ
inductive Oc (K:af) (vs:ag) (H:Hp) (Q:VK) (E:XK):Prop
 |mk:∀(l lS lh:Addr) (vp:V) (yh ys:ag) (hs:Xa) (es:List (au × Nat)),vs=[.ref l,.ref lS,.ref lh,vp]->bJ H l->H lS\.lst ys->lS≠l->ft H ys es->es.length<=300->(∀e∈es,e.1.length<=64/\e.2<=100)->H lh\.lst yh->lh≠l->bS K H yh (hs.map kH)->1<=hs.length->hs.length<=8->(∀r f zs H',aM l H H'->bJ H' l->H' r\.lst zs->r≠l->(∀z∈zs,Bd K l f H' z)->Q (.ref r) H')->Oc K vs H Q E
set_option maxHeartbeats 3200000 in
theorem fU_{f:Addr}{fd:Ae}(F:bu K "_law_changed" "_law_changed" OH f fd)(B:Bi mg)(cD:!bF 1 tV uY wO):!ak bc 2 f fd uv (Oc K):=by
 exists F.bW oz;let#[l,lS,lh,vp,yh,ys,hs,es,rfl,st,hS,nS,ea,e3,ec,eZ,nh,tu,h1,h8,k]:=h;let sz:=cK;let les:=bI ea;refine' #[_,?c0,?kk]
 case' c0=>refine' ax ?s1 ?c1
 case' c1=>refine' ax ?s2 ?c2
 case' c2=>refine' ax ?s3 ?c3
 case' c3=>refine' ax ?s4 ?c4
 case' c4=>refine' aJ ?s5
 case' s1=>refine' bw 4 oz.nd ?t1
 case t1=>exact eJ %[1,br ql (pv 1) (jg tY (pv 1) jc (je ay)),YU (pv 1) (Be Bp ay)|0]
 case' s2=>refine' d9 dU U (qq (by rfl) B.range %[bT gx (by rfl) B.len fN %[1|0]|0]) (bX 5 oz.nd) (ax ?b1 (ax ?b2 (aJ ?b3)))
 case b1=>exact Br (bg fX (pv 1) (pv 5)) (jv U (di (bX 6 oz.nd) (di (bX 7 oz.nd) hW)))
 case b2=>exact j9 (kQ kP qi qj pI (pv 4) %[br ql (jg tY (pv 1) jc (je (pv 5))) (jg tY (pv 1) (je (br fG (pv 5) ay)) jc)|0])
 case' b3=>refine' d9 dU U (d5 (eJ %[br fG (pv 7) ay,br CB (pv 7) ay,ay|0])) (bX 8 oz.nd) (aJ ?d1)
 case d1=>exact j9 (kQ kP qi qj pI (pv 4) %[br ql (br ql (jg tY (pv 1) jc (je (pv 5))) (eJ %[dD %[6,8|0]|0])) (jg tY (pv 1) (je (br fG (pv 5) ay)) jc)|0])
 case s3=>exact bw 9 oz.nd (bj cD hr %[0,bT (gv_ U) (by rfl) B.max PyProof.Rows.Boot.«max» %[ay,bT gx (by rfl) B.len fN %[1|0]|0]|0])
 case' s4=>refine' b_ (eP (NO (kU hr 0)) (pv 1) (eJ bR)) ?f0 cm
 case' f0=>refine' ax ?f1 ?g1
 case' g1=>refine' ax ?f2 ?g2
 case' g2=>refine' ax ?f3 ?g3
 case' g3=>refine' ax ?f4 ?g4
 case' g4=>refine' aJ ?f5
 case f1=>exact Br (bg fX (pv 1) (pv 9)) (jv U (di (bX 6 oz.nd) (di (bX 7 oz.nd) hW)))
 case' f2=>refine' d9 dU U (qq (by rfl) B.range %[bT gx (by rfl) B.len fN %[6|0]|0]) (bX 5 oz.nd) (ax ?h1 (aJ ?h2))
 case h1=>exact bw 8 oz.nd (bg cj (bg fX (pv 2) (bj cD hr %[0,bT gx (by rfl) B.len fN %[2|0]|0])) ay)
 case h2=>exact j9 (kQ kP qi qj pI (pv 4) %[br ql (br ql (jg tY (pv 1) jc (je (pv 9))) (eJ %[dD %[br wN (br wN (jg IZ (pv 6) jc (je (pv 5))) (dD %[8|0])) (jg IZ (pv 6) (je (br fG (pv 5) ay)) jc),7|0]|0])) (jg tY (pv 1) (je (br fG (pv 9) ay)) jc)|0])
 case' f3=>refine' bw 10 oz.nd ?o1
 case' o1=>refine' eJ %[ow,6,?o2,?o3,?o4,?o5,?o6,?o7|0]
 case o2=>exact dD %[6|0]
 case o3=>exact dD %[6,7,ay|0]
 case o4=>exact eJ %[6,7|0]
 case o5=>exact dD %[gS Pe (by rfl) B.list qf %[6|0],7|0]
 case o6=>exact dD %[6,jw|0]
 case o7=>exact dD %[6,j0|0]
 case' f4=>refine' bw 10 oz.nd (br ql (pv 10) ?q1)
 case' q1=>refine' eJ %[?q2,?q3,?q4,ay|0]
 case q2=>exact dD %[br wN (pv 6) (dD %[bg cj (bg fX (pv 2) ay) ay|0]),7|0]
 case q3=>exact dD %[br wN (jg IZ (pv 6) (je ay) jc) (dD %[j0|0]),7|0]
 case q4=>exact dD %[br wN (jg IZ (pv 6) jc (je (Be Bp ay))) (dD %[ow|0]),7|0]
 case' f5=>refine' d9 dU U (d5 (pv 10)) (bX 11 oz.nd) (ax ?r1 (aJ ?r2))
 case r1=>exact j9 (kQ kP qi qj pI (pv 4) %[br ql (br ql (jg tY (pv 1) jc (je (pv 9))) (eJ %[11|0])) (jg tY (pv 1) (je (br fG (pv 9) ay)) jc)|0])
 case r2=>exact j9 (kQ kP qi qj pI (pv 4) %[br ql (pv 1) (eJ %[11|0])|0])
 case s5=>exact bp (br ql (pv 4) (eJ %[ow,gS JM (by rfl) B.tuple oC %[1|0],gS (Pd U (kU hr 1)) (by rfl) B.dict qg %[1|0],eJ bR|0]))
 have tupK:∀{Ha Hb:Hp},bJ Ha l->aM l Ha Hb->∀{c xs},Ha c\.tup xs->Hb c\.tup xs:=λ{Ha Hb} sa b {c xs} e=>by
  let#[xs,e2]:=sa.some;exact b _ _ e (bO e e2 nofun)
 apply#[_,U,_,U,_,U,_,U,lS,ys,U,.of hS,λa1 n1=>?_];let#[s1,k1]:=aC (o:=.lst (cq ys none (some 1))) n1;generalize upd H a1 (.lst (cq ys none (some 1)))=H1 at s1 k1 ⊢;let lc:=GB ys none (some 1);apply#[lS,a1,_,_,U,U,s1 _ _ hS,k1,by omega,λa2 n2=>?_];let#[s2,k2]:=aC (o:=.lst (ys++cq ys none (some 1))) n2;generalize upd H1 a2 (.lst (ys++cq ys none (some 1)))=H2 at s2 k2 ⊢;apply#[_,U,_,U,U,lS,ys,U,.of (s2 _ _ (s1 _ _ hS)),λa3 n3=>?_];let#[s3,k3]:=aC (o:=.lst ys.reverse) n3;generalize upd H2 a3 (.lst ys.reverse)=H3 at s3 k3 ⊢;apply#[zl,λlf xP=>?_];let#[s4,k4]:=aC (o:=.lst [.ref lS,.ref a2,.ref a3]) xP;let fI:=s1.trans (s2.trans (s3.trans s4));have QF:lS≠lf:=bG (s3 _ _ (s2 _ _ (s1 _ _ hS))) xP;have Xk:lh≠lf:=bG (s3 _ _ (s2 _ _ (s1 _ _ eZ))) xP;have Xt:a2≠lf:=bG (s3 _ _ k2) xP;have Xr:a3≠lf:=bG k3 xP;have QC:lf≠l:=j3 (st.same (s1.trans (s2.trans s3))) xP;have Xs:a2≠l:=j3 (st.same s1) n2;have Xq:a3≠l:=j3 (st.same (s1.trans s2)) n3;let Ln:=s4 _ _ (s3 _ _ k2);let Lm:=s4 _ _ k3;have hf0:H lf=none:=(s1.trans (s2.trans s3)).free xP;generalize upd H3 lf (.lst [.ref lS,.ref a2,.ref a3])=H4 at s4 k4 fI Ln Lm ⊢;let gU:=st.same fI;let Mp:=fI _ _ hS;have T9:ft H4 ys es:=Paired.aQ ea λy e ⟨a,t,q,h1,h2⟩=>#[a,t,q,fI _ _ h1,fI _ _ h2];have i6:∀y∈ys,El K l lf H4 y:=Q0 T9
 have F4:kD K l lf 3 H4:=#[gU,QC,_,k4,a9 _,λv hv=>by
  have bd:∀a zs,a≠l->a≠lf->H4 a\.lst zs->zs.length<=800->(∀z∈zs,z∈ys)->Bd K l lf H4 (.ref a):=λa zs h1 h2 h3 h4 h5=>.inr (.inr (.inr #[a,zs,U,h1,h2,h3,h4,λz hz=>i6 z (h5 z hz)]));simp only[cg,ig,or_false] at hv;rcases hv with rfl|rfl|rfl
  ·exact bd lS ys nS QF Mp Y0 λz hz=>hz
  ·apply bd a2 _ Xs Xt Ln (by rw[dN];omega) λz hz=>?_;rcases dE.mp hz with hz|hz
   ·exact hz
   unfold cq at hz;exact List.mem_of_mem_drop (List.mem_of_mem_take hz)
  exact bd a3 _ Xq Xr Lm (by rw[List.length_reverse];omega) λz hz=>List.mem_reverse.mp hz]
 clear s1 k1 n1 s2 k2 n2 s3 k3 n3 s4 xP Ln Lm lc
 have cB:∀{H':Hp},Kp l lf H4 H'->H' lS\.lst ys/\ft H' ys es/\(∀y∈ys,El K l lf H' y)/\H' lh\.lst yh/\bS K H' yh (hs.map kH):=λ{H'} kp=>by
  let#[xs,e2]:=gU.some;have kt:∀b xs,H4 b\.tup xs->H' b\.tup xs:=λb xs e=>kp _ _ e (bO e e2 nofun) (bO e k4 nofun);apply#[kp _ _ Mp nS QF,Paired.aQ T9 λy e ⟨a,t,q,h1,h2⟩=>#[a,t,q,kt _ _ h1,kt _ _ h2],λy hy=>(i6 y hy).kp kp gU k4,kp _ _ (fI _ _ eZ) nh Xk,Paired.aQ tu λy p ⟨c,e,hc⟩=>#[c,e,kt _ _ (fI _ _ hc)]]
 let T:St:=[some (.ref l),some (.ref lS),some (.ref lh),some vp,some (.ref lf)]
 have three:∀{σ:St} {H':Hp} {tx:TE} {tl th:TO} {i j:Option Int},σ[1]? = some (some (.ref lS))->Kp l lf H4 H'->bJ H' l->Go l σ H' tl i->Ge l σ H' tx (λH2 v=>El K l lf H2 v)->Go l σ H' th j->Ge l σ H' (mX oU (mX oU (Dk (si K) (dj 1) Jd tl) (vx (p7 tx gG))) (Dk (si K) (dj 1) th Jd)) (Nl K l lf H' (300+1+300)):=λh1 kp dY o1 hx o2=>by
  let#[q1,_,q3,_]:=cB kp;exact tI (tI (we (n:=300) h1 q1 nS dY q3 Y0 yB o1) (yg hx) (by decide)) (we (n:=300) h1 q1 nS dY q3 Y0 o2 yB) (by decide)
 lk;apply oO (λσ H'=>∃(v5 v6 v7 v8:aE),σ=[some (.ref l),some (.ref lS),some (.ref lh),some vp,some (.ref lf),v5,v6,v7,v8,none,none,none]/\Kp l lf H4 H'/\kD K l lf (3+4 * es.length) H') ?later (λN hN=>?now)
 case now=>
  apply#[_,U,lS,ys,U,.inl (.of Mp),_,U,by show (-(2 ^ 62):Int)<=(ys.length:Int);omega,by show (ys.length:Int)<2 ^ 62;omega,?_];apply ua (lo:=0) (n:=((ys.length:Nat):Int).toNat) (λi σ H'=>∃(v5 v6 v7 v8:aE),σ=[some (.ref l),some (.ref lS),some (.ref lh),some vp,some (.ref lf),v5,v6,v7,v8,none,none,none]/\Kp l lf H4 H'/\kD K l lf (3+4 * i) H') #[_,_,_,_,U,Kp.refl _ _ _,F4] ?_ ?_
  ·rintro i σ H5 hi ⟨v5,v6,v7,v8,rfl,Ar,F5⟩;have hi:i<ys.length:=by omega
   let#[Fq,ea5,uQ,_,_]:=cB Ar;rw[show (0:Int)+(i:Nat)=(i:Int) by omega];obtain⟨e,he,a',t',eq,ha,h_⟩:∃e,es[i]? = some e/\∃a t,ys[i]=.ref a/\H5 a\.tup [.ref t,.int (e.2:Nat)]/\H5 t\.tup (sV e.1):=#[es[i]' Y0,aX Y0,dP ea5 i hi Y0];apply#[_,U,_,U,lS,_,i,_,U,U,.of Fq,L2.cZ (by rw[aX hi,eq]),a',_,U,.of ha,U,_,_,U,_,_,U,U,?_];have io:∀{σ:St} {Hb:Hp},σ[5]? = some (some (V.int i))->Go l σ Hb (yx (dj 5)) (some (i:Int)):=λh=>yy (p6 h λ_ _ _=>rfl);have ip:∀{σ:St} {Hb:Hp},σ[5]? = some (some (V.int i))->Go l σ Hb (yx (mX (sr λi j=>.int (i+j)) (dj 5) (tC (.int 1)))) (some ((i:Int)+1)):=λh=>yy λH' Q b st k=>#[_,h,_,_,U,U,k _ _ (aM.refl _ _) st U];obtain⟨xN,Cu⟩:∃os:List (Option Str),sV e.1=os.map oV:=#[e.1.map some,by rw[cA];rfl];have Hd:kj 64 H5 (.ref t'):=#[t',xN,U,by rw[<- Cu];exact h_,by have:=eY List.length Cu;rw[aq,aq] at this;have:=(ec e (cJ he)).1;omega];apply jU (i:=4) U F5 Y0 (tI (we (n:=300) U Fq nS F5.st uQ Y0 yB (io U)) (we (n:=300) U Fq nS F5.st uQ Y0 (ip U) yB) (by decide)) (by decide) λH6 Ep F6=>?_;let HN:=Ar.trans Ep;apply#[_,U,_,_,U,U,_,U,_,_,U,U,zl,λlo KY=>?_];let#[s7,k7]:=aC (o:=.lst [.int ((e.2:Nat)+1),.int ((e.2:Nat) - 1),.int 0]) KY;have KR:lo≠l:=j3 F6.st KY
   have Qy:lo≠lf:=by
    let#[_,_,vs,e,_]:=F6;exact (bG e KY).symm
   have F7:kD K l lf (3+4 * i+1) (upd H6 lo (.lst [.int ((e.2:Nat)+1),.int ((e.2:Nat) - 1),.int 0])):=F6.but (aM.of s7) (F6.st.same s7);have uJ:Kp l lf H4 (upd H6 lo (.lst [.int ((e.2:Nat)+1),.int ((e.2:Nat) - 1),.int 0])):=HN.trans (Kp.but (aM.of s7));let Eo:=Ep.trans (Kp.but (l:=l) (f:=lf) (aM.of s7));generalize upd H6 lo (.lst [.int ((e.2:Nat)+1),.int ((e.2:Nat) - 1),.int 0])=H7 at s7 k7 F7 uJ Eo ⊢;let#[_,_,vs5,ef5,_]:=id F5;apply#[lo,U,#[_,.of k7],ie (K:=K) (a:=lo) (xs:=[.int ((e.2:Nat)+1),.int ((e.2:Nat) - 1),.int 0]) (λj σ H'=>∃(v8:aE),σ=[some (.ref l),some (.ref lS),some (.ref lh),some vp,some (.ref lf),some (.int i),some (.ref t'),some (.int (e.2:Nat)),v8,none,none,none]/\Kp l lf H4 H'/\Kp l lf H5 H'/\H' lo\.lst [.int ((e.2:Nat)+1),.int ((e.2:Nat) - 1),.int 0]/\kD K l lf (3+4 * i+1+j) H') #[_,U,uJ,Eo,k7,F7] (λj σ H' _ ⟨_,_,_,_,z,_⟩=>.of z) ?_ ?_]
   ·rintro j y σ H8 hy ⟨v8,rfl,pQ,En,k8,F8⟩;have hj:j<3:=(cw.mp hy).1
    obtain⟨m,rfl⟩:∃m,y=.int m:=by
     have:=cJ hy;simp only[cg,ig,or_false] at this;rcases this with rfl|rfl|rfl<;>exact#[_,U]
    let Kw:=Hd.kp En F5.st ef5;apply jU (i:=4) U F8 Y0 (three U pQ F8.st (io U) (Bc (p6 U λH' b st=>Kw.but b F8.st) (p6 U λ_ _ _=>#[some m,λ_=>rfl])) (ip U)) (by decide) λH9 Aq F9=>?_;exact#[_,U,pQ.trans Aq,En.trans Aq,Aq _ _ k8 KR Qy,F9]
   rintro σ H8 ⟨v8,rfl,pQ,_,_,F8⟩;exact#[_,_,_,_,U,pQ,F8.more (by show 3+4 * i+1+3<=3+4 * (i+1);omega)]
  rintro σ H5 ⟨v5,v6,v7,v8,rfl,Ar,F5⟩;exact hN _ _ #[v5,v6,v7,v8,U,Ar,by rw[show ((ys.length:Nat):Int).toNat=es.length by omega] at F5;exact F5]
 rintro σ H5 ⟨v5,v6,v7,v8,rfl,Ar,F5⟩;let#[Fq,_,_,_,_]:=cB Ar;apply#[_,U,_,U,lS,ys,U,.inl (.of Fq),1,(ys.length:Int),U,l,_,U,by split<;>omega,by split<;>omega,F5.st,λa H6 a0 a1 b6 iO=>?_]
 let#[an,rfl]:=w4 a0;let F6:=F5.but b6 iO;let HN:=Ar.trans (Kp.but (l:=l) (f:=lf) b6);lk;apply oO (λσ H'=>∃(v5 v6 v7 v8 v9 va vb:aE),σ=[some (.ref l),some (.ref lS),some (.ref lh),some vp,some (.ref lf),v5,v6,v7,v8,v9,va,vb]/\Kp l lf H4 H'/\kD K l lf 5000 H') ?Ao (λN hN=>?zX)
 case zX=>
  let#[hS6,_,_,_,_]:=cB HN;apply#[_,U,zl,λle zZ=>?_];let#[s7,k7]:=aC (o:=.lst []) zZ;let F7:=F6.but (aM.of s7) (iO.same s7);let uJ:=HN.trans (Kp.but (l:=l) (f:=lf) (aM.of s7));generalize upd H6 le (.lst [])=H7 at s7 k7 F7 uJ ⊢;let#[Fp,yo,wu,hlh7,Kd]:=cB uJ;apply#[lS,le,ys,U,U,.of Fp,.of k7,_,U,?_];apply bH (λcn=>?_) (λcn=>?_);rotate_left 1
  ·exact hN _ _ #[_,_,_,_,_,_,_,U,uJ,F7.more Y0]
  have hi:an<ys.length:=by
   have:ys.length≠0:=λz=>by
    rw[List.length_eq_zero_iff.mp z] at cn;cases cn
   split at a1<;>omega
  obtain⟨e,he,a',t',eq,ha,h_⟩:∃e,es[an]? = some e/\∃a t,ys[an]=.ref a/\H7 a\.tup [.ref t,.int (e.2:Nat)]/\H7 t\.tup (sV e.1):=#[es[an]' Y0,aX Y0,dP yo an hi Y0];apply#[_,U,_,U,lS,_,an,_,U,U,.of Fp,L2.cZ (by rw[aX hi,eq]),a',_,U,.of ha,U,_,_,U,_,_,U,U,?_];dsimp only[List.set];obtain⟨xN,Cu⟩:∃os:List (Option Str),sV e.1=os.map oV:=#[e.1.map some,by rw[cA];rfl]
  have B4:xN.length<=64:=by
   have:=eY List.length Cu;rw[aq,aq] at this;have:=(ec e (cJ he)).1;omega
  have xx:kj 64 H7 (.ref t'):=#[t',xN,U,by rw[<- Cu];exact h_,B4];let#[_,_,BQ,uS,_]:=id F7;have ao:∀{σ:St} {Hb:Hp},σ[9]? = some (some (V.int an))->Go l σ Hb (yx (dj 9)) (some (an:Int)):=λh=>yy (p6 h λ_ _ _=>rfl);have ap:∀{σ:St} {Hb:Hp},σ[9]? = some (some (V.int an))->Go l σ Hb (yx (mX (sr λi j=>.int (i+j)) (dj 9) (tC (.int 1)))) (some ((an:Int)+1)):=λh=>yy λH' Q b st k=>#[_,h,_,_,U,U,k _ _ (aM.refl _ _) st U];have num:∀{σ:St} {Hb:Hp},σ[7]? = some (some (V.int (e.2:Nat)))->Ge l σ Hb (dj 7) λ_ v=>∃o,∀H',mP K H' v o:=λh=>p6 h λ_ _ _=>#[some _,λ_=>rfl];apply oO (λσ H'=>∃(v5 v8:aE),σ=[some (.ref l),some (.ref lS),some (.ref lh),some vp,some (.ref lf),v5,some (.ref t'),some (.int (e.2:Nat)),v8,some (.int an),none,none]/\Kp l lf H4 H'/\Kp l lf H7 H'/\kD K l lf (3+4 * es.length+xN.length) H') ?An (λN3 Cp=>?zW)
  case zW=>
   have lsv:(sV e.1).length=xN.length:=by rw[Cu,aq]
   apply#[_,U,t',_,U,.inr (.of h_),_,U,by show (-(2 ^ 62):Int)<=((sV e.1).length:Int);omega,by show ((sV e.1).length:Int)<2 ^ 62;omega,?_];apply ua (lo:=0) (n:=(((sV e.1).length:Nat):Int).toNat) (λi σ H'=>∃(v5 v8:aE),σ=[some (.ref l),some (.ref lS),some (.ref lh),some vp,some (.ref lf),v5,some (.ref t'),some (.int (e.2:Nat)),v8,some (.int an),none,none]/\Kp l lf H4 H'/\Kp l lf H7 H'/\kD K l lf (3+4 * es.length+i) H') #[_,_,U,uJ,Kp.refl _ _ _,F7] ?_ ?_
   ·rintro i σ H8 hi ⟨v5,v8,rfl,pQ,iY,F8⟩;let#[_,_,_,EZ,G0]:=cB pQ;rw[show (0:Int)+(i:Nat)=(i:Int) by omega];let ly:=bI G0;rw[aq] at ly;apply#[_,U,_,U,_,U,lh,_,U,.inl (.of EZ),l,_,U,by omega,by omega,F8.st,λr H9 r0 r1 b9 il=>?_];let F9:=F8.but b9 il;let B6:=pQ.trans (Kp.but (l:=l) (f:=lf) b9);let vR:=iY.trans (Kp.but (l:=l) (f:=lf) b9);let#[_,_,_,AG,BS]:=cB B6
    let#[y,hy,u,x,rfl,hu]:=LY (p:=λy:V=>∃(u:Addr) (x:Str × Int),y=.ref u/\H9 u\.tup [.str x.1,.int x.2]) (xs:=yh) r0 r1 (λy hy=>by
     let#[j,hj,rfl]:=gB hy;let#[u,e,hu]:=dP BS j hj (by rw[aq];omega);rw[w9] at hu;exact#[u,_,e,uL hu])
    apply#[lh,_,r,.ref u,U,U,.of AG,hy,u,_,0,_,U,U,.of hu,L2.cZ (j:=0) U,?_];apply setG ?_;dsimp only[List.set];let vC:=xx.kp vR F7.st uS;have io:∀{σ:St} {Hb:Hp},σ[5]? = some (some (V.int i))->Go l σ Hb (yx (dj 5)) (some (i:Int)):=λh=>yy (p6 h λ_ _ _=>rfl);have ip:∀{σ:St} {Hb:Hp},σ[5]? = some (some (V.int i))->Go l σ Hb (yx (mX (sr λi j=>.int (i+j)) (dj 5) (tC (.int 1)))) (some ((i:Int)+1)):=λh=>yy λH' Q b st k=>#[_,h,_,_,U,U,k _ _ (aM.refl _ _) st U];apply jU (i:=4) U F9 Y0 (three U B6 F9.st (ao U) (Bc (FX (FX (oq U vC F9.st yB (io U)) (IR (p6 U λ_ _ _=>#[some x.1,U])) (by decide)) (oq U vC F9.st (ip U) yB) (by decide)) (num U)) (ap U)) (by decide) λHA HM FA=>?_;exact#[_,_,U,B6.trans HM,vR.trans HM,FA]
   rintro σ H8 ⟨v5,v8,rfl,pQ,iY,F8⟩;exact Cp _ _ #[_,_,U,pQ,iY,by rw[show (((sV e.1).length:Nat):Int).toNat=xN.length by omega] at F8;exact F8]
  rintro σ H8 ⟨v5,v8,rfl,pQ,iY,F8⟩;let#[hS8,_,el8,EZ,G0]:=cB pQ;let Kw:=xx.kp iY F7.st uS;let#[ni,_,vs8,T1,_]:=id F8;have qO:∀{σ:St},σ[6]? = some (some (V.ref t'))->Ge l σ H8 (dj 6) (kj 64):=λh=>p6 h λH' b st=>Kw.but b ni
  have x1:∀{σ:St},σ[6]? = some (some (V.ref t'))->Ge l σ H8 (dj 6) (λH2 v=>El K l lf H2 v):=λh=>p6 h λH' b st=>by
   let#[u,os,e1,hu,_]:=xx.kp iY F7.st uS;cases e1
   have hu:H8 t'\.tup (sV e.1):=by
    let#[xs,e2]:=F7.st.some;exact iY _ _ h_ (bO h_ e2 nofun) (bO h_ uS nofun)
   apply .tup t' _ (tupK ni b hu) ?_;cases e.1 with
   |nil=>exact .inl (by show (0:Nat)≠2;decide)
   |cons x r=>exact .inr #[x,_,U]
  have HV:∀{H':Hp},aM l H8 H'->H' t'\.tup (sV e.1):=λb=>by
   let#[xs,e2]:=F7.st.some;exact tupK ni b (iY _ _ h_ (bO h_ e2 nofun) (bO h_ uS nofun))
  have tp:∀{σ:St} {t:TA} {n:Nat},(∀(H':Hp) (Q:ag->Hp->Prop),aM l H8 H'->bJ H' l->(∀vs,vs.length=n->Q vs H')->t σ H' Q)->n<=3->n≠2->Ge l σ H8 (qB t) (λH2 v=>El K l lf H2 v):=λ{σ t n} h n3 n2 H' Q b st kk=>h H' _ b st λvs le=>by
   apply#[by omega,λq hq=>?_];let s9:=aa.new (o:=.tup vs) hq;exact kk _ _ (aM.of s9) (st.same s9) (.tup q vs aA (.inl Y0))
  have fr:∀{H':Hp} {q:Addr},aM l H8 H'->H' q=none->q≠lf:=λb hq z=>by
   rw[z,b _ _ T1 QC] at hq;cases hq
  apply yf (yi (f:=lf) (K:=K) (qo (A1 λ_=>.non) (qo (x1 U) (qo (tp (n:=1) (λH' Q b st k=>#[_,U,k _ U]) (by decide) (by decide)) (qo (tp (n:=3) (λH' Q b st k=>#[_,U,_,U,k _ U]) (by decide) (by decide)) (qo ?o4 (qo ?o5 (qo (Bc (qO U) (A1 λ_=>#[none,λ_=>.inl #[true,U]])) (qo (Bc (qO U) (A1 λ_=>#[none,λ_=>.inr #[_,.str _,U]])) yj)))))))) (by decide)) ni λv9 H9 b9 il r9=>?_
  case o4=>
   intro H' Q b st kk;apply#[_,U,_,U,zl,λq hq=>?_];let s9:=aa.new (o:=.lst [.ref t',.int (e.2:Nat)]) hq;exact kk _ _ (aM.of s9) (st.same s9) (.lst q _ (j3 st hq) (fr b hq) aA)
  case o5=>
   intro H' Q b st kk;apply#[_,U,t',_,U,.inr (.of (HV b)),λq hq=>?_];let#[s9,k9]:=aC (o:=.lst (sV e.1)) hq;let nq:=j3 st hq;let Xc:=fr b hq;generalize upd H' q (.lst (sV e.1))=H9 at s9 k9 ⊢;apply#[_,U,zl,λu hu=>?_];let sA:=aa.new (o:=.tup [.ref q,.int (e.2:Nat)]) hu;exact kk _ _ (aM.of (s9.trans sA)) (st.same (s9.trans sA)) (.tupL u q _ _ aA nq Xc (sA _ _ k9))
  let#[lo,zo,rfl,KR,Qz,ho,Xy,elo]:=r9;let F9:=F8.but b9 il;let B6:=pQ.trans (Kp.but (l:=l) (f:=lf) b9);let vR:=iY.trans (Kp.but (l:=l) (f:=lf) b9);let#[hS9,_,yk,AG,BS]:=cB B6;let#[_,_,Dc,ef9,_]:=id F9
  have Qy:lo≠lf:=λz=>by
   rw[z,T1] at Qz;cases Qz
  let vC:=xx.kp vR F7.st uS;dsimp only[List.set];let Hw:=bI BS;rw[aq] at Hw
  have h00:∀{σ:St},σ[2]? = some (some (V.ref lh))->Ge l σ H9 (mX (jF K) (mX (vI K) (dj 2) (tC (.int 0))) (tC (.int 0))) λ_ v=>∃o,v=oV o:=λh2 H' Q b st kk=>by
   let#[u,eu,hu]:=dP BS 0 Y0 (by rw[aq];omega);rw[w9] at hu;apply#[_,h2,lh,_,0,_,U,U,.of (b _ _ AG nh),L2.cZ (j:=0) (by rw[aX Y0,eu]),u,_,0,_,U,U,.of (tupK il b (uL hu)),L2.cZ (j:=0) U,?_];exact kk _ _ (aM.refl _ _) st #[some _,U]
  have DD:∀{σ:St},σ[6]? = some (some (V.ref t'))->Ge l σ H9 (dj 6) (kj 64):=λh=>p6 h λH' b st=>vC.but b il;apply yf (tH (f:=lf) (K:=K) (i:=10) U ho KR il elo Xy (yi (qo (Bc (FX (DD U) (IR (h00 U)) (by decide)) (num U)) (qo (Bc (FX (oq U vC il (yy (A1 λ_=>rfl)) yB) (IR (A1 λ_=>#[some _,U])) (by decide)) (num U)) (qo (Bc (FX (oq U vC il yB (yy (i:=-1) ?um)) (IR (A1 λ_=>#[none,U])) (by decide)) (num U)) (qo (A1 λ_=>.int 7) yj)))) (by decide)) (by decide)) il λvA HA bA Dz rA=>?_
  case um=>
   intro H' Q b st kk;exact#[_,U,kk _ _ (aM.refl _ _) st U]
  let#[lp,zp,rfl,Xd,Qx,hp,lzp,TF]:=rA;let FA:=F9.but bA Dz;let HM:=B6.trans (Kp.but (l:=l) (f:=lf) bA)
  have Xe:lp≠lf:=λz=>by
   rw[z,ef9] at Qx;cases Qx
  dsimp only[List.set];let#[_,_,vsA,TZ,_]:=id FA;apply#[_,U,lp,U,#[_,.of hp],ie (K:=K) (a:=lp) (xs:=zp) (λj σ H'=>∃(vb:aE),σ=[some (.ref l),some (.ref lS),some (.ref lh),some vp,some (.ref lf),v5,some (.ref t'),some (.int (e.2:Nat)),v8,some (.int an),some (.ref lp),vb]/\Kp l lf H4 H'/\Kp l lf HA H'/\kD K l lf (3+4 * es.length+xN.length+2 * j) H') #[_,U,HM,Kp.refl _ _ _,FA] (λj σ H' _ ⟨_,_,_,z,_⟩=>.of (z _ _ hp Xd Xe)) ?_ ?_]
  ·rintro j y σ HB hy ⟨vb,rfl,HK,Em,FB⟩;let hj:=(cw.mp hy).1;let ey:=(TF y (cJ hy)).kp Em FA.st TZ;apply jU (i:=4) U FB Y0 (three U HK FB.st (ao U) (p6 U λH' b st=>ey.but b FB.st) (ap U)) (by decide) λHC Ej FC=>?_;let QV:=HK.trans Ej;let Ek:=Em.trans Ej;let#[hSC,_,IQ,_,_]:=cB QV;let ey:=(TF y (cJ hy)).kp Ek FA.st TZ;apply jU (i:=4) U FC Y0 (tH (n:=300) (i:=1) U hSC nS FC.st IQ Y0 (yg (p6 U λH' b st=>ey.but b FC.st)) (by decide)) (by decide) λHD Ei FD=>?_;exact#[_,U,QV.trans Ei,Ek.trans Ei,FD]
  rintro σ HB ⟨vb,rfl,HK,_,FB⟩;exact hN _ _ #[_,_,_,_,_,_,_,U,HK,FB.more Y0]
 rintro σ H7 ⟨v5,v6,v7,v8,v9,va,vb,rfl,uJ,F7⟩;let#[Fp,yo,wu,_,_]:=cB uJ;let#[gz,_,vs,uS,lv,al7]:=id F7;have Xi:es.length<=1000:=by omega
 apply#[_,U,_,U,lS,ys,U,.inl #[.of Fp,λt nt=>?_]];let#[s8,k8]:=aC (o:=.tup ys) nt;generalize upd H7 t (.tup ys)=H8 at s8 k8 ⊢;apply#[_,U,lS,ys,gf es,U,s8 _ _ Fp,Jq (Paired.aQ yo λy e ⟨a,t,q,h1,h2⟩=>#[a,t,q,s8 _ _ h1,s8 _ _ h2]),by unfold gf;rw[aq];exact Xi,λnd iU=>?_];generalize hkv:yG _ _=kv;let#[s9,k9]:=aC (o:=.dT kv) iU;have K2:nd≠l:=j3 (gz.same s8) iU;have Xl:nd≠lf:=(bG (s8 _ _ uS) iU).symm;generalize upd H8 nd (.dT kv)=H9 at s9 k9 ⊢;apply#[zl,λle zZ=>?_];let#[sA,kA]:=aC (o:=.lst []) zZ;have XQ:le≠l:=j3 ((gz.same s8).same s9) zZ;have XR:le≠lf:=(bG (s9 _ _ (s8 _ _ uS)) zZ).symm;generalize upd H9 le (.lst [])=HA at sA kA ⊢;apply#[zl,λl4 KZ=>?_];let#[sB,kB]:=aC (o:=.lst [.non,.ref t,.ref nd,.ref le]) KZ;generalize upd HA l4 (.lst [.non,.ref t,.ref nd,.ref le])=HB at sB kB ⊢;let KF:=(s8.trans s9).trans (sA.trans sB);apply#[lf,l4,vs,_,U,U,KF _ _ uS,kB,by show vs.length+4<=sizeLine;omega,λr nr=>?_];let#[sC,kC]:=aC (o:=.lst (vs++[.non,.ref t,.ref nd,.ref le])) nr;have W_:r≠l:=j3 (gz.same KF) nr;generalize upd HB r (.lst (vs++[.non,.ref t,.ref nd,.ref le]))=HC at sC kC ⊢;let KD:=KF.trans sC;apply k r lf _ HC (λb o e n=>?_) (gz.same KD) kC W_ λz hz=>?_
 ·exact KD _ _ (uJ _ _ (fI _ _ e) n (bG e hf0))
 rcases dE.mp hz with hz|hz
 ·exact (al7 z hz).but (aM.of KD) gz
 simp only[cg,ig,or_false] at hz;rcases hz with rfl|rfl|rfl|rfl
 ·exact .inl U
 ·exact .inr (.inl #[t,ys,U,sC _ _ (sB _ _ (sA _ _ (s9 _ _ k8)))])
 ·exact .inr (.inr (.inl #[nd,kv,U,K2,Xl,sC _ _ (sB _ _ (sA _ _ k9))]))
 exact .inr (.inr (.inr #[le,[],U,XQ,XR,sC _ _ (sB _ _ kA),by decide,λz hz=>by cases hz]))
end
end Ev
namespace L2
open PySem PySem.Spec PyProof.Rows PySem.W jk c_
theorem dN_{prog:Ad}{w:Af}{K:Type}[DecidableEq K]{knd:HeapKind prog w K}{A:Ag}{E:Aa->Ab->Prop}{s:Ab}{nm:String}{a:Addr}{xs:List (K × Addr × Aa)}{Q:Bool->Ab->Prop}(ha:(a == sysModules)=false)(da:s.heap.DictOfH knd a xs)(hu:knd.room A)(h:Q true s) :
  wpAny (model prog w) A (Builtin.Dict.samePairs nm a a) Q E s:=by
 let#[o,es,ep,ho,_,hd,he,RR,hn]:=id da;have hsz:es.size=xs.length:=size_of_entries he;unfold Builtin.Dict.samePairs Builtin.Dict.showsAll;rw[aD (show ¬(a == sysModules)=true by rw[ha];exact gr)];apply ai (aI (ai (aI ?_)));apply ai (wpAny_dictEntries ho hd ?_);dsimp only;apply ai (wpAny_dictEntries ho hd ?_);rw[aD Y1];apply ai (wpAny_dictEpoch ho hd ?_);apply ai ?_;rw[Std.Legacy.Range.forIn_eq_forIn_range'];simp only[Std.Legacy.Range.size,Nat.sub_zero,Nat.add_sub_cancel,Nat.div_one];apply wpAny_forIn_list _ (λrest q s'=>s'=s/\q=(none,())/\∃i,rest=List.range' i (es.size - i)/\i<=es.size) _ ?_ ?_ _ _ #[U,U,0,by simp,gO _]
 ·rintro x rest q s' ⟨rfl,rfl,i,hr,hi⟩
  have dR:i<es.size:=by
   rcases Nat.lt_or_ge i es.size with h|h
   ·exact h
   rw[Nat.sub_eq_zero_of_le h] at hr;simp at hr
  obtain⟨rfl,EL⟩:x=i/\rest=List.range' (i+1) (es.size - (i+1)):=by
   have e:es.size - i=(es.size - (i+1))+1:=by omega
   rw[e,List.range'_succ] at hr
   injection hr with h1 h2
   exact#[h1,h2]
  apply ai (wpAny_dictEntries ho hd ?_);obtain⟨⟨k,ad,v⟩,hx⟩:∃p,xs[x]? = some p:=#[xs[x]' Y0,aX Y0];have hex:es[x]? = some (entryOfKey knd (k,ad,v)):=by rw[entry_at he,hx];rfl
  rw[hex];show wpAny _ _ (holding [Value.ref ad,v] _ >>= _) _ _ _;let AK:=RR _ (cJ hx);apply ai (gR (ai (wpAny_dictFind_heap hu AK ho hd he RR hn (λno=>absurd hx (no x (ad,v))) λj p hj=>?_)))
  have ej:j=x:=by
   have:=(List.getElem?_inj (l:=xs.map (·.1)) (by rw[aq];exact (cw.mp hj).1) hn).mp (show (xs.map (·.1))[j]? = (xs.map (·.1))[x]? by rw[df,df,hj,hx];rfl);exact this
  subst ej;apply ai (wpAny_dictEntries ho hd ?_);rw[hex];apply gR (SeqAt.EqAt.same v prog w _ _ ?_);show wpAny _ _ (if (!true)=true then _ else _) _ _ _;rw[aD (by decide)];apply ai (wpAny_dictEpoch ho hd ?_);rw[aD Y1];exact aI #[U,U,j+1,EL,dR]
 rintro q s' ⟨rfl,rfl,i,hr,hi⟩;exact aI h
theorem eV_{prog:Ad}{w:Af}{K:Type}[DecidableEq K]{knd:HeapKind prog w K}{A:Ag}{E:Aa->Ab->Prop}{s:Ab}{a:Addr}{xs:List (K × Addr × Aa)}{Q:Aa->Ab->Prop}(ha:(a == sysModules)=false)(da:s.heap.DictOfH knd a xs)(hu:A.units<cLine)(hr:knd.room A.in1)(h:Q (.bool false) s) :
  wpAny (model prog w) A (compareOp .NotEq (.ref a) (.ref a)) Q E s:=by
 apply wpAny_richCompare_same_room (op:=.NotEq) da.typeIs da.typeIs PySem.F.slot_dict_ne (tQ PySem.F.slot_dict_ne da.typeIs PySem.F.entry_dict_ne ?_ (PySem.F.args_dict_ne_2 _ _)) hu;show wpAny _ _ (Builtin.Dict.dictSlotArgs "__ne__" #[[.ref a,.ref a],[]] >>= _) _ _ s;apply ai ?_;unfold Builtin.Dict.dictSlotArgs;apply ai (wpAny_notOrdered_dict da.typeIs ?_);show wpAny _ _ (pure (Value.ref a,Value.ref a)) _ _ s;apply aI ?_;apply ai (wpAny_isInstance (T:="dict") da.typeIs PySem.F.sub_dict_dict ?_);simp only[Bool.not_true,pJ,if_false];apply ai (aI (ai (aI ?_)));apply ai (dN_ ha da hr ?_);apply aI #[_,U,?_,?_]
 ·exact λx=>nomatch x
 simpa using h
def Own(v:V):Prop:=(∃a,v=.ref a)∨v=.non∨∃i,v=.int i
section
variable{X:Cx}
def DT(v:V):Rp Unit:=λ_ x _=>x=v
theorem Bm{v:V}(h:Own v):jm X 0 (DT v) where
 eq:=λ{pins σ H s A x y u w d e} I ru rv hx hy hu=>by
  have hx:x=v:=hx;have hy:y=v:=hy;subst hx;subst hy;rcases h with⟨a,rfl⟩|rfl|⟨i,rfl⟩
  ·cases ru;cases rv;exact SeqAt.EqAt.same _
  ·exact yE (A:=A) (s:=s) ru rv U U
  let q:=yE (A:=A) (s:=s) ru rv U U;have e2:ph (.int i) (.int i)=true:=by show (i == i)=true;simp
  rwa [e2] at q
 one:=λ{pins σ H s x d e} I hx hy=>rfl
theorem Zj{H:Hp}{v:V}(h:Own v):J1 X H v v:=#[0,Unit,inferInstance,DT v,(),by decide,Bm h,U,U]
def zN(X:Cx):V->V->Hp->VK->Prop:=λx y H Q=>(l5 X x y H Q)∨(x=y/\(x=.non∨(∃a xs,x=.ref a/\H a\.tup xs)∨∃a kvs,x=.ref a/\H a\.dT kvs)/\Q (.bl false) H)
theorem _V(hu:X.A.units+8+1<cLine):dW X (compareOp .NotEq) (zN X):=by
 intro pins s σ H x y v u Q I rx ry h;rcases h with h|⟨rfl,h,q⟩
 ·exact SY hu pins s σ H x y v u Q I rx ry h
 rcases h with rfl|⟨a,xs,rfl,ha⟩|⟨a,kvs,rfl,ha⟩
 ·exact ou pins s σ H .non .non v u Q I rx ry #[U,q]
 ·cases rx;cases ry;let#[its,r,it,_]:=I.tuple (.of ha);apply SeqAt.RcNeAt.tuples (e:=λ_=>true) (wV it) (wV it) Y0 (λj g1 g2=>SeqAt.EqAt.same _) X.prog X.w _ _ #[.bl _,H,I,U,?_];rw[show (!((List.range (min its.toArray.size its.toArray.size)).all (λ_=>true)&&its.toArray.size == its.toArray.size))=false by simp];exact q
 cases rx;cases ry;let#[z,hd,xs,rel,dd]:=Ll I.aF ha;exact eV_ hd dd Y0 (tupleKind_room_in1 Y0) #[.bl _,H,I,U,q]
theorem Zl{n:Nat}{D:Type}[DecidableEq D]{R:Rp D}(c:jm X n R)(hu:X.A.units+n+1<cLine):dW X (compareOp .NotEq) (DW (KJ X.K R) true):=by
 intro pins s σ H x y v u Q I rx ry h;let#[d,e,#[a,xs,rfl,t,q],#[b,ys,rfl,t',q'],hq]:=h;cases rx;cases ry;let#[us,r,pl,_]:=I.tuple t;let#[vs,r',uF,_]:=I.tuple t';let l1:=r.length;let l2:=r'.length;let l3:=bI q;let l4:=bI q';apply SeqAt.RcNeAt.tuples (wV pl) (wV uF) Y0 (NF c I r r' q q' (A:=X.A.in1) (by show X.A.units+1+n<cLine;omega)) X.prog X.w _ _ #[.bl _,H,I,U,?_];rw[show us.toArray.size=d.length by simp only[cY];omega,show vs.toArray.size=e.length by simp only[cY];omega,RX];exact hq
end
end L2
namespace Ev
open PySem L2
theorem hS_{lo:Int}{n:Nat}{g:TG}{tc:TT}{te:TE}{own:Nat}{fv:List aE}{dec:V->Hp->List aE->Prop}{D:Addr}{H:Hp}{Q:VK}{iL:St}(o9:iL=List.replicate own none++fv)(G:BN g own fv dec)(Pv:Nat->ag->Hp->Prop)
  (h0:Pv 0 [] (upd H D (.lst []))) (hd:∀out H',Pv n out H'->Q (.ref D) H')
  (AO:∀i out H',i<n->Pv i out H'->∃o3,dec (.int (lo+i)) H' o3/\o3.length=own/\∀Nx:Hp->Prop,(∀iT H2,Pv (i+1) iT H2->Nx H2)->
   tc (o3++fv) H' λb H4=>if b=true then te (o3++fv) H4 λy H5=>∃eV,H5 D\.lst eV/\eV.length<sizeLine/\Nx (upd H5 D (.lst (eV++[y]))) else Nx H4) :
  yA (BM lo n) g tc te iL D H Q:=by
 apply Jm o9 G n Pv h0 (λout H' p=>#[a9 _,hd out H' p]) λi out H' hi p=>#[hi,λx H2 y=>?_];let#[rfl,rfl]:=y;exact AO i out _ hi p
theorem ZK{LL:List (List au)}{i:Nat}{L:List au}(hL:LL[i]? = some L)(j:Nat):((LL.take i).flatten++L.take j).length<=LL.flatten.length:=by
 let hi:=(cw.mp hL).1;let e:=List.take_append_drop i LL;rw[List.drop_eq_getElem_cons hi,(cw.mp hL).2] at e
 have:LL.flatten.length=(LL.take i).flatten.length+(L.length+(LL.drop (i+1)).flatten.length):=by
  conv=>lhs;rw[<- e]
  rw[List.flatten_append,List.flatten_cons,dN,dN]
 rw[dN,dM];omega
theorem gw_{LL:List (List au)}{i:Nat}{L:List au}(hL:LL[i]? = some L):(LL.take (i+1)).flatten=(LL.take i).flatten++L:=by
 rw[oE,hL,List.flatten_append];simp
theorem ft.ins{H:Hp}{ys:ag}{l:List (au × Nat)}(h:ft H ys l)(k:Nat){a t:Addr}{z:au}{n:Nat}(h1:H a\.tup [.ref t,.int n])(h2:H t\.tup (sV z)):ft H (j7 ys k (.ref a)) (j7 l k (z,n)):=JO k h #[a,t,U,h1,h2]
theorem ft.keep{H H':Hp}{ys:ag}{es:List (au × Nat)}(h:ft H ys es)(k:∀b xs,H b\.tup xs->H' b\.tup xs):ft H' ys es:=Paired.aQ h λy e ⟨a,t,q,h1,h2⟩=>#[a,t,q,k _ _ h1,k _ _ h2]
theorem RF.same{H H':Hp}{v:V}{r:Flt}(h:RF H v r)(s:aa H H'):RF H' v r:=by
 match r,h with
 |none,e=>exact e
 |some (w,none),⟨t,e,h⟩=>exact#[t,e,s _ _ h]
 |some (w,some k),⟨t,e,h⟩=>exact#[t,e,s _ _ h]
theorem Q5{X:Cx}{H:Hp}{v w:V}{r:Flt}(h:RF H v r)(h2:RF H w r):J1 X H v w:=by
 match r,h,h2 with
 |none,e,e2=>exact#[0,Unit,inferInstance,rN,(),by decide,Ol,e,e2]
 |some (x,none),⟨t,e,h⟩,⟨u,e2,h2⟩=>exact#[1,ae,inferInstance,KJ X.K rS,[x],by decide,yF gK,#[t,_,e,.of h,.cons U .nil],#[u,_,e2,.of h2,.cons U .nil]]
 |some (x,some k),⟨t,e,h⟩,⟨u,e2,h2⟩=>exact#[1,Str × Int,inferInstance,r2 X.K rS rZ,(x,k),by decide,Bn gK Oi,#[t,_,_,e,.of h,U,U],#[u,_,_,e2,.of h2,U,U]]
theorem tU.copy{K:af}{H:Hp}{hs:Xa}{ts:Xb}{qs:aS}{s0:au}{c:Nat}{lim:Int × Int}{a b:Addr}{ys:ag}{r:Flt}(h:tU K H hs ts qs s0 c lim (.ref a) r)(ha:H a\.lst ys)(hb:H b\.lst ys):tU K H hs ts qs s0 c lim (.ref b) r:=by
 rcases h with⟨t,ty,e,er⟩|⟨lS,zs,l,k,e,hl,th,so,l3,bad,fst,er⟩|⟨lS,zs,es,e,hl,sh,l3,nd,hv,er⟩
 ·have:=ty H (aa.refl H);cases this with
  |lst e2=>exact (I_ e).elim
  |frz e2=>rw[ha] at e2;cases e2
  |tup e2=>rw[ha] at e2;cases e2
  |dK e2=>rw[ha] at e2;cases e2
  |dT e2=>rw[ha] at e2;cases e2
  |ins e2 _ _ _ _ _=>rw[ha] at e2;cases e2
 ·cases e;rw[ha] at hl;cases hl;exact .inr (.inl #[b,ys,l,k,U,hb,th,so,l3,bad,fst,er])
 cases e;rw[ha] at hl;cases hl;exact .inr (.inr #[b,ys,es,U,hb,sh,l3,nd,hv,er])
theorem Sz{X:Cx}{H:Hp}:∀{xs:ag},(∀x∈xs,Own x)->Paired (J1 X H) xs xs
 |[],_=>.nil
 |x::xs,h=>.cons (Zj (h x fY)) (Sz λy hy=>h y (fo _ hy))
theorem M_{H:Hp}:∀s:au,Paired (rS H) (s.map V.str) s
 |[]=>.nil
 |_::r=>.cons U (M_ r)
abbrev lN:ae:=[yC,"_law_cell",gL,j5,"_law_ties_here","_law_drawn","_law_stand_here",mE,"_law_goods","_law_first","_law_layers_here","_law_count","_law_limit","_law_shut","_law_k","_law_spot","_law_bad","_law_due_here","_law_handed","_law_told"]
theorem iC:bQ lN [yC] (a_ fe):=bZ
structure Dm (K:af) (CG CW:Addr) (H:Hp) (l lh lt lz d g0 pw lL t0:Addr) (hs:Xa) (ts:Xb) (ss qs:aS) (fp:av) (ns:ae) (f:bz) (s0:au) (yL:ag) (LL:List (List au)):Prop where
 st:bJ H l
 hh:∃yh,H lh\.lst yh/\bS K H yh (hs.map kH)
 ht:∃zs,H lt\.lst zs/\bS K H zs (ts.map kT)
 hp:∃yp,H lz\.lst yp/\j4 K H yp ss
 n1:lh≠l
 n2:lt≠l
 n3:lz≠l
 n4:lL≠l
 fr:∀b,V.ref b∈yL->b≠l
 G:Good hs ts
 S:eN ts ss qs
 s8:ss.length<=8
 Gg:Gs K CG CW H g0 pw hs ts qs fp
 lfp:l∉fp
 Sd:Cy H d hs qs fp s0 ns f
 hL:H lL\.lst yL
 ly:hX H yL LL
 ok:ji (Nx hs ts qs) s0 LL
 fl:LL.flatten.length<=300
 h0:H t0\.tup (sV s0)
theorem Dm.but{K:af}{CG CW:Addr}{H H':Hp}{l lh lt lz d g0 pw lL t0:Addr}{hs:Xa}{ts:Xb}{ss qs:aS}{fp:av}{ns:ae}{f:bz}{s0:au}{yL:ag}{LL:List (List au)}(h:Dm K CG CW H l lh lt lz d g0 pw lL t0 hs ts ss qs fp ns f s0 yL LL)(b:aM l H H')(st:bJ H' l):Dm K CG CW H' l lh lt lz d g0 pw lL t0 hs ts ss qs fp ns f s0 yL LL:=by
 let#[a0,#[yh,a1,a2],#[zs,c1,c2],#[yp,b1,b2],n1,n2,n3,n4,fr,G,S,s8,Gg,lfp,Sd,hL,ly,ok,fl,h0]:=h;let#[xs,e]:=a0.some;exact#[st,#[yh,b _ _ a1 n1,jb a2 b e],#[zs,b _ _ c1 n2,jb c2 b e],#[yp,b _ _ b1 n3,Paired.aQ b2 λy p q=>q.but b a0],n1,n2,n3,n4,fr,G,S,s8,#[Gg.G.but b a0 lfp,Gg.Gd,Gg.nd,Gg.cX,Gg.wp],lfp,#[b _ _ Sd.hd (bO Sd.hd e nofun),Sd.pZ,Sd.ok,Sd.s0],b _ _ hL n4,ly.keep (λa m xs q=>b _ _ q (fr a m)) (λc xs q=>b _ _ q (bO q e nofun)),ok,fl,b _ _ h0 (bO h0 e nofun)]
theorem Dm.same{K:af}{CG CW:Addr}{H H':Hp}{l lh lt lz d g0 pw lL t0:Addr}{hs:Xa}{ts:Xb}{ss qs:aS}{fp:av}{ns:ae}{f:bz}{s0:au}{yL:ag}{LL:List (List au)}(h:Dm K CG CW H l lh lt lz d g0 pw lL t0 hs ts ss qs fp ns f s0 yL LL)(s:aa H H'):Dm K CG CW H' l lh lt lz d g0 pw lL t0 hs ts ss qs fp ns f s0 yL LL:=h.but (aM.of s) (h.st.same s)
structure GW (P:Ad) (w:Af) (K:af) (mg:Str->Option Aa) (base:Heap) (CG CW:Addr):Prop where
 cD:!bF 1 tV uY wO
 cU:!bF 3 "_law_due" uy (lH K)
 cS:!bF 8 "shut_fault" oJ (Jr K CG CW)
 cC:!bF 2 "_law_changed" uv (Oc K)
 cP:!bF 7 "spread" yu (OX K CG CW)
abbrev fB:List Stmt:=FF (zV (f_ fe) 0)
section v
set_option maxHeartbeats 3200000 in
theorem Jl{fl CG CW:Addr}{cd:Aa}{A:Ag}{outer:List Env}{s:Ab}{Hi:Hp}{E:XK}(hr:aY 9 (A.deeper (PyProof.Rows.envOfC "law" (a_ fe) s.heap.objs.size fl cd)))(B:Bi mg)(sR:mg "min"=none)(C:GW P w K mg base CG CW):∃t,km (i7 bc P w K mg base lN "law" (a_ fe) fl cd A outer s Hi E).xO (fB.drop 9) t /\
  ∀(D:Ends) (H:Hp) (w1 w2 w5:V) (vb vc vd ve vf vg vh vi vj:aE) (l lh lt lz d g0 pw lL t0:Addr) (hs:Xa) (ts:Xb) (ss qs:aS) (fp:av) (ns:ae) (f:bz) (s0:au) (yL:ag) (LL:List (List au)),Dm K CG CW H l lh lt lz d g0 pw lL t0 hs ts ss qs fp ns f s0 yL LL->
   (∀vb vc vd ve vf vg vh vi vj H',aM l H H'->D.nx [some w1,some w2,some (.ref l),some (.ref lh),some (.ref lt),some w5,some (.ref d),some (.ref lz),some (.ref g0),some (.ref t0),some (.ref lL),vb,vc,vd,ve,vf,vg,vh,vi,vj] H')->
   t D [some w1,some w2,some (.ref l),some (.ref lh),some (.ref lt),some w5,some (.ref d),some (.ref lz),some (.ref g0),some (.ref t0),some (.ref lL),vb,vc,vd,ve,vf,vg,vh,vi,vj] H:=by
 let hu:=fP hr;let sz:=cK;have cSg:!bF 8 "shut_fault" oJ (Ng K CG CW):=C.cS.imp _G;refine' #[_,?c0,?kk]
 case' c0=>refine' ax ?q0 ?c1
 case' c1=>refine' ax ?q1 ?c2
 case' c2=>refine' ax ?q2 ?c3
 case' c3=>refine' ax ?q3 ?c4
 case' c4=>refine' ax ?q4 ?c5
 case' c5=>refine' aJ ?q5
 case q0=>exact bw 11 iC.nd (br fG ay (bj C.cD hr %[2,ay|0]))
 case' q1=>refine' Q9 (i:=12) ?y1 ?y2 ?y3 ?y4
 case y1=>exact iC.nd
 case y2=>exact U
 case y3=>exact Or.inr U
 case' y4=>refine' bg ?z1 ?z2 ?t5 ?z3
 case z1=>exact fX
 case z3=>exact λ_ _=>rfl
 case' z2=>refine' eJ ?z4
 case' z4=>refine' d8 ?t1 ?z5
 case' z5=>refine' d8 ?t2 ?z6
 case' z6=>refine' d8 ?t3 ?z7
 case' z7=>refine' d8 ?t4 ?z8
 case z8=>exact bR
 case t1=>exact dD %[Be Bp ay,ay|0]
 case t2=>exact dD %[ay,ay|0]
 case t3=>exact bj C.cP hr %[8,6|0]
 case t4=>exact dD %[ay,ay|0]
 case t5=>exact bj C.cD hr %[2,ay|0]
 case q2=>exact bw 13 iC.nd (eJ bR)
 case' q3=>refine' d9 dU U (qq (by rfl) B.range %[bT (hh_ U) (by rfl) sR PyProof.Rows.Boot.«min» %[11,bT gx (by rfl) B.len fN %[10|0]|0]|0]) (bX 14 iC.nd) (aJ ?e1)
 case' e1=>refine' d9 dU U (d5 (bg fX (pv 10) (pv 14))) (bX 15 iC.nd) (aJ ?e2)
 case e2=>exact j9 (kQ kP PySem.F.slot_list_insert PySem.F.type_list_insert OS (pv 13) %[bj C.cD hr %[2,br fG (bT gx (by rfl) B.len fN %[13|0]) ay|0],dD %[15,14|0]|0])
 case' q4=>refine' d9 dU U (d5 (bj C.cC hr %[2,13,3,7|0])) (bX 16 iC.nd) ?f0
 case' f0=>refine' ax ?f1 ?g1
 case' g1=>refine' ax ?f2 ?g2
 case' g2=>refine' ax ?f3 ?g3
 case' g3=>refine' ax ?f4 ?g4
 case' g4=>refine' aJ ?f5
 case f1=>exact bw 17 iC.nd (bj C.cU hr %[dD %[3,7,4|0],9,12,11,16|0])
 case f2=>exact bw 18 iC.nd (pv 16)
 case f3=>exact b_ (d4 (bT gM (by rfl) B.gA gE %[16,gN (v:=.ty "list") (by rfl) B.list qf U|0])) (aJ (bw 18 iC.nd (gS Pe (by rfl) B.list qf %[16|0]))) cm
 case' f4=>refine' MM (i:=19) yS 1 [11,8,18,12,6] iC.nd U (Or.inl U) (qq (by rfl) B.range %[ay|0]) (λfp s H=>?h1) (λfp s H=>jy) (λfp s H=>?h2)
 case h1=>exact fu (i:=0) (show (yS:ae).Nodup by decide +kernel) U (Or.inl U)
 case h2=>exact bj cSg hr %[2,5,4,1,3|0]
 case f5=>exact b_ (iK (eP (SY (kU hr 8)) (pv 19) (eJ %[17,17|0])) (jZ (eP (_V (kU hr 8)) (pv 18) (pv 16)))).pt (aJ (bp jw)) cm
 case' q5=>refine' b_ (eP (Zl gK (kU hr 0)) (gS JM (by rfl) B.tuple oC %[jd oI 1 [6] (d5 (pv 7)) (λfp s H=>?g6) (λfp s H=>jy) (λfp s H=>?e6)|0]) (pv 9)) (aJ (bp jw)) cm
 case g6=>exact fu (i:=0) (show (oI:ae).Nodup by decide +kernel) U (Or.inl U)
 case e6=>exact j_ hu (pv 1) (bg (B7 (K:=K) jF cj) (pv 0) ay)
 intro D H w1 w2 w5 vb vc vd ve vf vg vh vi vj l lh lt lz d g0 pw lL t0 hs ts ss qs fp ns f s0 yL LL Z k;have BR:Vs hs qs s0:=Z.Sd.vs;let ok:=Z.ok;let flZ:=Z.fl;let XI:=M7 ok.ne;let QM:=bI Z.ly;let nd:=ok.flat
 have tup:∀{Ha Hb:Hp},bJ Ha l->aM l Ha Hb->∀{c xs},Ha c\.tup xs->Hb c\.tup xs:=λ{Ha Hb} sa b {c xs} e=>by
  let#[xs,e2]:=sa.some;exact b _ _ e (bO e e2 nofun)
 apply#[_,U,l,5,U,by decide,by decide,Z.st,λr0 H1 u0 u1 b1 oN=>#[_,_,U,U,?_]];obtain⟨c,ec,c1,c5⟩:∃c:Nat,(1+r0:Int)=(c:Int)/\1<=c/\c<=5:=#[(1+r0).toNat,by omega,by omega,by omega];rw[ec];let Z1:=Z.but b1 oN;apply#[_,U,zl,λt1 pS=>?_];let#[s2,e2]:=aC (o:=.tup [.int (-1),.int 2]) pS;let Z2:=Z1.same s2;generalize upd H1 t1 (.tup [.int (-1),.int 2])=H2 at s2 e2 Z2 ⊢;apply#[zl,λt2 Ca=>?_];let#[s3,e3]:=aC (o:=.tup [.int 0,.int 1]) Ca;let Z3:=Z2.same s3;generalize upd H2 t2 (.tup [.int 0,.int 1])=H3 at s3 e3 Z3 ⊢;apply#[_,U,_,U,g0,pw,d,hs,ts,qs,fp,ns,f,U,#[Z3.Gg.G,Z3.Gg.Gd,Z3.Sd.pZ,Z3.Sd.hd,Z3.Sd.ok,Z3.Gg.nd,Z3.Gg.cX,λq hq=>(Z3.Gg.wp q hq).1],Z3.Gg.wp,λt3 rr H4 s4 is e4=>?_];let Z4:=Z3.same s4;apply#[zl,λt4 uK=>?_];let#[s5,e5]:=aC (o:=.tup [.int 1,.int 1000]) uK;let Z5:=Z4.same s5;generalize upd H4 t4 (.tup [.int 1,.int 1000])=H5 at s5 e5 Z5 ⊢;apply#[zl,λlc vY=>?_];let#[s6,e6]:=aC (o:=.lst [.ref t1,.ref t2,.ref t3,.ref t4]) vY;let Z6:=Z5.same s6;have XT:lc≠l:=j3 Z5.st vY;generalize upd H5 lc (.lst [.ref t1,.ref t2,.ref t3,.ref t4])=H6 at s6 e6 Z6 ⊢;apply#[_,U,l,4,U,by decide,by decide,Z6.st,λr6 H7 p0 p1 b7 gz=>?_]
 let#[y,hy,tl,lim,ey,A5,lo]:=LZ (p:=λy:V=>∃(t:Addr) (lim:Int × Int),y=.ref t/\hY H7 t lim/\uW lim) (xs:=[V.ref t1,.ref t2,.ref t3,.ref t4]) p0 p1 (λx hx=>by
  simp only[cg,ig,or_false] at hx;rcases hx with rfl|rfl|rfl|rfl
  ·exact#[t1,(-1,2),U,tup Z6.st b7 (s6 _ _ (s5 _ _ (s4 _ _ (s3 _ _ e2)))),by constructor<;>decide]
  ·exact#[t2,(0,1),U,tup Z6.st b7 (s6 _ _ (s5 _ _ (s4 _ _ e3))),by constructor<;>decide]
  ·exact#[t3,_,U,tup Z6.st b7 (s6 _ _ (s5 _ _ e4)),g4_ Z.G Z3.Gg.wp Z3.Gg.cX is]
  exact#[t4,(1,1000),U,tup Z6.st b7 (s6 _ _ e5),by constructor<;>decide])
 subst ey;apply#[lc,_,_,_,U,U,.of (b7 _ _ e6 XT),hy,?_];have b07:aM l H H7:=b1.trans ((aM.of (((s2.trans s3).trans s4).trans (s5.trans s6))).trans b7);let Z7:=Z6.but b7 gz;dsimp only[List.set];clear b1 s2 e2 Z2 s3 e3 Z3 s4 e4 is Z4 s5 e5 Z5 s6 e6 Z6 hy b7 pS Ca uK vY;apply#[zl,λlx jP=>?_];let#[sX,eX]:=aC (o:=.lst []) jP;let ZX:=Z7.same sX;have Ai:lx≠l:=j3 gz jP;generalize upd H7 lx (.lst [])=HX at sX eX ZX ⊢;apply setG ?_;dsimp only[List.set]
 obtain⟨m,em,mm⟩:∃m:Nat,(if (yL.length:Int)<(c:Int) then (yL.length:Int) else (c:Int))=(m:Int)/\m=min c LL.length:=by
  split
  ·exact#[yL.length,U,by omega]
  exact#[c,U,by omega]
 have vl:s0.length=qs.length:=BR.len;let KN:=Z.Gg.cX
 let J:Nat->Hp->Prop:=λn H'=>∃(zs:ag) (sh:List (au × Nat)),aM l H7 H'/\bJ H' l/\H' lx\.lst zs/\ft H' zs sh/\sh.length<=n/\∀e∈sh,e.1.length<=64/\e.2<=100
 apply oO (R:=λσ H'=>∃(va vb:aE),σ=[some w1,some w2,some (.ref l),some (.ref lh),some (.ref lt),some w5,some (.ref d),some (.ref lz),some (.ref g0),some (.ref t0),some (.ref lL),some (.int c),some (.ref tl),some (.ref lx),va,vb,vg,vh,vi,vj]/\J 300 H') ?later (λN hN=>?now)
 case now=>
  apply#[_,U,_,U,lL,_,U,.inl (.of ZX.hL),_,_,U,?_];rw[em];apply#[_,U,by omega,by omega,?_];apply ua (lo:=0) (n:=(m:Int).toNat) (λi σ H'=>∃(va vb:aE),σ=[some w1,some w2,some (.ref l),some (.ref lh),some (.ref lt),some w5,some (.ref d),some (.ref lz),some (.ref g0),some (.ref t0),some (.ref lL),some (.int c),some (.ref tl),some (.ref lx),va,vb,vg,vh,vi,vj]/\J (LL.take i).flatten.length H') ?_ ?_ ?_
  ·exact#[_,_,U,[],[],aM.of sX,ZX.st,eX,.nil,gO _,λe he=>by cases he]
  ·rintro i σ HC hi ⟨va,vb,rfl,jj⟩;have hi:i<yL.length:=by omega
   have hic:i<c:=by omega
   let#[a,ws,ea,ha,sp]:=dP Z7.ly i hi Y0;have Im:LL[i]? = some (LL[i]' Y0):=aX Y0;obtain⟨Lr,eL⟩:∃L,L=LL[i]' Y0:=#[_,U];rw[<- eL] at Im sp;let Lc:=bI sp;have al:a≠l:=Z7.fr a (by rw[<- ea];exact ke hi);rw[show (0:Int)+(i:Nat)=(i:Int) by omega];let#[zs3,sh3,b3,_]:=id jj;apply#[_,U,_,U,lL,_,i,_,U,U,.of (b3 _ _ Z7.hL Z7.n4),L2.cZ (by rw[aX hi,ea]),a,U,#[_,.of (b3 _ _ ha al)],?_];apply ie (K:=K) (a:=a) (xs:=ws) (λj σ H'=>∃(vb:aE),σ=[some w1,some w2,some (.ref l),some (.ref lh),some (.ref lt),some w5,some (.ref d),some (.ref lz),some (.ref g0),some (.ref t0),some (.ref lL),some (.int c),some (.ref tl),some (.ref lx),some (.int i),vb,vg,vh,vi,vj]/\J ((LL.take i).flatten++Lr.take j).length H') ?_ ?_ ?_ ?_
   ·exact#[_,U,by rw[List.take_zero,List.append_nil];exact jj]
   ·rintro j σ H' _ ⟨_,_,_,_,bq,_⟩;exact .of (bq _ _ ha al)
   ·rintro j y σ HD hy ⟨vb,rfl,zs,sh,bD,G_,Ma,Qi,Ee,ecD⟩;have hj:j<ws.length:=(cw.mp hy).1
    obtain⟨z,hz,tz,rfl,htz⟩:∃z,Lr[j]? = some z/\∃t,y=V.ref t/\H7 t\.tup (sV z):=by
     have:=dP sp j hj Y0;rw[aX hj] at hy;cases hy;exact#[Lr[j]' Y0,aX Y0,this]
    let fle:=ZK Im j;let K8:=bI Qi;have tk:Lr.take (j+1)=Lr.take j++[z]:=by rw[oE,hz];rfl
    dsimp only[List.set];apply#[_,U,.inl #[U,_,.of Ma],_,U,_,U,lx,_,U,.inl (.of Ma),_,_,U,U,l,_,U,by show (0:Int)<(zs.length:Int)+1;omega,by show (zs.length:Int)+1<1073741824;omega,G_,λra HE a0 a1 bE G8=>?_];have a1:ra<(zs.length:Int)+1:=a1;let U_:=bD.trans bE;have LA:HE tz\.tup (sV z):=tup gz U_ htz;let hfE:=bE _ _ Ma Ai;let Wi:=Qi.keep λ_ _ e=>tup G_ bE e;apply#[_,U,_,U,zl,λte hte=>?_];let#[sF,eF]:=aC (o:=.tup [.ref tz,.int i]) hte;generalize upd HE te (.tup [.ref tz,.int i])=HF at sF eF ⊢;let RY:=sF _ _ hfE;apply#[lx,ra.toNat,zs,.ref te,U,by rw[Int.toNat_of_nonneg a0],RY,by omega,by omega,?_]
    have kt:∀b xs,HF b\.tup xs->upd HF lx (.lst (j7 zs ra.toNat (.ref te))) b\.tup xs:=λb xs e=>by
     rw[aB (bO e RY nofun)];exact e
    let pm:=CM sh ra.toNat (z,i);apply#[_,U,j7 zs ra.toNat (.ref te),j7 sh ra.toNat (z,i),λb o e ne=>?_,?_,aA,?_,?_,λe he=>?_]
    ·rw[aB (bG e jP)];exact sF _ _ (U_ b o e ne)
    ·unfold bJ;rw[aB Ai.symm];exact G8.same sF
    ·exact ((Wi.keep λ_ _ e=>sF _ _ e).ins ra.toNat eF (sF _ _ LA)).keep kt
    ·rw[tk,<- List.append_assoc,pm.length_eq,dN,jz];exact Nat.succ_le_succ Ee
    rcases cg.mp (pm.mem_iff.mp he) with rfl|he
    ·have v:Vs hs qs z:=(((ok.is i Lr Im).2 z).mp (cJ hz)).1.vs BR;have:=v.len;exact#[by show z.length<=64;omega,by show i<=100;omega]
    exact ecD e he
   rintro σ HD ⟨vb,rfl,jj⟩;rw[Lc,d_,<- gw_ Im] at jj;exact#[_,_,U,jj]
  rintro σ HC ⟨va,vb,rfl,zs,sh,bC,stC,hfC,Wj,Ee,ecC⟩;apply hN _ _ #[_,_,U,zs,sh,bC,stC,hfC,Wj,ic Ee (ic ?_ flZ),ecC];have:=List.sublist_append_left (LL.take (m:Int).toNat).flatten (LL.drop (m:Int).toNat).flatten;rw[<- List.flatten_append,List.take_append_drop] at this;exact this.length_le
 rintro σ H8 ⟨va,vb,rfl,zs,sh,b8,ni,hx8,Wl,Ee,ec8⟩;let Z8:=Z7.but b8 ni;let fr8:=tup gz b8 A5;let#[yh,a1,a2]:=Z8.hh;apply oO (R:=λσ H'=>∃(v6 v7 xg v9:aE),σ=[some w1,some w2,some (.ref l),some (.ref lh),some (.ref lt),some w5,some (.ref d),some (.ref lz),some (.ref g0),some (.ref t0),some (.ref lL),some (.int c),some (.ref tl),some (.ref lx),va,vb,v6,v7,xg,v9]/\aM l H8 H'/\bJ H' l) ?Ao (λN hN=>?zX)
 case zX=>
  apply#[_,U,_,U,_,U,_,U,l,lx,lh,.ref lz,yh,zs,hs,sh,U,ni,hx8,Ai,Wl,Ee,ec8,a1,Z.n1,a2,Z.G.h1,Z.G.h8,λr fx zb H9 b9 il e9 nr bd=>?_];let Z9:=Z8.but b9 il;let SS:=tup ni b9 fr8;apply#[r,U,#[_,.of e9],ie (K:=K) (a:=r) (xs:=zb) (λi σ H'=>∃(v6 v7 xg v9:aE),σ=[some w1,some w2,some (.ref l),some (.ref lh),some (.ref lt),some w5,some (.ref d),some (.ref lz),some (.ref g0),some (.ref t0),some (.ref lL),some (.int c),some (.ref tl),some (.ref lx),va,vb,v6,v7,xg,v9]/\aa H9 H') #[_,_,_,_,U,aa.refl _] (λi σ H' _ ⟨_,_,_,_,_,sm⟩=>.of (sm _ _ e9)) ?_ ?_];rotate_left 1
  ·rintro σ H' ⟨v6,v7,xg,v9,rfl,sm⟩;exact hN _ _ #[_,_,_,_,U,b9.trans (aM.of sm),il.same sm]
  rintro i y σ HA hy ⟨v6,v7,xg,v9,rfl,s9⟩;let U7:=bd y (cJ hy);dsimp only[List.set]
  obtain⟨rr,ff⟩:∃rr,tU K H9 hs ts qs s0 c lim y rr:=by
   rcases U7 with rfl|⟨a,xs,rfl,h⟩|⟨a,kvs,rfl,_,_,h⟩|⟨a,xs,rfl,_,_,h,le,al⟩
   ·exact#[_,.inl #[_,λH' _=>.non,U,U]]
   ·exact#[_,.inl #[_,λH' s'=>.tup (s' _ _ h),U,U]]
   ·exact#[_,.inl #[_,λH' s'=>.dT (s' _ _ h),U,U]]
   let#[ls,th,so]:=SE al;have:=bI th;exact YF h th so Y0
  apply#[_,U,_,U,_,U,zl,λlq Xg=>?_];let#[sB,eB]:=aC (o:=.tup [.ref lh,.ref lz,.ref lt]) Xg;let DO:=s9.trans sB;generalize upd HA lq (.tup [.ref lh,.ref lz,.ref lt])=HB at sB eB DO ⊢;let ZB:=Z9.same DO;apply#[_,U,_,U,_,U,_,U,lq,lh,lz,lt,t0,tl,y,hs,ts,ss,qs,s0,lim,c,rr,U,eB,ZB.h0,#[ZB.hh,ZB.hp,ZB.ht,DO _ _ SS,lo,Z.G,Z.S,Z.s8],BR,c1,by omega,ff.same DO,λvd HC sC WC=>?_];let l0:=DO.trans sC;apply setG ?_;dsimp only[List.set];apply#[_,U,?_];apply setG ?_;dsimp only[List.set];apply oO (R:=λσ H'=>∃(hv:V),σ=[some w1,some w2,some (.ref l),some (.ref lh),some (.ref lt),some w5,some (.ref d),some (.ref lz),some (.ref g0),some (.ref t0),some (.ref lL),some (.int c),some (.ref tl),some (.ref lx),va,vb,some y,some vd,some hv,v9]/\aa HC H'/\tU K H' hs ts qs s0 c lim hv rr/\((hv=y/\(hv=.non∨(∃a xs,hv=.ref a/\H' a\.tup xs)∨∃a kvs,hv=.ref a/\H' a\.dT kvs))∨∃a b xs,hv=.ref a/\y=.ref b/\H' a\.lst xs/\H' b\.lst xs/\∀x∈xs,Own x)) ?An (λN3 Cp=>?zW)
  case zW=>
   let ID:=ff.same l0;rcases U7 with rfl|⟨a,xs,rfl,h⟩|⟨a,kvs,rfl,_,_,h⟩|⟨a,xs,rfl,_,_,h,le,al⟩
   ·apply#[_,U,_,_,_,_,U,.non,U,_,U,aH ?_];exact Cp _ _ #[_,U,aa.refl _,ID,.inl #[U,.inl U]]
   ·apply#[_,U,_,_,_,_,U,.tup (l0 _ _ h),U,_,U,aH ?_];exact Cp _ _ #[_,U,aa.refl _,ID,.inl #[U,.inr (.inl #[a,xs,U,l0 _ _ h])]]
   ·apply#[_,U,_,_,_,_,U,.dT (l0 _ _ h),U,_,U,aH ?_];exact Cp _ _ #[_,U,aa.refl _,ID,.inl #[U,.inr (.inr #[a,kvs,U,l0 _ _ h])]]
   apply#[_,U,_,_,_,_,U,.lst (l0 _ _ h),U,_,U,bN ?_];apply#[_,U,a,xs,U,.inl (.of (l0 _ _ h)),λq nq=>?_];let#[sD,eD]:=aC (o:=.lst xs) nq;generalize upd HC q (.lst xs)=HD at sD eD ⊢;let hD:=sD _ _ (l0 _ _ h);apply Cp _ _ #[.ref q,U,sD,(ID.same sD).copy hD eD,.inr #[q,a,xs,U,U,eD,hD,λx hx=>?_]];cases al x hx with
   |ent a t os nv o h1 h2 h3=>exact .inl #[a,U]
   |non=>exact .inr (.inl U)
   |int i=>exact .inr (.inr #[i,U])
   |tup a xs h1 h2=>exact .inl #[a,U]
   |tupL a b r xs h1 n1 n2 h2=>exact .inl #[a,U]
   |lst a xs n1 n2 h=>exact .inl #[a,U]
  rintro σ HD ⟨hv,rfl,sD,ffD,own⟩;let KC:=l0.trans sD;apply#[2,U,by decide,by decide,λD' dA=>?_];apply hS_ (own:=1) (fv:=[some (.int c),some (.ref g0),some hv,some (.ref tl),some (.ref d)]) U fg (λj out H'=>aa HD H'/\H' D'\.lst out/\out.length=j/\∀v∈out,RF H' v rr) #[aa.new dA,aA,U,λv hv=>by cases hv] (λout HE ⟨sE,hE,Eg,al⟩=>?_) (λj out H' hj ⟨sm,oh,Eg,al⟩=>?_);rotate_left 1
  ·have hj:j<2:=hj;apply#[_,U,U,λNx hN=>eQ ?_];let Zm:=Z9.same (KC.trans sm);apply#[_,U,_,U,_,U,_,U,_,U,g0,pw,d,tl,hv,hs,ts,qs,fp,s0,ns,f,lim,c,rr,U,Zm.Gg,Zm.Sd,sm _ _ (KC _ _ SS),lo,c1,by omega,ffD.same sm,λv HF sF rf=>?_];let Ms:=sF _ _ oh
   have ne:∀v,RF HF v rr->RF (upd HF D' (.lst (out++[v]))) v rr/\∀w,RF HF w rr->RF (upd HF D' (.lst (out++[v]))) w rr:=λv h=>by
    have key:∀w,RF HF w rr->RF (upd HF D' (.lst (out++[v]))) w rr:=λw h=>by
     match rr,h with
     |none,e=>exact e
     |some (x,none),⟨t,e,h⟩=>exact#[t,e,by rw[aB (bO h Ms nofun)];exact h]
     |some (x,some k),⟨t,e,h⟩=>exact#[t,e,by rw[aB (bO h Ms nofun)];exact h]
    exact#[key v h,key]
   apply#[out,Ms,by omega,hN _ _ #[fF (sm.trans sF) dA,aA,by rw[dN,Eg];rfl,λw hw=>?_]];rcases dE.mp hw with hw|hw
   ·exact (ne v rf).2 w ((al w hw).same sF)
   rw[fw.mp hw];exact (ne v rf).1
  let Wn:=KC.trans sE;apply setG ?_;dsimp only[List.set];apply#[_,U,_,U,_,U,zl,λlw Xf=>?_];let#[sF,eF]:=aC (o:=.lst [vd,vd]) Xf;let KA:=Wn.trans sF;let hF:=sF _ _ hE;generalize upd HE lw (.lst [vd,vd])=HF at sF eF KA hF ⊢;let Wm:=(sD.trans sE).trans sF
  match out,Eg,al with
  |[v1,v2],_,al=>
   let r1:=(al v1 Y1).same sF;let r2:=(al v2 Y1).same sF;let rd:=WC.same Wm;apply#[D',lw,[v1,v2],[vd,vd],U,U,.of hF,.of eF,.cons (Q5 r1 rd) (.cons (Q5 r2 rd) .nil),_,U,aH ?_];apply#[_,U,_,U,?_];rcases own with⟨e,o⟩|⟨a,b,xs,e,e',h1,h2,ox⟩
   ·apply .inr #[e,?_,_,U,aH #[_,_,_,_,U,KA]];rcases o with o|⟨a,xs,o,h⟩|⟨a,kvs,o,h⟩
    ·exact .inl o
    ·exact .inr (.inl #[a,xs,o,sF _ _ (sE _ _ h)])
    exact .inr (.inr #[a,kvs,o,sF _ _ (sE _ _ h)])
   exact .inl #[a,b,xs,xs,e,e',.of (sF _ _ (sE _ _ h1)),.of (sF _ _ (sE _ _ h2)),Sz ox,_,U,aH #[_,_,_,_,U,KA]]
 rintro σ H9 ⟨v6,v7,xg,v9,rfl,b9,il⟩;let Z9:=Z8.but b9 il;let#[yz,O9,O4]:=Z9.hp;let Xz:=bI O4;let oT:=Z.s8;let perm:=Z.Sd.ok.perm;apply#[_,U,lz,U,#[_,.of O9],λD' dA=>?_];apply kb (own:=1) (fv:=[some (.ref d)]) (xs:=yz) U fg (λi out H'=>aa H9 H'/\H' D'\.lst out/\out=((ss.take i).map λp=>f p.1).map V.str) #[aa.new dA,aA,U] (λi out H' _ ⟨sm,_,_⟩=>.of (sm _ _ O9)) (λout HB ⟨sB,Cq,eo⟩=>?_) (λj y out H' hy ⟨sm,oh,eo⟩=>?_);rotate_left 1
 ·have hj:j<yz.length:=(cw.mp hy).1
  obtain⟨q,hq,t,v,rfl,ht,_⟩:∃q,ss[j]? = some q/\iG K H9 y q:=by
   have:=dP O4 j hj Y0;rw[aX hj] at hy;cases hy;exact#[ss[j]' Y0,aX Y0,this]
  have qm:q.1∈ns:=perm.mem_iff.mpr (by rw[Z.S.vN];exact bx.mpr #[q,cJ hq,U])
  have dg:cO H' d (.str q.1) (some (.str (f q.1))):=by
   have:=cO.k (k:=.inr q.1) (sm _ _ Z9.Sd.hd);rw[Bz (g:=λn=>V.str (f n)) qm] at this;exact this
  apply#[_,U,U,λNx hN=>eQ ?_];apply#[_,U,_,U,t,_,0,_,U,U,.of (sm _ _ ht),L2.cZ (j:=0) U,d,_,U,dg,out,oh,?_,hN _ _ #[fF sm dA,aA,?_]]
  ·rw[eo,aq,aq,dM];omega
  rw[vm _ hq,eK,eo];rfl
 rw[Xz,d_] at eo
 have wm:s0=ss.map λp=>f p.1:=by
  rw[Z.Sd.s0,Z.S.vN,cA];rfl
 rw[<- wm] at eo;subst eo;apply#[D',_,U,.inl #[.of Cq,λt nt=>?_]];let#[sC,eC]:=aC (o:=.tup (s0.map V.str)) nt;generalize upd HB t (.tup (s0.map V.str))=HC at sC eC ⊢;let l0:=sB.trans sC;apply#[_,U,s0,s0,#[t,_,U,.of eC,M_ s0],#[t0,_,U,.of (l0 _ _ Z9.h0),M_ s0],_,U,?_];rw[Q8 (U:s0=s0)];apply aH ?_;exact k _ _ _ _ _ _ _ _ _ HC (b07.trans (b8.trans (b9.trans (aM.of l0))))
end
end Ev
namespace Ev
open PySem L2
structure PV (P:Ad) (w:Af) (K:af) (mg:Str->Option Aa) (base:Heap) (CG CW:Addr):Prop where
 cD:!bF 1 tV uY wO
 cH:!bF 3 "_law_hands" [gL,"_law_most"] (Tt K)
 cT:!bF 2 "_law_ties" [gL,j5] (MV K)
 cP:!bF 3 "_law_pieces" uo (OT K)
 cS:!bF 2 "_law_stand" oM (Nc K)
 cW:!mT CW 5 "Web" ["self","hands","ties"] (IL K CW)
 cG:!mT CG 7 "Goods" ["self","web","pieces"] (Je K CG CW)
 cL:!bF 2 "_law_layers" ur (Nj K)
def nj(K:af)(T:Addr):Sp:=λvs H Q _=>∃(a:Addr) (ns:List Int),vs=[.ref a]/\H T\.tbl #[]/\d6 K H a (ns.map V.int)/\ns.length<=63/\∀H',Q (.bl true) H'
section v
set_option maxHeartbeats 3200000 in
theorem Ye{fl c0 CG CW T:Addr}{fd:Ae}(F:xa K "law" "law" fe fl c0 fd)(B:Bi mg)(sR:mg "min"=none)(hC:PySem.W.CodeHd base c0 T)(hbm:base.BuiltinsAt mg T)(C:PV P w K mg base CG CW)(C2:GW P w K mg base CG CW):!ak bc 10 fl fd [yC] (nj K T):=by
 apply F.ok iC (λvs H Q E h=>?_) (λA outer s H vs Q E hr h=>?_)
 ·let#[a,ns,rfl,_]:=h;rfl
 let#[ls,ns,rfl,hT,LU,h63,k]:=h;let sz:=cK;let hu:=fP hr;have Cb:aY 3 _:=hr.mono (by decide);let#[tl,htl,later]:=Jl (Hi:=H) (E:=E) (outer:=outer) hr B sR C2;refine' #[_,ax ?s1 (aJ (bp jw)),?kk]
 case' s1=>refine' d9 dU U (d5 (br ql (eJ %[ay|0]) (jg tY (pv 0) jc (je ay)))) (bX 1 iC.nd) ?b0
 case' b0=>refine' ax ?q0 ?c1
 case' c1=>refine' ax ?q1 ?c2
 case' c2=>refine' ax ?q2 ?c3
 case' c3=>refine' ax ?q3 ?c4
 case' c4=>refine' ax ?q4 ?c5
 case' c5=>refine' ax ?q5 ?c6
 case' c6=>refine' ax ?q6 ?c7
 case' c7=>refine' ax ?q7 ?c8
 case' c8=>refine' ax ?q8 ?c9
 case c9=>exact htl
 case q0=>exact bw 2 iC.nd (eJ %[1|0])
 case q1=>exact bw 3 iC.nd (bj C.cH hr %[2,ay|0])
 case q2=>exact bw 4 iC.nd (bj C.cT hr %[2,3|0])
 case q3=>exact bw 5 iC.nd (bj C.cP hr %[2,4,ay|0])
 case q4=>exact bw 6 iC.nd (bj C.cS hr %[2,3,5|0])
 case q5=>exact bw 7 iC.nd (gV_ (px:="_law_piece") (dh:=[]) (cl:=[]) (is:=[]) (k:=1) U (by rfl) B.sorted %[5|0] (Zx (Yy (P:=T) (c:=c0) U Oq U hC hbm) YJ) YV Cb (λ_ h=>by cases h) (λ_ h=>by cases h) (λ_ h=>by cases h) U)
 case q6=>exact bw 8 iC.nd (Lo C.cG hr %[Lo C.cW hr %[3,4|0],5|0])
 case' q7=>refine' bw 9 iC.nd (gS JM (by rfl) B.tuple oC %[jd oI 1 [6] (d5 (pv 7)) (λfp s H=>?g6) (λfp s H=>jy) (λfp s H=>?e6)|0])
 case q8=>exact bw 10 iC.nd (bj C.cL hr %[7,4,9,ay|0])
 case g6=>exact fu (i:=0) (show (oI:ae).Nodup by decide +kernel) U (Or.inl U)
 case e6=>exact j_ hu (pv 1) (bg (B7 (K:=K) jF cj) (pv 0) ay)
 have wm:mz H T qL:=#[[],hT,λe he=>by cases he];apply#[zl,λa1 n1=>?_];let#[s1,k1]:=aC (o:=.lst [.int 0]) n1;generalize upd H a1 (.lst [.int 0])=H1 at s1 k1 ⊢;apply#[_,U,_,U,ls,_,U,ZV s1 LU,λa2 n2=>?_];let#[s2,k2]:=aC (o:=.lst (cq (ns.map V.int) none (some 3))) n2;generalize upd H1 a2 (.lst (cq (ns.map V.int) none (some 3)))=H2 at s2 k2 ⊢;let lc:=GB (ns.map V.int) none (some 3);rw[aq] at lc;apply#[a1,a2,_,_,U,U,s2 _ _ k1,k2,by show 1+(cq (ns.map V.int) none (some 3)).length<=sizeLine;omega,λa3 n3=>?_];let#[s3,k3]:=aC (o:=.lst ([.int 0]++cq (ns.map V.int) none (some 3))) n3;generalize upd H2 a3 (.lst ([.int 0]++cq (ns.map V.int) none (some 3)))=H0 at s3 k3 ⊢;have Dj:mz H0 T qL:=wm.same ((s1.trans s2).trans s3)
 have allI:∀y∈[V.int 0]++cq (ns.map V.int) none (some 3),∃n,y=.int n:=λy hy=>by
  rcases dE.mp hy with hy|hy
  ·exact#[0,fw.mp hy]
  have hy:y∈ns.map V.int:=by
   unfold cq at hy;exact List.mem_of_mem_drop (List.mem_of_mem_take hy)
  let#[n,_,rfl]:=bx.mp hy;exact#[n,U]
 let Iv:dG:=λi σ H2=>∃(v1 v2 v3 v4 v5 v6 v7 v8 v9 va vb vc vd ve vf vg vh vi vj:aE),σ=[some (.ref ls),v1,v2,v3,v4,v5,v6,v7,v8,v9,va,vb,vc,vd,ve,vf,vg,vh,vi,vj]/\NT H0 H2/\mz H2 T qL
 apply#[a3,U,#[_,.of k3],?_];apply ie (K:=K) (a:=a3) (xs:=[.int 0]++cq (ns.map V.int) none (some 3)) Iv ?_ ?_ ?_ ?_
 ·exact#[none,none,none,none,none,none,none,none,none,none,none,none,none,none,none,none,none,none,none,U,NT.refl H0,Dj]
 ·rintro i σ H' _ ⟨_,_,_,_,_,_,_,_,_,_,_,_,_,_,_,_,_,_,_,_,nt,_⟩;exact .of (nt.lst k3)
 rotate_left 1
 ·rintro σ H' ⟨_,_,_,_,_,_,_,_,_,_,_,_,_,_,_,_,_,_,_,rfl,_,_⟩;exact k H'
 rintro i y σ H2 hy ⟨v1,v2,v3,v4,v5,v6,v7,v8,v9,va,vb,vc,vd,ve,vf,vg,vh,vi,vj,rfl,W8,Kk⟩;let#[n,rfl]:=allI y (cJ hy);clear hy s1 k1 s2 k2 n1 n2 n3 s3 wm Dj k;apply#[_,U,zl,λl nl=>?_];let s3:=aa.new (o:=.lst [.int n]) nl;have dX:bJ (upd H2 l (.lst [.int n])) l:=.inl #[n,aA];generalize upd H2 l (.lst [.int n])=H3 at s3 dX ⊢;apply#[_,U,l,3,U,by decide,by decide,dX,λlh yh hs H4 b4 gU pY eZ tu g nd h1 h8=>?_];let#[Vx,AJ]:=dX.some;have uI:lh≠l:=(bG AJ pY).symm;apply#[_,U,_,U,l,lh,yh,hs,U,gU,eZ,tu,λx hx=>?_,nd,by omega,uI,λlt yt ts H5 b5 iP pe dR tt tok G5 xv=>?_]
 ·let#[h,hh,rfl]:=bx.mp hx;exact (g h hh).1
 let#[Vw,E2]:=gU.some;have xT:lt≠l:=(bG E2 pe).symm;have W:Good hs ts:=#[g,nd,h1,by omega,λt ht=>(tok t ht).1,G5,xv,λt ht=>(tok t ht).2];apply#[_,U,_,U,l,lt,2,yt,ts,U,by decide,iP,dR,tt,xT,xv,W.tok,G5,λlp yp ps H6 b6 iO Iy jq pc dp vJ p3=>?_];let#[xs5,Ie]:=iP.some;have Ef:lp≠l:=(bG Ie Iy).symm;let uD:=jb (jb tu b5 E2) b6 Ie;let AH:=b6 _ _ (b5 _ _ eZ uI) uI;apply#[_,U,_,U,_,U,l,lh,lp,yh,yp,hs,ps,U,iO,AH,uD,uI,h1,by omega,jq,pc,Ef,vJ,by omega,λd f H7 b7 gz A5 hd fm=>?_];let#[P2,AI]:=iO.some;have D7:Dr K H7 l lh lt lp d hs ts ps f:=#[gz,#[yh,b7 _ _ AH uI,jb uD b7 AI],#[yt,b7 _ _ (b6 _ _ dR xT) xT,jb (jb tt b6 Ie) b7 AI],#[yp,b7 _ _ jq Ef,Paired.aQ pc λy p q=>q.but b7 iO],hd,uI,xT,Ef];have Ql:aa H2 H7:=(((b4.trans b5).trans b6).trans b7).same nl s3;have Di:mz H7 T qL:=Kk.same Ql;clear b4 b5 b6 b7 dX gU iP iO gz pY pe Iy A5 AJ E2 Ie AI tu uD eZ AH dR tt jq pc hd s3;apply#[_,U,K0 (FZ ?_)];apply X4 Di U U U U λIA c' H8 b8 Kj L9 Ik=>?_;let#[tv,hT7]:=Yp Di;have D0:NT H7 H8:=b8.nt hT7;let D8:=D7.nt D0;let#[Vp,LV,Hm]:=D8.hp;let B2:=bI Hm;apply#[.ref lp,IA,c',Vp,KW H8,[],U,U,L9,Ik,.inl #[lp,U,.of LV],by omega,U,λH' x sm hx=>?_,λlz zs H9 s9 W3 W5 pz ek=>?_]
 ·let#[j,hj,rfl]:=gB hx;let#[t,v,e,ht,_]:=dP Hm j hj Y0;rw[e];apply#[t,_,_,U,U,sm _ _ ht,aa.refl _,?_];show V.str _=V.str (match H8 t with|some (.tup (.str n::_))=>n|_=>(⟨#[]⟩:Str));rw[ht]
 let#[ss,sp,Qr]:=eK_ pz Hm
 have esn:ss.map (·.1)=iE (ps.map (·.1)):=by
  rw[<- M0 Qr,<- M0 Hm];exact ek
 have sA:aa H8 (upd H9 lz (.lst zs)):=s9.trans (aa.new W3);have eA:upd H9 lz (.lst zs) lz\.lst zs:=aA;generalize upd H9 lz (.lst zs)=HA at sA eA ⊢;have Qt:j4 K HA zs ss:=By Qr sA;let DA:=D8.same sA;let Ki:=Kj.same sA;have W7:NT H2 HA:=((NT.of Ql).trans D0).trans (NT.of sA)
 have Hu:lz≠l:=by
  let#[xs,e]:=D8.st.some;exact (bG e W5).symm
 have jn:(ss.map (·.1)).Nodup:=(sp.map (·.1)).nodup_iff.mpr vJ;have XD:ss.length=ps.length:=sp.length_eq;let K8:=bI Qt;let#[#[yhC,hhC,VW],#[ztC,htC,V0],#[ypC,hpC,WU]]:=And.intro DA.hh (And.intro DA.ht DA.hp);apply#[_,U,_,U,?_];apply YI W hhC VW htC V0 (λpw dC HD sD Wb SQ=>?_);apply#[_,U,?_];apply hT_ Wb W (sD _ _ hpC) (By WU sD) (λq hq=>(dp q hq).g) vJ Y0 (λg0 qs SW HE sE GA Qq SR=>?_);let#[fp,GA,has,sub]:=GA.DH;have S:eN ts ss qs:=X2 Qq vJ sp esn dp;let QK:=S.len
 have lfp:l∉fp:=λm=>by
  let#[xs,e]:=DA.st.some;rcases SR l (sub l m) with z|z
  ·have:=SQ l z;rw[e] at this;cases this
  rw[sD _ _ e] at z;cases z
 let DN:=sD.trans sE;let DE:=DA.same DN;have Kh:mz HE T qL:=Ki.same DN;let IY:=DN _ _ eA;let BX:=By Qt DN;have QA:qs.map (·.1)=ss.map (·.1):=S.vN;apply#[_,U,lz,U,#[_,.of IY],λD hD=>?_];apply kb (own:=1) (fv:=[some (.ref d)]) (xs:=zs) U fg (λi out H'=>aa HE H'/\H' D\.lst out/\out=((ss.take i).map λp=>f p.1).map V.str) #[aa.new hD,aA,U] (λi out H' _ ⟨sm,_,_⟩=>.of (sm _ _ IY)) (λout HB ⟨sB,Cq,eo⟩=>?_) (λj y out H' hy ⟨sm,dA,eo⟩=>?_);rotate_left 1
 ·have hj:j<zs.length:=(cw.mp hy).1
  obtain⟨q,hq,t,v,rfl,ht,_⟩:∃q,ss[j]? = some q/\iG K HE y q:=by
   have:=dP BX j hj Y0;rw[aX hj] at hy;cases hy;exact#[ss[j]' Y0,aX Y0,this]
  have qm:q.1∈ps.map (·.1):=bx.mpr #[q,sp.mem_iff.mp (cJ hq),U]
  have dg:cO H' d (.str q.1) (some (.str (f q.1))):=by
   have:=cO.k (k:=.inr q.1) (sm _ _ DE.hd);rw[Bz (g:=λn=>V.str (f n)) qm] at this;exact this
  apply#[_,U,U,λNx hN=>eQ ?_];apply#[_,U,_,U,t,_,0,_,U,U,.of (sm _ _ ht),L2.cZ (j:=0) U,d,_,U,dg,out,dA,?_,hN _ _ #[fF sm hD,aA,?_]]
  ·rw[eo,aq,aq,dM];omega
  rw[vm _ hq,eK,eo];rfl
 rw[K8,d_] at eo;subst eo;obtain⟨s0,wm⟩:∃s0:au,s0=ss.map λp=>f p.1:=#[_,U];rw[<- wm] at Cq;apply#[D,_,U,.inl #[.of Cq,λt0 W9=>?_]];let#[sC,eC]:=aC (o:=.tup (sV s0)) W9;let DK:=sB.trans sC;generalize upd HB t0 (.tup (sV s0))=HC at sC eC DK ⊢;let DC:=DE.same DK
 have BR:Vs hs qs s0:=by
  apply#[by rw[wm,aq,QK],λh hh=>?_];rw[wm] at hh;let#[q,hq,rfl]:=bx.mp hh;exact (gv hs).mem_iff.mpr (fm _ (bx.mpr #[q,sp.mem_iff.mp hq,U]))
 have KZ:(aV hs).length<=3:=by rw[W.iV];omega
 have WY:(aV hs).length ^ qs.length<=300:=by
  have a1:(aV hs).length ^ qs.length<=3 ^ qs.length:=Nat.pow_le_pow_left KZ _;have a2:(3:Nat) ^ qs.length<=3 ^ 2:=Nat.pow_le_pow_right (by decide) Y0;omega
 let#[#[Vi,LA,VZ],_]:=And.intro DC.ht DC.hp;let eAC:=DK _ _ IY;apply#[_,U,_,U,_,U,lz,lt,t0,300,zs,Vi,hs,ts,ss,qs,s0,U,eAC,By BX DK,LA,VZ,W,S,by omega,eC,BR,WY,by decide,λlL yL LL HF sF Xh eL QI frL ok FG=>?_];let DF:=DC.same sF
 have XW:lL≠l:=by
  let#[xs,e]:=DC.st.some;exact (bG e Xh).symm
 have frl:∀b,V.ref b∈yL->b≠l:=λb hb=>by
  let#[xs,e]:=DC.st.some;exact (bG e (frL b hb)).symm
 let XI:=M7 ok.ne;let QM:=bI QI;have WT:(ps.map (·.1)).Perm (qs.map (·.1)):=by rw[QA];exact (sp.map (·.1)).symm
 have MR:s0=(qs.map (·.1)).map f:=by rw[wm,QA,cA];rfl
 let DJ:=DK.trans sF
 have pZ:d∉fp:=λm=>by
  rcases SR d (sub d m) with z|z
  ·have:=SQ d z;rw[DA.hd] at this;cases this
  rw[sD _ _ DA.hd] at z;cases z
 have GgF:Gs K CG CW HF g0 pw hs ts qs fp:=#[GA.same DJ,W,by rw[S.vN];exact jn,by omega,S.wp];have Zn:Dm K CG CW HF l lh lt lz d g0 pw lL t0 hs ts ss qs fp (ps.map (·.1)) f s0 yL LL:=#[DF.st,DF.hh,DF.ht,#[zs,DJ _ _ IY,By BX DJ],uI,xT,Hu,XW,frl,W,S,by omega,GgF,lfp,#[DF.hd,pZ,#[WT,fm],MR],eL,QI,ok,FG,sF _ _ eC];apply later _ HF (.ref ls) (.int n) (.ref lp) _ _ _ _ _ _ _ _ _ l lh lt lz d g0 pw lL t0 hs ts ss qs fp (ps.map (·.1)) f s0 yL LL Zn (λvb vc vd ve vf vg vh vi vj HL bL=>?_);have nt:NT H2 HL:=λb o e no=>bL _ _ (DJ _ _ (DN _ _ (W7 _ _ e no))) (bG e nl);let#[xsF,hlF]:=DF.st.some;exact#[_,_,_,_,_,_,_,_,_,_,_,_,_,_,_,_,_,_,_,U,W8.trans nt,mz.Pb (Kh.same DJ) bL hlF]
end
end Ev
namespace Ev
open PySem L2
structure Fd (K:af) (mg:Str->Option Aa) (x:Str) (st:Stmt):Prop where
 ex:∃f fd,bu K x x st f fd/\mg x\.ref f/\PySem.W.keepIn K (.ref f)=true
theorem FH{K:af}{h:Heap}{mg:Str->Option Aa}{x:Str}{st:Stmt}(X:K.In h)(G:h.Ns mainGlobals mg){f:Addr}{oc:Aa}{od an:Option Addr}{jG:Array (Option Aa)}{kV doc pm aO ct:Aa}(a:PySem.W.nsIn K mainGlobals x\some (.ref f))
  (l:K.lookup f=some #[oc,od,.func (PySem.W.fnOf x x (gQ st) (f_ st) (a_ st) .none kV doc pm an aO ct),jG]) (c:PySem.W.codeIn K aO x=true) (k:PySem.W.keepIn K (.ref f)=true):Fd K mg x st:=#[_,_,Rq l c k,PySem.W.mg_of X G a,k]
structure Md (K:af) (C:Addr) (m qual:Str) (st:Stmt):Prop where
 ex:∃f fd,bu K m qual st f fd/\Meth K C m f
theorem Ea{K:af}{C:Addr}{m qual:Str}{st:Stmt}{f:Addr}{oc:Aa}{od an:Option Addr}{jG:Array (Option Aa)}{kV doc pm aO ct:Aa}(a:PySem.W.findIn K (.ref C) m\some (.ref f))(i:PySem.W.isFn K (.ref f)=true)
  (l:K.lookup f=some #[oc,od,.func (PySem.W.fnOf m qual (gQ st) (f_ st) (a_ st) .none kV doc pm an aO ct),jG]) (c:PySem.W.codeIn K aO qual=true) (k:PySem.W.keepIn K (.ref f)=true):Md K C m qual st:=#[_,_,Rq l c k,a,i,k]
theorem F3{P:Ad}{w:Af}{K:af}{mg:Str->Option Aa}{base:Heap}{x:Str}{st:Stmt}{k:Nat}{ps:ae}{sp:Sp}(d:Fd K mg x st)(ok:∀f fd,bu K x x st f fd->!ak bc k f fd ps sp)
  (h:∀(kV doc pm:Aa) (an:Option Addr) (aO ct:Aa) (us:aj),us.length=ps.length->bindArgs (PySem.W.fnOf x x (gQ st) (f_ st) (a_ st) .none kV doc pm an aO ct) #[us,[]]=pure (ps.zip us)):!bF k x ps sp:=by
 let#[f,fd,F,m,kp]:=d.ex;exact#[f,fd,ok f fd F,m,kp,F.binds h]
theorem wI{P:Ad}{w:Af}{K:af}{mg:Str->Option Aa}{base:Heap}{C:Addr}{m qual:Str}{st:Stmt}{k:Nat}{ps:ae}{sp:Sp}(d:Md K C m qual st)(ok:∀f fd,bu K m qual st f fd->!ak bc k f fd ps sp)
  (h:∀(kV doc pm:Aa) (an:Option Addr) (aO ct:Aa) (us:aj),us.length=ps.length->bindArgs (PySem.W.fnOf m qual (gQ st) (f_ st) (a_ st) .none kV doc pm an aO ct) #[us,[]]=pure (ps.zip us)):!bY C k m ps sp:=by
 let#[f,fd,F,m]:=d.ex;exact#[f,fd,ok f fd F,m,F.binds h]
theorem Ow{P:Ad}{w:Af}{K:af}{mg:Str->Option Aa}{base:Heap}{C:Addr}{x qual:Str}{st:Stmt}{k:Nat}{ps:ae}{sp:Sp}(d:Md K C "__init__" qual st)(hx:mg x\.ref C)(mk:PySem.W.makesIn K C=true)(kc:PySem.W.keepIn K (.ref C)=true)(ok:∀f fd,bu K "__init__" qual st f fd->!ak bc k f fd ps sp)
  (h:∀(kV doc pm:Aa) (an:Option Addr) (aO ct:Aa) (us:aj),us.length=ps.length->bindArgs (PySem.W.fnOf "__init__" qual (gQ st) (f_ st) (a_ st) .none kV doc pm an aO ct) #[us,[]]=pure (ps.zip us)):!mT C k x ps sp:=by
 let#[f,fd,F,m]:=d.ex;exact#[f,fd,ok f fd F,#[mk,m.1,m.2,kc],hx,F.binds h]
structure Tg (P:Ad) (w:Af) (b:Heap):Prop where
theorem gm{P:Ad}{w:Af}{K:af}{mg:Str->Option Aa}{base:Heap}{x:Str}{st:Stmt}{k:Nat}{ps:ae}{sp:Sp}(q:Tg P w base)(d:Fd K mg x st)(ok:∀f fd,bu K x x st f fd->!ak bc k f fd ps sp)(h:∀(kV doc pm:Aa) (an:Option Addr) (aO ct:Aa) (us:aj),us.length=ps.length->bindArgs (PySem.W.fnOf x x (gQ st) (f_ st) (a_ st) .none kV doc pm an aO ct) #[us,[]]=pure (ps.zip us):=by exact λ_ _ _ _ _ _ us (hl:us.length=1)=>match us,hl with | [_],_=>rfl):!bF k x ps sp:=F3 d ok h
theorem dS{P:Ad}{w:Af}{K:af}{mg:Str->Option Aa}{base:Heap}{x:Str}{st:Stmt}{k:Nat}{ps:ae}{sp:Sp}(q:Tg P w base)(d:Fd K mg x st)(ok:∀f fd,bu K x x st f fd->!ak bc k f fd ps sp)(h:∀(kV doc pm:Aa) (an:Option Addr) (aO ct:Aa) (us:aj),us.length=ps.length->bindArgs (PySem.W.fnOf x x (gQ st) (f_ st) (a_ st) .none kV doc pm an aO ct) #[us,[]]=pure (ps.zip us):=by exact λ_ _ _ _ _ _ us (hl:us.length=2)=>match us,hl with | [_,_],_=>rfl):!bF k x ps sp:=F3 d ok h
theorem iA{P:Ad}{w:Af}{K:af}{mg:Str->Option Aa}{base:Heap}{x:Str}{st:Stmt}{k:Nat}{ps:ae}{sp:Sp}(q:Tg P w base)(d:Fd K mg x st)(ok:∀f fd,bu K x x st f fd->!ak bc k f fd ps sp)(h:∀(kV doc pm:Aa) (an:Option Addr) (aO ct:Aa) (us:aj),us.length=ps.length->bindArgs (PySem.W.fnOf x x (gQ st) (f_ st) (a_ st) .none kV doc pm an aO ct) #[us,[]]=pure (ps.zip us):=by exact λ_ _ _ _ _ _ us (hl:us.length=3)=>match us,hl with | [_,_,_],_=>rfl):!bF k x ps sp:=F3 d ok h
theorem tO{P:Ad}{w:Af}{K:af}{mg:Str->Option Aa}{base:Heap}{x:Str}{st:Stmt}{k:Nat}{ps:ae}{sp:Sp}(q:Tg P w base)(d:Fd K mg x st)(ok:∀f fd,bu K x x st f fd->!ak bc k f fd ps sp)(h:∀(kV doc pm:Aa) (an:Option Addr) (aO ct:Aa) (us:aj),us.length=ps.length->bindArgs (PySem.W.fnOf x x (gQ st) (f_ st) (a_ st) .none kV doc pm an aO ct) #[us,[]]=pure (ps.zip us):=by exact λ_ _ _ _ _ _ us (hl:us.length=4)=>match us,hl with | [_,_,_,_],_=>rfl):!bF k x ps sp:=F3 d ok h
theorem F_{P:Ad}{w:Af}{K:af}{mg:Str->Option Aa}{base:Heap}{x:Str}{st:Stmt}{k:Nat}{ps:ae}{sp:Sp}(q:Tg P w base)(d:Fd K mg x st)(ok:∀f fd,bu K x x st f fd->!ak bc k f fd ps sp)(h:∀(kV doc pm:Aa) (an:Option Addr) (aO ct:Aa) (us:aj),us.length=ps.length->bindArgs (PySem.W.fnOf x x (gQ st) (f_ st) (a_ st) .none kV doc pm an aO ct) #[us,[]]=pure (ps.zip us):=by exact λ_ _ _ _ _ _ us (hl:us.length=5)=>match us,hl with | [_,_,_,_,_],_=>rfl):!bF k x ps sp:=F3 d ok h
theorem Gb{P:Ad}{w:Af}{K:af}{mg:Str->Option Aa}{base:Heap}{C:Addr}{m qual:Str}{st:Stmt}{k:Nat}{ps:ae}{sp:Sp}(q:Tg P w base)(d:Md K C m qual st)(ok:∀f fd,bu K m qual st f fd->!ak bc k f fd ps sp)(h:∀(kV doc pm:Aa) (an:Option Addr) (aO ct:Aa) (us:aj),us.length=ps.length->bindArgs (PySem.W.fnOf m qual (gQ st) (f_ st) (a_ st) .none kV doc pm an aO ct) #[us,[]]=pure (ps.zip us):=by exact λ_ _ _ _ _ _ us (hl:us.length=1)=>match us,hl with | [_],_=>rfl):!bY C k m ps sp:=wI d ok h
theorem mi{P:Ad}{w:Af}{K:af}{mg:Str->Option Aa}{base:Heap}{C:Addr}{m qual:Str}{st:Stmt}{k:Nat}{ps:ae}{sp:Sp}(q:Tg P w base)(d:Md K C m qual st)(ok:∀f fd,bu K m qual st f fd->!ak bc k f fd ps sp)(h:∀(kV doc pm:Aa) (an:Option Addr) (aO ct:Aa) (us:aj),us.length=ps.length->bindArgs (PySem.W.fnOf m qual (gQ st) (f_ st) (a_ st) .none kV doc pm an aO ct) #[us,[]]=pure (ps.zip us):=by exact λ_ _ _ _ _ _ us (hl:us.length=2)=>match us,hl with | [_,_],_=>rfl):!bY C k m ps sp:=wI d ok h
theorem Oy{P:Ad}{w:Af}{K:af}{mg:Str->Option Aa}{base:Heap}{C:Addr}{m qual:Str}{st:Stmt}{k:Nat}{ps:ae}{sp:Sp}(q:Tg P w base)(d:Md K C m qual st)(ok:∀f fd,bu K m qual st f fd->!ak bc k f fd ps sp)(h:∀(kV doc pm:Aa) (an:Option Addr) (aO ct:Aa) (us:aj),us.length=ps.length->bindArgs (PySem.W.fnOf m qual (gQ st) (f_ st) (a_ st) .none kV doc pm an aO ct) #[us,[]]=pure (ps.zip us):=by exact λ_ _ _ _ _ _ us (hl:us.length=3)=>match us,hl with | [_,_,_],_=>rfl):!bY C k m ps sp:=wI d ok h
theorem Ox{P:Ad}{w:Af}{K:af}{mg:Str->Option Aa}{base:Heap}{C:Addr}{m qual:Str}{st:Stmt}{k:Nat}{ps:ae}{sp:Sp}(q:Tg P w base)(d:Md K C m qual st)(ok:∀f fd,bu K m qual st f fd->!ak bc k f fd ps sp)(h:∀(kV doc pm:Aa) (an:Option Addr) (aO ct:Aa) (us:aj),us.length=ps.length->bindArgs (PySem.W.fnOf m qual (gQ st) (f_ st) (a_ st) .none kV doc pm an aO ct) #[us,[]]=pure (ps.zip us):=by exact λ_ _ _ _ _ _ us (hl:us.length=4)=>match us,hl with | [_,_,_,_],_=>rfl):!bY C k m ps sp:=wI d ok h
theorem Oz{P:Ad}{w:Af}{K:af}{mg:Str->Option Aa}{base:Heap}{C:Addr}{x qual:Str}{st:Stmt}{k:Nat}{ps:ae}{sp:Sp}(q:Tg P w base)(d:Md K C "__init__" qual st)(hx:mg x\.ref C)(mk:PySem.W.makesIn K C=true)(kc:PySem.W.keepIn K (.ref C)=true)(ok:∀f fd,bu K "__init__" qual st f fd->!ak bc k f fd ps sp)(h:∀(kV doc pm:Aa) (an:Option Addr) (aO ct:Aa) (us:aj),us.length=ps.length->bindArgs (PySem.W.fnOf "__init__" qual (gQ st) (f_ st) (a_ st) .none kV doc pm an aO ct) #[us,[]]=pure (ps.zip us):=by exact λ_ _ _ _ _ _ us (hl:us.length=3)=>match us,hl with | [_,_,_],_=>rfl):!mT C k x ps sp:=Ow d hx mk kc ok h
set_option maxHeartbeats 3200000 in
theorem all_mk{l:W.OpenLaw}{w:Af}{K:af}{h:Heap}{mg:Str->Option Aa}{fa CW CG CR fl c T:Addr}(X:K.In h)(G:h.Ns mainGlobals mg)(hfa:mg "law"\.ref fa)
  (f0:Fd K mg "is_whole" vG)
  (f1:Fd K mg "is_whole_from" NA)
  (f2:Fd K mg "is_whole_within" IS)
  (f3:Fd K mg "is_name" rK)
  (f4:Fd K mg "lesser_first" NG)
  (f5:Fd K mg "is_pair_of_names" rH)
  (f6:Fd K mg "sorted_ties" ND)
  (f7:Fd K mg Cv Ky)
  (f8:Fd K mg "least_multiple" Kx)
  (f9:Fd K mg "fraction_of" rX)
  (f10:Fd K mg "is_fraction" rQ)
  (f11:Fd K mg "is_less" rP)
  (f12:Fd K mg "is_hand_with_strength" rT)
  (f13:Fd K mg "checked_strengths" zF)
  (f14:Fd K mg "checked_ties" rC)
  (f15:Fd K mg "neighbours_of_all" rJ)
  (f16:Fd K mg "checked_ways" lZ)
  (f17:Fd K mg "checked_piece" MX)
  (f18:Fd K mg "checked_pieces" OZ)
  (f19:Fd K mg "checked_stand" NI)
  (f20:Fd K mg "loads_at" OA)
  (f21:Fd K mg ko rM)
  (f22:Fd K mg "levels_at" Nt)
  (f23:Fd K mg "rise_at" rE)
  (f24:Fd K mg "spread_at" Ob)
  (f25:Fd K mg "check_limit" se)
  (f26:Fd K mg "exits_of" lX)
  (f27:Fd K mg "placed_by" rG)
  (f28:Fd K mg "is_even" NZ)
  (f29:Fd K mg "spread" MY)
  (f30:Fd K mg "checked_shut_start" zH)
  (f31:Fd K mg "is_entry" O3)
  (f32:Fd K mg "place_of_wrong_form" zG)
  (f33:Fd K mg "leads_out" lQ)
  (f34:Fd K mg "shut_fault" lK)
  (f35:Fd K mg tV lY)
  (f36:Fd K mg "_law_name" lT)
  (f37:Fd K mg "_law_hands" NK)
  (f38:Fd K mg "_law_ties" lR)
  (f39:Fd K mg "_law_pieces" O_)
  (f40:Fd K mg "_law_stand" Nv)
  (f41:Fd K mg "_law_loads" N9)
  (f42:Fd K mg "_law_even" lU)
  (f43:Fd K mg "_law_moves" NH)
  (f44:Fd K mg "_law_layers" NY)
  (f45:Fd K mg "_law_form" rY)
  (f46:Fd K mg "_law_due" r_)
  (f47:Fd K mg "_law_changed" OH)
  (m0:Md K CW "__init__" "Web.__init__" rR)
  (m1:Md K CW "has_hand" "Web.has_hand" vH)
  (m2:Md K CW "hands" "Web.hands" lV)
  (m3:Md K CW "strength" "Web.strength" OW)
  (m4:Md K CW "neighbours" "Web.neighbours" lP)
  (m5:Md K CW "are_tied" "Web.are_tied" rD)
  (m6:Md K CG "__init__" "Goods.__init__" lW)
  (m7:Md K CG "has_piece" "Goods.has_piece" rW)
  (m8:Md K CG "names" "Goods.names" NN)
  (m9:Md K CG "weight" "Goods.weight" Nb)
  (Xx:Md K CG "may_go" "Goods.may_go" rV)
  (Xw:Md K CR "__init__" "Reach.__init__" lO)
  (Xv:Md K CR "one_move_on" "Reach.one_move_on" lM)
  {W2 QW UC Qm UJ:Aa} {W0 Pt:Option Addr} {Wf:Array (Option Aa)} {t8 t9 V9 V8 V7:Tok}
  (al:W.nsIn K mainGlobals "law"\some (.ref fl)) (ll:K.lookup fl=some #[W2,W0,.func (W.fnOf "law" "law" (gQ fe) (f_ fe) (a_ fe) .none QW UC Qm Pt (.ref c) UJ),Wf]) (cl:W.codeIn K (.ref c) "law"=true) (kl:W.keepIn K (.ref fl)=true) (ch:W.codeHdIn K c T=true) (aW:W.nsIn K mainGlobals "Web"\some (.ref CW)) (aG:W.nsIn K mainGlobals "Goods"\some (.ref CG)) (aR:W.nsIn K mainGlobals "Reach"\some (.ref CR)) (c8_:W.nsIn K mainGlobals "MOST_LETTERS"\some (.int 8 t8)) (c9_:W.nsIn K mainGlobals "MOST_HANDS"\some (.int 8 t9)) (O8:W.nsIn K mainGlobals "MOST_STRENGTH"\some (.int 1000 V9)) (O7:W.nsIn K mainGlobals "MOST_WEIGHT"\some (.int 1000000000 V8)) (O6:W.nsIn K mainGlobals "MOST_COUNT"\some (.int 100 V7)) (VG:W.plainGet K CW Str.empty=true) (VP:W.hasDictIn K CW=true) (VF:W.plainOver K CW=true) (VE:W.findIn K (.ref CW) "__setattr__"\some (.builtin "object.__setattr__")) (VN:W.makesIn K CW=true) (VO:W.keepIn K (.ref CW)=true) (VM:W.findIn K (.ref CW) u4\none) (VL:W.findIn K (.ref CW) "sorted_pairs"\none) (VJ:W.findIn K (.ref CW) Cw\none) (gpg:W.plainGet K CG Str.empty=true) (ghd:W.hasDictIn K CG=true) (gpo:W.plainOver K CG=true) (gsa:W.findIn K (.ref CG) "__setattr__"\some (.builtin "object.__setattr__")) (gmk:W.makesIn K CG=true) (gkc:W.keepIn K (.ref CG)=true) (gn0:W.findIn K (.ref CG) "web"\none) (gn1:W.findIn K (.ref CG) p_\none) (gn2:W.findIn K (.ref CG) Bl\none) (Wu:W.plainGet K CR Str.empty=true) (WB:W.hasDictIn K CR=true) (Wt:W.plainOver K CR=true) (Ws:W.findIn K (.ref CR) "__setattr__"\some (.builtin "object.__setattr__")) (Wz:W.makesIn K CR=true) (WA:W.keepIn K (.ref CR)=true) (Wy:W.findIn K (.ref CR) j6\none) (Wx:W.findIn K (.ref CR) u3\none) (Ww:W.findIn K (.ref CR) "newest"\none) (_q:W.findIn K (.ref CW) "__class__"\some (.builtin "object.__class__")) (_p:W.specialIn K (.builtin "object.__class__") "__get__"\some (.builtin "getset_descriptor.__get__")) (ZZ:W.takesIn K (.builtin "object.__class__")\true) (_j:W.mroIn K CW (.type "object")\true) (C9:W.nsIn K mainGlobals "abs"\none) (C8:W.nsIn K mainGlobals "min"\none) (C7:W.nsIn K mainGlobals "zip"\none) (z0:W.nsIn K mainGlobals "isinstance"\none) (z1:W.nsIn K mainGlobals "int"\none) (z2:W.nsIn K mainGlobals "bool"\none) (z3:W.nsIn K mainGlobals "str"\none) (z4:W.nsIn K mainGlobals "tuple"\none) (z5:W.nsIn K mainGlobals "list"\none) (z6:W.nsIn K mainGlobals "dict"\none) (z7:W.nsIn K mainGlobals "len"\none) (z8:W.nsIn K mainGlobals "all"\none) (z9:W.nsIn K mainGlobals "sorted"\none) (Vn:W.nsIn K mainGlobals "max"\none) (Vm:W.nsIn K mainGlobals "range"\none) (Vl:W.nsIn K mainGlobals "any"\none) (Vk:W.nsIn K mainGlobals "enumerate"\none) :
  ∃fd:Ae,(∀(s:Ab) (v:Aa),BindsTo s fd #[[v],[]] [(yC,v)])/\(∀T'∈[T],isCodeTable h T')/\∀base:Heap,K.In base->base.Ns mainGlobals mg->(∀T'∈[T],base.BuiltinsAt mg T')->ak l.prog w K mg base bc 10 fa fd [yC] (nj K T):=by
 let e:=hfa.symm.trans (W.mg_of X G al);cases e;have B:Bi mg:=#[j1 X G z0,j1 X G z1,j1 X G z2,j1 X G z3,j1 X G z4,j1 X G z5,j1 X G z6,j1 X G z7,j1 X G z8,j1 X G z9,j1 X G Vn,j1 X G Vm,j1 X G Vl,j1 X G Vk];have TW:Txt K mg CW:=#[#[VG,VP,VF,VE],VM,VL,VJ];have TG:gy K CG:=#[#[gpg,ghd,gpo,gsa],gn0,gn1,gn2];have TR:ui K CR:=#[#[Wu,WB,Wt,Ws],Wy,Wx,Ww];have IW:GT K CW:=#[_q,_p,ZZ,_j];let D9:=j1 X G C9;let xQ:=j1 X G C8;let D6:=j1 X G C7;have FL:xa K "law" "law" fe _ c _:=#[#[_,_,_,_,_,_,_,_,U,ll,cl],kl];apply#[W.fnOf "law" "law" (gQ fe) (f_ fe) (a_ fe) .none QW UC Qm Pt (.ref c) UJ,λs v=>.of_eq U,λT' A0=>?_,λbase KB _ hbm=>?_]
 ·obtain rfl:T'=T:=⇑A0
  let#[o,J6,file,tf,flags,tg,inF,text,tt,h1,h2,h3,h4,_]:=W.codeHd_of_K X ch;exact#[c,o,J6,h1,h2,h3,h4]
 have q:Tg l.prog w base:=⟨⟩;let Bv:=gm q f0 λ_ _ F=>YD F B;let mj:=iA q f2 λ_ _ F=>_K F Bv;let OE:=dS q f1 λ_ _ F=>gs_ F Bv;let tT:=gm q f3 λ_ _ F=>YR F B (W.mg_of X G c8_);let Bt:=dS q f4 λ_ _ F=>h3_ F;let Gj:=gm q f5 λ_ _ F=>Y4 F B tT;let yH:=gm q f6 λ_ _ F=>hc_ F B Gj Bt;let Gq:=gm q f12 λ_ _ F=>Zz F B tT mj (W.mg_of X G O8);let cStr:=gm q f13 λ_ _ F=>YN F B Gq (W.mg_of X G c9_);let Gf:=dS q f14 λ_ _ F=>Y6 F B yH;let Gm:=dS q f15 λ_ _ F=>Zd F Bt;let OG:=Oz q m0 (W.mg_of X G aW) VN VO λ_ _ F=>ZJ F TW B cStr Gf Gm;let Ah:=mi (mg:=mg) q m1 λ_ _ F=>X3 F TW B;let xS:=mi (mg:=mg) q m1 λ_ _ F=>Ze F TW B;let l6:=Gb (mg:=mg) q m2 λ_ _ F=>ZU F TW B;let Eb:=mi (mg:=mg) q m3 λ_ _ F=>eO_ F TW Ah;let K6:=mi (mg:=mg) q m4 λ_ _ F=>_m F TW B Ah;let xR:=Oy (mg:=mg) q m5 λ_ _ F=>ZW F TW xS;let OU:=dS q f16 λ_ _ F=>_O F TW yH xR;let cCP:=dS q f17 λ_ _ F=>ha_ F B tT mj OU (W.mg_of X G O7);let OV:=dS q f18 λ_ _ F=>fE_ F B cCP;let Bx:=Oz q m6 (W.mg_of X G aG) gmk gkc λ_ _ F=>_B F TG TW IW B (W.mg_of X G aW) OV;let A2:=mi (mg:=mg) q m7 λ_ _ F=>Zo (CW:=CW) F TG B;let i0:=Gb (mg:=mg) q m8 λ_ _ F=>hK_ (CW:=CW) F TG B;let wg:=mi (mg:=mg) q m9 λ_ _ F=>fO_ (CP:=CW) F TG A2;let MF:=Ox (mg:=mg) q Xx λ_ _ F=>Zi (CP:=CW) F TG TW A2 xR Bt;let OQ:=dS q f7 λ_ _ F=>Yt F;let cLM:=gm q f8 λ_ _ F=>Yv F OQ;let cFr:=dS q f9 λ_ _ F=>Y7 F OQ;let cIF:=gm q f10 λ_ _ F=>Yn F B D9 Bv OE OQ;let Gn:=dS q f11 λ_ _ F=>ZC F;let U3:=dS q f19 λ_ _ F=>gx_ F B TG TW A2 Ah i0;let cLA:=dS q f20 λ_ _ F=>fY_ F B TG TW l6 wg;let UW:=gm q f21 λ_ _ F=>Zc F TW cLM l6 Eb;let cLv:=dS q f22 λ_ _ F=>hu_ F TG TW cLA UW Eb;let Gi:=dS q f23 λ_ _ F=>ZD F B xQ cLv;let Gh:=dS q f24 λ_ _ F=>eN_ F TG Gi UW cFr;let OI:=dS q f29 λ_ _ F=>hp_ F U3 Gh;let cCL:=gm q f25 λ_ _ F=>Yl F cIF;let cEx:=gm q f26 λ_ _ F=>hZ_ F TG TW i0 l6 K6 MF;let cPB:=dS q f27 λ_ _ F=>Zf F B D6 TG i0;let cIE:=iA q f28 λ_ _ F=>gG_ F Gn Gh cPB;let cRe:=Oz q Xw (W.mg_of X G aR) Wz WA λ_ _ F=>_R F TR B cEx;let WE:=mi (mg:=mg) q Xv λ_ _ F=>_P F TR B;let jY:=dS q f35 λ_ _ F=>_E F B;let UZ:=gm q f36 λ_ _ F=>_D F B jY;let cLH:=dS q f37 λ_ _ F=>hI_ F B jY UZ;let cLT:=dS q f38 λ_ _ F=>_b F B jY;let cLP:=iA q f39 λ_ _ F=>g5_ F B jY UZ;let cLS:=iA q f40 λ_ _ F=>gL_ F B jY;let cLL:=iA q f41 λ_ _ F=>h0_ F B;let cLE:=tO q f42 λ_ _ F=>_r F cLL;let Gp:=iA q f43 λ_ _ F=>hM_ F B;let ON:=tO q f44 λ_ _ F=>gp_ F B Gp;let OO:=gm q f0 λ_ _ F=>ZG F B;let OF:=iA q f2 λ_ _ F=>gF_ F OO;let cCC:=tO q f30 λ_ _ F=>X_ F (W.mg_of X G O6) cCL U3 mj;let cEn:=iA q f31 λ_ _ F=>eH_ F B TG TW i0 xS OF;let cPW:=iA q f32 λ_ _ F=>ZE F B cEn;let cLO:=iA q f33 λ_ _ F=>_v F TR B WE;let cSF:=F_ q f34 λ_ _ F=>hJ_ F B TR cCC cPW cRe cIE cLO;let cFm:=tO q f45 λ_ _ F=>ZN F B;let cDu:=F_ q f46 λ_ _ F=>Zy F B cFm cLE Gp;let cCh:=tO q f47 λ_ _ F=>fU_ F B jY;exact Ye FL B xQ (W.codeHd_of_K KB ch) (hbm T Y1) #[jY,cLH,cLT,cLP,cLS,OG,Bx,ON] #[jY,cDu,cSF,cCh,OI]
theorem walk{l:PySem.W.OpenLaw}{q:Ad}{loose:ae}{XP:(Str->Option Aa)->Heap->Prop}{d:DefRec}{K:Params->af}{as:av}{T:Addr}{IV:∀P:Params,as=(K P).map (·.1)}(hn:l.most\63)(Ff:d.params.defaults=[])(Lz:([T].all λT=>!as.contains T)=true)
  (F:∀(w:Af) (mg:Str->Option Aa) (fa:Addr) (h:Heap),(K w.params).In h->h.Ns mainGlobals mg->mg d.name\.ref fa->
   ∃fd:Ae,(∀(s:Ab) (u:Aa),BindsTo s fd #[[u],[]] [(yC,u)])/\(∀T'∈[T],isCodeTable h T')/\∀base:Heap,(K w.params).In base->base.Ns mainGlobals mg->(∀T'∈[T],base.BuiltinsAt mg T')->ak l.prog w (K w.params) mg base bc 10 fa fd [yC] (nj (K w.params) T)) :
  PySem.W.WalkO q loose XP (PySem.W.kmHook K as IV [T]).says l.row.toRowW d [] (λf vs=>PySem.call f vs):=
 L2.qw (n:=63) (k:=10) (x:=yC) (CX:=λ_=>bc) (sp:=λw=>nj (K w.params) T) hn (by decide) Ff #[U,by decide,by decide] Lz F (λ_ _ a ns hl hT hS=>#[a,ns,U,hT T Y1,hS,hl,λ_=>rfl]) λ_ _ _ _ _ z=>z
end Ev
namespace PySem.W.Fast
universe tw1355241163432711264 tw17602375159598538880 tw214457492058358720 tw2861852894727613313 tw15847905355405885826 tw4812476714472468066 tw15556634213645560419 tw11906660249947767973 tw13209533703582526277 tw13898130287331705639 tw12364580859702976713 tw1056201003788696841 tw14156909677854555433 tw4910995854157711658 tw1124037256667788491 tw15268352991388039915 tw5620045942164176651 tw15677455954514909356 tw4925658174179293230 tw10703335866855945647 tw11441785151951107535 tw14068335084163795759 tw4327749393976700400 tw4813082816511874704 tw10296657136591986003 tw10052252886401905171 tw9024960077069749 tw306233449868337814 tw7172546095525448438 tw41106067494405207 tw3056795975312674328 tw11263792891722449274 tw9950839112269763258 tw16587102259160268379 tw3513906815575599902 tw14850414382434839326 tw9422574546111993343 tw13629447772320091775 tw10716101577560850207 tw3016945476064940259 tw4094017174621154421 tw14989181735889465068 tw8679524876756741136 tw8939662283005117101 tw7855256528895821912 tw15236611722521029618 tw7424475988061599454 tw16391688055561305517 tw2539984551304794044 tw6099576272305818965 tw13057107564041599455 tw14867063517040146619 tw11479385220182993094 tw13160498059332274681 tw17167691246119088640 tw10697906589376871373 tw2374382895479712108 tw14444631664093604443 tw1198548961368919063 tw10425868371539130332 tw16667528502235789744 tw9158203208365094390 tw5678647450643607521 tw3531729043961051567 tw17370461628683371320 tw5929111761525097178 tw6336694323147610287 tw5220050499814380880 tw16380388665131578383 tw8580427148845933155 tw13452866936290582623 tw6124350577255503567 tw8878059501903671783 tw14692401877244940972 tw9794717396647561188 tw6110046260590497954 tw12136483592790399278 tw17926124393069898324 tw17781340519283567319 tw4674691814101181955 tw5988600696348213740 tw4961894756347275888 tw9821554491824231485 tw4188695663303424547 tw4050430329122003176 tw8805306973270929027 tw945316726368635284 tw9717768101293441744 tw4356931946881013657 tw11286708915549968636 tw9280447206346937098 tw9610310764474576898 tw16848535232631294716 tw834372509189376795 tw1573918924101440572 tw14057600490295892616 tw1318801743727919258 tw12951149863416644137 tw16175306315981375149 tw5696234615029884441 tw11274922236488433582 tw1981780133802883023 tw1481809411402160029 tw10777522626489768502 tw2522620158115305614 tw1427825693968129312 tw4393343454729576317 tw13247343709712912534 tw16021747168949561409 tw13651320402938935596 tw18270204947230088454 tw12783404792361632723 tw9083423637415441918 tw7194605558439306574 tw3008118493353306885 tw15308461230516305619 tw18291862581320000339 tw7115814923728468908 tw11903214371005706765 tw16843540472088504030 tw8391946324356217927 tw7327360347862976310 tw16937949867045482399 tw3222835792546182602 tw8303239305740014909 tw13420083140060203732 tw11371961788520294776 tw4846096737875151574 tw12835049434854683583 tw15701212915447144480 tw4163421846232979088 tw12748209631986804407 tw5342036806049329688 tw1179766872512457508 tw5572957751330695859 tw10123721423738577851 tw5713713945185348541 tw16523284492677703689 tw7942395870231525331 tw4423965883068589286 tw2856646026535046526 tw13877977645488295623 tw10239590859607945694 tw11612584324677270669 tw16913463687496262411 tw16234493286371573382 tw15145710794926167837 tw16207942520954374758 tw3641389552443416138 tw4817260028575200763 tw6633555923850830256 tw6065929523140761934 tw4818602128262928739 tw12120523854761348702 tw12171030501787044014 tw3745138538114389687 tw17386986113116882863 tw17121708958567520742 tw12212414518332736851 tw15009332477628214342 tw9649996858250903994 tw13378013422110624630 tw8819869270808743585 tw6364434395523107505 tw9259106525182373822 tw15748504548128203054 tw12064727774708590692 tw8799679428714092310 tw12364756725579462815 tw7060319877574732914 tw67903106247956079 tw3298487747124955851 tw11541253214639995743 tw13468504983484435336 tw12084872827439064055 tw7168895446013743835 tw543184711796138492 tw12993242765308077004 tw15190115540316880832 tw18259602212068734734 tw10935540874636846386 tw13393020481399490942 tw1423273562302969767 tw11725616468093540571 tw4103128476498626556 tw15949799545003130145 tw13180191968160007887 tw4163687234461149637 tw11999354410779116176 tw17183127112644257349 tw3492904410418999777 tw4848523592810615129 tw7499553627668557790 tw12293394916792515124 tw3428641485254276108 tw18330826219424216117 tw12390364782865147999 tw14199212671736242512 tw10830024732186527492 tw6775049547347913093 tw4877858339277144912 tw17547839690337562273 tw17005960870112486331 tw12478180709255253643 tw18023631918838507695 tw10517289157566565421 tw3308694653717275505 tw9175524376684636852 tw8126227787138365758 tw6033736072289864861 tw17255533898861715441 tw15324205272445684935 tw11151591992112508880 tw1205898170771512233 tw12754765912450049692 tw17673491796254856005 tw16170824574483856375 tw212962672020277266 tw1162150095239724617 tw11710552585078793118 tw12057730829108277919 tw11652101443499610635 tw4958398591170317036 tw17415310403238624773 tw17662503407327003134 tw7252395627013132407 tw17739359242686168518 tw2477588103994997611 tw16737306720158515340 tw3431546455486060052 tw15741861297834543551 tw361639728626468698 tw14583114571438996971 tw16357662198612430402 tw13785441917308680632 tw14248117038402445194 tw4773791405286601471 tw9565903144759131850 tw15079902377958767104 tw13825664837487394157 tw12950959252549818739 tw2134860849186176415 tw3316437366267255705 tw17105183107956000852 tw17861715746520076968 tw2131826763667010737 tw14221104722659071233 tw15957674343907087401 tw8791828161999723266 tw7756858423345706574 tw2106736846368451533 tw1013494042418869354 tw5816975091677457803 tw4164849525121894261 tw15536620649776859816 tw13921448462874736749 tw272414263581641911 tw3497773372253265928 tw16693728492414285032 tw15287230221613057102 tw6324912700504511208 tw15872521089200453892 tw4719111046255612687 tw9765296036704809232 tw296262843040930869 tw17457345304404868010 tw16628169719673353965 tw16083555783399468722 tw5151750610738180919 tw13114469042229662497 tw868103388861650454 tw15571574503904149196 tw289767546540162554 tw5709787043765118628 tw17590180388856856984 tw12733748378084216977 tw4072369773853651577 tw10865647899704406788 tw5119889205137575656 tw15562389237745388258 tw4324359438516462838 tw7464683050685203 tw3150952962794321426 tw11940554057355454653 tw7101385962371954138 tw16545129124375012511 tw3044124254466529157 tw15829703038790716297 tw13947439928452426303 tw5954712605856342158 tw9333804105290257975 tw3310242226115218855 tw18186798011996913001 tw15789332296186301078 tw451896896656456719 tw11053163543581312609 tw4840759330349003853 tw13023867702422316369 tw14565770977726162148 tw11415374962946461265 tw11254348416154724200 tw14945234510021345942 tw15806718250935069500 tw11366333402858783840 tw16998537851997117354 tw1014016604844415040 tw15854267631632676791 tw10252706103139533139 tw3560564669833181499 tw14042011626868142329 tw4488247316043433651 tw4925560155469608486 tw3455606906283728356 tw14659103108205867166 tw947621890359164247 tw10416373081104623582 tw4590743932730156351 tw15564731515100355479 tw2535854525756223092 tw12967742625049929019 tw13008709672309485092 tw1428766181186384067 tw7442939528340545165 tw14672125144703555337 tw15013132008865825071 tw11306566246955899839 tw13403005998706308855 tw13749196391901818951 tw7377328997185430247 tw5549895966265718571 tw5101855380865823935 tw12677932043326348507 tw8713665015734833485 tw5958356050590017414 tw11086699651308108709 tw14048589657843178335 tw8765371618178333977 tw9301366682820647192 tw17710539217543843322 tw15516329219384965442 tw12225068758554753928 tw18390512678815752090 tw4986308716275473841 tw5711814467020415625 tw1826775379117150713 tw17426565711429224736 tw9521344018543197362 tw14809190545472783401 tw17390603616313492155 tw8709140099471809185 tw6357490695367473267 tw6505588052210609997 tw933012174022851228 tw2934988141605434565 tw3075249555828363542 tw723309909219885266 tw905164542602094814 tw3520028866735924541 tw15544172468821998334 tw14844549311381006856 tw6732933433470417162 tw4421108046139650788 tw11641765376682062230 tw7549184132346802864
end PySem.W.Fast
open PySem PySem.W PyProof.Rows
set_option maxHeartbeats 0
set_option maxRecDepth 100000 in
local macro_rules|`(%[|$k:num])=>let i:=Lean.mkIdent;if k.getNat==1 then`(Ev.FH $(i `KX) $(i `G) ?_ ?_ ?_ ?_)else`(Ev.Ea ?_ ?_ ?_ ?_ ?_)
theorem PySem.Challenge.cw_evenpieces_k83_shuts_spoilt_holds : PySem.Challenge.rw_evenpieces_k83_shuts_spoilt.Holds := by
 w_on;o_law;k_head;(case hw=>w_witness2)
 k_fill
 apply Ev.walk (l:=PySem.Challenge.rw_evenpieces_k83_shuts_spoilt) rfl rfl (by rfl) ?F
 case F=>
  intro w mg fa h KX G hmg;refine' Ev.all_mk KX G hmg %[|1] %[|1] %[|1] %[|1] %[|1] %[|1] %[|1] %[|1] %[|1] %[|1] %[|1] %[|1] %[|1] %[|1] %[|1] %[|1] %[|1] %[|1] %[|1] %[|1] %[|1] %[|1] %[|1] %[|1] %[|1] %[|1] %[|1] %[|1] %[|1] %[|1] %[|1] %[|1] %[|1] %[|1] %[|1] %[|1] %[|1] %[|1] %[|1] %[|1] %[|1] %[|1] %[|1] %[|1] %[|1] %[|1] %[|1] %[|1] %[|2] %[|2] %[|2] %[|2] %[|2] %[|2] %[|2] %[|2] %[|2] %[|2] %[|2] %[|2] %[|2] ?_ ?_ ?_ ?_ ?ch ?aW ?aG ?aR ?_ ?_ ?_ ?_ ?_ ?_ ?_ ?_ ?_ ?_ ?_ ?_ ?_ ?_ ?_ ?_ ?_ ?_ ?_ ?_ ?_ ?_ ?_ ?_ ?_ ?_ ?_ ?_ ?_ ?_ ?_ ?_ ?_ ?_ ?_ ?_ ?_ ?_ ?_ ?_ ?_ ?_ ?_ ?_ ?_ ?_ ?_ ?_ ?_ ?_ ?_ ?_ ?_
  (case aW=>k_is);(case aG=>k_is);(case aR=>k_is)
  any_goals k_is
  (case ch=>kernel_rfl)

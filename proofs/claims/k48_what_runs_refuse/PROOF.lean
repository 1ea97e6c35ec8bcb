import PyProof.Rows.All
import Wide.All
import OpenK.AllK
import Wide.FinOn
import Lean
import PyProof.EqAt
import PyProof.EqKinds
import PyProof.TupleCall
import PyProof.FitsReplace
import KE.KLam
import KE.KSortTup
import Wide.Seal
import PyProof.TupleOfSeq
import PyProof.NeKinds
import PySem.Challenge.RW_evenpieces_k48_what_runs_refuse
set_option maxHeartbeats 0
set_option Elab.async false
set_option linter.all false
noncomputable section
local macro_rules|`(def $x:declId $s:optDeclSig $v:declVal)=>`(noncomputable def $x:declId $s:optDeclSig $v:declVal)
local macro_rules|`(abbrev $x:declId $s:optDeclSig $v:declVal)=>`(noncomputable abbrev $x:declId $s:optDeclSig $v:declVal)
local macro_rules|`(universe $x*)=>return Lean.mkNullNode (←x.mapM λa=>do return(←`(theorem $a:ident:True:=⟨⟩)).raw)
abbrev Xa:=List (PySem.Str × Int)
abbrev Xb:=List (PySem.Str × PySem.Str)
set_option compiler.extract_closed false
set_option maxRecDepth 100000
theorem ao:type_of% @PySem.wpAny_bind:=@PySem.wpAny_bind
abbrev Aa:=PySem.Value
theorem bQ:type_of% @PySem.Heap.get?_push_of_some:=@PySem.Heap.get?_push_of_some
abbrev Ab:=PySem.Shared
theorem aP:type_of% @PySem.wpAny_pure:=@PySem.wpAny_pure
abbrev Ad:=PySem.Program
theorem dU:type_of% @PySem.Heap.get?_push_size:=@PySem.Heap.get?_push_size
theorem cc:type_of% @decide_eq_true:=@decide_eq_true
theorem bS:type_of% @PySem.Paired.length:=@PySem.Paired.length
theorem bN:type_of% @PySem.Heap.lt_size:=@PySem.Heap.lt_size
abbrev Ae:=PySem.FuncData
theorem dc:type_of% @decide_eq_false:=@decide_eq_false
theorem aC:type_of% @if_neg:=@if_neg
theorem dG:type_of% @Option.some.inj:=@Option.some.inj
theorem aJ:type_of% @if_pos:=@if_pos
theorem cm:type_of% @PySem.sizeLine_eq:=@PySem.sizeLine_eq
theorem ji:type_of% @PySem.Heap.get?_update_other:=@PySem.Heap.get?_update_other
abbrev Af:=PySem.World
abbrev Ag:=PySem.Around
theorem jh:type_of% @PySem.W.mg_none_of:=@PySem.W.mg_none_of
theorem oo:type_of% @PySem.F.plainAttrs_list:=@PySem.F.plainAttrs_list
theorem jW:type_of% @PySem.mem_of_lookup:=@PySem.mem_of_lookup
theorem ie:type_of% @PySem.PassesOwn.never:=@PySem.PassesOwn.never
abbrev Ah:=PySem.DictEntry
theorem qO:type_of% @PySem.wpAny_loadPart':=@PySem.wpAny_loadPart'
theorem jK:type_of% @PySem.wpAny_holding:=@PySem.wpAny_holding
theorem eA:type_of% @congrArg:=@congrArg
theorem kX:type_of% @PySem.boot_len:=@PySem.boot_len
theorem iC:type_of% @Sum.inr.inj:=@Sum.inr.inj
theorem zL:type_of% @PySem.F.excBase_ValueError:=@PySem.F.excBase_ValueError
theorem lX:type_of% @PySem.W.mg_of:=@PySem.W.mg_of
theorem rO:type_of% @PySem.wpAny_truthy_bool:=@PySem.wpAny_truthy_bool
theorem qL:type_of% @PySem.W.kia_one:=@PySem.W.kia_one
theorem iM:type_of% @PySem.wpAny_mono:=@PySem.wpAny_mono
theorem Cu:type_of% @PySem.F.type_list_append:=@PySem.F.type_list_append
theorem Ct:type_of% @PySem.F.slot_list_append:=@PySem.F.slot_list_append
theorem zM:type_of% @PySem.Heap.get?_update_self:=@PySem.Heap.get?_update_self
theorem wb:type_of% @PySem.wpAny_newObj_type:=@PySem.wpAny_newObj_type
abbrev Ai:=PySem.Arguments
theorem ye:type_of% @of_decide_eq_true:=@of_decide_eq_true
theorem Z0{p:Prop}[Decidable p](h:decide p=true:=by decide +kernel):p:=of_decide_eq_true h
theorem Z1{p:Prop}(h:p:=by omega):p:=h
theorem Z2{p:Prop}(h:p:=by simp):p:=h
local macro_rules|`(tactic|let $x:ident:=$e)=>`(tactic|have $x:ident:=$e)
local macro_rules|`($a\$b)=>`($a=some $b)
local macro_rules|`(⇑$h)=>`(by simpa using $h)
local macro_rules|`(tactic|exists $e)=>let i:=Lean.mkIdent;`(tactic|refine $e λ$(i `aD) $(i `A) $(i `outer) $(i `s) $(i `H) $(i `vs) $(i `Q) $(i `E) $(i `hr) $(i `h)=>?_)
local macro_rules|`(section v)=>let i:=Lean.mkIdent;return Lean.mkNullNode #[←`(section),←`(variable{$(i `P):ident:$(i `Ad)}{$(i `w):ident:$(i `Af)}{$(i `K):ident:$(i `af)}{$(i `mg):ident:$(i `Str)->$(i `Option) $(i `Aa)}{$(i `base):ident:$(i `Heap)})]
local macro_rules|`(tactic|apply $e)=>`(tactic|refine $e)
local macro_rules|`(#[$x,$xs,*])=>`(⟨$x,$xs,*⟩)
local macro_rules|`(tactic|let $p:term:=$e)=>let g:=λ(x:Lean.Syntax)=>(if x.isIdent then`(rcasesPat|$(⟨x⟩):ident) else if x.isOfKind ``Lean.Parser.Term.hole then`(rcasesPat|_) else pure ⟨x⟩:Lean.MacroM (Lean.TSyntax `rcasesPat));p.raw.rewriteBottomUpM (λn=>if n.isOfKind `«term#[_,]» then n[1].getSepArgs.mapM (λx=>g x>>=λy=>`(Lean.Parser.Tactic.rcasesPatLo|$y:rcasesPat))>>=λs=>`(rcasesPat|⟨$s,*⟩)>>=λt=>pure t.raw else pure n)>>=λq=>`(tactic|obtain $(⟨q⟩):rcasesPat:=$e)
theorem Z{α:Sort _}{a:α}:a=a:=rfl
abbrev af:=PySem.W.Frag
theorem aB:type_of% @List.length_map:=@List.length_map
theorem dj:type_of% @List.getElem?_eq_some_iff:=@List.getElem?_eq_some_iff
theorem dE:type_of% @List.getElem?_eq_getElem:=@List.getElem?_eq_getElem
theorem bj:type_of% @Nat.le_refl:=@Nat.le_refl
theorem dD:type_of% @List.mem_of_getElem?:=@List.mem_of_getElem?
theorem cn:type_of% @List.size_toArray:=@List.size_toArray
theorem dZ:type_of% @List.mem_cons_of_mem:=@List.mem_cons_of_mem
theorem bD:type_of% @List.mem_map:=@List.mem_map
theorem bW:type_of% @List.mem_cons:=@List.mem_cons
theorem dQ:type_of% @List.getElem?_map:=@List.getElem?_map
theorem bV:type_of% @List.map_map:=@List.map_map
theorem eZ:type_of% @List.mem_cons_self:=@List.mem_cons_self
theorem eK:type_of% @List.map_append:=@List.map_append
theorem fZ:type_of% @List.length_append:=@List.length_append
theorem fA:type_of% @List.length_take:=@List.length_take
theorem gO:type_of% @Bool.false_ne_true:=@Bool.false_ne_true
theorem dB:type_of% @Nat.ne_of_lt:=@Nat.ne_of_lt
theorem fX:type_of% @List.take_length:=@List.take_length
theorem gZ:type_of% @Nat.lt_of_lt_of_le:=@Nat.lt_of_lt_of_le
theorem eV:type_of% @List.map_cons:=@List.map_cons
theorem gY:type_of% @List.mem_append:=@List.mem_append
theorem oB:type_of% @List.mem_append_right:=@List.mem_append_right
theorem vC:type_of% @List.nodup_iff_pairwise_ne:=@List.nodup_iff_pairwise_ne
theorem me:type_of% @Bool.false_eq_true:=@Bool.false_eq_true
theorem k_:type_of% @List.take_add_one:=@List.take_add_one
theorem j3:type_of% @List.length_cons:=@List.length_cons
theorem vH:type_of% @Option.isSome_iff_exists:=@Option.isSome_iff_exists
theorem hG:type_of% @Nat.zero_le:=@Nat.zero_le
theorem oH:type_of% @List.getElem_mem:=@List.getElem_mem
theorem rZ:type_of% @List.getElem_of_mem:=@List.getElem_of_mem
theorem zZ:type_of% @Array.getElem?_eq_some_iff:=@Array.getElem?_eq_some_iff
theorem rY:type_of% @List.mem_filterMap:=@List.mem_filterMap
theorem vG:type_of% @Array.length_toList:=@Array.length_toList
theorem vF:type_of% @List.map_congr_left:=@List.map_congr_left
theorem qV:type_of% @List.lookup_cons:=@List.lookup_cons
theorem De:type_of% @List.getElem?_append_right:=@List.getElem?_append_right
theorem zY:type_of% @Int.eq_ofNat_of_zero_le:=@Int.eq_ofNat_of_zero_le
theorem qU:type_of% @List.nodup_cons:=@List.nodup_cons
theorem vE:type_of% @List.pairwise_map:=@List.pairwise_map
theorem rX:type_of% @List.length_nil:=@List.length_nil
theorem vD:type_of% @List.not_mem_nil:=@List.not_mem_nil
theorem wF:type_of% @Int.toNat_natCast:=@Int.toNat_natCast
theorem oG:type_of% @Nat.le_trans:=@Nat.le_trans
theorem oF:type_of% @Nat.ne_of_gt:=@Nat.ne_of_gt
theorem Ez:type_of% @List.getElem?_append_left:=@List.getElem?_append_left
theorem wD:type_of% @Bool.and_eq_true:=@Bool.and_eq_true
theorem wC:type_of% @List.append_nil:=@List.append_nil
theorem Ey:type_of% @List.take_of_length_le:=@List.take_of_length_le
theorem Ew:type_of% @List.length_replicate:=@List.length_replicate
theorem yg:type_of% @List.find?_cons:=@List.find?_cons
theorem Df:type_of% @Int.emod_lt_of_pos:=@Int.emod_lt_of_pos
theorem z_:type_of% @Int.emod_nonneg:=@Int.emod_nonneg
theorem yj:type_of% @Nat.lt_irrefl:=@Nat.lt_irrefl
theorem yi:type_of% @Bool.not_true:=@Bool.not_true
abbrev ak:=List PySem.Value
abbrev aq:=PySem.Str->PySem.Str
abbrev ai:=List PySem.Addr
abbrev ae:=List PySem.Str
namespace L2
open PySem PySem.Spec PyProof.Rows
abbrev Key:=Sum Int Str
def xW:Key->Aa->Bool
 |.inl k,v=>Value.isInt k v
 |.inr x,v=>Value.isStrOf x v
def M6(w:Af):Key->Int
 |.inl k=>hashInt k
 |.inr x=>hashStr w x
theorem r9:∀{k:Key} {v:Aa},xW k v=true->(∃i t,k=Sum.inl i/\v=Value.int i t)∨(∃x t,k=Sum.inr x/\v=Value.str x t)
 |.inl i,v,h=>by
  let#[t,e]:=Value.isInt_shape (k:=i) (v:=v) h;exact .inl #[i,t,Z,e]
 |.inr x,v,h=>by
  let#[t,e]:=Value.isStrOf_shape (x:=x) (v:=v) h;exact .inr #[x,t,Z,e]
theorem ij_(i:Int)(t:Tok):xW (.inl i) (.int i t)=true:=by simp[xW,Value.isInt]
theorem gV_(x:Str)(t:Tok):xW (.inr x) (.str x t)=true:=by simp[xW,Value.isStrOf]
theorem ZV(a b:Int):decide ((Sum.inl a:Key)=Sum.inl b)=(a == b):=by
 by_cases e:a=b
 ·subst e;simp
 have h:¬(Sum.inl a:Key)=Sum.inl b:=λq=>e (Sum.inl.inj q);rw[dc h];exact (beq_eq_false_iff_ne.mpr e).symm
theorem ZU(a b:Str):decide ((Sum.inr a:Key)=Sum.inr b)=decide (a=b):=by
 by_cases e:a=b
 ·subst e;simp
 have h:¬(Sum.inr a:Key)=Sum.inr b:=λq=>e (iC q);rw[dc h,dc e]
theorem _t(a:Int)(b:Str):decide ((Sum.inl a:Key)=Sum.inr b)=false:=dc (λq=>nomatch q)
theorem Zy(a:Str)(b:Int):decide ((Sum.inr a:Key)=Sum.inl b)=false:=dc (λq=>nomatch q)
def d_(prog:Ad)(w:Af):PySem.KeyKind prog w Key where
 is:=xW
 hash:=M6 w
 inj:=λv a b ha hb=>by
  rcases r9 ha with⟨i,t,rfl,rfl⟩|⟨x,t,rfl,rfl⟩
  ·rcases r9 hb with⟨j,u,rfl,e⟩|⟨y,u,rfl,e⟩
   ·injection e with e1 _;rw[e1]
   exact nomatch e
  rcases r9 hb with⟨j,u,rfl,e⟩|⟨y,u,rfl,e⟩
  ·exact nomatch e
  injection e with e1 _;rw[e1]
 byValue:=λk v h=>by
  rcases r9 h with⟨i,t,rfl,rfl⟩|⟨x,t,rfl,rfl⟩<;>rfl
 pyHash:=λhv h=>by
  rcases r9 hv with⟨i,t,rfl,rfl⟩|⟨x,t,rfl,rfl⟩
  ·exact wpAny_pyHash_int h
  exact wpAny_pyHash_str h
 eqBool:=λhu hv h=>by
  rcases r9 hu with⟨i,t,rfl,rfl⟩|⟨x,t,rfl,rfl⟩
  ·rcases r9 hv with⟨j,u,rfl,rfl⟩|⟨y,u,rfl,rfl⟩
   ·rw[ZV] at h;exact wpAny_eqBool_int h
   rw[_t] at h;exact SeqAt.EqAt.int_str i t y u _ _ _ _ h
  rcases r9 hv with⟨j,u,rfl,rfl⟩|⟨y,u,rfl,rfl⟩
  ·rw[Zy] at h;exact SeqAt.EqAt.str_int x t j u _ _ _ _ h
  rw[ZU] at h;exact wpAny_eqBool_str h
 «strs»:=λk x t v h=>by
  rcases r9 h with⟨i,u,rfl,e⟩|⟨y,u,rfl,e⟩
  ·exact nomatch e
  injection e with e1 _
  subst e1;cases v<;>rfl
theorem f2_(prog:Ad)(w:Af)(i:Int)(t:Tok):(d_ prog w).is (.inl i) (.int i t)=true:=ij_ i t
theorem QW(prog:Ad)(w:Af)(x:Str)(t:Tok):(d_ prog w).is (.inr x) (.str x t)=true:=gV_ x t
end L2
abbrev ax:=List L2.Key
namespace L2
open PySem PySem.Spec PyProof.Rows
inductive V where
 |non|bl (b:Bool)|int (i:Int)|str (x:Str)|byt (b:Array UInt8)|flt (b:UInt64)|ref (a:Addr)|ty (n:String)
 deriving DecidableEq
def RelV:V->Aa->Prop
 |.non,u=>u=Value.none
 |.bl b,u=>u=Value.bool b
 |.int i,u=>∃t,u=Value.int i t
 |.str x,u=>∃t,u=Value.str x t
 |.byt b,u=>∃t,u=Value.bytes b t
 |.flt b,u=>∃t,u=Value.float b t
 |.ref a,u=>u=Value.ref a
 |.ty n,u=>u=Value.type n
abbrev Vals:List V->ak->Prop:=Paired RelV
theorem Vals.length{xs:List V}{us:ak}(r:Vals xs us):xs.length=us.length:=bS r
theorem Vals.get:∀{xs:List V} {us:ak} {i:Nat} {x:V},Vals xs us->xs[i]? = some x->∃u,us[i]? = some u/\RelV x u
 |_,_,_,_,.nil,e=>by simp at e
 |_,_,0,_,.cons r _,e=>by simp at e;subst e;exact#[_,Z,r]
 |_,_,i+1,x,.cons _ t,e=>by
  let#[u,h1,h2]:=Vals.get (i:=i) (x:=x) t ⇑e;exact#[u,by simpa using h1,h2]
theorem Vals.set{x:V}{u:Aa}(r:RelV x u):∀{xs:List V} {us:ak} (i:Nat),Vals xs us->Vals (xs.set i x) (us.set i u)
 |_,_,_,.nil=>.nil
 |_,_,0,.cons _ t=>.cons r t
 |_,_,i+1,.cons q t=>.cons q (Vals.set r i t)
theorem Vals.append:∀{xs ys:List V} {us ws:ak},Vals xs us->Vals ys ws->Vals (xs++ys) (us++ws)
 |_,_,_,_,.nil,s=>s
 |_,_,_,_,.cons r t,s=>.cons r (Vals.append t s)
theorem Vals.take:∀{xs:List V} {us:ak} (n:Nat),Vals xs us->Vals (xs.take n) (us.take n)
 |_,_,0,_=>.nil
 |_,_,_+1,.nil=>.nil
 |_,_,n+1,.cons r t=>.cons r (Vals.take n t)
theorem Vals.drop:∀{xs:List V} {us:ak} (n:Nat),Vals xs us->Vals (xs.drop n) (us.drop n)
 |_,_,0,r=>r
 |_,_,_+1,.nil=>.nil
 |_,_,n+1,.cons _ t=>Vals.drop n t
def eF:Option V->Option Aa->Prop
 |some v,some u=>RelV v u
 |none,none=>True
 |_,_=>False
def KV{κ:Type}:List (κ × V)->List (κ × Aa)->Prop:=Paired λ(p:κ × V) (q:κ × Aa)=>p.1=q.1/\RelV p.2 q.2
def kV:Key->V
 |.inl i=>.int i
 |.inr x=>.str x
inductive HO where
  |lst (xs:List V)
  |tup (xs:List V)
  |dK (kvs:List (Key × V))|dT (kvs:List (ax × V))
  |set (S:Int->Bool) (n:Nat)
  |ins (C dx:Addr) (fs:List (Str × V))
  |own (x:Addr)
  |xd (fs:List (Str × V))
  |met (f x:Addr)
  |rng (lo hi:Int)
  |frz (o:Obj) (u:HO)
  |tbl (ps:Array Aa)
  |ext (φ:Heap->Prop)
abbrev Hp:=Addr->Option HO
def upd(H:Hp)(a:Addr)(o:HO):Hp:=λb=>if b=a then some o else H b
theorem az{H:Hp}{a:Addr}{o:HO}:upd H a o a\o:=by unfold upd;rw[aJ Z]
theorem aF{H:Hp}{a b:Addr}{o:HO}(h:b≠a):upd H a o b=H b:=by unfold upd;rw[aC h]
theorem _G{H:Hp}{a:Addr}{o u:HO}:upd (upd H a o) a u=upd H a u:=by
 funext b;unfold upd;split<;>rfl
theorem cj{H:Hp}{a b:Addr}{o u:HO}(h:H a\o)(h':H b\u)(d:o≠u):a≠b:=by
 intro e;subst e;rw[h] at h';exact d (dG h')
theorem bU{H:Hp}{a b:Addr}{o:HO}(h:H a\o)(h':H b=none):a≠b:=by
 intro e;subst e;rw[h] at h';cases h'
section
variable(P:Ad)(w:Af)
def d9(H:Hp)(h:Heap)(a:Addr):HO->Prop
 |.lst xs=>xs.length<=sizeLine/\∃(its:ak) (n:Nat),Vals xs its/\h.get? a=some { cls:=.type "list",data:=.seq its.toArray n }
 |.tup xs=>xs.length<=sizeLine/\∃its:ak,Vals xs its/\IsTup h a its.toArray/\∃o,h.get? a\o/\o.dict=none
 |.dK kvs=>kvs.length<=sizeLine/\(a == sysModules)=false/\∃vs,KV kvs vs/\h.DictOf (d_ P w) a vs
 |.dT kvs=>kvs.length<=sizeLine/\(a == sysModules)=false/\∃xs:List (ax × Addr × Aa),
   Paired (λ(p:ax × V) (q:ax × Addr × Aa)=>p.1=q.1/\H q.2.1\.tup (p.1.map kV)/\RelV p.2 q.2.2) kvs xs /\
   ∃o es ep,h.get? a\o/\o.ExactDict/\o.data=.dict es ep/\es.toList=xs.map (entryOfKey (tupleKind (d_ P w)))/\(xs.map (·.1)).Nodup
 |.set S n=>h.SetOf (intKind P w) a S n
 |.ins C dx fs=>H dx\.own a/\fs.length<=1000/\dx≠a/\h.get? a\PySem.W.instObj C dx /\
   ∃mA,h.Ns1 dx mA/\(∀f,eF (fs.lookup f) (mA f))/\PySem.Within mA (fs.map (·.1))
 |.own _=>∃o,h.get? a\o
 |.xd fs=>∃mA,h.Ns1 a mA/\∀f,eF (fs.lookup f) (mA f)
 |.rng lo hi=>∃t u v,h.get? a=some { cls:=.type "range",data:=.fields (List.toArray [.int lo t,.int hi u,.int 1 v]) }
 |.frz o u=>h.get? a\o/\d9 H h a u
 |.tbl ps=>h.get? a=some { cls:=.none,data:=.fields ps }
 |.met f x=>h.get? a\PySem.W.methodObj (.ref f) (.ref x)
 |.ext φ=>φ h/\(∃o,h.get? a\o)/\∀h1 h2:Heap,φ h1->(∀o,h1.get? a\o->h2.get? a\o)->φ h2
def cO(H:Hp)(h:Heap):Prop:=∀a o,H a\o->d9 P w H h a o
end
section
variable{P:Ad}{w:Af}{H H':Hp}{h h':Heap}{a:Addr}{o:HO}
theorem d9.lt(x:d9 P w H h a o):a<h.objs.size:=by
 cases o with
 |lst xs=>let#[_,_,_,_,e]:=x;exact bN e
 |tup xs=>let#[_,_,_,p,_]:=x;exact p.lt
 |dK kvs=>let#[_,_,_,_,o,_,_,e,_]:=x;exact bN e
 |dT kvs=>let#[_,_,_,_,o,_,_,e,_]:=x;exact bN e
 |set S n=>let#[o,_,_,_,e,_]:=x;exact bN e
 |ins C dx fs=>let#[_,_,_,e,_]:=x;exact bN e
 |own y=>let#[_,e]:=x;exact bN e
 |xd fs=>let#[_,#[_,_,_,e,_],_]:=x;exact bN e
 |rng lo hi=>let#[_,_,_,e]:=x;exact bN e
 |frz ob u=>let#[e,_]:=x;exact bN e
 |tbl ps=>exact bN (show h.get? a\_ from x)
 |met f y=>exact bN (show h.get? a\_ from x)
 |ext φ=>let#[_,#[_,e],_]:=x;exact bN e
theorem Paired.bC{α β:Type}{F G:α->β->Prop}:∀{FO:List α} {FN:List β},Paired F FO FN->(∀a b,F a b->G a b)->Paired G FO FN
 |_,_,.nil,_=>.nil
 |_,_,.cons r t,f=>.cons (f _ _ r) (Paired.bC t f)
theorem d9.cQ(x:d9 P w H h a o)(k:∀b u,(b=a∨H b\.own a)->h.get? b\u->h'.get? b\u)
  (ho:∀b,H b\.own a->H' b\.own a) (ht:∀b xs,H b\.tup xs->H' b\.tup xs):d9 P w H' h' a o:=by
 induction o with
 |lst xs=>let#[z,its,n,r,e]:=x;exact#[z,its,n,r,k _ _ (.inl Z) e]
 |tup xs=>let#[z,its,r,#[ob,e,c],o2,e2,c2]:=x;exact#[z,its,r,#[ob,k _ _ (.inl Z) e,c],o2,k _ _ (.inl Z) e2,c2]
 |dK kvs=>let#[z,y,vs,r,ob,es,ep,e,c]:=x;exact#[z,y,vs,r,ob,es,ep,k _ _ (.inl Z) e,c]
 |dT kvs=>
  let#[z,y,xs,r,ob,es,ep,e,c]:=x;exact#[z,y,xs,Paired.bC r λp q z=>#[z.1,ht _ _ z.2.1,z.2.2],ob,es,ep,k _ _ (.inl Z) e,c]
 |set S n=>let#[ob,es,ep,t,e,c]:=x;exact#[ob,es,ep,t,k _ _ (.inl Z) e,c]
 |ins C dx fs=>
  let#[d,z,ne,e,mA,#[od,es,ep,e2,c],r]:=x;exact#[ho _ d,z,ne,k _ _ (.inl Z) e,mA,#[od,es,ep,k _ _ (.inr d) e2,c],r]
 |own y=>let#[ob,e]:=x;exact#[ob,k _ _ (.inl Z) e]
 |xd fs=>let#[mA,#[od,es,ep,e,c],r]:=x;exact#[mA,#[od,es,ep,k _ _ (.inl Z) e,c],r]
 |rng lo hi=>let#[t,u,v,e]:=x;exact#[t,u,v,k _ _ (.inl Z) e]
 |frz ob u ih=>let#[e,q]:=x;exact#[k _ _ (.inl Z) e,ih q]
 |tbl ps=>
  have e:h.get? a=some { cls:=.none,data:=.fields ps }:=x;show h'.get? a=some { cls:=.none,data:=.fields ps };exact k a _ (.inl Z) e
 |met f y=>
  have e:h.get? a\PySem.W.methodObj (.ref f) (.ref y):=x;show h'.get? a\PySem.W.methodObj (.ref f) (.ref y);exact k a _ (.inl Z) e
 |ext φ=>let#[p,#[o,e],st]:=x;exact#[st _ _ p λo q=>k _ _ (.inl Z) q,#[o,k _ _ (.inl Z) e],st]
theorem cO.lt(x:cO P w H h)(e:H a\o):a<h.objs.size:=(x a o e).lt
theorem cO.fresh(x:cO P w H h)(e:h.objs.size<=a):H a=none:=by
 cases q:H a with
 |none=>rfl
 |some u=>exact absurd (gZ (x.lt q) e) (yj _)
theorem cO.kept(x:cO P w H h)(k:∀b u,h.get? b\u->h'.get? b\u):cO P w H h':=λa o e=>
 (x a o e).cQ (λb u _ q=>k b u q) (λ_ q=>q) λ_ _ q=>q
theorem cO.laid(x:cO P w H h)(k:∀b u,h.get? b\u->h'.get? b\u)(hp:h.objs.size<=a)(new:d9 P w (upd H a o) h' a o):cO P w (upd H a o) h':=λb u e=>by
 let hn:=x.fresh hp;by_cases hb:b=a
 ·subst hb;rw[az] at e;cases e;exact new
 rw[aF hb] at e;exact (x b u e).cQ (λc v _ q=>k c v q) (λc q=>by rw[aF (bU q hn)];exact q) λc xs q=>by rw[aF (bU q hn)];exact q
end
def Rd(H:Hp)(a:Addr)(u:HO):Prop:=H a=some u∨∃o,H a\.frz o u
theorem Rd.of{H:Hp}{a:Addr}{u:HO}(h:H a\u):Rd H a u:=.inl h
theorem Rd.ok{P:Ad}{w:Af}{H:Hp}{h:Heap}{a:Addr}{u:HO}(r:Rd H a u)(x:cO P w H h):d9 P w H h a u:=by
 rcases r with r|⟨o,r⟩
 ·exact x a u r
 let#[_,q]:=x a _ r;exact q
def II:Option HO->Prop
 |some (.lst _)=>True
 |some (.dK _)=>True
 |some (.dT _)=>True
 |some (.set _ _)=>True
 |some (.ins _ _ _)=>True
 |some (.ext _)=>True
 |_=>False
section
variable{P:Ad}{w:Af}{H:Hp}{h h':Heap}{x e:Addr}{o':HO}
theorem cO.write(ok:cO P w H h)(mu:II (H x))(he:e=x∨H e\.own x)(k:∀b u,b≠e->h.get? b\u->h'.get? b\u)(DH:∃u,h'.get? e\u)
  (new:d9 P w (upd H x o') h' x o'):cO P w (upd H x o') h':=λb u q=>by
 have FD:∀c y,H c\.own y->c≠x:=λc y r z=>by subst z;rw[r] at mu;exact mu
 have My:∀c xs,H c\.tup xs->c≠x:=λc xs r z=>by subst z;rw[r] at mu;exact mu
 by_cases hb:b=x
 ·subst hb;rw[az] at q;cases q;exact new
 rw[aF hb] at q;by_cases BZ:b=e
 ·have q':H b\.own x:=by
   rcases he with z|z
   ·exact absurd (BZ.trans z) hb
   rw[BZ];exact z
  rw[q] at q';cases q';let#[v,hv]:=DH;exact#[v,by rw[BZ];exact hv]
 apply (ok b u q).cQ (λc v hc r=>k c v ?_ r) (λc r=>by rw[aF (FD c b r)];exact r) λc xs r=>by rw[aF (My c xs r)];exact r
 rcases hc with rfl|hc
 ·exact BZ
 rintro rfl;rcases he with z|z
 ·exact FD c b hc z
 rw[hc] at z;cases z;exact hb Z
end
structure Un (fs ex:ai) (H H':Hp) (h h':Heap):Prop where
 keep:∀b o,h.get? b\o->H b=none->b∉fs->b∉ex->h'.get? b\o
 slot:∀b o,h.get? b\o->H b=none->b∈fs->b∉ex->∃sl,h'.get? b=some { o with slots:=sl }
 free:∀b o,h.get? b\o->H b=none->b∉ex->H' b=none
 there:∀b o,h.get? b\o->b∉ex->∃o',h'.get? b\o'
 fC:∀b xs,H b\.tup xs->H' b\.tup xs
 eD:∀b o u,H b\.frz o u->H' b\.frz o u
 fi:∀b ps,H b\.tbl ps->∃more,H' b\.tbl (ps++more)
section
variable{fs fs' ex ex':ai}{H H1 H2:Hp}{h h1 h2 h':Heap}{a x e:Addr}{o:HO}
theorem Un.any(u:Un fs ex H H1 h h1){b:Addr}{ob:Obj}(q:h.get? b\ob)(n:H b=none)(hx:b∉ex):∃sl,h1.get? b=some { ob with slots:=sl }:=by
 by_cases hb:b∈fs
 ·exact u.slot b ob q n hb hx
 exact#[ob.slots,u.keep b ob q n hb hx]
theorem Un.kept(k:∀b u,h.get? b\u->h'.get? b\u):Un fs ex H H h h':=
 #[λb ob q _ _ _=>k b ob q,λb ob q _ _ _=>#[ob.slots,k b ob q],λ_ _ _ n _=>n,λb ob q _=>#[ob,k b ob q],λ_ _ q=>q,λ_ _ _ q=>q,λ_ ps q=>#[#[],by rw[q];simp]]
theorem Un.refl:Un fs ex H H h h:=Un.kept λ_ _ q=>q
theorem Un.laid(k:∀b u,h.get? b\u->h'.get? b\u)(hp:h.objs.size<=a)(hn:H a=none):Un fs ex H (upd H a o) h h' where
 keep:=λb u q _ _ _=>k b u q
 slot:=λb u q _ _ _=>#[u.slots,k b u q]
 free:=λb u q n _=>by rw[aF (dB (gZ (bN q) hp))];exact n
 there:=λb u q _=>#[u,k b u q]
 fC:=λb xs q=>by rw[aF (bU q hn)];exact q
 eD:=λb u xs q=>by rw[aF (bU q hn)];exact q
 fi:=λb ps q=>#[#[],by rw[aF (bU q hn),q];simp]
theorem Un.write(mu:II (H x))(he:e=x∨H e\.own x)(k:∀b u,b≠e->h.get? b\u->h'.get? b\u)(DH:∃u,h'.get? e\u):Un fs ex H (upd H x o) h h':=by
 have hx:∀b,H b=none->b≠x:=λb n z=>by subst z;rw[n] at mu;exact mu
 have hb:∀b,H b=none->b≠e:=λb n z=>by
  subst z;rcases he with r|r
  ·exact hx b n r
  rw[n] at r;cases r
 have hm:∀b u,H b\u->¬II (some u)->b≠x:=λb u q nm z=>by subst z;rw[q] at mu;exact nm mu
 apply#[λb u q n _ _=>k b u (hb b n) q,λb u q n _ _=>#[u.slots,k b u (hb b n) q],λb u q n _=>by rw[aF (hx b n)];exact n,λb u q _=>?_,
  λb xs q=>by rw[aF (hm b _ q λz=>z)];exact q,λb u xs q=>by rw[aF (hm b _ q λz=>z)];exact q,λb ps q=>#[#[],by rw[aF (hm b _ q λz=>z),q];simp]]
 by_cases BZ:b=e
 ·subst BZ;exact DH
 exact#[u,k b u BZ q]
end
def IP(h:Heap)(H:Hp):ai:=(List.range h.objs.size).filter λa=>(H a).isSome
def iW(h:Heap)(H:Hp):Heap:=PySem.W.hideAll h (IP h H)
theorem hm_(h:Heap)(H:Hp):(iW h H).objs.size=h.objs.size:=PySem.W.hideAll_size _ _
theorem jF_{h:Heap}{H:Hp}{b:Addr}{o:Obj}(e:h.get? b\o)(n:H b=none):(iW h H).get? b\o:=
 PySem.W.hideAll_get _ e λhm=>by
  have q:(H b).isSome=true:=(List.mem_filter.mp hm).2;rw[n] at q;simp at q
theorem _y{h:Heap}{H:Hp}{b:Addr}{o:Obj}(e:(iW h H).get? b\o):h.get? b\o/\H b=none:=by
 have e':h.get? b\o:=PySem.W.of_hideAll (IP h H) e;apply#[e',?_];cases q:H b with
 |none=>rfl
 |some x=>
  have hm:b∈IP h H:=List.mem_filter.mpr #[List.mem_range.mpr (bN e'),by simp[q]];have z:(iW h H).get? b=none:=PySem.W.hideAll_none (IP h H) hm;rw[z] at e;cases e
end L2
abbrev aj:=List L2.V
abbrev aV:=Option L2.V
namespace L2
open PySem PySem.Spec PyProof.Rows
structure Mod (K:af) (mg:Str->Option Aa) (base:Heap):Prop where
 Bv:K.In base
 glob:base.Ns mainGlobals mg
 blt:∃mb,base.Ns builtinsNs mb/\∀x:Str,x≠"__name__"->mb x=bootBuiltins x
 nolimit:base.NoLimit
structure Cx where
 prog:Ad
 w:Af
 K:af
 mg:Str->Option Aa
 base:Heap
 A:Ag
 N:ae
 cg:Ab
 iF:Hp
 env:Env
 outer:List Env
 stack:List Env
 ex:ai
 fn:Str->Bool
 calm:Bool
 pn:List (Addr × Obj)
 xe:Aa->Ab->Prop
def dF(l:List Env):ai:=l.filterMap (·.frame)
abbrev Cx.fs(X:Cx):ai:=dF X.outer
def Q7(sc:Scope)(x:Str):Prop:=sc.names.lookup x=some .local∨sc.names.lookup x\.cell∨sc.names.lookup x\.free
def Loc(sc:Scope)(x:Str):Prop:=sc.names.lookup x=some .local∨sc.names.lookup x\.cell
def Look(env:Env)(h:Heap)(m:Str->Option Aa)(x:Str)(u:Aa):Prop:=
 (env.kindOf x\.local/\m x\u)∨((env.kindOf x\.cell∨env.kindOf x\.free)/\∃c,env.cells.lookup x\c/\h.IsCell c (some u))
structure Cx.Ok (X:Cx):Prop where
 mod:Mod X.K X.mg X.base
 kind:X.env.scope.kind=.function
 glob:X.env.globals=mainGlobals
 blt:X.env.builtins=builtinsNs
 above:X.cg.heap.objs.size<=X.env.locals
 inj:∀x y c,X.env.cells.lookup x\c->X.env.cells.lookup y\c->x=y
 has:∀x,(X.env.kindOf x\.cell∨X.env.kindOf x\.free)->∃c,X.env.cells.lookup x\c
 wa:∀x c,X.fn x=true->X.env.cells.lookup x\c->X.cg.heap.objs.size<=c
 hd:X.calm=true->X.A.handled=none
 frames:X.A.frames\X.stack
 Dq:X.stack=X.outer∨(X.stack=X.env::X.outer/\X.env.frame\X.env.locals)
 DY:∀b∈X.ex,b≠X.env.locals/\∀x c,X.env.cells.lookup x\c->c≠b
 bs:∀b o,X.base.get? b\o->X.cg.heap.get? b\o/\X.iF b=none
 lY:X.base.objs.size<=X.cg.heap.objs.size
 nv:∀b o,X.base.get? b\o->b∉X.ex
 nM:∀b∈X.ex,b∉X.fs
 dY:X.cg.heap.FunFrames X.base X.outer
 qJ:∀b∈X.fs,X.iF b=none
structure Inv (X:Cx) (pins:List (Addr × Obj)) (σ:List aV) (H:Hp) (s:Ab):Prop where
 ok:X.Ok
 os:s.os=X.cg.os
 bare:AllBare s.gens
 base:Un X.fs X.ex X.iF H X.cg.heap s.heap
 loc:∃m,s.heap.Ns X.env.locals m/\∀(i:Nat) (x:Str) (v:V),X.N[i]? = some x->σ[i]? = some (some v)->Q7 X.env.scope x->∃u,RelV v u/\Look X.env s.heap m x u
 cell:∀x c,X.env.cells.lookup x\c->∃v,s.heap.IsCell c v
 free:H X.env.locals=none
 bX:∀x c,X.env.cells.lookup x\c->H c=none
 pin:∀p∈X.pn++pins,s.heap.get? p.1\p.2/\H p.1=none/\p.1≠X.env.locals/\p.1∉X.fs/\∀v,p.2.data≠.cell v
 au:cO X.prog X.w H s.heap
 len:σ.length=X.N.length
section
variable{X:Cx}{pins:List (Addr × Obj)}{σ:List aV}{H H':Hp}{s:Ab}{h':Heap}
theorem Cx.Ok.qy(ok:X.Ok){b:Addr}{o:Obj}(e:X.base.get? b\o):b∉X.fs:=λhb=>by
 have:=(ok.dY.mem hb).1;rw[e] at this;cases this
theorem Inv.bs(I:Inv X pins σ H s):∀b o,X.base.get? b\o->s.heap.get? b\o/\H b=none:=λb o e=>
 #[I.base.keep b o (I.ok.bs b o e).1 (I.ok.bs b o e).2 (I.ok.qy e) (I.ok.nv b o e),I.base.free b o (I.ok.bs b o e).1 (I.ok.bs b o e).2 (I.ok.nv b o e)]
theorem Inv.bk(I:Inv X pins σ H s):∀b o,X.base.get? b\o->s.heap.get? b\o:=λb o e=>(I.bs b o e).1
theorem Inv.mod(I:Inv X pins σ H s):Mod X.K X.mg X.base:=I.ok.mod
theorem Inv.fj(I:Inv X pins σ H s):X.K.In s.heap:=I.ok.mod.Bv.keeps I.bk
theorem Inv.lt(I:Inv X pins σ H s):X.env.locals<s.heap.objs.size:=let #[_,hn,_]:=I.loc;hn.lt
theorem Inv.sz(I:Inv X pins σ H s):X.cg.heap.objs.size<=s.heap.objs.size:=oG I.ok.above (Nat.le_of_lt I.lt)
theorem Inv.MA(I:Inv X pins σ H s){a:Addr}(h:s.heap.objs.size<=a):a∉X.fs:=λhb=>by
 let#[_,o,ho,_]:=I.ok.dY.mem hb;exact absurd (gZ (bN ho) (oG I.sz h)) (yj _)
theorem Inv.nX(I:Inv X pins σ H s):∀x c,X.env.cells.lookup x\c->c≠X.env.locals:=λx c e z=>by
 let#[v,o,ho,hd]:=I.cell x c e;let#[m,#[o',es,ep,h_,ia,_],_]:=I.loc;rw[z,h_] at ho;cases ho;rw[ia] at hd;cases hd
theorem Inv.dY(I:Inv X pins σ H s):s.heap.FunFrames X.base X.outer:=by
 have all:∀(l:List Env),(∀b∈dF l,b∈X.fs)->X.cg.heap.FunFrames X.base l->s.heap.FunFrames X.base l:=by
  intro l
  induction l with
  |nil=>intro _ _;trivial
  |cons env r ih=>
   intro hs hl;let#[hk,#[L,o,hf,hn,ho,hd],hr]:=hl;have hL:L∈X.fs:=hs L (by unfold dF;rw[List.filterMap_cons,hf];exact eZ);let#[sl,e]:=I.base.slot L o ho (I.ok.qJ L hL) hL λz=>I.ok.nM L z hL;exact#[hk,#[L,_,hf,hn,e,hd],ih (λb hb=>hs b (by unfold dF;rw[List.filterMap_cons,hf];exact dZ _ hb)) hr]
 exact all X.outer (λ_ hb=>hb) I.ok.dY
theorem Inv.stack(I:Inv X pins σ H s):s.heap.FunFrames X.base X.stack:=by
 rcases I.ok.Dq with e|⟨e,hf⟩
 ·rw[e];exact I.dY
 rw[e];let#[m,hn,_]:=I.loc;apply .cons (by rw[I.ok.kind];decide) hf hn ?_ I.dY;exact Heap.get?_none_of_le (oG I.ok.lY I.ok.above)
theorem Inv.gh(I:Inv X pins σ H s):∀b∈dF X.stack,b∈X.env.locals::X.fs:=λb hb=>by
 rcases I.ok.Dq with e|⟨e,hf⟩
 ·rw[e] at hb;exact dZ _ hb
 rw[e] at hb;unfold dF at hb;rw[List.filterMap_cons,hf] at hb;exact hb
theorem Inv.hY(I:Inv X pins σ H s):∀b∈dF X.stack,H b=none:=λb hb=>by
 rcases bW.mp (I.gh b hb) with e|hb
 ·rw[e];exact I.free
 let#[_,o,ho,_]:=I.ok.dY.mem hb;exact I.base.free b o ho (I.ok.qJ b hb) λz=>I.ok.nM b z hb
theorem Inv.step{g':Array GenState}{t':Nat}{d':Drawn}{ch:ai}(I:Inv X pins σ H s)
  (vZ:∀b∈ch,(b∈X.ex∨X.cg.heap.objs.size<=b)/\b≠X.env.locals/\(∀x c,X.env.cells.lookup x\c->c≠b)/\∀p∈X.pn++pins,p.1≠b)
  (keep:∀b o,b≠X.env.locals->b∉X.fs->b∉ch->s.heap.get? b\o->H b=none->h'.get? b\o)
  (slot:∀b o,b≠X.env.locals->b∈X.fs->b∉ch->s.heap.get? b\o->H b=none->∃sl,h'.get? b=some { o with slots:=sl }) (free:∀b o,b∉ch->s.heap.get? b\o->H b=none->H' b=none)
  (there:∀b o,b∉ch->s.heap.get? b\o->∃o',h'.get? b\o')
  (fC:∀b xs,H b\.tup xs->H' b\.tup xs) (eD:∀b o u,H b\.frz o u->H' b\.frz o u) (fi:∀b ps,H b\.tbl ps->∃more,H' b\.tbl (ps++more))
  (ns:∀m,s.heap.Ns X.env.locals m->h'.Ns X.env.locals m) (au:cO X.prog X.w H' h') (hg:AllBare g') :
  Inv X pins σ H' { s with heap:=h',gens:=g',drawn:=d',toks:=t' }:=by
 have RR:∀b o,X.cg.heap.get? b\o->b≠X.env.locals:=λb o e=>dB (gZ (bN e) I.ok.above)
 have Jl:∀b o,X.cg.heap.get? b\o->b∉X.ex->b∉ch:=λb o e hx hb=>by
  rcases (vZ b hb).1 with z|z
  ·exact hx z
  exact absurd (gZ (bN e) z) (yj _)
 have cellK:∀x c,X.env.cells.lookup x\c->∀v,s.heap.IsCell c v->h'.IsCell c v:=λx c e v ⟨o,ho,hd⟩=>by
  have FI:c∉ch:=λz=>(vZ c z).2.2.1 x c e Z;by_cases hc:c∈X.fs
  ·let#[sl,q]:=slot c o (I.nX x c e) hc FI ho (I.bX x c e);exact#[_,q,hd]
  exact#[o,keep c o (I.nX x c e) hc FI ho (I.bX x c e),hd]
 apply#[I.ok,I.os,hg,#[λb o e n hb hx=>?_,λb o e n hb hx=>?_,λb o e n hx=>?_,λb o e hx=>?_,λb xs e=>fC b xs (I.base.fC b xs e),λb o xs e=>eD b o xs (I.base.eD b o xs e),λb ps e=>?_],?_,λx c e=>?_,?_,λx c e=>?_,λp hp=>?_,au,I.len]
 ·exact keep b o (RR b o e) hb (Jl b o e hx) (I.base.keep b o e n hb hx) (I.base.free b o e n hx)
 ·let#[sl,e1]:=I.base.slot b o e n hb hx;let#[L6,e2]:=slot b _ (RR b o e) hb (Jl b o e hx) e1 (I.base.free b o e n hx);exact#[L6,e2]
 ·let#[o',e1]:=I.base.there b o e hx;exact free b o' (Jl b o e hx) e1 (I.base.free b o e n hx)
 ·let#[o',e1]:=I.base.there b o e hx;exact there b o' (Jl b o e hx) e1
 ·let#[m1,e1]:=I.base.fi b ps e;let#[m2,e2]:=fi b _ e1;exact#[m1++m2,by rw[e2,Array.append_assoc]]
 ·let#[m,hn,hl]:=I.loc;apply#[m,ns m hn,λi x v e1 e2 e3=>?_];let#[u,r,l]:=hl i x v e1 e2 e3;apply#[u,r,?_];rcases l with l|⟨k,c,e,z⟩
  ·exact .inl l
  exact .inr #[k,c,e,cellK x c e _ z]
 ·let#[v,z]:=I.cell x c e;exact#[v,cellK x c e v z]
 ·let#[m,#[o,_,_,ho,_],_]:=I.loc;exact free _ o (λz=>(vZ _ z).2.1 Z) ho I.free
 ·let#[v,o,ho,hd]:=I.cell x c e;exact free c o (λz=>(vZ c z).2.2.1 x c e Z) ho (I.bX x c e)
 let#[e,n,ne,nf,d]:=I.pin p hp;have FI:p.1∉ch:=λz=>(vZ p.1 z).2.2.2 p hp Z;exact#[keep p.1 p.2 ne nf FI e n,free p.1 p.2 FI e n,ne,nf,d]
theorem Inv.un{t':Nat}(I:Inv X pins σ H s)(u:Un X.fs [] H H' s.heap h')(au:cO X.prog X.w H' h'):Inv X pins σ H' { s with heap:=h',toks:=t' }:=by
 let#[m,#[o,es,ep,ho,r],_]:=id I.loc;let#[sl,hL]:=u.any ho I.free Z2
 exact I.step (g':=s.gens) (d':=s.drawn) (ch:=[]) (λ_ z=>nomatch z) (λb o _ hb _ e n=>u.keep b o e n hb Z2) (λb o _ hb _ e n=>u.slot b o e n hb Z2) (λb o _ e n=>u.free b o e n Z2) (λb o _ e=>u.there b o e Z2) u.fC u.eD u.fi (λm' hm=>by
  let#[o',zA,zB,h_,r']:=hm;rw[ho] at h_;cases h_;exact#[_,zA,zB,hL,r']) au I.bare
theorem Inv.call{g':Array GenState}{t':Nat}{d':Drawn}{ch:ai}(I:Inv X pins σ H s)(u:Un (dF X.stack) ch H H' s.heap h')(au:cO X.prog X.w H' h')(hg:AllBare g')
  (vZ:∀b∈ch,(b∈X.ex∨X.cg.heap.objs.size<=b)/\b≠X.env.locals/\(∀x c,X.env.cells.lookup x\c->c≠b)/\∀p∈X.pn++pins,p.1≠b) :
  Inv X pins σ H' { s with heap:=h',gens:=g',drawn:=d',toks:=t' }:=by
 let#[m,#[o,es,ep,ho,r],_]:=id I.loc;let#[sl,hL]:=u.any ho I.free λz=>(vZ _ z).2.1 Z
 exact I.step (ch:=ch) vZ (λb o hL hb hc e n=>u.keep b o e n (λz=>(bW.mp (I.gh b z)).elim hL hb) hc) (λb o _ _ hc e n=>u.any e n hc) (λb o hc e n=>u.free b o e n hc) (λb o hc e=>u.there b o e hc) u.fC u.eD u.fi (λm' hm=>by
  let#[o',zA,zB,h_,r']:=hm;rw[ho] at h_;cases h_;exact#[_,zA,zB,hL,r']) au hg
theorem Inv.turned{t':Nat}{it:Addr}(I:Inv X pins σ H s)(k:∀b o,b≠it->s.heap.get? b\o->h'.get? b\o)(hn:H it=none)(hL:it≠X.env.locals)
  (h1:it∈X.ex∨X.cg.heap.objs.size<=it) (h2:∀x c,X.env.cells.lookup x\c->c≠it) (h3:∀p∈X.pn++pins,p.1≠it):Inv X pins σ H { s with heap:=h',toks:=t' }:=by
 have RP:∀b u,H b\u->b≠it:=λb u e z=>by rw[z,hn] at e;cases e
 apply I.step (g':=s.gens) (d':=s.drawn) (ch:=[it]) (λb hb=>?_) (λb o _ _ hc e _=>k b o (λz=>hc (by simp[z])) e) (λb o _ _ hc e _=>#[o.slots,k b o (λz=>hc (by simp[z])) e]) (λ_ _ _ _ n=>n)
  (λb o hc e=>#[o,k b o (λz=>hc (by simp[z])) e]) (λ_ _ e=>e) (λ_ _ _ e=>e) (λb ps e=>#[#[],by rw[e];simp]) (λm hm=>?_) (λb u e=>?_) I.bare
 ·have e:b=it:=⇑hb
  subst e;exact#[h1,hL,h2,h3]
 ·let#[o,es,ep,ho,r]:=hm;exact#[o,es,ep,k _ o (Ne.symm hL) ho,r]
 apply (I.au b u e).cQ (λc v hc q=>k c v ?_ q) (λ_ q=>q) λ_ _ q=>q;rcases hc with z|z
 ·rw[z];exact RP b u e
 exact RP c _ z
theorem Inv.tok(I:Inv X pins σ H s)(t:Nat):Inv X pins σ H { s with toks:=t }:=I.un (h':=s.heap) (t':=t) Un.refl I.au
theorem Inv.kept{t':Nat}(I:Inv X pins σ H s)(k:∀b u,s.heap.get? b\u->h'.get? b\u):Inv X pins σ H { s with heap:=h',toks:=t' }:=I.un (Un.kept k) (I.au.kept k)
theorem Inv.laid{a:Addr}{o:HO}{t':Nat}(I:Inv X pins σ H s)(k:∀b u,s.heap.get? b\u->h'.get? b\u)(hp:s.heap.objs.size<=a)(new:d9 X.prog X.w (upd H a o) h' a o) :
  Inv X pins σ (upd H a o) { s with heap:=h',toks:=t' }:=I.un (Un.laid k hp (I.au.fresh hp)) (I.au.laid k hp new)
theorem Inv.write{x e:Addr}{o:HO}{t':Nat}(I:Inv X pins σ H s)(mu:II (H x))(he:e=x∨H e\.own x)(k:∀b u,b≠e->s.heap.get? b\u->h'.get? b\u)(DH:∃u,h'.get? e\u)
  (new:d9 X.prog X.w (upd H x o) h' x o):Inv X pins σ (upd H x o) { s with heap:=h',toks:=t' }:=I.un (Un.write mu he k DH) (I.au.write mu he k DH new)
theorem Inv.pH{yX:List (Addr × Obj)}(I:Inv X pins σ H s)(h:∀p∈yX,s.heap.get? p.1\p.2/\H p.1=none/\p.1≠X.env.locals/\p.1∉X.fs/\∀v,p.2.data≠.cell v):Inv X yX σ H s:=
 #[I.ok,I.os,I.bare,I.base,I.loc,I.cell,I.free,I.bX,λp hp=>(gY.mp hp).elim (λz=>I.pin p (List.mem_append_left _ z)) (h p),I.au,I.len]
theorem Pd{N:ae}(hN:N.Nodup){i j:Nat}{x:Str}(a:N[i]? = some x)(b:N[j]? = some x):i=j:=by
 let#[h1,e1]:=dj.mp a;let#[h2,e2]:=dj.mp b;exact (List.getElem_inj hN).mp (e1.trans e2.symm)
theorem UH{M:Model}{A:Ag}{E:Aa->Ab->Prop}{i:Nat}{x:Str}{v:V}{u:Aa}{Q:Unit->Ab->Prop}(I:Inv X pins σ H s)(hN:X.N.Nodup)(hi:X.N[i]? = some x)(hx:Loc X.env.scope x)(r:RelV v u)
  (h:∀s',Inv X pins (σ.set i (some v)) H s'->(∃a,Heap.SameBut a s.heap s'.heap/\(a=X.env.locals∨X.env.cells.lookup x\a))->Q () s') (hf:X.fn x=true∨X.env.scope.names.lookup x\.local:=by first|exact .inl Z|exact .inr Z|assumption):wpAny M A (storeName X.env x u) Q E s:=by
 let#[m,hn,hl]:=id I.loc;have BY:(X.env.scope.kind == .class || (X.env.scope.kind == .module&&X.env.locals != X.env.globals))=false:=by rw[I.ok.kind];rfl
 have xI:i<σ.length:=by rw[I.len];exact (dj.mp hi).1
 let nX:=I.nX
 have tracked:∀{a:Addr} {h':Heap},(∃o,s.heap.get? a\o/\H a=none)->Heap.SameBut a s.heap h'->cO X.prog X.w H h':=λ{a h'} ha hs b ob e=>by
  let#[_,_,zp]:=ha;apply (I.au b ob e).cQ (λc w' hc q=>(hs.2 c ?_).trans q) (λ_ q=>q) λ_ _ q=>q;rintro rfl;rcases hc with rfl|hc
  ·rw[zp] at e;cases e
  rw[zp] at hc;cases hc
 rcases hx with hk|hk
 ·apply wpAny_storeName_local hk hn (λh' BL hs=>?_) BY;let#[oL,_,_,Gh,_]:=id hn;apply h _ #[I.ok,I.os,I.bare,#[λb o e n hb hx=>?_,λb o e n hb hx=>?_,I.base.free,λb o e hx=>?_,I.base.fC,I.base.eD,I.base.fi],#[_,BL,λj y v' e1 e2 e3=>?_],λy c e=>?_,I.free,I.bX,λp hp=>?_,tracked #[oL,Gh,I.free] hs,by simpa using I.len] #[_,hs,.inl Z]
  ·exact (hs.2 b (dB (gZ (bN e) I.ok.above))).trans (I.base.keep b o e n hb hx)
  ·let#[sl,e1]:=I.base.slot b o e n hb hx;exact#[sl,(hs.2 b (dB (gZ (bN e) I.ok.above))).trans e1]
  ·let#[o',e1]:=I.base.there b o e hx;exact#[o',(hs.2 b (dB (gZ (bN e) I.ok.above))).trans e1]
  ·by_cases hj:j=i
   ·subst hj;rw[hi] at e1;cases e1;rw[List.getElem?_set_self xI] at e2;cases e2;exact#[u,r,.inl #[hk,by simp]]
   rw[List.getElem?_set_ne (Ne.symm hj)] at e2;let#[u',r',q]:=hl j y v' e1 e2 e3;apply#[u',r',?_];rcases q with⟨k,e⟩|⟨k,c,e,z⟩
   ·apply .inl #[k,?_];have:y≠x:=λe=>hj (Pd hN e1 (e▸hi));simp[this,e]
   exact .inr #[k,c,e,z.sameBut hs (nX y c e)]
  ·let#[w',z]:=I.cell y c e;exact#[w',z.sameBut hs (nX y c e)]
  let#[e,n,ne,nf,d]:=I.pin p hp;exact#[(hs.2 p.1 ne).trans e,n,ne,nf,d]
 have BR:X.fn x=true:=by
  rcases hf with z|z
  ·exact z
  rw[z] at hk;cases hk
 let#[c,hc]:=I.ok.has x (.inl hk);let#[w',z]:=I.cell x c hc;apply wpAny_storeName_cell I.ok.kind hk hc z (λh' DJ hs=>?_);let#[oc,Gg,NA]:=id z;apply h { s with heap:=h' } #[I.ok,I.os,I.bare,#[λb o e n hb hx=>?_,λb o e n hb hx=>?_,I.base.free,λb o e hx=>?_,I.base.fC,I.base.eD,I.base.fi],#[m,hn.sameBut hs (Ne.symm (nX x c hc)),λj y v' e1 e2 e3=>?_],λy c' e=>?_,I.free,I.bX,λp hp=>?_,tracked #[oc,Gg,I.bX x c hc] hs,by simpa using I.len] #[c,hs,.inr hc]
 ·exact (hs.2 b (dB (gZ (bN e) (I.ok.wa x c BR hc)))).trans (I.base.keep b o e n hb hx)
 ·let#[sl,e1]:=I.base.slot b o e n hb hx;exact#[sl,(hs.2 b (dB (gZ (bN e) (I.ok.wa x c BR hc)))).trans e1]
 ·let#[o',e1]:=I.base.there b o e hx;exact#[o',(hs.2 b (dB (gZ (bN e) (I.ok.wa x c BR hc)))).trans e1]
 ·by_cases hj:j=i
  ·subst hj;rw[hi] at e1;cases e1;rw[List.getElem?_set_self xI] at e2;cases e2;exact#[u,r,.inr #[.inl hk,c,hc,DJ]]
  rw[List.getElem?_set_ne (Ne.symm hj)] at e2;let#[u',r',q]:=hl j y v' e1 e2 e3;apply#[u',r',?_];rcases q with q|⟨k,c',e,z'⟩
  ·exact .inl q
  apply .inr #[k,c',e,z'.sameBut hs ?_];rintro rfl;exact hj (Pd hN e1 (I.ok.inj _ _ _ e hc▸hi))
 ·by_cases Te:c'=c
  ·subst Te;exact#[_,DJ]
  let#[w2,z2]:=I.cell y c' e;exact#[w2,z2.sameBut hs Te]
 let#[e,n,ne,nf,d]:=I.pin p hp;apply#[(hs.2 p.1 ?_).trans e,n,ne,nf,d];intro q;rw[q,Gg] at e;have q':oc=p.2:=dG e;exact d w' (by rw[<- q'];exact NA)
theorem Pe{M:Model}{A:Ag}{E:Aa->Ab->Prop}{i:Nat}{x:Str}{v:V}{u:Aa}{Q:Unit->Ab->Prop}(I:Inv X pins σ H s)(hN:X.N.Nodup)(hi:X.N[i]? = some x)(hx:Loc X.env.scope x)(r:RelV v u)
  (h:∀s',Inv X pins (σ.set i (some v)) H s'->Q () s') (hf:X.fn x=true∨X.env.scope.names.lookup x\.local:=by first|exact .inl Z|exact .inr Z|assumption):wpAny M A (storeName X.env x u) Q E s:=
 UH I hN hi hx r (λs' I' _=>h s' I') hf
theorem Inv.jf{s':Ab}{ch:ai}(I:Inv X pins σ H s)(ho:s'.os=s.os)(u:Un (dF X.stack) ch H H' s.heap s'.heap)(au:cO X.prog X.w H' s'.heap)(hg:AllBare s'.gens)
  (vZ:∀b∈ch,(b∈X.ex∨X.cg.heap.objs.size<=b)/\b≠X.env.locals/\(∀x c,X.env.cells.lookup x\c->c≠b)/\∀p∈X.pn++pins,p.1≠b):Inv X pins σ H' s':=by
 let#[h',g',d',t',o']:=s';have e:o'=s.os:=ho;subst e;exact I.call (g':=g') (t':=t') (d':=d') u au hg vZ
end
abbrev XK:=Aa->Option Addr->Hp->Prop
abbrev St:=List aV
abbrev VK:=V->Hp->Prop
abbrev TE:=St->Hp->VK->Prop
abbrev TT:=St->Hp->(Bool->Hp->Prop)->Prop
abbrev TA:=St->Hp->(aj->Hp->Prop)->Prop
structure Ends where
 nx:St->Hp->Prop
 rt:VK
 bk:St->Hp->Prop:=λ_ _=>False
 ct:St->Hp->Prop:=λ_ _=>False
abbrev TS:=Ends->St->Hp->Prop
def EP(X:Cx)(pins:List (Addr × Obj))(σ:St)(Q:VK)(u:Aa)(s':Ab):Prop:=∃v H',Inv X pins σ H' s'/\RelV v u/\Q v H'
def TP(X:Cx)(pins:List (Addr × Obj))(σ:St)(Q:Bool->Hp->Prop)(b:Bool)(s':Ab):Prop:=∃H',Inv X pins σ H' s'/\Q b H'
def AP(X:Cx)(pins:List (Addr × Obj))(σ:St)(Q:aj->Hp->Prop)(us:ak)(s':Ab):Prop:=∃vs H',Inv X pins σ H' s'/\Vals vs us/\Q vs H'
def SP(X:Cx)(pins:List (Addr × Obj))(D:Ends)(f:Flow)(s':Ab):Prop:=
 match f with
 |.next=>∃ba H',Inv X pins ba H' s'/\D.nx ba H'
 |.brk=>∃ba H',Inv X pins ba H' s'/\D.bk ba H'
 |.cont=>∃ba H',Inv X pins ba H' s'/\D.ct ba H'
 |.ret u=>∃v ba H',Inv X pins ba H' s'/\RelV v u/\D.rt v H'
def PE(X:Cx)(e:Expr)(t:TE):Prop:=
 ∀(pins:List (Addr × Obj)) (s:Ab) (σ:St) (H:Hp) (Q:VK),Inv X pins σ H s->t σ H Q->wpAny (model X.prog X.w) X.A (eval e X.env) (EP X pins σ Q) X.xe s
def PT(X:Cx)(e:Expr)(t:TT):Prop:=
 ∀(pins:List (Addr × Obj)) (s:Ab) (σ:St) (H:Hp) (Q:Bool->Hp->Prop),Inv X pins σ H s->t σ H Q->wpAny (model X.prog X.w) X.A (isTrue e X.env (eval e X.env)) (TP X pins σ Q) X.xe s
def PW(X:Cx)(e:Expr)(t:TT):Prop:=
 ∀(whole:Sem Aa) (pins:List (Addr × Obj)) (s:Ab) (σ:St) (H:Hp) (Q:Bool->Hp->Prop),Inv X pins σ H s->t σ H Q->wpAny (model X.prog X.w) X.A (isTrue e X.env whole) (TP X pins σ Q) X.xe s
theorem PW.pt{X:Cx}{e:Expr}{t:TT}(h:PW X e t):PT X e t:=h _
def PA(X:Cx)(es:List Expr)(t:TA):Prop:=
 ∀(pos:Pos) (pins:List (Addr × Obj)) (s:Ab) (σ:St) (H:Hp) (Q:aj->Hp->Prop),Inv X pins σ H s->t σ H Q->wpAny (model X.prog X.w) X.A (spliced (backTo pos (starEach es X.env))) (AP X pins σ Q) X.xe s
def PS(X:Cx)(st:Stmt)(t:TS):Prop:=
 ∀(pins:List (Addr × Obj)) (s:Ab) (σ:St) (H:Hp) (D:Ends),Inv X pins σ H s->t D σ H->wpAny (model X.prog X.w) X.A (exec st X.env) (SP X pins D) X.xe s
def ig(X:Cx)(st:List Stmt)(t:TS):Prop:=
 ∀(pins:List (Addr × Obj)) (s:Ab) (σ:St) (H:Hp) (D:Ends),Inv X pins σ H s->t D σ H->wpAny (model X.prog X.w) X.A (execs st X.env) (SP X pins D) X.xe s
theorem aQ{α:Type}{t:Sem α}{Q Q':α->Ab->Prop}{M:Model}{A:Ag}{E:Aa->Ab->Prop}{s:Ab}(h:wpAny M A t Q E s)(hQ:∀a s,Q a s->Q' a s):wpAny M A t Q' E s:=iM h hQ λ_ _ x=>x
end L2
abbrev lG:=L2.St->L2.Hp->Prop
abbrev vM:=Nat->L2.St->L2.Hp->Prop
namespace L2
open PySem PySem.Spec PyProof.Rows
section
variable{X:Cx}
inductive gg (i:Nat) (σ:St) (H:Hp) (Q:VK):Prop
 |mk:∀v,σ[i]? = some (some v)->Q v H->gg i σ H Q
def tC(v:V):TE:=λ_ H Q=>Q v H
theorem _s{i:Nat}{x:Str}{pos:Pos}(hN:X.N[i]? = some x)(hv:Q7 X.env.scope x)(hd:(x == ("__debug__":Str))=false:=by decide)(fL:(x == ("__classdict__":Str))=false:=by decide):PE X (.Name x pos) (gg i):=by
 intro pins s σ H Q I h;let#[v,e,h]:=h;let#[m,hn,hl]:=I.loc;let#[u,r,l]:=hl i x v hN e hv;have fin:EP X pins σ Q u s:=#[v,H,I,r,h];rcases l with⟨hk,hm⟩|⟨hk,c,hc,pR⟩
 ·exact wpAny_Name (wpAny_loadName_local I.ok.kind hk hn hm fin) hd
 rcases hk with hk|hk
 ·exact wpAny_Name (wpAny_loadName_cell I.ok.kind hk hc pR fin) hd
 exact wpAny_Name (wpAny_loadName_free I.ok.kind hk hc pR fin fL) hd
theorem aM{i j pos}:PE X (.Constant (.int i) j pos) (tC (.int i)):=λ_ _ _ H _ I h=>wpAny_Constant_int #[.int i,H,I.tok _,#[_,Z],h]
theorem jU{b j pos}:PE X (.Constant (.bool b) j pos) (tC (.bl b)):=λ_ _ _ H _ I h=>Constant_bool #[.bl b,H,I,Z,h]
theorem CC{j pos}:PE X (.Constant .none j pos) (tC .non):=λ_ _ _ H _ I h=>Constant_none #[.non,H,I,Z,h]
theorem bM{x j pos}:PE X (.Constant (.str x) j pos) (tC (.str x)):=λ_ _ _ H _ I h=>Calls.Constant_str #[.str x,H,I.tok _,#[_,Z],h]
def Gl(X:Cx)(x:Str):Prop:=X.env.kindOf x=some .globalImplicit
theorem C1{E:Aa->Ab->Prop}{pins:List (Addr × Obj)}{s:Ab}{σ:St}{H:Hp}{x:Str}{u:Aa}{pos:Pos}{Q:Aa->Ab->Prop}(I:Inv X pins σ H s)(hg:Gl X x)(hm:X.mg x\u)(h:Q u s)
  (hd:(x == ("__debug__":Str))=false:=by decide):wpAny (model X.prog X.w) X.A (eval (.Name x pos) X.env) Q E s:=
 Calls.Name_function_global I.ok.kind hg (Calls.loadGlobal_global (by rw[I.ok.glob];exact I.mod.glob.keeps I.bk) hm h) hd
theorem D_{E:Aa->Ab->Prop}{pins:List (Addr × Obj)}{s:Ab}{σ:St}{H:Hp}{x:Str}{u:Aa}{pos:Pos}{Q:Aa->Ab->Prop}(I:Inv X pins σ H s)(hg:Gl X x)(hm:X.mg x=none)(hv:bootBuiltins x\u)(h:Q u s)
  (hn:x≠"__name__":=by decide) (hd:(x == ("__debug__":Str))=false:=by decide):wpAny (model X.prog X.w) X.A (eval (.Name x pos) X.env) Q E s:=by
 let#[mb,h1,h2]:=I.mod.blt;exact Calls.Name_function_global I.ok.kind hg (Calls.loadGlobal_builtin (by rw[I.ok.glob];exact I.mod.glob.keeps I.bk) hm (by rw[I.ok.blt];exact h1.keeps I.bk) ((h2 x hn).trans hv) h) hd
theorem rR{x:Str}{v:V}{u:Aa}{pos:Pos}(hg:Gl X x)(hm:X.mg x\u)(r:RelV v u)(hd:(x == ("__debug__":Str))=false:=by decide):PE X (.Name x pos) (tC v):=
 λ_ _ _ H _ I h=>C1 I hg hm #[v,H,I,r,h] hd
theorem iQ{x:Str}{v:V}{u:Aa}{pos:Pos}(hg:Gl X x)(hm:X.mg x=none)(hv:bootBuiltins x\u)(r:RelV v u)(hn:x≠"__name__":=by decide)(hd:(x == ("__debug__":Str))=false:=by decide):PE X (.Name x pos) (tC v):=
 λ_ _ _ H _ I h=>D_ I hg hm hv #[v,H,I,r,h] hn hd
variable{a b:Expr}{ta tb:TE}{pos:Pos}
def PC(X:Cx)(op:CmpOp)(a b:Expr)(t:TE):Prop:=
 ∀(pins:List (Addr × Obj)) (s:Ab) (σ:St) (H:Hp) (Q:VK),Inv X pins σ H s->t σ H Q->
  wpAny (model X.prog X.w) X.A (eval a X.env) (λv aY=>wpAny (model X.prog X.w) X.A (eval b X.env) (λu fP=>wpAny (model X.prog X.w) X.A (compareOp op v u) (EP X pins σ Q) X.xe fP) X.xe aY) X.xe s
theorem kn(b:Expr){op:CmpOp}(h:op≠.In)(h2:op≠.NotIn):behindInMarks op b=false:=by
 have e1:(op == CmpOp.In)=false:=by cases op<;>first|rfl|exact absurd Z h
 have e2:(op == CmpOp.NotIn)=false:=by cases op<;>first|rfl|exact absurd Z h2
 cases b<;>simp[behindInMarks,e1,e2]
def LK(ta:TE):TE:=λσ H Q=>ta σ H λx H1=>Q (.bl (decide (x=.non))) H1
theorem RelV.uu{x:V}{v:Aa}(r:RelV x v):(v == Value.none)=decide (x=.non):=by
 cases x with
 |non=>cases r;rfl
 |bl _=>cases r;rfl
 |int _=>let#[t,rfl]:=r;rfl
 |str _=>let#[t,rfl]:=r;rfl
 |byt _=>let#[t,rfl]:=r;rfl
 |flt _=>let#[t,rfl]:=r;rfl
 |ref _=>cases r;rfl
 |ty _=>cases r;rfl
theorem J4{j pos'}(ha:PE X a ta):PC X .Is a (.Constant .none j pos') (LK ta):=by
 intro pins s σ H Q I h;apply aQ (ha pins s σ H _ I h) λv s1 ⟨x,H1,I1,r1,q1⟩=>?_;exact Constant_none (is_none_gen #[.bl _,H1,I1,by rw[r1.uu];rfl,q1])
inductive Ry (Q:Bool->Hp->Prop) (x:V) (H1:Hp):Prop
 |mk:∀c,x=.bl c->Q c H1->Ry Q x H1
def tB(t:TE):TT:=λσ H Q=>t σ H λx H1=>Ry Q x H1
theorem D6{op:CmpOp}{t:TE}(h:PC X op a b t)(h1:behindInMarks op b=false:=by first|exact kn _ (by decide) (by decide)|rfl):PE X (.Compare a [op] [b] pos) t:=λpins s σ H Q I hw=>wpAny_Compare1 (h pins s σ H Q I hw) h1
theorem yb{op:CmpOp}{t:TE}(h:PC X op a b t)(h1:behindInMarks op b=false:=by first|exact kn _ (by decide) (by decide)|rfl):PT X (.Compare a [op] [b] pos) (tB t):=by
 intro pins s σ H Q I hw;apply wpAny_isTrue_Compare1 (aQ (h pins s σ H _ I hw) λv s1 h1=>aQ h1 λu s2 h2=>aQ h2 λc s3 ⟨x,H1,I1,r1,q1⟩=>?_) h1;let#[d,rfl,q]:=q1;cases r1;exact rO #[H1,I1,q]
theorem eB{e:Expr}{t:TE}(h:PE X e t)(he:∀whole,isTrue e X.env whole=(do let v <- whole;standAt e.pos;holding [v] (truthy v)):=by intro _;rfl):PT X e (tB t):=by
 intro pins s σ H Q I hw;apply isTrue_plain (aQ (h pins s σ H _ I hw) λv s1 ⟨x,H1,I1,r1,q1⟩=>?_) (he _);let#[d,rfl,q]:=q1;cases r1;exact rO #[H1,I1,q]
variable{tA IU:TT}{rest:List Expr}
def LP(t u:TT):TT:=λσ H Q=>t σ H λc H1=>if c=true then u σ H1 Q else Q false H1
def XM(t u:TT):TT:=λσ H Q=>t σ H λc H1=>if c=true then Q true H1 else u σ H1 Q
def LH(t:TT):TT:=λσ H Q=>t σ H λc H1=>Q (!c) H1
theorem HV(ha:PT X a tA):PW X (.BoolOp .And [a] pos) tA:=by
 intro wh pins s σ H Q I h;apply isTrue_and (aQ (ha pins s σ H Q I h) λc s1 e=>?_);cases c with
 |true=>exact isTrue_and_nil e
 |false=>exact e
theorem CJ(ha:PT X a tA):PW X (.BoolOp .Or [a] pos) tA:=by
 intro wh pins s σ H Q I h;apply isTrue_or (aQ (ha pins s σ H Q I h) λc s1 e=>?_);cases c with
 |false=>exact isTrue_or_nil e
 |true=>exact e
theorem Ec(ha:PT X a tA)(hb:PW X (.BoolOp .And (b::rest) pos) IU):PW X (.BoolOp .And (a::b::rest) pos) (LP tA IU):=by
 intro wh pins s σ H Q I h;apply isTrue_and (aQ (ha pins s σ H _ I h) λc s1 ⟨H1,I1,q1⟩=>?_);cases c with
 |true=>exact hb wh pins s1 σ H1 Q I1 q1
 |false=>exact#[H1,I1,q1]
theorem zE(ha:PT X a tA)(hb:PW X (.BoolOp .Or (b::rest) pos) IU):PW X (.BoolOp .Or (a::b::rest) pos) (XM tA IU):=by
 intro wh pins s σ H Q I h;apply isTrue_or (aQ (ha pins s σ H _ I h) λc s1 ⟨H1,I1,q1⟩=>?_);cases c with
 |true=>exact#[H1,I1,q1]
 |false=>exact hb wh pins s1 σ H1 Q I1 q1
theorem eJ(ha:PT X a tA):PT X (.UnaryOp .Not a pos) (LH tA):=by
 intro pins s σ H Q I h;exact isTrue_not (ha pins s σ H (λc H1=>Q (!c) H1) I h)
inductive sM (tb:TE) (σ:St) (Q:VK) (x:V) (H1:Hp):Prop
 |mk:∀c,x=.bl c->(if c=true then tb σ H1 Q else Q (.bl false) H1)->sM tb σ Q x H1
def E1(ta tb:TE):TE:=λσ H Q=>ta σ H λx H1=>sM tb σ Q x H1
inductive yx (tb:TE) (σ:St) (Q:VK) (x:V) (H1:Hp):Prop
 |mk:∀c,x=.bl c->(if c=true then Q (.bl true) H1 else tb σ H1 Q)->yx tb σ Q x H1
def LG(ta tb:TE):TE:=λσ H Q=>ta σ H λx H1=>yx tb σ Q x H1
inductive sE (Q:VK) (x:V) (H1:Hp):Prop
 |mk:∀c,x=.bl c->Q (.bl (!c)) H1->sE Q x H1
def ER(ta:TE):TE:=λσ H Q=>ta σ H λx H1=>sE Q x H1
theorem oi{op}{t:TE}(h:PE X a t):PE X (.BoolOp op [a] pos) t:=λpins s σ H Q I hw=>BoolOp_one (h pins s σ H Q I hw)
theorem oj(ha:PE X a ta)(hb:PE X (.BoolOp .And (b::rest) pos) tb):PE X (.BoolOp .And (a::b::rest) pos) (E1 ta tb):=by
 intro pins s σ H Q I h;apply BoolOp_and (aQ (ha pins s σ H _ I h) λv s1 ⟨x,H1,I1,r1,q1⟩=>?_);let#[c,rfl,q1]:=q1;cases r1;apply rO ?_;cases c with
 |true=>exact hb pins s1 σ H1 Q I1 q1
 |false=>exact#[.bl false,H1,I1,Z,q1]
theorem RZ(ha:PE X a ta)(hb:PE X (.BoolOp .Or (b::rest) pos) tb):PE X (.BoolOp .Or (a::b::rest) pos) (LG ta tb):=by
 intro pins s σ H Q I h;apply BoolOp_or (aQ (ha pins s σ H _ I h) λv s1 ⟨x,H1,I1,r1,q1⟩=>?_);let#[c,rfl,q1]:=q1;cases r1;apply rO ?_;cases c with
 |false=>exact hb pins s1 σ H1 Q I1 q1
 |true=>exact#[.bl true,H1,I1,Z,q1]
theorem Sf(ha:PE X a ta):PE X (.UnaryOp .Not a pos) (ER ta):=by
 intro pins s σ H Q I h;apply UnaryOp_ (aQ (ha pins s σ H _ I h) λv s1 ⟨x,H1,I1,r1,q1⟩=>?_);let#[c,rfl,q1]:=q1;cases r1;exact not_of (rO #[.bl (!c),H1,I1,Z,q1])
def XN(t:TT)(ta tb:TE):TE:=λσ H Q=>t σ H λc H1=>if c=true then ta σ H1 Q else tb σ H1 Q
theorem j7_{c:Expr}(hc:PT X c tA)(ha:PE X a ta)(hb:PE X b tb):PE X (.IfExp c a b pos) (XN tA ta tb):=by
 intro pins s σ H Q I h;apply wpAny_IfExp (aQ (hc pins s σ H _ I h) λd s1 ⟨H1,I1,q1⟩=>?_);cases d with
 |true=>exact ha pins s1 σ H1 Q I1 q1
 |false=>exact hb pins s1 σ H1 Q I1 q1
end
end L2
namespace L2
open PySem PySem.Spec PyProof.Rows
def dH(K:af)(H:Hp)(a:Addr)(xs:aj):Prop:=
 Rd H a (.lst xs) ∨
  ∃(o:Obj) (its:Array Aa) (n:Nat),K.lookup a\o/\o.cls=.type "list"/\o.dict=none/\o.data=.seq its n/\its.size<=sizeLine/\Vals xs its.toList
def iD(K:af)(H:Hp)(a:Addr)(xs:aj):Prop:=
 Rd H a (.tup xs) ∨
  ∃(o:Obj) (its:Array Aa) (n:Nat),K.lookup a\o/\o.cls=.type "tuple"/\o.data=.seq its n/\its.size<=sizeLine/\Vals xs its.toList
def Q5:Aa->aV
 |.none=>some .non
 |.bool b=>some (.bl b)
 |.int i _=>some (.int i)
 |.str x _=>some (.str x)
 |.bytes b _=>some (.byt b)
 |.float b _=>some (.flt b)
 |.ref a=>some (.ref a)
 |.type n=>some (.ty n)
 |_=>none
theorem RelV.abs{x:V}{u:Aa}(r:RelV x u):Q5 u\x:=by
 cases x with
 |non=>cases r;rfl
 |bl _=>cases r;rfl
 |int _=>let#[t,rfl]:=r;rfl
 |str _=>let#[t,rfl]:=r;rfl
 |byt _=>let#[t,rfl]:=r;rfl
 |flt _=>let#[t,rfl]:=r;rfl
 |ref _=>cases r;rfl
 |ty _=>cases r;rfl
theorem RelV.inj{x y:V}{u:Aa}(r:RelV x u)(q:RelV y u):x=y:=dG (r.abs.symm.trans q.abs)
theorem Vals.inj:∀{xs ys:aj} {us:ak},Vals xs us->Vals ys us->xs=ys
 |_,_,_,.nil,.nil=>rfl
 |_,_,_,.cons r t,.cons r' t'=>by rw[r.inj r',Vals.inj t t']
section
variable{X:Cx}{pins:List (Addr × Obj)}{σ:St}{H:Hp}{s:Ab}{a:Addr}{xs ys:aj}
theorem dH.of{K:af}(h:H a\.lst xs):dH K H a xs:=.inl (.inl h)
theorem iD.of{K:af}(h:H a\.tup xs):iD K H a xs:=.inl (.inl h)
theorem Inv.list(I:Inv X pins σ H s)(h:dH X.K H a xs):∃its:ak,Vals xs its/\PlainL s.heap a its.toArray/\xs.length<=sizeLine:=by
 rcases h with h|⟨o,its,n,hk,hc,hd,hs,hz,r⟩
 ·let#[z,its,n,r,e]:=h.ok I.au;exact#[its,r,#[_,n,e,Z,Z,Z],z]
 apply#[its.toList,r,#[o,n,I.fj a o hk,hc,hd,by simpa using hs],?_];let e:=r.length;simp only[vG] at e;omega
theorem Inv.tuple(I:Inv X pins σ H s)(h:iD X.K H a xs):∃its:ak,Vals xs its/\IsTup s.heap a its.toArray/\xs.length<=sizeLine:=by
 rcases h with h|⟨o,its,n,hk,hc,hs,hz,r⟩
 ·let#[z,its,r,p,_]:=h.ok I.au;exact#[its,r,p,z]
 apply#[its.toList,r,#[o,I.fj a o hk,hc,n,by simpa using hs],?_];let e:=r.length;simp only[vG] at e;omega
theorem Inv.kq(I:Inv X pins σ H s)(h:dH X.K H a xs)(h':dH X.K H a ys):xs=ys:=by
 let#[its,r,#[o,n,e,_,_,d],_]:=I.list h;let#[its',r',#[o',n',e',_,_,d'],_]:=I.list h';rw[e] at e';cases e';rw[d] at d'
 injection d' with d1 _
 have:its=its':=⇑(eA Array.toList d1)
 subst this;exact r.inj r'
theorem Inv.eX(I:Inv X pins σ H s)(h:iD X.K H a xs)(h':iD X.K H a ys):xs=ys:=by
 let#[its,r,#[o,e,_,n,d],_]:=I.tuple h;let#[its',r',#[o',e',_,n',d'],_]:=I.tuple h';rw[e] at e';cases e';rw[d] at d'
 injection d' with d1 _
 have:its=its':=⇑(eA Array.toList d1)
 subst this;exact r.inj r'
end
abbrev Cx.gc(X:Cx)(E:Aa->Ab->Prop):Cx:={ X with xe:=E }
abbrev Cx.uo(X:Cx):Cx:=X.gc λ_ _=>False
theorem Cx.Ok.gc{X:Cx}(ok:X.Ok)(E:Aa->Ab->Prop):(X.gc E).Ok:=
 #[ok.mod,ok.kind,ok.glob,ok.blt,ok.above,ok.inj,ok.has,ok.wa,ok.hd,ok.frames,ok.Dq,ok.DY,ok.bs,ok.lY,ok.nv,ok.nM,ok.dY,ok.qJ]
theorem Cx.Ok.ck{X:Cx}{E:Aa->Ab->Prop}(ok:(X.gc E).Ok):X.Ok:=
 #[ok.mod,ok.kind,ok.glob,ok.blt,ok.above,ok.inj,ok.has,ok.wa,ok.hd,ok.frames,ok.Dq,ok.DY,ok.bs,ok.lY,ok.nv,ok.nM,ok.dY,ok.qJ]
section
variable{X:Cx}{pins:List (Addr × Obj)}{σ:St}{H:Hp}{s:Ab}{E:Aa->Ab->Prop}
theorem Inv.gc(I:Inv X pins σ H s)(E:Aa->Ab->Prop):Inv (X.gc E) pins σ H s:=#[I.ok.gc E,I.os,I.bare,I.base,I.loc,I.cell,I.free,I.bX,I.pin,I.au,I.len]
theorem Inv.ck(I:Inv (X.gc E) pins σ H s):Inv X pins σ H s:=#[I.ok.ck,I.os,I.bare,I.base,I.loc,I.cell,I.free,I.bX,I.pin,I.au,I.len]
theorem SP.ck{D:Ends}{f:Flow}{s':Ab}(h:SP (X.gc E) pins D f s'):SP X pins D f s':=by
 cases f with
 |next=>let#[ba,H',I,q]:=h;exact#[ba,H',I.ck,q]
 |brk=>let#[ba,H',I,q]:=h;exact#[ba,H',I.ck,q]
 |cont=>let#[ba,H',I,q]:=h;exact#[ba,H',I.ck,q]
 |ret u=>let#[v,ba,H',I,r,q]:=h;exact#[v,ba,H',I.ck,r,q]
theorem ig.uo{st:List Stmt}{t:TS}(h:ig X.uo st t):ig X st t:=λpins s σ H D I hw=>
 iM (h pins s σ H D (I.gc _) hw) (λ_ _ q=>q.ck) λ_ _ z=>False.elim z
end
section
variable{X:Cx}{st:Stmt}{rest:List Stmt}{t u:TS}{e:Expr}{te:TE}{pos:Pos}
def ET:TS:=λD σ H=>D.nx σ H
def qo(t u:TS):TS:=λD σ H=>t { D with nx:=u D } σ H
theorem bB:ig X [] ET:=λ_ _ σ H _ I h=>wpAny_execs_nil #[σ,H,I,h]
theorem ay(h1:PS X st t)(h2:ig X rest u):ig X (st::rest) (qo t u):=by
 intro pins s σ H D I h;apply wpAny_execs_cons (aQ (h1 pins s σ H { D with nx:=u D } I h) λf s1 q=>?_);cases f with
 |next=>
  let#[ba,H',I',q]:=q;exact h2 pins s1 ba H' D I' q
 |ret v=>exact q
 |brk=>exact q
 |cont=>exact q
theorem aI(h1:PS X st t):ig X [st] t:=by
 intro pins s σ H D I h;apply wpAny_execs_cons (aQ (h1 pins s σ H D I h) λf s1 q=>?_);cases f with
 |next=>exact wpAny_execs_nil q
 |ret v=>exact q
 |brk=>exact q
 |cont=>exact q
theorem Inv.quiet{pins:List (Addr × Obj)}{σ:St}{H:Hp}{s:Ab}(I:Inv X pins σ H s):interactive X.env=false:=by simp[interactive,I.ok.kind]
def EW(te:TE):TS:=λD σ H=>te σ H λ_ H1=>D.nx σ H1
theorem p_(he:PE X e te)(hs:swapsWith e none pos.line X.env=pure false:=by rfl):PS X (.Expr e pos) (EW te):=by
 intro pins s σ H D I h;exact wpAny_Expr_any (aQ (he pins s σ H _ I h) λv s1 ⟨x,H1,I1,r1,q1⟩=>#[σ,H1,I1,q1]) I.quiet hs
def LF(te:TE):TS:=λD σ H=>te σ H D.rt
theorem bg(he:PE X e te):PS X (.Return (some e) pos) (LF te):=by
 intro pins s σ H D I h;exact wpAny_Return_some (aQ (he pins s σ H _ I h) λv s1 ⟨x,H1,I1,r1,q1⟩=>#[x,σ,H1,I1,r1,q1])
def LL(c:TT)(t u:TS):TS:=λD σ H=>c σ H λb H1=>if b=true then t D σ H1 else u D σ H1
theorem bA{c:Expr}{a b:List Stmt}{tc:TT}(hc:PT X c tc)(ha:ig X a t)(hb:ig X b u):PS X (.If c a b pos) (LL tc t u):=by
 intro pins s σ H D I h;apply wpAny_If (aQ (hc pins s σ H _ I h) λd s1 ⟨H1,I1,q1⟩=>?_);cases d with
 |true=>exact ha pins s1 σ H1 D I1 q1
 |false=>exact hb pins s1 σ H1 D I1 q1
def sF:TS:=λ_ _ _=>False
theorem jd_:PS X st sF:=λ_ _ _ _ _ _ h=>h.elim
theorem d0{XT:List Stmt}:ig X XT sF:=λ_ _ _ _ _ _ h=>h.elim
end
abbrev TG:=V->St->Hp->(St->Hp->Prop)->Prop
abbrev Dh:=aj->St->Hp->(St->Hp->Prop)->Prop
def PG(X:Cx)(target:Expr)(t:TG):Prop:=
 ∀(pins:List (Addr × Obj)) (s:Ab) (σ:St) (H:Hp) (v:V) (u:Aa) (Q:lG),Inv X pins σ H s->RelV v u->t v σ H Q->
  wpAny (model X.prog X.w) X.A (assign target X.env u) (λ_ s'=>∃ba H',Inv X pins ba H' s'/\Q ba H') X.xe s
def IH(X:Cx)(ts:List Expr)(t:Dh):Prop:=
 ∀(pins:List (Addr × Obj)) (s:Ab) (σ:St) (H:Hp) (vs:aj) (us:ak) (Q:lG),Inv X pins σ H s->Vals vs us->t vs σ H Q->
  wpAny (model X.prog X.w) X.A (assignInOrder ((assignEach ts X.env).map (·.2)) us) (λ_ s'=>∃ba H',Inv X pins ba H' s'/\Q ba H') X.xe s
abbrev Dg:=V->V->V->Hp->(Hp->Prop)->Prop
def IG(X:Cx)(t:Dg):Prop:=
 ∀(pins:List (Addr × Obj)) (s:Ab) (σ:St) (H:Hp) (o i v:V) (ov iv u:Aa) (Q:Hp->Prop),Inv X pins σ H s->RelV o ov->RelV i iv->RelV v u->t o i v H Q->
  wpAny (model X.prog X.w) X.A (setItem ov iv u) (λ_ s'=>∃H',Inv X pins σ H' s'/\Q H') X.xe s
section
variable{X:Cx}{pos:Pos}
def jL(i:Nat):TG:=λv σ H Q=>Q (σ.set i (some v)) H
theorem gM{i:Nat}{x:Str}(hN:X.N.Nodup)(hi:X.N[i]? = some x)(hx:Loc X.env.scope x)(hf:X.fn x=true∨X.env.scope.names.lookup x\.local:=by first|exact .inl Z|exact .inr Z|assumption):PG X (.Name x pos) (jL i):=by
 intro pins s σ H v u Q I r h;exact wpAny_assign_Name (Pe I hN hi hx r (λs' I'=>#[_,H,I',h]) hf)
theorem gA:type_of% PyProof.Rows.Boot.«isinstance»:=PyProof.Rows.Boot.«isinstance»
theorem GY:type_of% PyProof.Rows.Boot.«int»:=PyProof.Rows.Boot.«int»
theorem Ed:type_of% PyProof.Rows.Boot.«str»:=PyProof.Rows.Boot.«str»
theorem Hx:type_of% PyProof.Rows.Boot.«tuple»:=PyProof.Rows.Boot.«tuple»
theorem zU:type_of% PyProof.Rows.Boot.«list»:=PyProof.Rows.Boot.«list»
theorem El:type_of% PyProof.Rows.Boot.«sorted»:=PyProof.Rows.Boot.«sorted»
theorem p7:type_of% PyProof.Rows.Boot.«dict»:=PyProof.Rows.Boot.«dict»
theorem RK(i:Nat){x:Str}(hN:X.N.Nodup:=by first|(show ([_]:List Str).Nodup;decide +kernel)|(show ([_,_]:List Str).Nodup;decide +kernel)|(show ([_,_,_]:List Str).Nodup;decide +kernel)|(show ([_,_,_,_]:List Str).Nodup;decide +kernel))(hi:X.N[i]? = some x:=by rfl)(hx:Loc X.env.scope x:=by first|exact Or.inl Z|exact Or.inr Z)(hf:X.fn x=true∨X.env.scope.names.lookup x\.local:=by first|exact .inl Z|exact .inr Z|assumption):PG X (.Name x pos) (jL i):=gM hN hi hx hf
theorem dR(i:Nat){x:Str}(hN:X.N.Nodup)(hi:X.N[i]? = some x:=by rfl)(hx:Loc X.env.scope x:=by first|exact Or.inl Z|exact Or.inr Z)(hf:X.fn x=true∨X.env.scope.names.lookup x\.local:=by first|exact .inl Z|exact .inr Z|assumption):PG X (.Name x pos) (jL i):=gM hN hi hx hf
def xO:Dh:=λvs σ H Q=>vs=[]/\Q σ H
inductive wm (t:TG) (u:Dh) (vs:aj) (σ:St) (H:Hp) (Q:lG):Prop
 |mk:∀v r,vs=v::r->(t v σ H λba H'=>u r ba H' Q)->wm t u vs σ H Q
theorem oy:IH X [] xO:=by
 intro pins s σ H vs us Q I r h;let#[e,h]:=h;subst e;cases r;exact assignInOrder_nil ⟨σ,H,I,h⟩
theorem fo{e:Expr}{es:List Expr}{t:TG}{u:Dh}(h1:PG X e t)(h2:IH X es u)
  (hs:(assignEach (e::es) X.env).map (·.2)=assign e X.env::(assignEach es X.env).map (·.2):=by rfl):IH X (e::es) (wm t u):=by
 intro pins s σ H vs us Q I r h;let#[v,vr,e1,h]:=h;subst e1;cases r with
 |cons r rr=>
  rw[hs];apply assignInOrder_cons (aQ (h1 pins s σ H _ _ _ I r h) λ_ s1 ⟨oO,H1,I1,q1⟩=>?_);exact h2 pins s1 oO H1 _ _ Q I1 rr q1
inductive iX (K:af) (n:Nat) (t:Dh) (v:V) (σ:St) (H:Hp) (Q:lG):Prop
 |mk:∀a xs,v=.ref a->iD K H a xs->xs.length=n->t xs σ H Q->iX K n t v σ H Q
theorem rQ{es:List Expr}{k:Nat}{t:Dh}{n:Nat}(hc:X.calm=true)(h:IH X es t)
  (hn:(assignEach es X.env).length=n:=by rfl) (ja:(assignEach es X.env).findIdx? (·.1)=none:=by rfl):PG X (.Tuple es k pos) (iX X.K n t):=by
 intro pins s σ H v u Q I r hw;let#[a,xs,e1,hq,hl,hw]:=hw;subst e1;cases r;let#[its,rv,ht,hz]:=I.tuple hq;apply assign_Tuple_tuple (I.ok.hd hc) ht (by simp[hn,<- hl,rv.length]) ja λh' hx=>?_;have I1:Inv X pins σ H { s with heap:=h' }:=I.kept (t':=s.toks) λb o e=>hx b o (dB (bN e)) e;exact h pins _ σ H xs _ Q I1 ⇑rv hw
def Oj(to ti:TE)(t:Dg):TG:=λv σ H Q=>to σ H λo H1=>ti σ H1 λi H2=>t o i v H2 λH3=>Q σ H3
theorem Sm{o i:Expr}{to ti:TE}{t:Dg}(ho:PE X o to)(hi:PE X i ti)(hs:IG X t)
  (ha:∀v,assign (.Subscript o i pos) X.env v=(do
   let ov <- holding [v] (eval o X.env)
   let iv <- holding [v,ov] (eval i X.env)
   standAt pos
   holding [v,ov,iv] (setItem ov iv v)
   release [v,ov,iv] []):=by intro _;rfl):PG X (.Subscript o i pos) (Oj to ti t):=by
 intro pins s σ H v u Q I r h;rw[ha];apply ao (jK (aQ (ho pins s σ H _ I h) λov s1 ⟨x,H1,I1,r1,q1⟩=>?_));apply ao (jK (aQ (hi pins s1 σ H1 _ I1 q1) λiv s2 ⟨y,H2,I2,r2,q2⟩=>?_));apply ao (wpAny_standAt (ao (jK (aQ (hs pins s2 σ H2 x y v ov iv u _ I2 r1 r2 r q2) λ_ s3 ⟨H3,I3,q3⟩=>?_))));exact wpAny_release #[σ,H3,I3,q3]
def qq(te:TE)(g:TG):TS:=λD σ H=>te σ H λx H1=>g x σ H1 D.nx
theorem N7{tg e:Expr}{te:TE}{g:TG}(he:PE X e te)(hg:PG X tg g)(hs:swapsWithSole [tg] e pos.line X.env=pure false:=by rfl)(hw:swappedStores [tg] e X.env=pure none:=by rfl)
  (h1:(assignEach [tg] X.env).map (·.2)=[assign tg X.env]:=by rfl):PS X (.Assign [tg] e pos) (qq te g):=by
 intro pins s σ H D I h;apply wpAny_Assign_stores (aQ (he pins s σ H _ I h) λv s1 ⟨x,H1,I1,r1,q1⟩=>?_) hs hw;rw[h1];exact aQ (hg pins s1 σ H1 x v _ I1 r1 q1) λ_ s2 q=>q
theorem Sz{i:Nat}{x:Str}{e:Expr}{te:TE}{pos':Pos}(hN:X.N.Nodup)(hi:X.N[i]? = some x)(hx:Loc X.env.scope x)(he:PE X e te)(hs:swapsWith e (some (.Name x pos')) pos.line X.env=pure false:=by rfl)(hf:X.fn x=true∨X.env.scope.names.lookup x\.local:=by first|exact .inl Z|exact .inr Z|assumption) :
  PS X (.Assign [.Name x pos'] e pos) (qq te (jL i)):=by
 intro pins s σ H D I h;apply wpAny_Assign_Name (aQ (he pins s σ H _ I h) λv s1 ⟨y,H1,I1,r1,q1⟩=>?_) hs;exact Pe I1 hN hi hx r1 (λs2 I2=>#[_,H1,I2,q1]) hf
theorem bw(i:Nat){x:Str}{e:Expr}{te:TE}{pos':Pos}(hN:X.N.Nodup)(he:PE X e te)(hi:X.N[i]? = some x:=by rfl)(hx:Loc X.env.scope x:=by first|exact Or.inl Z|exact Or.inr Z)(hs:swapsWith e (some (.Name x pos')) pos.line X.env=pure false:=by rfl)(hf:X.fn x=true∨X.env.scope.names.lookup x\.local:=by first|exact .inl Z|exact .inr Z|assumption):PS X (.Assign [.Name x pos'] e pos) (qq te (jL i)):=Sz hN hi hx he hs hf
end
section
variable{X:Cx}{pos:Pos}
def sk(c:TT)(tb:TS):TS:=λD σ H=>∃W:Nat->St->Hp->Prop,(∃m,W m σ H)/\∀m σ H,W m σ H->
 c σ H λb H1=>if b=true then ∃N:St->Hp->Prop,(∀ba H',N ba H'->∃m',m'<m/\W m' ba H')/\tb { D with nx:=N,ct:=N,bk:=D.nx } σ H1 else D.nx σ H1
theorem iK_{c:Expr}{body:List Stmt}{tc:TT}{tb:TS}(hp:PassesOwn (model X.prog X.w) X.A X.env X.xe)(hc:PT X c tc)(hb:ig X body tb):PS X (.While c body [] pos) (sk tc tb):=by
 intro pins s σ H D I h;let#[W,#[m0,w0],turn]:=h;apply wpAny_While (codeAny_whileLoop (λn s'=>∃ba H',Inv X pins ba H' s'/\W n ba H') ?_ m0 #[σ,H,I,w0]);rintro n s1 ⟨oO,H1,I1,w1⟩;apply wpAny_passesOwn hp (aQ (hc pins s1 oO H1 _ I1 (turn n oO H1 w1)) λb s2 ⟨H2,I2,q2⟩=>?_);cases b with
 |true=>
  let#[N,hN,q2]:=q2;rw[aJ Z];apply wpAny_passesOwn hp (aQ (hb pins s2 oO H2 _ I2 q2) λf s3 q3=>?_);cases f with
  |next=>
   let#[lO,H3,I3,n3]:=q3;let#[m',hm,w3]:=hN lO H3 n3;exact#[m',hm,lO,H3,I3,w3]
  |cont=>
   let#[lO,H3,I3,n3]:=q3;let#[m',hm,w3]:=hN lO H3 n3;exact#[m',hm,lO,H3,I3,w3]
  |brk=>exact q3
  |ret v=>exact q3
 |false=>
  rw[aC gO];exact wpAny_execs_nil #[oO,H2,I2,q2]
end
structure It where
 go:Nat->Hp->Prop
 wJ:Nat->Hp->V->Hp->Prop
 stop:Nat->Hp->Prop
def cy(X:Cx)(pins:List (Addr × Obj))(H:Hp)(b:Addr):Prop:=
 H b=none/\b≠X.env.locals/\b∉X.fs/\(b∈X.ex∨X.cg.heap.objs.size<=b)/\(∀x c,X.env.cells.lookup x\c->c≠b)/\∀p∈X.pn++pins,p.1≠b
theorem Inv.jE{X:Cx}{pins:List (Addr × Obj)}{σ:St}{H H':Hp}{s:Ab}{b:Addr}(I:Inv X pins σ H s)(hb:s.heap.objs.size<=b)(hn:H' b=none):cy X pins H' b:=by
 apply#[hn,oF (gZ I.lt hb),I.MA hb,.inr (oG I.sz hb),λx c e z=>?_,λp hp z=>?_]
 ·let#[v,q]:=I.cell x c e;exact absurd (gZ q.lt (by rw[z];exact hb)) (yj _)
 exact absurd (gZ (bN (I.pin p hp).1) (by rw[z];exact hb)) (yj _)
structure Turn (P:Ad) (w:Af) (K:af) (tg:Expr) (J:It) (fp:ai) (it:Addr) (tn:Nat->Heap->Prop):Prop where
 mem:it∈fp
 obj:∀i h,tn i h->∀b∈fp,∃o,h.get? b\o/\∀v,o.data≠.cell v
 keep:∀i h h',tn i h->(∀b∈fp,∀o,h.get? b\o->h'.get? b\o)->tn i h'
 item:∀(X:Cx),X.prog=P->X.w=w->X.K=K->X.calm=true->∀(i:Nat) (pins:List (Addr × Obj)) (s:Ab) (σ:St) (H:Hp) (E:Aa->Ab->Prop),Inv X pins σ H s->(∀b∈fp,cy X pins H b)->tn i s.heap->J.go i H->
  wpAny (model P w) X.A (pyNext (.ref it)) (λr s1=>∃u,r\u /\
   wpAny (model P w) X.A (letOwnedTupleGo tg (.ref it) u) (λ_ s2=>∃x H',Inv X pins σ H' s2/\RelV x u/\J.wJ i H x H'/\tn (i+1) s2.heap/\∀b∈fp,H' b=none) E s1) E s
 done:∀(X:Cx),X.prog=P->X.w=w->X.K=K->X.calm=true->∀(i:Nat) (pins:List (Addr × Obj)) (s:Ab) (σ:St) (H:Hp) (E:Aa->Ab->Prop),Inv X pins σ H s->(∀b∈fp,cy X pins H b)->tn i s.heap->J.stop i H->
  wpAny (model P w) X.A (pyNext (.ref it)) (λr s1=>r=none/\Inv X pins σ H s1) E s
 self:∀(A:Ag) (i:Nat) (s:Ab) (Q:Aa->Ab->Prop) (E:Aa->Ab->Prop),tn i s.heap->Q (.ref it) s->wpAny (model P w) A (pyIter (.ref it)) Q E s
abbrev TI:=St->Hp->(It->Hp->Prop)->Prop
def Ww(X:Cx)(pins:List (Addr × Obj))(σ:St)(tg:Expr)(R:It->Hp->Prop)(Js:Aa)(s2:Ab):Prop:=
 ∃(it:Addr) (fp:ai) (tn:Nat->Heap->Prop) (J:It) (H':Hp),Js=.ref it/\Inv X pins σ H' s2/\Turn X.prog X.w X.K tg J fp it tn/\tn 0 s2.heap/\(∀b∈fp,cy X pins H' b)/\R J H'
def PI(X:Cx)(tg iter:Expr)(wi:TI):Prop:=
 ∀(pins:List (Addr × Obj)) (s:Ab) (σ:St) (H:Hp) (R:It->Hp->Prop),Inv X pins σ H s->wi σ H R->
  wpAny (model X.prog X.w) X.A (eval iter X.env) (λv s1=>wpAny (model X.prog X.w) X.A (pyIter v) (Ww X pins σ tg R) X.xe s1) X.xe s
theorem GI{M:Model}{A:Ag}{E:Aa->Ab->Prop}{s:Ab}{tg:Expr}{it:Addr}{u:Aa}{o:Obj}{n:String}{vs:Array Aa}{Q:Unit->Ab->Prop}(ho:s.heap.get? it\o)(hc:o.cls=.type n)(hd:o.data=.fields vs)
  (hn:["enumerate","zip","dict_itemiterator","dict_reverseitemiterator","odict_iterator","itertools.zip_longest","itertools.pairwise"].contains n=false) (hQ:Q () s):wpAny M A (letOwnedTupleGo tg (.ref it) u) Q E s:=by
 unfold letOwnedTupleGo
 cases tg<;>first
  |exact aP hQ
  |(cases u<;>first
    |exact aP hQ
    |(apply ao (wpAny_load ho ?_)
      rw[hc,hd];show wpAny M A (if (["enumerate","zip","dict_itemiterator","dict_reverseitemiterator","odict_iterator","itertools.zip_longest","itertools.pairwise"].contains n&&vs[0]? == some (rawInt _))=true then _ else _) Q E s;rw[aC (by intro h;rw[hn,Bool.false_and] at h;cases h)];exact aP hQ))
def Dk(K:af)(a:Addr):It:=
 ⟨λi H=>∃xs x,dH K H a xs/\xs[i]? = some x,λi H x H'=>H'=H/\∀xs,dH K H a xs->xs[i]? = some x,λi H=>∃xs,dH K H a xs/\xs.length<=i⟩
def EA(lo:Int)(n:Nat):It:=⟨λi _=>i<n,λi H x H'=>H'=H/\x=.int (lo+i),λi _=>n<=i⟩
theorem he_{P:Ad}{w:Af}{K:af}{tg:Expr}(a it:Addr):Turn P w K tg (Dk K a) [it] it (λi h=>h.IsListIter it a i) where
 mem:=by simp
 obj:=λi h st b hb=>by
  have e:b=it:=⇑hb
  subst e;let#[o,e,c,d]:=st;exact#[o,e,λv z=>by rw[d] at z;cases z]
 keep:=λi h h' st k=>st.at λo e=>k it Z2 o e
 item:=by
  intro X hP hw hK hc i pins s σ H E I hf st hg;subst hP hw hK;let#[xs,x,hq,hx]:=hg;let#[its,rv,p,hz]:=I.list hq;let#[u,hu,ru]:=rv.get hx;let#[f0,f1,f2,f3,f4,f5]:=hf it Z2;apply wpAny_pyNext_list_item st p.isList (x:=u) ⇑hu λh' fI sb=>?_;have I1:Inv X pins σ H { s with heap:=h' }:=I.turned (t':=s.toks) (λb o hb e=>(sb.2 b hb).trans e) f0 f1 f3 f4 f5;let#[o,e,c,d]:=id fI;exact#[u,Z,GI (s:={ s with heap:=h' }) e c d (by decide) #[x,H,I1,ru,#[Z,λys hy=>by rw[I.kq hy hq];exact hx],fI,λb hb=>(hf b hb).1]]
 done:=by
  intro X hP hw hK hc i pins s σ H E I hf st hg;subst hP hw hK;let#[xs,hq,hx]:=hg;let#[its,rv,p,hz]:=I.list hq;let#[f0,f1,f2,f3,f4,f5]:=hf it Z2;let hl:=rv.length;exact wpAny_pyNext_list_end (I.ok.hd hc) st p.isList (by simp;omega) λh' eb=>#[Z,I.turned (t':=s.toks) (λb o hb e=>eb b o hb e) f0 f1 f3 f4 f5]
 self:=λ_ _ _ _ _ st h=>wpAny_pyIter_listiter st h
theorem gd_{P:Ad}{w:Af}{K:af}{tg:Expr}(it:Addr)(lo:Int)(n:Nat):Turn P w K tg (EA lo n) [it] it (λi h=>IsRangeIter h it (lo+(i:Nat) * 1) ((n:Int) - (i:Nat)) 1) where
 mem:=by simp
 obj:=λi h st b hb=>by
  have e:b=it:=⇑hb
  subst e
  exact#[_,st,λv z=>by
   have z':Data.fields _=Data.cell v:=z;cases z']
 keep:=λi h h' st k=>k it Z2 _ st
 item:=by
  intro X hP hw hK hc i pins s σ H E I hf st hg;subst hP hw hK;let#[f0,f1,f2,f3,f4,f5]:=hf it Z2;let W:=Walks.range (prog:=X.prog) (w:=X.w) (I.ok.hd hc) it lo 1 n;apply W.item i s _ _ hg st λv h' tk hv fI kk=>?_;let#[t,rfl]:=hv;have I1:Inv X pins σ H { s with heap:=h',toks:=tk }:=I.turned (λb o hb e=>kk b o ⇑hb e) f0 f1 f3 f4 f5;apply#[_,Z,GI (s:={ s with heap:=h',toks:=tk }) (n:="range_iterator") fI Z Z (by decide) #[.int (lo+i),H,I1,#[t,?_],#[Z,Z],fI,λb hb=>(hf b hb).1]];rw[Int.mul_one]
 done:=by
  intro X hP hw hK hc i pins s σ H E I hf st hg;subst hP hw hK;let#[f0,f1,f2,f3,f4,f5]:=hf it Z2;exact wpAny_pyNext_range_end (I.ok.hd hc) st (by have:n<=i:=hg;omega) λh' eb=>#[Z,I.turned (t':=s.toks) (λb o hb e=>eb b o hb e) f0 f1 f3 f4 f5]
 self:=λ_ _ _ _ _ st h=>wpAny_pyIter_rangeiter st h
end L2
namespace L2
open PySem PySem.Spec PyProof.Rows
section
variable{X:Cx}{tg:Expr}
inductive uI (K:af) (R:It->Hp->Prop) (x:V) (H1:Hp):Prop
 |mk:∀a,x=.ref a->(∃xs,dH K H1 a xs)->R (Dk K a) H1->uI K R x H1
def F6(K:af)(tl:TE):TI:=λσ H R=>tl σ H λx H1=>uI K R x H1
theorem fB{l:Expr}{tl:TE}(hl:PE X l tl):PI X tg l (F6 X.K tl):=by
 intro pins s σ H R I h;apply aQ (hl pins s σ H _ I h) λv s1 ⟨x,H1,I1,r1,q1⟩=>?_;let#[a,e,#[xs,hq],q]:=q1;subst e;cases r1;let#[its,rv,p,hz]:=I1.list hq;apply wpAny_pyIter_list p.isList ?_;apply#[s1.heap.objs.size,[s1.heap.objs.size],_,_,H1,Z,I1.kept (t':=s1.toks) λb o e=>bQ _ e,he_ a _,#[_,dU _ Z,Z,Z],λb hb=>?_,q];have e:b=s1.heap.objs.size:=⇑hb
 subst e;exact I1.jE (bj _) (I1.au.fresh (bj _))
theorem iq_{pins:List (Addr × Obj)}{σ:St}{H:Hp}{s:Ab}{R:It->Hp->Prop}{E:Aa->Ab->Prop}{lo hi:Int}{t u v:Tok}{tk:Nat}(I:Inv X pins σ H s)(h1:-(2 ^ 62)<=lo)(h2:lo<2 ^ 62)(h3:-(2 ^ 62)<=hi)(h4:hi<2 ^ 62)
  (q:R (EA lo (hi - lo).toNat) H):wpAny (model X.prog X.w) X.A (pyIter (.ref s.heap.objs.size)) (Ww X pins σ tg R) E { s with heap:=s.heap.push { cls:=.type "range",data:=.fields (List.toArray [.int lo t,.int hi u,.int 1 v]) },toks:=tk }:=by
 apply wpAny_pyIter_range (IsRange.new ..) (small_one h1 h2 h3 h4) ?_;have I1:Inv X pins σ H { s with heap:=s.heap.push { cls:=.type "range",data:=.fields (List.toArray [.int lo t,.int hi u,.int 1 v]) },toks:=tk }:=I.kept λb o e=>bQ _ e
 apply#[(s.heap.push { cls:=.type "range",data:=.fields (List.toArray [.int lo t,.int hi u,.int 1 v]) }).objs.size,[(s.heap.push { cls:=.type "range",data:=.fields (List.toArray [.int lo t,.int hi u,.int 1 v]) }).objs.size],_,_,H,Z,
  I1.kept (t':=tk) λb o e=>bQ _ e,gd_ _ lo (hi - lo).toNat,?_,λb hb=>?_,q]
 ·have e1:lo+((0:Nat):Int) * 1=lo:=by simp
  have e2:(((hi - lo).toNat:Nat):Int) - ((0:Nat):Int)=Builtin.Range.rangeSize lo hi 1:=by rw[rangeSize_one];split<;>omega
  show IsRangeIter _ _ (lo+((0:Nat):Int) * 1) ((((hi - lo).toNat:Nat):Int) - ((0:Nat):Int)) 1;rw[e1,e2];exact dU _ Z
 have e:b=(s.heap.push { cls:=.type "range",data:=.fields (List.toArray [.int lo t,.int hi u,.int 1 v]) }).objs.size:=⇑hb
 subst e;exact I1.jE (bj _) (I1.au.fresh (bj _))
inductive uH (R:It->Hp->Prop) (vs:aj) (H1:Hp):Prop
 |mk:∀j:Int,vs=[.int j]->-(2 ^ 62)<=j->j<2 ^ 62->R (EA 0 j.toNat) H1->uH R vs H1
def F5(ta:TA):TI:=λσ H R=>ta σ H λvs H1=>uH R vs H1
theorem Iv{a:Expr}{ta:TA}{p pos:Pos}(hg:Gl X "range")(hm:X.mg "range"=none)(ha:PA X [a] ta)(hs:starEach [a] X.env=[(false,eval a X.env)]:=by rfl):PI X tg (.Call (.Name "range" p) [a] [] pos) (F5 ta):=by
 intro pins s σ H R I h;apply Call_ (D_ I hg hm boot_range (PyProof.Rows.callWith_type1 (aQ (ha pos pins s σ H _ I h) λus s1 ⟨vs,H1,I1,r1,q1⟩=>?_) hs Z));let#[j,e,q1,q2,q]:=q1;subst e;cases r1 with
 |cons r rr=>
  cases rr;let#[t,rfl]:=r;exact call_range_1 (iq_ I1 Z1 Z1 q1 q2 ⇑q)
def LM(wi:TI)(g:TG)(tb:TS):TS:=λD σ H=>wi σ H λJ H1=>∃W:Nat->Nat->St->Hp->Prop,(∃m,W 0 m σ H1)/\∀i m σ H,W i m σ H->
 (J.stop i H/\D.nx σ H)∨(J.go i H/\∃N:St->Hp->Prop,(∀ba H',N ba H'->∃m',m'<m/\W (i+1) m' ba H')/\∀x H',J.wJ i H x H'->g x σ H' λfO H2=>tb { D with nx:=N,ct:=N,bk:=D.nx } fO H2)
def yc(fp:ai)(h:Heap):List (Addr × Obj):=fp.filterMap λb=>(h.get? b).map λo=>(b,o)
theorem Ld{fp:ai}{h:Heap}{b:Addr}{o:Obj}(hb:b∈fp)(e:h.get? b\o):(b,o)∈yc fp h:=rY.mpr #[b,hb,by rw[e];rfl]
theorem hg_{fp:ai}{h:Heap}{p:Addr × Obj}(hp:p∈yc fp h):p.1∈fp/\h.get? p.1\p.2:=by
 let#[b,hb,e]:=rY.mp hp;cases q:h.get? b with
 |none=>rw[q] at e;cases e
 |some o=>
  rw[q] at e;have e':(b,o)=p:=dG e;subst e';exact#[hb,q]
theorem Inv.pinned{pins:List (Addr × Obj)}{σ:St}{H:Hp}{s:Ab}{fp:ai}(I:Inv X pins σ H s)(hf:∀b∈fp,cy X pins H b)(ho:∀b∈fp,∃o,s.heap.get? b\o/\∀v,o.data≠.cell v):Inv X (pins++yc fp s.heap) σ H s:=
 I.pH λp hp=>(gY.mp hp).elim (λz=>I.pin p (oB _ z)) λz=>by
  let#[hb,e]:=hg_ z;let#[f0,f1,f2,_]:=hf p.1 hb;let#[o,e',d]:=ho p.1 hb;rw[e] at e';cases e';exact#[e,f0,f1,f2,d]
theorem Inv.eM{pins pl:List (Addr × Obj)}{σ:St}{H:Hp}{s:Ab}(I:Inv X (pins++pl) σ H s):Inv X pins σ H s:=I.pH λp hp=>I.pin p (oB _ (List.mem_append_left _ hp))
theorem f_{iter:Expr}{body:List Stmt}{wi:TI}{g:TG}{tb:TS}{pos:Pos}(hp:PassesOwn (model X.prog X.w) X.A X.env X.xe)(hc:X.calm=true)(hi:PI X tg iter wi)(hg:PG X tg g)(hb:ig X body tb)
  (hs:∀x,foldedSetIterable iter X.env x=pure x:=by intro _;rfl):PS X (.For tg iter body [] pos) (LM wi g tb):=by
 intro pins s σ H D I h;apply wpAny_For (aQ (hi pins s σ H _ I h) λv s1 h1=>aQ h1 λJs s2 h2=>?_) hs;let#[it,fp,tn,J,H2,e,I2,T,gH,f2,W,#[m0,w0],turn]:=h2;subst e;have AC:∀{H':Hp},(∀b∈fp,H' b=none)->∀b∈fp,cy X pins H' b:=λhn b hb=>#[hn b hb,(f2 b hb).2];apply codeAny_forLoop_any (λn s'=>∃i ba H',Inv X pins ba H' s'/\tn i s'.heap/\(∀b∈fp,H' b=none)/\W i n ba H') ?_ m0 #[0,σ,H2,I2,gH,λb hb=>(f2 b hb).1,w0];rintro n s3 ⟨i,lO,H3,I3,j8,GS,w3⟩;rcases turn i n lO H3 w3 with⟨stop,qn⟩|⟨go,N,hN,step⟩
 ·apply wpAny_passesOwn hp (aQ (T.done X Z Z Z hc i pins s3 lO H3 X.xe I3 (AC GS) j8 stop) λr s4 ⟨hr,I4⟩=>?_);subst hr;exact wpAny_execs_nil #[lO,H3,I4,qn]
 apply wpAny_passesOwn hp (aQ (T.item X Z Z Z hc i pins s3 lO H3 X.xe I3 (AC GS) j8 go) λr s4 ⟨u,hr,h4⟩=>?_);subst hr;apply wpAny_passesOwn hp (aQ h4 λ_ s5 ⟨x,H5,I5,r5,y5,fq,pW⟩=>?_);let I5':=I5.pinned (AC pW) (T.obj _ _ fq);apply wpAny_passesOwn hp (aQ (hg _ s5 lO H5 x u _ I5' r5 (step x H5 y5)) λ_ s6 ⟨WB,H6,I6,q6⟩=>?_);apply wpAny_passesOwn hp (aQ (hb _ s6 WB H6 _ I6 q6) λf s7 q7=>?_)
 have again:∀{r_:St} {H7:Hp},Inv X (pins++yc fp s5.heap) r_ H7 s7->N r_ H7->∃m,m<n/\∃i ba H',Inv X pins ba H' s7/\tn i s7.heap/\(∀b∈fp,H' b=none)/\W i m ba H':=λ{r_ H7} I7 n7=>by
  let#[m',hm,w7]:=hN r_ H7 n7;apply#[m',hm,i+1,r_,H7,I7.eM,T.keep _ _ _ fq λb hb o e=>(I7.pin (b,o) (oB _ (oB _ (Ld hb e)))).1,λb hb=>?_,w7];let#[o,e,d]:=T.obj _ _ fq b hb;exact (I7.pin (b,o) (oB _ (oB _ (Ld hb e)))).2.1
 cases f with
 |next=>let#[r_,H7,I7,n7]:=q7;exact again I7 n7
 |cont=>let#[r_,H7,I7,n7]:=q7;exact again I7 n7
 |brk=>let#[r_,H7,I7,q7]:=q7;exact#[r_,H7,I7.eM,q7]
 |ret v=>let#[x7,r_,H7,I7,r7,q7]:=q7;exact#[x7,r_,H7,I7.eM,r7,q7]
end
theorem k8{K:af}{a:Addr}{xs:aj}{g:TG}{tb:TS}{D:Ends}{σ:St}{H:Hp}(Pv:vM)(h0:Pv 0 σ H)(hl:∀i σ H,i<=xs.length->Pv i σ H->dH K H a xs)
  (hs:∀i x σ H,xs[i]? = some x->Pv i σ H->g x σ H λfO H2=>tb { D with nx:=Pv (i+1),ct:=Pv (i+1),bk:=D.nx } fO H2) (hd:∀σ H,Pv xs.length σ H->D.nx σ H) :
  ∃W:Nat->Nat->St->Hp->Prop,(∃m,W 0 m σ H)/\∀i m σ H,W i m σ H->
   ((Dk K a).stop i H/\D.nx σ H)∨((Dk K a).go i H/\∃N:St->Hp->Prop,(∀ba H',N ba H'->∃m',m'<m/\W (i+1) m' ba H')/\∀x H',(Dk K a).wJ i H x H'->g x σ H' λfO H2=>tb { D with nx:=N,ct:=N,bk:=D.nx } fO H2):=by
 apply#[λi m σ H=>m=xs.length - i/\i<=xs.length/\Pv i σ H,#[xs.length,by simp,hG _,h0],?_];rintro i m σ H ⟨rfl,hi,p⟩;let q:=hl i σ H hi p;by_cases dX:i<xs.length
 ·apply .inr #[#[xs,xs[i],q,by simp[dX]],Pv (i+1),λba H' p'=>#[xs.length - (i+1),by omega,Z,dX,p'],λx H' y=>?_];let#[e,y]:=y;subst e;exact hs i x σ _ (y xs q) p
 have e:i=xs.length:=by omega
 subst e;exact .inl #[#[xs,q,bj _],hd σ H p]
theorem Iy{lo:Int}{n:Nat}{g:TG}{tb:TS}{D:Ends}{σ:St}{H:Hp}(Pv:vM)(h0:Pv 0 σ H)
  (hs:∀i σ H,i<n->Pv i σ H->g (.int (lo+i)) σ H λfO H2=>tb { D with nx:=Pv (i+1),ct:=Pv (i+1),bk:=D.nx } fO H2) (hd:∀σ H,Pv n σ H->D.nx σ H) :
  ∃W:Nat->Nat->St->Hp->Prop,(∃m,W 0 m σ H)/\∀i m σ H,W i m σ H->
   ((EA lo n).stop i H/\D.nx σ H)∨((EA lo n).go i H/\∃N:St->Hp->Prop,(∀ba H',N ba H'->∃m',m'<m/\W (i+1) m' ba H')/\∀x H',(EA lo n).wJ i H x H'->g x σ H' λfO H2=>tb { D with nx:=N,ct:=N,bk:=D.nx } fO H2):=by
 apply#[λi m σ H=>m=n - i/\i<=n/\Pv i σ H,#[n,by simp,hG _,h0],?_];rintro i m σ H ⟨rfl,hi,p⟩;by_cases dX:i<n
 ·apply .inr #[dX,Pv (i+1),λba H' p'=>#[n - (i+1),by omega,Z,dX,p'],λx H' y=>?_];let#[e,y]:=y;subst e y;exact hs i σ _ dX p
 have e:i=n:=by omega
 subst e;exact .inl #[bj _,hd σ H p]
theorem jp_{c:TT}{tb:TS}{D:Ends}{σ:St}{H:Hp}(Pv:lG)(μ:St->Hp->Nat)(h0:Pv σ H)
  (hs:∀σ H,Pv σ H->c σ H λb H1=>if b=true then tb { D with nx:=λba H'=>Pv ba H'/\μ ba H'<μ σ H,ct:=λba H'=>Pv ba H'/\μ ba H'<μ σ H,bk:=D.nx } σ H1 else D.nx σ H1)
  (mono:∀σ H Q Q',(∀b H1,Q b H1->Q' b H1)->c σ H Q->c σ H Q'):sk c tb D σ H:=by
 apply#[λm σ H=>m=μ σ H/\Pv σ H,#[_,Z,h0],?_];rintro m σ H ⟨rfl,p⟩;apply mono σ H _ _ (λb H1 q=>?_) (hs σ H p);cases b with
 |true=>exact#[_,λba H' ⟨p',l⟩=>#[_,l,Z,p'],q]
 |false=>exact q
end L2
namespace L2
open PySem PySem.Spec PyProof.Rows
abbrev R2:=V->V->Hp->VK->Prop
def eW(X:Cx)(f:Aa->Aa->Sem Aa)(r:R2):Prop:=
 ∀(pins:List (Addr × Obj)) (s:Ab) (σ:St) (H:Hp) (x y:V) (v u:Aa) (Q:VK),Inv X pins σ H s->RelV x v->RelV y u->r x y H Q->
  wpAny (model X.prog X.w) X.A (f v u) (EP X pins σ Q) X.xe s
def Q8(X:Cx)(f:Aa->Sem Aa)(r:V->Hp->VK->Prop):Prop:=
 ∀(pins:List (Addr × Obj)) (s:Ab) (σ:St) (H:Hp) (x:V) (v:Aa) (Q:VK),Inv X pins σ H s->RelV x v->r x H Q->
  wpAny (model X.prog X.w) X.A (f v) (EP X pins σ Q) X.xe s
def fW(X:Cx)(f:Aa)(r:aj->Hp->VK->Prop):Prop:=
 ∀(pins:List (Addr × Obj)) (s:Ab) (σ:St) (H:Hp) (xs:aj) (us:ak) (Q:VK),Inv X pins σ H s->Vals xs us->r xs H Q->
  wpAny (model X.prog X.w) X.A (call f us) (EP X pins σ Q) X.xe s
def EO(r:R2)(ta tb:TE):TE:=λσ H Q=>ta σ H λx H1=>tb σ H1 λy H2=>r x y H2 Q
def XH(r:V->Hp->VK->Prop)(ta:TE):TE:=λσ H Q=>ta σ H λx H1=>r x H1 Q
inductive rI (C:Int->Int->Prop) (g:Int->Int->V) (x:V) (y:V) (H:Hp) (Q:VK):Prop
 |mk:∀i j,x=.int i->y=.int j->C i j->Q (g i j) H->rI C g x y H Q
inductive xh (g:Int->Int->V) (x:V) (y:V) (H:Hp) (Q:VK):Prop
 |mk:∀i j,x=.int i->y=.int j->Q (g i j) H->xh g x y H Q
inductive rU (g:Int->V) (x:V) (H:Hp) (Q:VK):Prop
 |mk:∀i,x=.int i->Q (g i) H->rU g x H Q
section
variable{X:Cx}{a b c:Expr}{ta tb tc:TE}{pos:Pos}
theorem CV(ha:PE X a ta)(hb:PE X b tb){pins:List (Addr × Obj)}{s:Ab}{σ:St}{H:Hp}{R:V->V->Hp->Prop}(I:Inv X pins σ H s)
  (h:ta σ H λx H1=>tb σ H1 λy H2=>R x y H2) {Q:Aa->Ab->Prop} {f:Aa->Aa->Sem Aa}
  (hf:∀v u s2 x y H2,Inv X pins σ H2 s2->RelV x v->RelV y u->R x y H2->wpAny (model X.prog X.w) X.A (f v u) Q X.xe s2) :
  wpAny (model X.prog X.w) X.A (eval a X.env) (λv aY=>wpAny (model X.prog X.w) X.A (eval b X.env) (λu fP=>wpAny (model X.prog X.w) X.A (f v u) Q X.xe fP) X.xe aY) X.xe s:=by
 apply aQ (ha pins s σ H _ I h) λv s1 ⟨x,H1,I1,r1,q1⟩=>?_;apply aQ (hb pins s1 σ H1 _ I1 q1) λu s2 ⟨y,H2,I2,r2,q2⟩=>?_;exact hf v u s2 x y H2 I2 r1 r2 q2
theorem b_{op:Operator}{r:R2}(ho:eW X (binaryOp op) r)(ha:PE X a ta)(hb:PE X b tb):PE X (.BinOp a op b pos) (EO r ta tb):=by
 intro pins s σ H Q I h;exact wpAny_BinOp (CV ha hb I h λv u s2 x y H2 I2 rx ry q=>ho pins s2 σ H2 x y v u Q I2 rx ry q)
theorem MX{op:UnaryOp}{r:V->Hp->VK->Prop}(ho:Q8 X (unaryOp op) r)(ha:PE X a ta):PE X (.UnaryOp op a pos) (XH r ta):=by
 intro pins s σ H Q I h;exact UnaryOp_ (aQ (ha pins s σ H _ I h) λv s1 ⟨x,H1,I1,r1,q1⟩=>ho pins s1 σ H1 x v Q I1 r1 q1)
theorem Mm{f:Aa->Aa->Sem Aa}{C:Int->Int->Prop}{g:Int->Int->Int}
  (rule:∀(i j:Int) (t u:Tok) (s:Ab) (Q:Aa->Ab->Prop) (E:Aa->Ab->Prop),C i j->Q (.int (g i j) s.toks) { s with toks:=s.toks+1 }->wpAny (model X.prog X.w) X.A (f (.int i t) (.int j u)) Q E s) :
  eW X f (rI C λi j=>.int (g i j)):=by
 intro pins s σ H x y v u Q I rx ry h;let#[i,j,rfl,rfl,hc,q]:=h;let#[t,rfl]:=rx;let#[t',rfl]:=ry;exact rule i j t t' s _ _ hc #[.int (g i j),H,I.tok _,#[_,Z],q]
theorem Fw{f:Aa->Aa->Sem Aa}{g:Int->Int->Int}
  (rule:∀(i j:Int) (t u:Tok) (s:Ab) (Q:Aa->Ab->Prop) (E:Aa->Ab->Prop),Q (.int (g i j) s.toks) { s with toks:=s.toks+1 }->wpAny (model X.prog X.w) X.A (f (.int i t) (.int j u)) Q E s) :
  eW X f (xh λi j=>.int (g i j)):=by
 intro pins s σ H x y v u Q I rx ry h;let#[i,j,rfl,rfl,q]:=h;let#[t,rfl]:=rx;let#[t',rfl]:=ry;exact rule i j t t' s _ _ #[.int (g i j),H,I.tok _,#[_,Z],q]
theorem xm{f:Aa->Aa->Sem Aa}{g:Int->Int->Bool}
  (rule:∀(i j:Int) (t u:Tok) (s:Ab) (Q:Aa->Ab->Prop) (E:Aa->Ab->Prop),Q (.bool (g i j)) s->wpAny (model X.prog X.w) X.A (f (.int i t) (.int j u)) Q E s) :
  eW X f (xh λi j=>.bl (g i j)):=by
 intro pins s σ H x y v u Q I rx ry h;let#[i,j,rfl,rfl,q]:=h;let#[t,rfl]:=rx;let#[t',rfl]:=ry;exact rule i j t t' s _ _ #[.bl (g i j),H,I,Z,q]
def Rj(i j:Int):Prop:=0<j/\j<1073741824
def Dm(i j:Int):Prop:=(-(2 ^ 64)<i/\i<2 ^ 64)∨(-(2 ^ 64)<j/\j<2 ^ 64)
theorem Dm.ok{i j:Int}(h:Dm i j):IntMulOk i j:=by
 rcases h with⟨h1,h2⟩|⟨h1,h2⟩
 ·exact .of_left (intBits_le_64 h1 h2)
 exact .of_right (intBits_le_64 h1 h2)
theorem p0:eW X (binaryOp .Add) (xh λi j=>.int (i+j)):=Fw λ_ _ _ _ _ _ _ q=>add_int q
theorem J6:eW X (binaryOp .Sub) (xh λi j=>.int (i - j)):=Fw λ_ _ _ _ _ _ _ q=>sub_int q
theorem rP:eW X (binaryOp .Mult) (rI Dm λi j=>.int (i * j)):=Mm λ_ _ _ _ _ _ _ hc q=>mul_int q hc.ok
theorem zO:eW X (binaryOp .FloorDiv) (rI Rj λi j=>.int (i / j)):=Mm λi j _ _ _ _ _ hc q=>by
 have h1:(0:Int)<j:=hc.1;have h2:j<1073741824:=hc.2;exact floordiv_int Z1 (by rw[Int.fdiv_eq_ediv_of_nonneg i Z1];exact q) (.inl (PyProof.noPylong_small Z1))
theorem wA:eW X (binaryOp .Mod) (rI (λ_ j=>0<j) λi j=>.int (i % j)):=Mm λi j _ _ _ _ _ hc q=>by
 have h1:(0:Int)<j:=hc;exact mod_int' Z1 (by rw[Int.fmod_eq_emod_of_nonneg i Z1];exact q)
theorem Xm{f:Aa->Sem Aa}{g:Int->Int}
  (rule:∀(i:Int) (t:Tok) (s:Ab) (Q:Aa->Ab->Prop) (E:Aa->Ab->Prop),Q (.int (g i) s.toks) { s with toks:=s.toks+1 }->wpAny (model X.prog X.w) X.A (f (.int i t)) Q E s) :
  Q8 X f (rU λi=>.int (g i)):=by
 intro pins s σ H x v Q I rx h;let#[i,rfl,q]:=h;let#[t,rfl]:=rx;exact rule i t s _ _ #[.int (g i),H,I.tok _,#[_,Z],q]
theorem NW:Q8 X (unaryOp .USub) (rU λi=>.int (-i)):=Xm λ_ _ _ _ _ q=>neg_int q
end
def E9:V->V->Bool
 |.non,.non=>true | .non,.int _=>true | .int _,.non=>true | .non,.bl _=>true | .bl _,.non=>true | .non,.str _=>true | .str _,.non=>true
 |.int _,.int _=>true | .bl _,.bl _=>true | .str _,.str _=>true | .byt _,.byt _=>true
 |.int _,.str _=>true | .str _,.int _=>true | .bl _,.str _=>true | .str _,.bl _=>true
 |_,_=>false
def Yo:R2:=λx y H Q=>E9 x y=true/\Q (.bl (decide (x=y))) H
def Yn:R2:=λx y H Q=>E9 x y=true/\Q (.bl (!decide (x=y))) H
theorem Tz{i j:Int}:decide (V.int i=V.int j)=(i == j):=by
 rw[Bool.eq_iff_iff];simp
theorem Sr{i j:Bool}:decide (V.bl i=V.bl j)=(i == j):=by
 rw[Bool.eq_iff_iff];simp
theorem SE{i j:Str}:decide (V.str i=V.str j)=(i == j):=by
 rw[Bool.eq_iff_iff];simp
theorem Tw{i j:Array UInt8}:decide (V.byt i=V.byt j)=(i.toList == j.toList):=by
 rw[Bool.eq_iff_iff];cases i;cases j;simp
section
variable{X:Cx}{a b c:Expr}{ta tb tc:TE}{pos:Pos}
theorem fG{pins:List (Addr × Obj)}{σ:St}{H:Hp}{s:Ab}{Q:VK}{k k':Bool}(I:Inv X pins σ H s)(q:Q (.bl k) H)(e:k=k'):EP X pins σ Q (.bool k') s:=by
 subst e;exact#[.bl k,H,I,Z,q]
theorem i4:eW X (compareOp .Eq) Yo:=by
 intro pins s σ H x y v u Q I rx ry h;let#[hs,q]:=h;cases x with
 |non=>
  cases rx;cases y with
  |non=>cases ry;exact PySem.EqNone.eq_none_none (fG I q Z2)
  |bl j=>cases ry;exact PySem.EqNone.eq_none_bool (fG I q Z2)
  |int j=>let#[t',rfl]:=ry;exact PySem.EqNone.eq_none_int (fG I q Z2)
  |str j=>let#[t',rfl]:=ry;exact PySem.EqNone.eq_none_str (fG I q Z2)
  |_=>exact absurd (show false=true from hs) gO
 |bl i=>
  cases rx;cases y with
  |non=>cases ry;exact PySem.EqNone.eq_bool_none (fG I q Z2)
  |bl j=>cases ry;exact eq_bool (fG I q Sr)
  |str j=>let#[t',rfl]:=ry;exact PySem.EqMixed.eq_bool_str (fG I q Z2)
  |_=>exact absurd (show false=true from hs) gO
 |int i=>
  let#[t,rfl]:=rx;cases y with
  |non=>cases ry;exact PySem.EqNone.eq_int_none (fG I q Z2)
  |int j=>let#[t',rfl]:=ry;exact eq_int (fG I q Tz)
  |str j=>let#[t',rfl]:=ry;exact PySem.EqMixed.eq_int_str (fG I q Z2)
  |_=>exact absurd (show false=true from hs) gO
 |str i=>
  let#[t,rfl]:=rx;cases y with
  |non=>cases ry;exact PySem.EqNone.eq_str_none (fG I q Z2)
  |bl j=>cases ry;exact PySem.EqMixed.eq_str_bool (fG I q Z2)
  |int j=>let#[t',rfl]:=ry;exact PySem.EqMixed.eq_str_int (fG I q Z2)
  |str j=>let#[t',rfl]:=ry;exact eq_str (fG I q SE)
  |_=>exact absurd (show false=true from hs) gO
 |byt i=>
  let#[t,rfl]:=rx;cases y with
  |byt j=>let#[t',rfl]:=ry;exact PySem.W.eq_bytes (fG I q Tw)
  |_=>exact absurd (show false=true from hs) gO
 |_=>cases y<;>exact absurd (show false=true from hs) gO
theorem zC:eW X (compareOp .NotEq) Yn:=by
 intro pins s σ H x y v u Q I rx ry h;let#[hs,q]:=h;cases x with
 |non=>
  cases rx;cases y with
  |non=>cases ry;exact PySem.EqNone.ne_none_none (fG I q Z2)
  |bl j=>cases ry;exact PySem.EqNone.ne_none_bool (fG I q Z2)
  |int j=>let#[t',rfl]:=ry;exact PySem.EqNone.ne_none_int (fG I q Z2)
  |str j=>let#[t',rfl]:=ry;exact PySem.EqNone.ne_none_str (fG I q Z2)
  |_=>exact absurd (show false=true from hs) gO
 |bl i=>
  cases rx;cases y with
  |non=>cases ry;exact PySem.EqNone.ne_bool_none (fG I q Z2)
  |bl j=>cases ry;exact ne_bool (fG I q (eA not Sr))
  |str j=>let#[t',rfl]:=ry;exact PySem.EqMixed.ne_bool_str (fG I q Z2)
  |_=>exact absurd (show false=true from hs) gO
 |int i=>
  let#[t,rfl]:=rx;cases y with
  |non=>cases ry;exact PySem.EqNone.ne_int_none (fG I q Z2)
  |int j=>let#[t',rfl]:=ry;exact ne_int (fG I q (eA not Tz))
  |str j=>let#[t',rfl]:=ry;exact PySem.EqMixed.ne_int_str (fG I q Z2)
  |_=>exact absurd (show false=true from hs) gO
 |str i=>
  let#[t,rfl]:=rx;cases y with
  |non=>cases ry;exact PySem.EqNone.ne_str_none (fG I q Z2)
  |bl j=>cases ry;exact PySem.EqMixed.ne_str_bool (fG I q Z2)
  |int j=>let#[t',rfl]:=ry;exact PySem.EqMixed.ne_str_int (fG I q Z2)
  |str j=>let#[t',rfl]:=ry;exact ne_str (fG I q (eA not SE))
  |_=>exact absurd (show false=true from hs) gO
 |byt i=>
  let#[t,rfl]:=rx;cases y with
  |byt j=>let#[t',rfl]:=ry;exact PySem.W.ne_bytes (fG I q (eA not Tw))
  |_=>exact absurd (show false=true from hs) gO
 |_=>cases y<;>exact absurd (show false=true from hs) gO
theorem Zt:eW X (compareOp .Lt) (xh λi j=>.bl (decide (i<j))):=xm λ_ _ _ _ _ _ _ q=>lt_int q
theorem xZ:eW X (compareOp .LtE) (xh λi j=>.bl (decide (i<=j))):=xm λ_ _ _ _ _ _ _ q=>le_int q
theorem DS:eW X (compareOp .Gt) (xh λi j=>.bl (decide (j<i))):=xm λ_ _ _ _ _ _ _ q=>gt_int q
theorem Z9:eW X (compareOp .GtE) (xh λi j=>.bl (decide (j<=i))):=xm λ_ _ _ _ _ _ _ q=>ge_int q
inductive VG (x:V) (y:V) (H:Hp) (Q:VK):Prop
 |mk:∀i j,x=.str i->y=.str j->Q (.bl (decide (i.cps.toList<j.cps.toList))) H->VG x y H Q
theorem hA_:eW X (compareOp .Lt) VG:=by
 intro pins s σ H x y v u Q I rx ry h;let#[i,j,rfl,rfl,q]:=h;let#[t,rfl]:=rx;let#[t',rfl]:=ry;exact lt_str (fG I q rfl)
theorem uv(b:Expr){op:CmpOp}(h:op≠.In:=by decide)(h2:op≠.NotIn:=by decide):behindInMarks op b=false:=by
 have e1:(op == CmpOp.In)=false:=by cases op<;>first|rfl|exact absurd rfl h
 have e2:(op == CmpOp.NotIn)=false:=by cases op<;>first|rfl|exact absurd rfl h2
 cases b<;>simp[behindInMarks,e1,e2]
theorem qP{op:CmpOp}{r:R2}(ho:eW X (compareOp op) r)(ha:PE X a ta)(hb:PE X b tb)(hm:behindInMarks op b=false:=by exact uv _):PE X (.Compare a [op] [b] pos) (EO r ta tb):=by
 intro pins s σ H Q I h;exact wpAny_Compare1 (CV ha hb I h λv u s2 x y H2 I2 rx ry q=>ho pins s2 σ H2 x y v u Q I2 rx ry q) hm
inductive sA (Q:Bool->Hp->Prop) (x:V) (H':Hp):Prop
 |mk:∀k,x=.bl k->Q k H'->sA Q x H'
def yw(t:TE):TT:=λσ H Q=>t σ H λx H'=>sA Q x H'
theorem di{op:CmpOp}{r:R2}(ho:eW X (compareOp op) r)(ha:PE X a ta)(hb:PE X b tb)(hm:behindInMarks op b=false:=by exact uv _):PT X (.Compare a [op] [b] pos) (yw (EO r ta tb)):=by
 intro pins s σ H Q I h
 apply wpAny_isTrue_Compare1 (aQ (ha pins s σ H _ I h) λv s1 ⟨x,H1,I1,r1,q1⟩=>aQ (hb pins s1 σ H1 _ I1 q1) λu s2 ⟨y,H2,I2,r2,q2⟩=>
  aQ (ho pins s2 σ H2 x y v u _ I2 r1 r2 q2) λc s3 ⟨z,H3,I3,r3,k,e,q3⟩=>?_) hm
 subst e;cases r3;exact rO #[H3,I3,q3]
inductive oV (r':R2) (tc:TE) (σ:St) (Q:VK) (y:V) (z:V) (H3:Hp):Prop
 |mk:∀k,z=.bl k->(if k=true then tc σ H3 λw' H4=>r' y w' H4 Q else Q (.bl false) H3)->oV r' tc σ Q y z H3
def sL(r r':R2)(ta tb tc:TE):TE:=λσ H Q=>ta σ H λx H1=>tb σ H1 λy H2=>r x y H2 λz H3=>oV r' tc σ Q y z H3
theorem Uh{op Bd:CmpOp}{r r':R2}(ho:eW X (compareOp op) r)(h_:eW X (compareOp Bd) r')(ha:PE X a ta)(hb:PE X b tb)(hc:PE X c tc)
  (hm:lastMarks [op,Bd] [b,c]=false:=by with_unfolding_all rfl):PE X (.Compare a [op,Bd] [b,c] pos) (sL r r' ta tb tc):=by
 intro pins s σ H Q I h
 apply Compare_chain (aQ (ha pins s σ H _ I h) λv s1 ⟨x,H1,I1,r1,q1⟩=>chain_link (aQ (hb pins s1 σ H1 _ I1 q1) λu s2 ⟨y,H2,I2,r2,q2⟩=>
  aQ (ho pins s2 σ H2 x y v u _ I2 r1 r2 q2) λd s3 ⟨z,H3,I3,r3,k,e,q3⟩=>?_)) hm
 subst e;cases r3;apply rO ?_;cases k with
 |false=>exact ite_ff #[.bl false,H3,I3,Z,q3]
 |true=>exact ite_tt (chain_last (aQ (hc pins s3 σ H3 _ I3 q3) λw' s4 ⟨z',H4,I4,r4,q4⟩=>h_ pins s4 σ H4 y z' u w' Q I4 r2 r4 q4))
theorem UA{op Bd:CmpOp}{r r':R2}(ho:eW X (compareOp op) r)(h_:eW X (compareOp Bd) r')(ha:PE X a ta)(hb:PE X b tb)(hc:PE X c tc)
  (hm:lastMarks [op,Bd] [b,c]=false:=by with_unfolding_all rfl):PT X (.Compare a [op,Bd] [b,c] pos) (yw (sL r r' ta tb tc)):=by
 intro pins s σ H Q I h
 apply isTrue_chain (aQ (ha pins s σ H _ I h) λv s1 ⟨x,H1,I1,r1,q1⟩=>test_link (aQ (hb pins s1 σ H1 _ I1 q1) λu s2 ⟨y,H2,I2,r2,q2⟩=>
  aQ (ho pins s2 σ H2 x y v u _ I2 r1 r2 q2) λd s3 ⟨z,H3,I3,r3,k,e,q3⟩=>?_)) hm
 subst e;cases r3;apply rO ?_;cases k with
 |false=>
  let#[k',e',q']:=q3;cases e';exact ite_ff #[H3,I3,q']
 |true=>
  apply ite_tt (test_last (aQ (hc pins s3 σ H3 _ I3 q3) λw' s4 ⟨z',H4,I4,r4,q4⟩=>aQ (h_ pins s4 σ H4 y z' u w' _ I4 r2 r4 q4) λd' s5 ⟨z2,H5,I5,r5,k2,e2,q5⟩=>?_));subst e2;cases r5;exact rO #[H5,I5,q5]
theorem iz:(sizeLine:Nat)<2 ^ 63:=by rw[cm];decide
inductive V2 (x:V) (y:V) (H:Hp) (Q:VK):Prop
 |mk:∀i j,x=.str i->y=.str j->i.length+j.length<=sizeLine->Q (.str (i++j)) H->V2 x y H Q
theorem Ii:eW X (binaryOp .Add) V2:=by
 intro pins s σ H x y v u Q I rx ry h;let#[i,j,rfl,rfl,hz,q]:=h;let#[t,rfl]:=rx;let#[t',rfl]:=ry;exact add_str (λt' tk=>⟨.str (i++j),H,I.tok _,⟨_,rfl⟩,q⟩) hz
theorem vals1{x:V}{us:ak}(r:Vals [x] us):∃u,us=[u]/\RelV x u:=by
 cases r with
 |cons r1 r2=>cases r2;exact#[_,Z,r1]
theorem vals2{x y:V}{us:ak}(r:Vals [x,y] us):∃u w',us=[u,w']/\RelV x u/\RelV y w':=by
 cases r with
 |cons r1 r2=>
  cases r2 with
  |cons r3 r4=>cases r4;exact#[_,_,Z,r1,r3]
inductive VI (xs:aj) (H:Hp) (Q:VK):Prop
 |mk:∀i j,xs=[.int i,.int j]->Q (.int (if j > i then j else i)) H->VI xs H Q
theorem in_(hc:X.calm=true):fW X (.builtin "max") VI:=by
 intro pins s σ H xs us Q I r h;let#[i,j,rfl,q]:=h;let#[u,w',rfl,#[t,rfl],#[t',rfl]]:=vals2 r;apply max_two_ints (I.ok.hd hc) λh' tk k=>#[_,H,I.kept k,?_,q];by_cases hj:j > i
 ·rw[aJ hj,aJ hj];exact#[_,Z]
 rw[aC hj,aC hj];exact#[_,Z]
inductive Wg (xs:aj) (H:Hp) (Q:VK):Prop
 |mk:∀i j,xs=[.int i,.int j]->Q (.int (if j<i then j else i)) H->Wg xs H Q
theorem hw_(hc:X.calm=true):fW X (.builtin "min") Wg:=by
 intro pins s σ H xs us Q I r h;let#[i,j,rfl,q]:=h;let#[u,w',rfl,#[t,rfl],#[t',rfl]]:=vals2 r;apply min_two_ints (I.ok.hd hc) λh' tk k=>#[_,H,I.kept k,?_,q];by_cases hj:j<i
 ·rw[aJ hj,aJ hj];exact#[_,Z]
 rw[aC hj,aC hj];exact#[_,Z]
theorem Qj:fW X (.type "int") (λxs H Q=>(∃i,xs=[.int i]/\Q (.int i) H)∨∃k,xs=[.bl k]/\Q (.int (if k then 1 else 0)) H):=by
 intro pins s σ H xs us Q I r h;rcases h with⟨i,rfl,q⟩|⟨k,rfl,q⟩
 ·let#[u,rfl,t,rfl]:=vals1 r;exact call_int_int #[.int i,H,I,#[_,Z],q]
 let#[u,rfl,r1]:=vals1 r;cases r1;exact call_int_bool #[.int (if k then 1 else 0),H,I.tok _,#[_,Z],q]
end
end L2
namespace L2
open PySem PySem.Spec PyProof.Rows
structure oJ (h:Heap) (x dx C:Addr) (mA:Str->Option Aa):Prop where
 obj:h.get? x\PySem.W.instObj C dx
 ns:h.Ns1 dx mA
 ne:dx≠x
theorem hR_{h:Heap}{dx:Addr}{mA:Str->Option Aa}(n:h.Ns1 dx mA):∃od,h.get? dx\od/\∀name,PySem.W.lookIn name od\mA name:=by
 let#[o,es,ep,ho,hd,hk,_,hm]:=n;apply#[o,ho,λname=>?_];let e:=hm name;unfold nsFind findBy at e;rw[<- Array.find?_toList] at e;unfold PySem.W.lookIn;rw[hd];dsimp only;split
 ·rename_i y q
  rw[q] at e;exact eA some e
 rename_i q
 rw[q] at e
 have a:es.toList.any (·.refKey)=false:=by
  rw[List.any_eq_false];intro y hy;let#[z,t,NM]:=hk y (Array.mem_toList_iff.mp hy);simp[DictEntry.refKey,NM]
 have a':¬es.toList.any (·.refKey)=true:=by rw[a];exact gO
 rw[aC a'];exact eA some e
theorem oJ.look{h:Heap}{x dx C:Addr}{mA:Str->Option Aa}(I:oJ h x dx C mA):∃od,PySem.W.InstAt h x (PySem.W.instObj C dx) C (some od)/\∀name,PySem.W.lookIn name od\mA name:=
 let #[od,ho,hl]:=hR_ I.ns
 #[od,#[I.obj,Z,Z,ho],hl]
section
variable{prog:Ad}{w:Af}{A:Ag}{E:Aa->Ab->Prop}{s:Ab}{K:af}{x dx C f:Addr}{mA:Str->Option Aa}{name:Str}{v:Aa}
theorem _W{expr:Bool}{Q:Aa->Ab->Prop}(X:K.In s.heap)(I:oJ s.heap x dx C mA)(hg:PySem.W.plainGet K C name=true)(hh:PySem.W.hasDictIn K C=true)
  (ha:PySem.W.findIn K (.ref C) name\none) (hv:mA name\v) (hv':PySem.W.handedIn v=true) (h:Q v { s with toks:=s.toks+1 }) :
  wpAny (model prog w) A (getAttr (.ref x) name expr) Q E s:=by
 let#[od,J,hl]:=I.look;exact PySem.W.get_value X J (PySem.W.plainGet_of hg).1 (PySem.W.findObj_own hh ha Z (by rw[hl,hv])) hv' h
theorem iN_{pl:Sem Bool}{Q:Aa × ak->Ab->Prop}(X:K.In s.heap)(I:oJ s.heap x dx C mA)(hg:PySem.W.plainGet K C name=true)
  (hf:PySem.W.findIn K (.ref C) name\some (.ref f)) (ht:PySem.W.isFn K (.ref f)=true) (hv:mA name=none) (h:Q (.ref f,[.ref x]) s) :
  wpAny (model prog w) A (getMethod (.ref x) name pl) Q E s:=by
 let#[od,J,hl]:=I.look;exact PySem.W.method_fn X J (PySem.W.plainGet_of hg).1 (PySem.W.plainGet_of hg).2 hf (beq_iff_eq.mp ht) (by show (PySem.W.lookIn name od).map (·.isSome)=some false;rw[hl,hv];rfl) h
theorem kE_{ns:ae}{Q:Unit->Ab->Prop}(X:K.In s.heap)(I:oJ s.heap x dx C mA)
  (hs:PySem.W.findIn K (.ref C) "__setattr__"\some (.builtin "object.__setattr__")) (hp:PySem.W.plainOver K C=true) (ht:PySem.W.takerIn K C name\none) (hh:PySem.W.hasDictIn K C=true)
  (hw:PySem.Within mA ns) (hsz:ns.length<=sizeLine)
  (h:∀h',oJ h' x dx C (λy=>if y=name then some v else mA y)->Heap.SameBut dx s.heap h'->Q () { s with heap:=h',toks:=s.toks+2 }) :
  wpAny (model prog w) A (setAttr (.ref x) name v) Q E s:=by
 let#[od,J,hl]:=I.look;apply PySem.W.set_plain X J hs (PySem.W.osa_open (s:={ s with toks:=s.toks+1 }) (r:=none) X J hp ht λb=>?_);let#[cd,hc,ia]:=PySem.W.any_some hh;have hx:s.heap.get? x=some #[.ref C,some dx,.plain,#[]]:=I.obj;apply ao (aP (ao (ao (wpAny_loadPart hx (ao (PySem.W.Looks.here (s:={ s with toks:=s.toks+1 }) (PySem.W.looks_clsIn X hc) ?_))))));rw[ia];apply aP (a:=some dx) (ao (aP (ao ?_)));apply wpAny_nsSet1 (s:={ s with toks:=s.toks+1 }) I.ns λh' JF BD=>?_;let#[oD,esD,epD,hoD,hdD,xK]:=JF.count (PySem.Within.cons name v hw);apply ao (wpAny_lookBehind hoD (by rw[hdD];exact pastItsLine_dict (oG xK (by rw[j3];omega))) ?_);exact aP (h _ #[(BD.2 _ (Ne.symm I.ne)).trans I.obj,JF,I.ne] BD)
theorem jh_{R:Result->Ab->Prop}{vs:ak}{kw:List (Str × Aa)}(X:K.In s.heap)(hm:PySem.W.makesIn K C=true)
  (hi:PySem.W.findIn K (.ref C) "__init__"\some (.ref f)) (hf:PySem.W.typeIn K (.ref f)\.type "function")
  (h:codeAny (model prog w) (A.under (.builtin "type.__call__" #[.ref C::vs,kw])) (.call (.ref f) #[.ref (s.heap.objs.size+1)::vs,kw]) (PySem.W.InitBack (s.heap.objs.size+1) R)
   { s with heap:=(s.heap.push PySem.W.emptyDict).push (PySem.W.instObj C s.heap.objs.size) }) :
  codeAny (model prog w) A (.call (.ref C) #[vs,kw]) R s:=by
 let#[hh,g,d,t,os]:=s;exact PySem.W.make_core (PySem.W.makes_of X hm) (PySem.W.looks_findIn X hi) (λself=>PySem.W.bind_fn X self hf) (.inl Z) h
end
def aA(f:Str)(v:V):List (Str × V)->List (Str × V)
 |[]=>[(f,v)]
 |(g,x)::r=>if g=f then (g,v)::r else (g,x)::aA f v r
theorem e_(f g:Str)(v:V):∀fs:List (Str × V),(aA f v fs).lookup g=if g=f then some v else fs.lookup g
 |[]=>by
  show List.lookup g [(f,v)]=_;by_cases h:g=f
  ·have hb:(g == f)=true:=beq_iff_eq.mpr h;simp only[List.lookup,hb,aJ h]
  ·have hb:(g == f)=false:=beq_eq_false_iff_ne.mpr h;simp only[List.lookup,hb,aC h]
 |(k,x)::r=>by
  let ih:=e_ f g v r;rw[show aA f v ((k,x)::r)=(if k=f then (k,v)::r else (k,x)::aA f v r) from Z];by_cases hk:k=f
  ·rw[aJ hk];by_cases h:g=k
   ·have hb:(g == k)=true:=beq_iff_eq.mpr h;simp only[List.lookup,hb,aJ (h.trans hk)]
   have hb:(g == k)=false:=beq_eq_false_iff_ne.mpr h;simp only[List.lookup,hb,aC (λe:g=f=>h (e.trans hk.symm))]
  rw[aC hk];by_cases h:g=k
  ·have hb:(g == k)=true:=beq_iff_eq.mpr h;simp only[List.lookup,hb,aC (λe:g=f=>hk (h.symm.trans e))]
  have hb:(g == k)=false:=beq_eq_false_iff_ne.mpr h;simp only[List.lookup,hb];exact ih
theorem PJ(f:Str)(v:V):∀fs:List (Str × V),f∈(aA f v fs).map (·.1)/\∀g,g∈fs.map (·.1)->g∈(aA f v fs).map (·.1)
 |[]=>#[by simp[aA],λg h=>by simp at h]
 |(k,x)::r=>by
  let#[i1,i2]:=PJ f v r;rw[show aA f v ((k,x)::r)=(if k=f then (k,v)::r else (k,x)::aA f v r) from Z];by_cases hk:k=f
  ·rw[aJ hk];subst hk;exact#[by simp,λg h=>by simpa using h]
  rw[aC hk];apply#[?_,λg h=>?_]
  ·rw[eV];exact dZ _ i1
  rw[eV] at h ⊢;rcases bW.mp h with e|e
  ·exact bW.mpr (.inl e)
  exact dZ _ (i2 g e)
theorem VW(f:Str)(v:V):∀fs:List (Str × V),(aA f v fs).length<=fs.length+1
 |[]=>by simp[aA]
 |(k,x)::r=>by
  let ih:=VW f v r;rw[show aA f v ((k,x)::r)=(if k=f then (k,v)::r else (k,x)::aA f v r) from Z];by_cases hk:k=f
  ·rw[aJ hk,j3,j3];omega
  rw[aC hk,j3,j3];omega
theorem eF.some_of{v:V}{o:Option Aa}(r:eF (some v) o):∃u,o\u/\RelV v u:=by
 cases o with
 |none=>exact (show False from r).elim
 |some u=>exact#[u,Z,r]
theorem eF.none_of{o:Option Aa}(r:eF none o):o=none:=by
 cases o with
 |none=>rfl
 |some u=>exact (show False from r).elim
theorem i2_{v:V}{u:Aa}(r:RelV v u):PySem.W.handedIn u=true:=by
 cases v with
 |non=>cases (show u=Value.none from r);rfl
 |bl b=>cases (show u=Value.bool b from r);rfl
 |int i=>let#[t,e]:=(show ∃t,u=Value.int i t from r);cases e;rfl
 |str x=>let#[t,e]:=(show ∃t,u=Value.str x t from r);cases e;rfl
 |byt b=>let#[t,e]:=(show ∃t,u=Value.bytes b t from r);cases e;rfl
 |flt b=>let#[t,e]:=(show ∃t,u=Value.float b t from r);cases e;rfl
 |ref a=>cases (show u=Value.ref a from r);rfl
 |ty n=>cases (show u=Value.type n from r);rfl
section
variable{P:Ad}{w:Af}{H H':Hp}{h h':Heap}{a C dx:Addr}{fs fs':List (Str × V)}
theorem Ku(au:cO P w H h)(e:H a\.ins C dx fs):∃mA,oJ h a dx C mA/\(∀f,eF (fs.lookup f) (mA f))/\PySem.Within mA (fs.map (·.1))/\fs.length<=1000/\H dx\.own a:=by
 let#[d,z,ne,ob,mA,n,r,q]:=(show d9 P w H h a (.ins C dx fs) from au a _ e);exact#[mA,#[ob,n,ne],r,q,z,d]
end
structure oN (K:af) (C:Addr):Prop where
 pg:PySem.W.plainGet K C Str.empty=true
 hd:PySem.W.hasDictIn K C=true
 po:PySem.W.plainOver K C=true
 sa:PySem.W.findIn K (.ref C) "__setattr__"\some (.builtin "object.__setattr__")
theorem oN.get{K:af}{C:Addr}(c:oN K C)(f:Str):PySem.W.plainGet K C f=true:=c.pg
def l_(K:af)(C:Addr)(f:Str):Prop:=PySem.W.findIn K (.ref C) f=some none
theorem l_.EL{K:af}{C:Addr}{f:Str}(n:l_ K C f):PySem.W.takerIn K C f\none:=by
 unfold PySem.W.takerIn;rw[show PySem.W.findIn K (.ref C) f\none from n];rfl
structure Con (K:af) (C:Addr) (f:Str) (v:V) (u:Aa):Prop where
 at_:PySem.W.findIn K (.ref C) f\some u
 rel:RelV v u
 get:PySem.W.specialIn K u "__get__"\none
 cp:PySem.W.copiedNames.contains f=false
structure Meth (K:af) (C:Addr) (m:Str) (f:Addr):Prop where
 at_:PySem.W.findIn K (.ref C) m\some (.ref f)
 fn:PySem.W.isFn K (.ref f)=true
 kp:PySem.W.keepIn K (.ref f)=true
section
variable{X:Cx}{pins:List (Addr × Obj)}{σ:St}{H:Hp}{s:Ab}{a C dx:Addr}{fs:List (Str × V)}{f:Str}{v:V}{A:Ag}{E:Aa->Ab->Prop}
theorem g9_{b:Bool}{Q:Aa->Ab->Prop}(I:Inv X pins σ H s)(e:H a\.ins C dx fs)(c:oN X.K C)(n:l_ X.K C f)(l:fs.lookup f\v)
  (h:∀u s',Inv X pins σ H s'->RelV v u->Q u s'):wpAny (model X.prog X.w) A (getAttr (.ref a) f b) Q E s:=by
 let#[mA,O,r,_,_,_]:=Ku I.au e;let#[u,hu,ru]:=eF.some_of (v:=v) (o:=mA f) (by rw[<- l];exact r f);exact _W I.fj O (c.get f) c.hd n hu (i2_ ru) (h u _ (I.tok _) ru)
theorem VC{m:Str}{g:Addr}{pl:Sem Bool}{Q:Aa × ak->Ab->Prop}(I:Inv X pins σ H s)(e:H a\.ins C dx fs)(c:oN X.K C)(k:Meth X.K C m g)(l:fs.lookup m=none)
  (h:Q (.ref g,[.ref a]) s):wpAny (model X.prog X.w) A (getMethod (.ref a) m pl) Q E s:=by
 let#[mA,O,r,_,_,_]:=Ku I.au e;have hn:mA m=none:=eF.none_of (by rw[<- l];exact r m);exact iN_ I.fj O (c.get m) k.at_ k.fn hn h
theorem g0_{y:V}{u:Aa}{Q:Unit->Ab->Prop}(I:Inv X pins σ H s)(e:H a\.ins C dx fs)(c:oN X.K C)(n:l_ X.K C f)(hl:fs.length<1000)(ry:RelV y u)
  (h:∀s',Inv X pins σ (upd H a (.ins C dx (aA f y fs))) s'->Q () s'):wpAny (model X.prog X.w) A (setAttr (.ref a) f u) Q E s:=by
 let#[mA,O,r,wi,_,ho]:=Ku I.au e;have hz:(fs.map (·.1)).length<=sizeLine:=by rw[aB,cm];omega
 apply kE_ I.fj O c.sa c.po n.EL c.hd wi hz λh' O' sb=>h _ ?_;have hd:∃o,h'.get? dx\o:=let #[o,_,_,e',_]:=O'.ns;#[o,e'];apply I.write (x:=a) (e:=dx) (by rw[e];exact True.intro) (.inr ho) (λb q hb z=>(sb.2 b hb).trans z) hd ?_;apply#[by rw[aF O.ne];exact ho,?_,O.ne,O'.obj,_,O'.ns,λg=>?_,λg hg=>?_]
 ·have:=VW f y fs;omega
 ·show eF ((aA f y fs).lookup g) (if g=f then some u else mA g);rw[e_];by_cases q:g=f
  ·rw[aJ q,aJ q];exact ry
  rw[aC q,aC q];exact r g
 by_cases q:g=f
 ·rw[q];exact (PJ f y fs).1
 apply (PJ f y fs).2 g (wi g λz=>hg ?_);show (if g=f then some u else mA g)=none;rw[aC q];exact z
theorem Inv.made(I:Inv X pins σ H s):Inv X pins σ (upd (upd H s.heap.objs.size (.own (s.heap.objs.size+1))) (s.heap.objs.size+1) (.ins C s.heap.objs.size []))
  { s with heap:=(s.heap.push PySem.W.emptyDict).push (PySem.W.instObj C s.heap.objs.size) }:=by
 have e1:(s.heap.push PySem.W.emptyDict).get? s.heap.objs.size\PySem.W.emptyDict:=dU s.heap Z
 have e2:((s.heap.push PySem.W.emptyDict).push (PySem.W.instObj C s.heap.objs.size)).get? (s.heap.objs.size+1)\PySem.W.instObj C s.heap.objs.size:=by
  have:=dU (s.heap.push PySem.W.emptyDict) (o:=PySem.W.instObj C s.heap.objs.size) Z;rwa [Heap.size_push] at this
 have e3:(s.heap.push PySem.W.emptyDict).Ns s.heap.objs.size (λ_=>none):=#[PySem.W.emptyDict,#[],_,e1,Z,(λe he=>absurd he Z2),λ_=>rfl];let I1:=I.laid (a:=s.heap.objs.size) (o:=.own (s.heap.objs.size+1)) (h':=s.heap.push PySem.W.emptyDict) (t':=s.toks) (λb u q=>bQ _ q) (bj _) #[_,e1];apply I1.laid (a:=s.heap.objs.size+1) (o:=.ins C s.heap.objs.size []) (t':=s.toks) (λb u q=>bQ _ q) (Nat.le_of_eq (Heap.size_push _ _)) ?_;have ne:s.heap.objs.size≠s.heap.objs.size+1:=dB (Nat.lt_succ_self _);apply#[by rw[aF ne,az],hG _,ne,e2,λ_=>none,(Heap.Ns1.of_empty e3).at λo q=>bQ _ q,λ_=>True.intro,λy hy=>absurd Z hy]
theorem kX_{prog:Ad}{w:Af}{env:Env}{e:Expr}{f:Str}{pos:Pos}{s:Ab}{Q:Aa->Ab->Prop}(hb:attributeBase e f env (eval e env)=eval e env)
  (h:wpAny (model prog w) A (eval e env) (λo aY=>wpAny (model prog w) A (getAttr o f true) Q E aY) E s):wpAny (model prog w) A (eval (.Attribute e f pos) env) Q E s:=
 Attribute_any_ h (by rw[arm_eval_Attribute,hb])
end
inductive yC (K:af) (f:Str) (Q:VK) (x:V) (H1:Hp):Prop
 |mk:∀a C dx fs v,x=.ref a->H1 a\.ins C dx fs->oN K C->l_ K C f->fs.lookup f\v->Q v H1->yC K f Q x H1
def LN(K:af)(ta:TE)(f:Str):TE:=λσ H Q=>ta σ H λx H1=>yC K f Q x H1
inductive yO (K:af) (f:Str) (D:Ends) (σ:St) (y:V) (x:V) (H2:Hp):Prop
 |mk:∀a C dx fs,x=.ref a->H2 a\.ins C dx fs->oN K C->l_ K C f->fs.length<1000->D.nx σ (upd H2 a (.ins C dx (aA f y fs)))->yO K f D σ y x H2
def Ma(K:af)(ta tv:TE)(f:Str):TS:=λD σ H=>tv σ H λy H1=>ta σ H1 λx H2=>yO K f D σ y x H2
section
variable{X:Cx}{o e value:Expr}{f:Str}{pos pos' EI:Pos}{ta tv:TE}
theorem cZ(he:PE X e ta)(hb:attributeBase e f X.env (eval e X.env)=eval e X.env):PE X (.Attribute e f pos) (LN X.K ta f):=by
 intro pins s σ H Q I h;apply kX_ hb (aQ (he pins s σ H _ I h) λu s1 ⟨x,H1,I1,rx,a,C,dx,fs,v,ex,ea,c,n,l,q⟩=>?_);subst ex;obtain rfl:u=Value.ref a:=rx;exact g9_ I1 ea c n l λu' s2 I2 ru=>#[v,H1,I2,ru,q]
theorem wz(ha:PE X o ta)(hv:PE X value tv)(hs:swapsWith value (some (.Attribute o f pos')) pos.line X.env=pure false):PS X (.Assign [.Attribute o f pos'] value pos) (Ma X.K ta tv f):=by
 intro pins s σ H D I h;apply plainObj_wpAny_Assign_Attribute (aQ (hv pins s σ H _ I h) λu s1 ⟨y,H1,I1,ry,q⟩=>aQ (ha pins s1 σ H1 _ I1 q) λov s2 ⟨x,H2,I2,rx,a,C,dx,fs,ex,ea,c,n,l,q2⟩=>?_) hs;subst ex;obtain rfl:ov=Value.ref a:=rx;exact g0_ I2 ea c n l ry λs3 I3=>#[σ,_,I3,q2]
end
section
variable{X:Cx}{pins:List (Addr × Obj)}{σ:St}{H:Hp}{s:Ab}{A:Ag}{E:Aa->Ab->Prop}{Q:Aa->Ab->Prop}{c:Aa}{b:Bool}
inductive bp (K:af) (H:Hp):V->Aa->Prop where
 |non:bp K H .non (.type "NoneType")
 |bl (x:Bool):bp K H (.bl x) (.type "bool")
 |int (i:Int):bp K H (.int i) (.type "int")
 |str (x:Str):bp K H (.str x) (.type "str")
 |flt (x:UInt64):bp K H (.flt x) (.type "float")
 |lst {a:Addr} {xs:aj} (e:H a\.lst xs):bp K H (.ref a) (.type "list")
 |frz {a:Addr} {o:Obj} {xs:aj} (e:H a\.frz o (.lst xs)):bp K H (.ref a) (.type "list")
 |tup {a:Addr} {xs:aj} (e:H a\.tup xs):bp K H (.ref a) (.type "tuple")
 |dK {a:Addr} {kvs:List (Key × V)} (e:H a\.dK kvs):bp K H (.ref a) (.type "dict")
 |dT {a:Addr} {kvs:List (ax × V)} (e:H a\.dT kvs):bp K H (.ref a) (.type "dict")
 |ins {a C dx:Addr} {fs:List (Str × V)} (e:H a\.ins C dx fs) (cl:oN K C) (ha:PySem.W.findIn K (.ref C) "__class__"\some (.builtin "object.__class__"))
   (hn:PySem.W.specialIn K (.builtin "object.__class__") "__get__"\some (.builtin "getset_descriptor.__get__")) (Jz:PySem.W.takesIn K (.builtin "object.__class__")\true)
   (hm:PySem.W.mroIn K C (.type "object")\true):bp K H (.ref a) (.ref C)
theorem US{x:V}{u t:Aa}(I:Inv X pins σ H s)(rx:RelV x u)(ty:bp X.K H x t)(e:PySem.W.kitOne X.K t c\b)(h:∀tk,Q (.bool b) { s with toks:=tk }) :
  wpAny (model X.prog X.w) A (call (.builtin "isinstance") [u,c]) Q E s:=by
 cases ty with
 |non=>cases (show u=Value.none from rx);exact qL PySem.W.kitx_none I.fj True.intro e nofun h
 |bl y=>cases (show u=Value.bool y from rx);exact qL PySem.W.kitx_bool I.fj True.intro e nofun h
 |int i=>let#[t,q]:=(show ∃t,u=Value.int i t from rx);cases q;exact qL PySem.W.kitx_int I.fj True.intro e nofun h
 |str y=>let#[t,q]:=(show ∃t,u=Value.str y t from rx);cases q;exact qL PySem.W.kitx_str I.fj True.intro e nofun h
 |flt y=>let#[t,q]:=(show ∃t,u=Value.float y t from rx);cases q;exact qL PySem.W.kitx_float I.fj True.intro e nofun h
 |@lst a xs ea=>
  cases (show u=Value.ref a from rx);let#[_,_,n,_,h1]:=(show d9 X.prog X.w H s.heap a (.lst xs) from I.au a _ ea);exact qL PySem.W.kitx_list I.fj #[_,h1,Z] e nofun h
 |@frz a ob xs ea=>
  cases (show u=Value.ref a from rx);let#[_,_,_,n,_,h1]:=(show d9 X.prog X.w H s.heap a (.frz ob (.lst xs)) from I.au a _ ea);exact qL PySem.W.kitx_list I.fj #[_,h1,Z] e nofun h
 |@tup a xs ea=>
  cases (show u=Value.ref a from rx);let#[_,_,_,p,_]:=(show d9 X.prog X.w H s.heap a (.tup xs) from I.au a _ ea);let#[o,h1,h2,_]:=p;exact qL PySem.W.kitx_tuple I.fj #[o,h1,h2] e nofun h
 |@dK a kvs ea=>
  cases (show u=Value.ref a from rx);let#[_,_,vs,_,p]:=(show d9 X.prog X.w H s.heap a (.dK kvs) from I.au a _ ea);let#[o,es,ep,h1,h2,_]:=p;exact qL PySem.W.kitx_dict I.fj #[o,h1,h2.1] e nofun h
 |@dT a kvs ea=>
  cases (show u=Value.ref a from rx);let#[_,_,xs,_,o,es,ep,h1,h2,_]:=(show d9 X.prog X.w H s.heap a (.dT kvs) from I.au a _ ea);exact qL PySem.W.kitx_dict I.fj #[o,h1,h2.1] e nofun h
 |@ins a C dx fs ea cl ha hn Jz hm=>
  cases (show u=Value.ref a from rx);let#[mA,O,_]:=Ku I.au ea;let#[od,J,_]:=O.look;exact qL (PySem.W.kitx_own (cl.get _) cl.hd ha hn Jz hm) I.fj J e nofun h
end
end L2
namespace L2
open PySem PySem.Spec PyProof.Rows
structure aK (k:Nat) (A:Ag):Prop where
 hd:A.handled=none
 dp:A.depth+3 * k+5<recursionLimit
 un:A.units+16 * k+200<cLine
theorem aK.mono{j k:Nat}{A:Ag}(r:aK k A)(h:j<=k):aK j A:=#[r.hd,by have:=r.dp;omega,by have:=r.un;omega]
theorem aK.deeper{k:Nat}{A:Ag}(r:aK (k+1) A)(env:Env):aK k (A.deeper env):=
 #[r.hd,by have:=r.dp;show A.depth+1+3 * k+5<_;omega,by have:=r.un;show A.units+3+16 * k+200<_;omega]
theorem aK.in1{k:Nat}{A:Ag}(r:aK (k+1) A):aK k A.in1:=
 #[r.hd,by have:=r.dp;show A.depth+3 * k+5<_;omega,by have:=r.un;show A.units+1+16 * k+200<_;omega]
theorem fX_{A:Ag}{C:Addr}{us:ak}{kw:List (Str × Aa)}:(A.under (.builtin "type.__call__" #[.ref C::us,kw])).depth=A.depth+1:=by
 first|rfl|simp[Around.under,Code.weight,Code.isCreation,Code.isGuard,Code.isCaller,Code.frames,Code.isFrame,guardIds]
theorem gi_{A:Ag}{C:Addr}{us:ak}{kw:List (Str × Aa)}:(A.under (.builtin "type.__call__" #[.ref C::us,kw])).units=A.units+1:=by
 first|rfl|simp[Around.under,Code.cUnits,Code.frames,Code.isFrame]
theorem aK.make{k:Nat}{A:Ag}(r:aK (k+1) A)(C:Addr)(us:ak)(kw:List (Str × Aa)):aK k (A.under (.builtin "type.__call__" #[.ref C::us,kw])):=
 #[r.hd,by have:=r.dp;rw[fX_];omega,by have:=r.un;rw[gi_];omega]
theorem aK.depth{k:Nat}{A:Ag}(r:aK k A):A.depth<recursionLimit:=by have:=r.dp;omega
theorem aK.units{k:Nat}{A:Ag}(r:aK k A):A.units+64<cLine:=by have:=r.un;omega
def dJ:TA:=λ_ H Q=>Q [] H
def gy(ta:TE)(tr:TA):TA:=λσ H Q=>ta σ H λx H1=>tr σ H1 λxs H2=>Q (x::xs) H2
section
variable{X:Cx}{e:Expr}{es:List Expr}{te:TE}{t:TA}{pos:Pos}
theorem bo:PA X [] dJ:=λ_ _ _ _ H Q I h=>Calls.spliced_nil #[[],H,I,.nil,h]
theorem hZ(ha:PE X e te)(hr:PA X es t)(hs:starEach (e::es) X.env=(false,eval e X.env)::starEach es X.env:=by rfl):PA X (e::es) (gy te t):=by
 intro pos pins s σ H Q I h;rw[hs];show wpAny _ _ (spliced ((false,eval e X.env)::backTo pos (starEach es X.env))) _ _ s;apply Calls.spliced_cons (aQ (ha pins s σ H _ I h) λu s1 ⟨x,H1,I1,r1,q1⟩=>?_);exact aQ (hr pos pins s1 σ H1 _ I1 q1) λus s2 ⟨xs,H2,I2,r2,q2⟩=>#[x::xs,H2,I2,.cons r1 r2,q2]
def Ao(t:TA):TE:=λσ H Q=>t σ H λxs H1=>xs.length<=sizeLine/\∀p,H1 p=none->Q (.ref p) (upd H1 p (.tup xs))
def EU(t:TA):TE:=λσ H Q=>t σ H λxs H1=>xs.length<=sizeLine/\∀p,H1 p=none->Q (.ref p) (upd H1 p (.lst xs))
theorem g0{x1}(h:PA X es t):PE X (.Tuple es x1 pos) (Ao t):=by
 intro pins s σ H Q I hq;apply wpAny_Tuple_spliced (aQ (h pos pins s σ H _ I hq) λus s1 ⟨xs,H1,I1,r,z,q⟩=>#[by rw[<- r.length];exact z,?_]);have hf:H1 s1.heap.objs.size=none:=I1.au.fresh (bj _);apply#[.ref s1.heap.objs.size,upd H1 s1.heap.objs.size (.tup xs),I1.laid (t':=s1.toks) (λb u e=>bQ _ e) (bj _) ?_,Z,q _ hf];exact#[z,us,r,#[_,dU _ Z,Z,_,Z],_,dU _ Z,Z]
theorem dC(h:PA X es t):PE X (.List es pos) (EU t):=by
 intro pins s σ H Q I hq;apply wpAny_List_spliced (aQ (h pos pins s σ H _ I hq) λus s1 ⟨xs,H1,I1,r,z,q⟩=>#[by rw[<- r.length];exact z,?_]);have hf:H1 s1.heap.objs.size=none:=I1.au.fresh (bj _);apply#[.ref s1.heap.objs.size,upd H1 s1.heap.objs.size (.lst xs),I1.laid (t':=s1.toks) (λb u e=>bQ _ e) (bj _) ?_,Z,q _ hf];exact#[z,us,0,r,dU _ Z]
end
abbrev Sp:=aj->Hp->VK->XK->Prop
abbrev i_:=List Env->Hp->Ab->XK->Aa->Ab->Prop
structure hX (P:Ad) (w:Af) (K:af) (mg:Str->Option Aa) (base:Heap) (A:Ag) (outer:List Env) (s:Ab) (H:Hp):Prop where
 frames:A.frames\outer
 mod:Mod K mg base
 bs:∀b o,base.get? b\o->s.heap.get? b\o/\H b=none
 lY:base.objs.size<=s.heap.objs.size
 dY:s.heap.FunFrames base outer
 qJ:∀b∈dF outer,H b=none
 au:cO P w H s.heap
 bare:AllBare s.gens
def CE(outer:List Env)(P:Ad)(w:Af)(H:Hp)(s:Ab)(Q:VK)(u:Aa)(s':Ab):Prop:=
 ∃v H',s'.os=s.os/\AllBare s'.gens/\Un (dF outer) [] H H' s.heap s'.heap/\cO P w H' s'.heap/\RelV v u/\Q v H'
def CR(CX:i_)(outer:List Env)(P:Ad)(w:Af)(H:Hp)(s:Ab)(Q:VK)(E:XK)(r:Result)(s':Ab):Prop:=
 match r with
 |.ok (.ret u)=>CE outer P w H s Q u s'
 |.ok _=>False
 |.error e=>CX outer H s E e s'
structure ag (P:Ad) (w:Af) (K:af) (mg:Str->Option Aa) (base:Heap) (CX:i_) (k:Nat) (f:Addr) (fd:Ae) (ps:ae) (sp:Sp):Prop where
 len:∀vs H Q E,sp vs H Q E->vs.length=ps.length
 run:∀(A:Ag) (outer:List Env) (s:Ab) (H:Hp) (args:Args) (us:ak) (vs:aj) (Q:VK) (E:XK),aK k A->hX P w K mg base A outer s H->BindsTo s fd args (ps.zip us)->Vals vs us->sp vs H Q E->
  codeAny (model P w) A (.call (.ref f) args) (CR CX outer P w H s Q E) s
theorem ag.mono{P:Ad}{w:Af}{K:af}{mg:Str->Option Aa}{base:Heap}{CX:i_}{j k:Nat}{f:Addr}{fd:Ae}{ps:ae}{sp:Sp}(F:ag P w K mg base CX j f fd ps sp)(h:j<=k) :
  ag P w K mg base CX k f fd ps sp:=#[F.len,λA outer s H args us vs Q E hr=>F.run A outer s H args us vs Q E (hr.mono h)]
theorem hX.make{P:Ad}{w:Af}{K:af}{mg:Str->Option Aa}{base:Heap}{A:Ag}{outer:List Env}{s:Ab}{H:Hp}(e:hX P w K mg base A outer s H)(C:Addr)(us:ak)(kw:List (Str × Aa)) :
  hX P w K mg base (A.under (.builtin "type.__call__" #[.ref C::us,kw])) outer s H:=#[by first|exact e.frames|(simpa [Around.under,Code.envs,Code.isFrame,pushEnvs] using e.frames),e.mod,e.bs,e.lY,e.dY,e.qJ,e.au,e.bare]
section
variable{X:Cx}{pins:List (Addr × Obj)}{σ:St}{H:Hp}{s s':Ab}
theorem Inv.vf(I:Inv X pins σ H s):hX X.prog X.w X.K X.mg X.base X.A X.stack s H:=
 #[I.ok.frames,I.ok.mod,I.bs,oG I.ok.lY I.sz,I.stack,I.hY,I.au,I.bare]
theorem Inv.after{Q:VK}{u:Aa}(I:Inv X pins σ H s)(h:CE X.stack X.prog X.w H s Q u s'):EP X pins σ Q u s':=by
 let#[v,H',os,bare,un,au,r,q]:=h;let#[hh,g,d,t,YE]:=s';obtain rfl:YE=s.os:=os;exact#[v,H',I.call (h':=hh) (g':=g) (d':=d) (t':=t) (ch:=[]) un au bare (λb z=>absurd z Z2),r,q]
end
def Cc(sp:Sp)(gx:aj)(E:XK)(t:TA):TE:=λσ H Q=>t σ H λvs H1=>sp (vs++gx) H1 Q E
inductive sG (C:Addr) (m:Str) (sp:Sp) (gx:aj) (E:XK) (t:TA) (σ:St) (Q:VK) (x:V) (H1:Hp):Prop
 |mk:∀a dx fs,x=.ref a->H1 a\.ins C dx fs->fs.lookup m=none->(t σ H1 λvs H2=>sp (x::(vs++gx)) H2 Q E)->sG C m sp gx E t σ Q x H1
def oS(C:Addr)(m:Str)(sp:Sp)(gx:aj)(E:XK)(ta:TE)(t:TA):TE:=λσ H Q=>ta σ H λx H1=>sG C m sp gx E t σ Q x H1
def yy(C:Addr)(sp:Sp)(gx:aj)(E:XK)(t:TA):TE:=λσ H Q=>t σ H λvs H1=>∀x dx,H1 x=none->H1 dx=none->dx≠x->
 sp (.ref x::(vs++gx)) (upd (upd H1 dx (.own x)) x (.ins C dx [])) (λv H2=>v=.non/\Q (.ref x) H2) E
def l8(K:af)(fd:Ae)(ps:ae)(ds:ak):Prop:=
 ∀(s:Ab) (us:ak),K.In s.heap->(us++ds).length=ps.length->BindsTo s fd #[us,[]] (ps.zip (us++ds))
theorem l8.all{K:af}{fd:Ae}{ps:ae}(h:∀us:ak,us.length=ps.length->bindArgs fd #[us,[]]=pure (ps.zip us)):l8 K fd ps []:=λs us _ hl=>by
 rw[wC] at hl ⊢;exact .of_eq (h us hl)
def jG(CX:i_)(X:Cx)(E:XK):Prop:=∀(pins:List (Addr × Obj)) (σ:St) (H:Hp) (s:Ab) (e:Aa) (s':Ab),Inv X pins σ H s->CX X.stack H s E e s'->X.xe e s'
section
variable{X:Cx}{CX:i_}{k:Nat}{f C:Addr}{fd:Ae}{ps:ae}{sp:Sp}{gx:aj}{ds:ak}{E:XK}{x m:Str}{p pos apos:Pos}{e o:Expr}{es:List Expr}{ta:TE}{t:TA}
theorem J3{pins:List (Addr × Obj)}{σ:St}{H:Hp}{s:Ab}{Q:VK}{us:ak}{vs:aj}(F:ag X.prog X.w X.K X.mg X.base CX k f fd ps sp)(hr:aK k X.A)(hb:l8 X.K fd ps ds)(hd:Vals gx ds)(hx:jG CX X E)
  (I:Inv X pins σ H s) (r:Vals vs us) (h:sp (vs++gx) H Q E):wpAny (model X.prog X.w) X.A (call (.ref f) us) (EP X pins σ Q) X.xe s:=by
 have r2:Vals (vs++gx) (us++ds):=r.append hd;have hl:(us++ds).length=ps.length:=by rw[<- r2.length];exact F.len _ _ _ _ h
 apply wpAny_call (codeAny_mono (F.run X.A X.stack s H #[us,[]] (us++ds) (vs++gx) Q E hr I.vf (hb s us I.fj hl) r2 h) λr s' hq=>?_);cases r with
 |error e=>exact hx pins σ H s e s' I hq
 |ok fl=>
  cases fl with
  |ret u=>exact I.after hq
  |next=>exact False.elim hq
  |brk=>exact False.elim hq
  |cont=>exact False.elim hq
theorem OS(F:ag X.prog X.w X.K X.mg X.base CX k f fd ps sp)(hr:aK k X.A)(hg:Gl X x)(hm:X.mg x\.ref f)(hk:PySem.W.keepIn X.K (.ref f)=true)(hb:l8 X.K fd ps ds)(hd:Vals gx ds)(hx:jG CX X E)
  (ha:PA X (e::es) t) (gT:(x == ("__debug__":Str))=false:=by decide) (he:starEach (e::es) X.env=(false,eval e X.env)::starEach es X.env:=by rfl) (fJ:(backTo pos (starEach es X.env)).any (·.1)=false:=by rfl) :
  PE X (.Call (.Name x p) (e::es) [] pos) (Cc sp gx E t):=by
 intro pins s σ H Q I h;apply wpAny_Call_Name_kw (C1 I hg hm ?_ gT);apply PySem.W.callWith_K (h₀:=X.base) I.ok.mod.Bv hk (aQ (ha pos pins s σ H _ I h) λus s1 ⟨vs,H1,I1,r,q⟩=>#[I1.fj,?_]) he fJ;exact J3 F hr hb hd hx I1 r q
theorem jx_(F:ag X.prog X.w X.K X.mg X.base CX k f fd ps sp)(hr:aK k X.A)(hg:Gl X x)(hm:X.mg x\.ref f)(hk:PySem.W.keepIn X.K (.ref f)=true)(hb:l8 X.K fd ps ds)(hd:Vals gx ds)(hx:jG CX X E)
  (gT:(x == ("__debug__":Str))=false:=by decide):PE X (.Call (.Name x p) [] [] pos) (Cc sp gx E dJ):=by
 intro pins s σ H Q I h;apply wpAny_Call_Name_kw (C1 I hg hm ?_ gT);exact PySem.W.callWith_K0 I.fj hk (J3 (us:=[]) F hr hb hd hx I .nil h)
theorem _F{pl:Sem Bool}(he:PE X o ta)(c:oN X.K C)(hm:Meth X.K C m f)(F:ag X.prog X.w X.K X.mg X.base CX k f fd ps sp)(hr:aK k X.A)(hb:l8 X.K fd ps ds)(hd:Vals gx ds)(hx:jG CX X E)(ha:PA X (e::es) t)
  (ja:starEach (e::es) X.env=(false,eval e X.env)::starEach es X.env:=by rfl) (fJ:(backTo pos (starEach es X.env)).any (·.1)=false:=by rfl)
  (ht:eval (.Call (.Attribute o m apos) (e::es) [] pos) X.env=(do
   let ov <- eval o X.env
   standAt apos.atName
   let (f,first) <- holding [ov] (getMethod ov m pl)
   callWith pos f first (backTo pos (starEach (e::es) X.env)) (backToKw pos (keywordEach [] X.env))):=by rfl) :
  PE X (.Call (.Attribute o m apos) (e::es) [] pos) (oS C m sp gx E ta t):=by
 intro pins s σ H Q I h;apply PySem.W.methodCall_KW (pl:=pl) (aQ (he pins s σ H _ I h) λu s1 ⟨x,H1,I1,rx,a,dx,fs,ex,ea,l,q⟩=>?_) ht;subst ex;obtain rfl:u=Value.ref a:=rx;apply VC I1 ea c hm l ?_;apply PySem.W.callWith_K (first:=[.ref a]) (h₀:=X.base) I.ok.mod.Bv hm.kp (aQ (ha pos pins s1 σ H1 _ I1 q) λus s2 ⟨vs,H2,I2,r,q2⟩=>#[I2.fj,?_]) ja fJ;exact J3 (us:=.ref a::us) (vs:=.ref a::vs) F hr hb hd hx I2 (.cons Z r) q2
theorem jn_{pl:Sem Bool}(he:PE X o ta)(c:oN X.K C)(hm:Meth X.K C m f)(F:ag X.prog X.w X.K X.mg X.base CX k f fd ps sp)(hr:aK k X.A)(hb:l8 X.K fd ps ds)(hd:Vals gx ds)(hx:jG CX X E)
  (ht:eval (.Call (.Attribute o m apos) [] [] pos) X.env=(do
   let ov <- eval o X.env
   standAt apos.atName
   let (f,first) <- holding [ov] (getMethod ov m pl)
   callWith pos f first (backTo pos (starEach [] X.env)) (backToKw pos (keywordEach [] X.env))):=by rfl) :
  PE X (.Call (.Attribute o m apos) [] [] pos) (oS C m sp gx E ta dJ):=by
 intro pins s σ H Q I h;apply PySem.W.methodCall_KW (pl:=pl) (aQ (he pins s σ H _ I h) λu s1 ⟨x,H1,I1,rx,a,dx,fs,ex,ea,l,q⟩=>?_) ht;subst ex;obtain rfl:u=Value.ref a:=rx;apply VC I1 ea c hm l ?_;exact PySem.W.callWith_K0 (first:=[.ref a]) I1.fj hm.kp (J3 (us:=[.ref a]) (vs:=[.ref a]) F hr hb hd hx I1 (.cons Z .nil) q)
structure Mk (K:af) (C f:Addr):Prop where
 makes:PySem.W.makesIn K C=true
 init:PySem.W.findIn K (.ref C) "__init__"\some (.ref f)
 fn:PySem.W.isFn K (.ref f)=true
 kp:PySem.W.keepIn K (.ref C)=true
theorem j3_{pins:List (Addr × Obj)}{σ:St}{H:Hp}{s:Ab}{Q:VK}{us:ak}{vs:aj}(M:Mk X.K C f)(F:ag X.prog X.w X.K X.mg X.base CX k f fd ps sp)(hr:aK (k+1) X.A)(hb:l8 X.K fd ps ds)(hd:Vals gx ds)
  (hx:jG CX X E) (I:Inv X pins σ H s) (r:Vals vs us)
  (h:∀x dx,H x=none->H dx=none->dx≠x->sp (.ref x::(vs++gx)) (upd (upd H dx (.own x)) x (.ins C dx [])) (λv H2=>v=.non/\Q (.ref x) H2) E) :
  wpAny (model X.prog X.w) X.A (call (.ref C) us) (EP X pins σ Q) X.xe s:=by
 let hq:=h (s.heap.objs.size+1) s.heap.objs.size (I.au.fresh (Nat.le_succ _)) (I.au.fresh (bj _)) (dB (Nat.lt_succ_self _));let I2:=Inv.made (C:=C) I;have r2:Vals (V.ref (s.heap.objs.size+1)::(vs++gx)) (Value.ref (s.heap.objs.size+1)::(us++ds)):=.cons Z (r.append hd)
 have hl:(Value.ref (s.heap.objs.size+1)::us++ds).length=ps.length:=by
  let e:=r2.length;rw[F.len _ _ _ _ hq] at e;exact e.symm
 apply wpAny_call (jh_ (f:=f) I.fj M.makes M.init (beq_iff_eq.mp M.fn) (codeAny_mono (F.run _ X.stack _ _ #[Value.ref (s.heap.objs.size+1)::us,[]] (Value.ref (s.heap.objs.size+1)::(us++ds)) _ _ E (hr.make C us [])
  (I2.vf.make C us []) (hb _ (Value.ref (s.heap.objs.size+1)::us) I2.fj hl) r2 hq) λr s' hq'=>?_))
 cases r with
 |error e=>exact hx pins σ _ _ e s' I2 hq'
 |ok fl=>
  cases fl with
  |ret u=>
   let#[v,H',I3,rv,ev,q3]:=I2.after hq';subst ev;exact#[rv,#[V.ref (s.heap.objs.size+1),H',I3,Z,q3]]
  |next=>exact False.elim hq'
  |brk=>exact False.elim hq'
  |cont=>exact False.elim hq'
theorem kP_(M:Mk X.K C f)(F:ag X.prog X.w X.K X.mg X.base CX k f fd ps sp)(hr:aK (k+1) X.A)(hg:Gl X x)(hm:X.mg x\.ref C)(hb:l8 X.K fd ps ds)(hd:Vals gx ds)(hx:jG CX X E)
  (ha:PA X (e::es) t) (gT:(x == ("__debug__":Str))=false:=by decide) (he:starEach (e::es) X.env=(false,eval e X.env)::starEach es X.env:=by rfl) (fJ:(backTo pos (starEach es X.env)).any (·.1)=false:=by rfl) :
  PE X (.Call (.Name x p) (e::es) [] pos) (yy C sp gx E t):=by
 intro pins s σ H Q I h;apply wpAny_Call_Name_kw (C1 I hg hm ?_ gT);apply PySem.W.callWith_K (h₀:=X.base) I.ok.mod.Bv M.kp (aQ (ha pos pins s σ H _ I h) λus s1 ⟨vs,H1,I1,r,q⟩=>#[I1.fj,?_]) he fJ;exact j3_ M F hr hb hd hx I1 r q
end
def PK(X:Cx)(DA:List Keyword)(t:TA):Prop:=
 ∀(pos:Pos) (pins:List (Addr × Obj)) (s:Ab) (σ:St) (H:Hp) (Q:aj->Hp->Prop),Inv X pins σ H s->t σ H Q->wpAny (model X.prog X.w) X.A (evalAll ((backToKw pos (keywordEach DA X.env)).map (·.2))) (AP X pins σ Q) X.xe s
section
variable{X:Cx}{CX:i_}{k:Nat}{f C:Addr}{fd:Ae}{ps ks:ae}{sp:Sp}{E:XK}{x m:Str}{p pos apos MY:Pos}{e o:Expr}{es:List Expr}{DA:List Keyword}{te ta:TE}{t tk:TA}{nm:Option Str}
theorem Sv:PK X [] dJ:=λ_ _ _ _ H Q I h=>wpAny_evalAll_nil #[[],H,I,.nil,h]
theorem TK(ha:PE X e te)(hr:PK X DA t):PK X (#[nm,e,MY]::DA) (gy te t):=by
 intro pos pins s σ H Q I h;show wpAny _ _ (evalAll ((do let v <- eval e X.env;standAt pos;pure v)::(backToKw pos (keywordEach DA X.env)).map (·.2))) _ _ s;apply wpAny_evalAll_cons (ao (aQ (ha pins s σ H _ I h) λu s1 ⟨x,H1,I1,r1,q1⟩=>ao (wpAny_standAt (aP ?_))));exact aQ (hr pos pins s1 σ H1 _ I1 q1) λus s2 ⟨xs,H2,I2,r2,q2⟩=>#[x::xs,H2,I2,.cons r1 r2,q2]
structure Re (K:af) (fd:Ae) (ps ks:ae) (g:ak->ak->ak) (gV:aj->aj->aj):Prop where
 to:∀(s:Ab) (us ws:ak),K.In s.heap->(g us ws).length=ps.length->BindsTo s fd #[us,ks.zip ws] (ps.zip (g us ws))
 rel:∀{vs:aj} {us:ak} {zs:aj} {ws:ak},Vals vs us->Vals zs ws->Vals (gV vs zs) (g us ws)
variable{g:ak->ak->ak}{gV:aj->aj->aj}
end
structure bq (N P:ae) (sc:Scope):Prop where
 kind:sc.kind=.function
 co:sc.isCoroutine=false
 gen:sc.isGenerator=false
 nd:N.Nodup
 pre:N.take P.length=P
 par:∀x∈P,sc.names.lookup x\.local∨sc.names.lookup x\.cell
 Bg:∀y∈sc.names,y.2≠.free
theorem UJ{kindOf:Str->Option NameKind}{x:Str}:∀{binds:List (Str × Aa)} {m:Str->Option Aa},(∀v,(x,v)∉binds)->bindL kindOf binds m x=m x
 |[],_,_=>rfl
 |(n,v)::r,m,h=>by
  unfold bindL;rw[UJ λw hw=>h w (dZ _ hw)];split
  ·have:x≠n:=by rintro rfl;exact h v eZ
   simp[this]
  rfl
theorem Vj{kindOf:Str->Option NameKind}{x:Str}:∀{binds:List (Str × Aa)} {m:Str->Option Aa},(∀v,(x,v)∉binds)->bindC kindOf binds m x=m x
 |[],_,_=>rfl
 |(n,v)::r,m,h=>by
  unfold bindC;rw[Vj λw hw=>h w (dZ _ hw)];split
  ·rfl
  have:x≠n:=by rintro rfl;exact h v eZ
  simp[this]
theorem UV{kindOf:Str->Option NameKind}{x:Str}{v:Aa}:∀{P:ae} {vs:ak} {i:Nat} {m:Str->Option Aa},P.Nodup->P[i]? = some x->vs[i]? = some v->kindOf x\.local->
  bindL kindOf (P.zip vs) m x\v
 |[],_,_,_,_,h,_,_=>by simp at h
 |_::_,[],_,_,_,_,h,_=>by simp at h
 |p::P,w::vs,0,m,nd,h1,h2,hk=>by
  simp at h1 h2;subst h1;subst h2;show bindL kindOf ((p,w)::P.zip vs) m p=_;unfold bindL;rw[UJ λv hv=>(qU.mp nd).1 (List.of_mem_zip hv).1,aJ hk];simp
 |p::P,w::vs,i+1,m,nd,h1,h2,hk=>by
  show bindL kindOf ((p,w)::P.zip vs) m x=_;unfold bindL;exact UV (i:=i) (qU.mp nd).2 ⇑h1 ⇑h2 hk
theorem UZ{kindOf:Str->Option NameKind}{x:Str}{v:Aa}:∀{P:ae} {vs:ak} {i:Nat} {m:Str->Option Aa},P.Nodup->P[i]? = some x->vs[i]? = some v->kindOf x≠some .local->
  bindC kindOf (P.zip vs) m x\v
 |[],_,_,_,_,h,_,_=>by simp at h
 |_::_,[],_,_,_,_,h,_=>by simp at h
 |p::P,w::vs,0,m,nd,h1,h2,hk=>by
  simp at h1 h2;subst h1;subst h2;show bindC kindOf ((p,w)::P.zip vs) m p=_;unfold bindC;rw[Vj λv hv=>(qU.mp nd).1 (List.of_mem_zip hv).1,aC hk];simp
 |p::P,w::vs,i+1,m,nd,h1,h2,hk=>by
  show bindC kindOf ((p,w)::P.zip vs) m x=_;unfold bindC;exact UZ (i:=i) (qU.mp nd).2 ⇑h1 ⇑h2 hk
def start(N:ae)(vs:aj):St:=vs.map some++List.replicate (N.length - vs.length) none
def dP(CX:i_)(P:Ad)(w:Af)(K:af)(mg:Str->Option Aa)(base:Heap)(N:ae)(qual:Str)(scope:Scope)(f:Addr)(cd:Aa)(A:Ag)(outer:List Env)(s:Ab)(H:Hp)(E:XK):Cx where
 prog:=P
 w:=w
 K:=K
 mg:=mg
 base:=base
 A:=A.deeper (envOfC qual scope s.heap.objs.size f cd)
 N:=N
 cg:=s
 iF:=H
 env:=envOfC qual scope s.heap.objs.size f cd
 outer:=outer
 stack:=envOfC qual scope s.heap.objs.size f cd::outer
 ex:=[]
 calm:=true
 fn:=λ_=>true
 pn:=[]
 xe:=λe s'=>wpAny (model P w) (A.deeper (envOfC qual scope s.heap.objs.size f cd)) (leaving (envOfC qual scope s.heap.objs.size f cd) e) (λ_ rg=>CX outer H s E e rg) (λe' rg=>CX outer H s E e' rg) s'
theorem T3{sc:Scope}{n:Nat}{x:Str}(h:sc.names.lookup x\.cell):∃c,(cellsFrom n sc.names []).lookup x\c:=by
 let q:=PySem.W.cellsFrom_some sc.names n [] (.inl h);exact vH.mp q
theorem hF_{CX:i_}{P:Ad}{w:Af}{K:af}{mg:Str->Option Aa}{base:Heap}{N ps:ae}{qual:Str}{scope:Scope}{f:Addr}{cd:Aa}{A:Ag}{outer:List Env}{s s1:Ab}{H:Hp}{E:XK}{us:ak}{vs:aj}
  (S:bq N ps scope) (hd:A.handled=none) (e0:hX P w K mg base A outer s H) (hl:vs.length=ps.length) (r:Vals vs us)
  (x:InCallC s s.heap.objs.size (bindL (envOfC qual scope s.heap.objs.size f cd).kindOf (ps.zip us) λ_=>none) (cellsFrom (s.heap.objs.size+1) scope.names []) (bindC (envOfC qual scope s.heap.objs.size f cd).kindOf (ps.zip us) λ_=>none) s1) :
  Inv (dP CX P w K mg base N qual scope f cd A outer s H E) [] (start N vs) H s1:=by
 have fJ:ps.length<=N.length:=by have:=eA List.length S.pre;rw[fA] at this;omega
 let#[h1,tk,rfl,hk]:=x.done;have xq:∀b:Addr,b∉(dP CX P w K mg base N qual scope f cd A outer s H E).ex:=λb z=>absurd (show b∈([]:ai) from z) Z2
 apply#[#[e0.mod,S.kind,Z,Z,bj _,λy z c h1 h2=>?_,λy hy=>?_,λy c _ h=>?_,λ_=>hd,Around.frames_deeper e0.frames,.inr #[Z,Z],λb z=>absurd z (xq b),e0.bs,e0.lY,λb _ _=>xq b,λb z=>absurd z (xq b),e0.dY,e0.qJ],
  rfl,e0.bare,Un.kept hk,#[_,x.toInCall.ns,λi y v h1 h2 h3=>?_],λy c h=>#[_,x.cell y c h],e0.au.fresh (bj _),λy c h=>?_,λp hp=>absurd (show p∈([]:List (Addr × Obj)) from hp) Z2,e0.au.kept hk,?_]
 ·exact name_of_addr x.apart (jW h1) (jW h2)
 ·have hy:scope.names.lookup y\.cell∨scope.names.lookup y\.free:=hy;rcases hy with hy|hy
  ·exact T3 hy
  exact absurd Z (S.Bg _ (jW hy))
 ·exact Nat.le_of_lt (x.above y c (jW h))
 ·have hi:i<vs.length:=by
   unfold start at h2;by_cases hi:i<vs.length
   ·exact hi
   rw[De ⇑hi] at h2;rw[List.getElem?_replicate] at h2;split at h2<;>cases h2
  have ha:vs[i]? = some v:=by
   unfold start at h2;rw[Ez ⇑hi,dQ] at h2;cases e:vs[i]? with
   |none=>rw[e] at h2;cases h2
   |some a=>rw[e] at h2;cases h2;rfl
  let#[u,hu,rv]:=r.get ha
  have hp:ps[i]? = some y:=by
   rw[<- S.pre,List.getElem?_take_of_lt Z1];exact h1
  have Jm:ps.Nodup:=by rw[<- S.pre];exact S.nd.sublist (List.take_sublist _ _)
  apply#[u,rv,?_];rcases S.par y (dD hp) with k|k
  ·exact .inl #[k,UV Jm hp hu k]
  let#[c,e]:=T3 (n:=s.heap.objs.size+1) k;apply .inr #[.inl k,c,e,?_];let q:=x.cell y c e;rw[UZ Jm hp hu (by show scope.names.lookup y≠_;rw[k];decide)] at q;exact q
 ·exact e0.au.fresh (Nat.le_of_lt (x.above y c (jW h)))
 unfold start;show _=N.length;rw[fZ,aB,Ew];omega
theorem Jr{CX:i_}{P:Ad}{w:Af}{K:af}{mg:Str->Option Aa}{base:Heap}{k:Nat}{f:Addr}{name qual:Str}{params:Ai}{body:List Stmt}{scope:Scope}{dV kV doc pm aD ct oc:Aa}{an od:Option Addr}
  {iI:Array (Option Aa)} {N ps:ae} {sp:Sp} (lk:K.lookup f=some #[oc,od,.func (PySem.W.fnOf name qual params body scope dV kV doc pm an aD ct),iI]) (fL:PySem.W.codeIn K aD qual=true) (S:bq N ps scope)
  (len:∀vs H Q E,sp vs H Q E->vs.length=ps.length)
  (bR:∀(A:Ag) (outer:List Env) (s:Ab) (H:Hp) (vs:aj) (Q:VK) (E:XK),aK k (A.deeper (envOfC qual scope s.heap.objs.size f aD))->sp vs H Q E->
   ∃t,ig (dP CX P w K mg base N qual scope f aD A outer s H E) body t/\t { nx:=λ_ H'=>Q .non H',rt:=Q } (start N vs) H) :
  ag P w K mg base CX (k+1) f (PySem.W.fnOf name qual params body scope dV kV doc pm an aD ct) ps sp:=by
 apply#[len,λA outer s H args us vs Q E hr e0 hb r gn=>?_];let hl:=len _ _ _ _ gn;have KX:K.In s.heap:=e0.mod.Bv.keeps λb o e=>(e0.bs b o e).1;have lim:s.heap.NoLimit:=e0.mod.nolimit.keeps λb o e=>(e0.bs b o e).1
 have Gu:∀y∈ps.zip us,scope.names.lookup y.1\.local∨(scope.names.lookup y.1\.cell/\((cellsFrom (s.heap.objs.size+1) scope.names []).lookup y.1).isSome=true):=λ⟨n,v⟩ hy=>by
  rcases S.par n (List.of_mem_zip hy).1 with q|q
  ·exact .inl q
  exact .inr #[q,PySem.W.cellsFrom_some _ _ _ (.inl q)]
 apply codeAny_call_function hr.depth (KX _ _ lk) Z S.co S.gen Z (PySem.W.codeRec_of KX fL) (hb _ _ _ _ ?_);apply wpAny_newFunctionEnv_cells S.kind Gu λenv he s1 x=>?_;subst he;apply#[lim.keeps x.toInCall.keep,codeAny_func ?_];let#[t,ht,hq]:=bR A outer s H vs Q E (hr.deeper _) gn;have I:Inv (dP CX P w K mg base N qual scope f aD A outer s H E) [] (start N vs) H s1:=hF_ S hr.hd e0 hl r x;apply iM (ht [] s1 (start N vs) H _ I hq) (λfl s' hs=>?_) λe s' hs=>hs
 have fin:∀{ba:St} {H':Hp} {v:V} {u:Aa},Inv (dP CX P w K mg base N qual scope f aD A outer s H E) [] ba H' s'->RelV v u->Q v H'->CE outer P w H s Q u s':=
  λ{ba H' v u} J rv q=>#[v,H',J.os,J.bare,J.base,J.au,rv,q]
 cases fl with
 |ret u=>
  let#[v,ba,H',J,rv,q]:=hs;exact fin J rv q
 |next=>
  let#[ba,H',J,q]:=hs;exact fin (v:=V.non) (u:=Value.none) J Z q
 |brk=>
  let#[_,_,_,q]:=hs;exact False.elim q
 |cont=>
  let#[_,_,_,q]:=hs;exact False.elim q
end L2
local macro_rules|`(!$f:ident $a*)=>if [`bx,`lL,`gD,`i9,`bf,`ag].contains f.getId then let i:=Lean.mkIdent;`($f $(i `P) $(i `w) $(i `K) $(i `mg) $(i `base) $a*)else Lean.Macro.throwUnsupported
namespace L2
open PySem PySem.Spec PyProof.Rows
section
variable{X:Cx}{x:Str}{p pos:Pos}{e:Expr}{es:List Expr}{t:TA}{id T:String}{r:aj->Hp->VK->Prop}
def Az(r:aj->Hp->VK->Prop)(t:TA):TE:=λσ H Q=>t σ H λvs H1=>r vs H1 Q
theorem cb(hc:fW X (.builtin id) r)(hg:Gl X x)(hm:X.mg x=none)(hv:bootBuiltins x\.builtin id)(ha:PA X (e::es) t)(hn:x≠"__name__":=by decide)(gT:(x == ("__debug__":Str))=false:=by decide)
  (he:starEach (e::es) X.env=(false,eval e X.env)::starEach es X.env:=by rfl) (fJ:(backTo pos (starEach es X.env)).any (·.1)=false:=by rfl):PE X (.Call (.Name x p) (e::es) [] pos) (Az r t):=by
 intro pins s σ H Q I h;apply wpAny_Call_Name_kw (D_ I hg hm hv ?_ hn gT);exact PyProof.Rows.callWith_builtin1 (aQ (ha pos pins s σ H _ I h) λus s1 ⟨vs,H1,I1,r1,q1⟩=>hc pins s1 σ H1 vs us Q I1 r1 q1) he fJ
theorem jM(hc:fW X (.type T) r)(hg:Gl X x)(hm:X.mg x=none)(hv:bootBuiltins x\.type T)(ha:PA X (e::es) t)(hn:x≠"__name__":=by decide)(gT:(x == ("__debug__":Str))=false:=by decide)
  (he:starEach (e::es) X.env=(false,eval e X.env)::starEach es X.env:=by rfl) (fJ:(backTo pos (starEach es X.env)).any (·.1)=false:=by rfl):PE X (.Call (.Name x p) (e::es) [] pos) (Az r t):=by
 intro pins s σ H Q I h;apply wpAny_Call_Name_kw (D_ I hg hm hv ?_ hn gT);exact PyProof.Rows.callWith_type1 (aQ (ha pos pins s σ H _ I h) λus s1 ⟨vs,H1,I1,r1,q1⟩=>hc pins s1 σ H1 vs us Q I1 r1 q1) he fJ
end
end L2
namespace HT
open PySem PyProof.Rows
section
open PySem.SeqAt
open PySem.AutoSeq1 (wpAny_loadPart')
open PySem.MeetsSeq PySem.MeetsSeq2 PySem.MeetsSeq3
end
section
variable{prog:Ad}{w:Af}{A:Ag}{E:Aa->Ab->Prop}{s:Ab}
def ki(n d:Nat):Option Int->Nat
 |none=>d
 |some v=>if v<0 then (v+(n:Int)).toNat else min v.toNat n
theorem tS(n d:Nat):ki n d none=d:=rfl
theorem w_(n d k:Nat):ki n d (some (k:Int))=min k n:=by
 show (if (k:Int)<0 then ((k:Int)+(n:Int)).toNat else min (k:Int).toNat n)=min k n;rw[aC Z1,wF]
end
end HT
namespace L2
open PySem PySem.Spec PyProof.Rows
abbrev TO:=St->Hp->(Option Int->Hp->Prop)->Prop
def PO(X:Cx)(e:Option Expr)(t:TO):Prop:=
 ∀(pins:List (Addr × Obj)) (s:Ab) (σ:St) (H:Hp) (Q:Option Int->Hp->Prop),Inv X pins σ H s->t σ H Q->
  wpAny (model X.prog X.w) X.A (evalPart e X.env) (λu s'=>∃o H',Inv X pins σ H' s'/\IsPart u o/\Q o H') X.xe s
def wN:TO:=λ_ H Q=>Q none H
inductive sC (Q:Option Int->Hp->Prop) (x:V) (H1:Hp):Prop
 |mk:∀i,x=.int i->Q (some i) H1->sC Q x H1
def EN(t:TE):TO:=λσ H Q=>t σ H λx H1=>sC Q x H1
section
variable{X:Cx}{e:Expr}{te:TE}{lo hi:Option Expr}{tl th:TO}{pos p2:Pos}
theorem TN:PO X none wN:=by
 intro pins s σ H Q I h;rw[evalPart_none];exact aP #[none,H,I,.none,h]
theorem Tn(h:PE X e te):PO X (some e) (EN te):=by
 intro pins s σ H Q I hw;rw[evalPart_some];apply aQ (h pins s σ H _ I hw) λu s1 ⟨x,H1,I1,r1,q1⟩=>?_;let#[i,rfl,q]:=q1;let#[t,rfl]:=r1;exact#[some i,H1,I1,.int i t,q]
def Wu(X:Cx)(r:V->Option Int->Option Int->Hp->VK->Prop):Prop:=
 ∀(pins:List (Addr × Obj)) (s:Ab) (σ:St) (H:Hp) (x:V) (v vl vu:Aa) (lo hi:Option Int) (sl:Addr) (Q:VK),Inv X pins σ H s->RelV x v->s.heap.IsSliceOf sl vl vu .none->IsPart vl lo->IsPart vu hi->r x lo hi H Q->
  ∃T id,typeLookup (.type T) "__getitem__"=pure (some (.builtin id))/\s.TypeIs v T/\wpAny (model X.prog X.w) X.A (getItem v (.ref sl)) (EP X pins σ Q) X.xe s
def XJ(r:V->Option Int->Option Int->Hp->VK->Prop)(te:TE)(tl th:TO):TE:=λσ H Q=>te σ H λx H1=>tl σ H1 λl H2=>th σ H2 λu H3=>r x l u H3 Q
theorem Uu{r:V->Option Int->Option Int->Hp->VK->Prop}(hr:Wu X r)(he:PE X e te)(hl:PO X lo tl)(hu:PO X hi th):PE X (.Subscript e (.Slice lo hi none p2) pos) (XJ r te tl th):=by
 intro pins s σ H Q I h;apply Subscript_ (aQ (he pins s σ H _ I h) λv s1 ⟨x,H1,I1,r1,q1⟩=>?_);apply wpAny_Slice (aQ (hl pins s1 σ H1 _ I1 q1) λvl s2 ⟨l,H2,I2,pl,q2⟩=>aQ (hu pins s2 σ H2 _ I2 q2) λvu s3 ⟨u,H3,I3,pu,q3⟩=>?_);rw[evalPart_none];apply aP ?_;have I4:Inv X pins σ H3 { s3 with heap:=s3.heap.push { cls:=.type "slice",data:=.fields (List.toArray [vl,vu,.none]) } }:=I3.kept (t':=s3.toks) λb ob q=>bQ _ q;let#[T,id,hT,ht,hg]:=hr pins { s3 with heap:=s3.heap.push { cls:=.type "slice",data:=.fields (List.toArray [vl,vu,.none]) } } σ H3 x v vl vu l u s3.heap.objs.size Q I4 r1 (Heap.IsSliceOf.new ..) pl pu q3;show wpAny (model X.prog X.w) X.A (subscriptTail e (.Slice lo hi none p2) v (.ref s3.heap.objs.size)) (EP X pins σ Q) X.xe { s3 with heap:=s3.heap.push { cls:=.type "slice",data:=.fields (List.toArray [vl,vu,.none]) } };exact tail_any (ops:=[.ref s3.heap.objs.size,v]) ht hT hg (by with_unfolding_all rfl)
def kL(xs:aj)(lo hi:Option Int):aj:=(xs.drop (HT.ki xs.length 0 lo)).take (HT.ki xs.length xs.length hi - HT.ki xs.length 0 lo)
theorem f0_(xs:aj)(lo hi:Option Int):(kL xs lo hi).length<=xs.length:=by
 unfold kL;rw[fA,List.length_drop];omega
end
end L2
namespace L2
open PySem PySem.Spec PyProof.Rows
def zf(n:Nat)(i:Int):Option Nat:=if 0<=i then (if i<n then some i.toNat else none) else if -(n:Int)<=i then some (i+n).toNat else none
def oC{α:Type}(xs:List α)(i:Int):Option α:=(zf xs.length i).bind λj=>xs[j]?
theorem TX{n:Nat}{i:Int}{j:Nat}(h:zf n i\j):seqIndex? i n\j/\j<n/\-(n:Int)<=i/\i<n:=by
 unfold zf at h;by_cases h0:0<=i
 ·rw[aJ h0] at h;by_cases h1:i<n
  ·rw[aJ h1] at h;have e:i.toNat=j:=dG h;exact#[by rw[seqIndex_of h0 h1,e],by omega,by omega,h1]
  rw[aC h1] at h;cases h
 rw[aC h0] at h;by_cases h1:-(n:Int)<=i
 ·rw[aJ h1] at h;have e:(i+n).toNat=j:=dG h;exact#[by rw[seqIndex_neg Z1 h1,e],by omega,h1,by omega]
 rw[aC h1] at h;cases h
theorem TB{α:Type}{xs:List α}{i:Int}{v:α}(h:oC xs i\v):∃j,seqIndex? i xs.length\j/\xs[j]? = some v/\j<xs.length/\-(xs.length:Int)<=i/\i<xs.length:=by
 unfold oC at h;cases e:zf xs.length i with
 |none=>rw[e] at h;cases h
 |some j=>
  rw[e] at h;let#[h1,h2,h3,h4]:=TX e;exact#[j,h1,h,h2,h3,h4]
theorem qM{α:Type}{xs:List α}{j:Nat}{v:α}(h:xs[j]? = some v):oC xs (j:Int)\v:=by
 have hj:j<xs.length:=(dj.mp h).1
 have e:zf xs.length (j:Int)\j:=by
  unfold zf;rw[aJ Z1,aJ Z1];simp
 unfold oC;rw[e];exact h
def yk(b:Expr):Prop:=∀o i,subscripted b false o i=operate [o,i] (getItem o i)
def IJ(X:Cx)(r:R2):Prop:=
 ∀(value slice:Expr) (pins:List (Addr × Obj)) (s:Ab) (σ:St) (H:Hp) (x y:V) (v u:Aa) (Q:VK),Inv X pins σ H s->RelV x v->RelV y u->r x y H Q->
  subscripted slice false v u=operate [v,u] (getItem v u)->wpAny (model X.prog X.w) X.A (subscriptTail value slice v u) (EP X pins σ Q) X.xe s
def Wx(X:Cx)(id:String)(r:V->aj->Hp->VK->Prop):Prop:=
 ∀(pins:List (Addr × Obj)) (s:Ab) (σ:St) (H:Hp) (x:V) (xs:aj) (v:Aa) (us:ak) (Q:VK),Inv X pins σ H s->RelV x v->Vals xs us->r x xs H Q->
  wpAny (model X.prog X.w) X.A (call (.builtin id) (v::us)) (EP X pins σ Q) X.xe s
section
variable{X:Cx}{a b:Expr}{ta tb:TE}{pos:Pos}
theorem bP{r:R2}(hr:IJ X r)(ha:PE X a ta)(hb:PE X b tb)(hs:yk b:=by exact λ_ _=>rfl):PE X (.Subscript a b pos) (EO r ta tb):=by
 intro pins s σ H Q I h;exact Subscript_ (CV ha hb I h λv u s2 x y H2 I2 rx ry q=>hr a b pins s2 σ H2 x y v u Q I2 rx ry q (hs _ _))
inductive Ba (K:af) (x:V) (y:V) (H:Hp) (Q:VK):Prop
 |mk:∀p xs i v,x=.ref p->y=.int i->dH K H p xs->oC xs i\v->Q v H->Ba K x y H Q
inductive qu (K:af) (x:V) (y:V) (H:Hp) (Q:VK):Prop
 |mk:∀p xs i v,x=.ref p->y=.int i->iD K H p xs->oC xs i\v->Q v H->qu K x y H Q
theorem gN:IJ X (Ba X.K):=by
 intro value slice pins s σ H x y v u Q I rx ry h hs;let#[p,xs,i,z,rfl,rfl,hq,he,q]:=h;cases rx;let#[t,rfl]:=ry;let#[its,r,pl,hz]:=I.list hq;let#[j,h1,h2,h3,h4,h5]:=TB he;let#[w,ew,gI]:=r.get h2;let hl:=r.length;let hn:=iz;have fin:EP X pins σ Q w s:=⟨z,H,I,gI,q⟩;by_cases h0:0<=i
 ·have hj:i.toNat=j:=by
   rw[seqIndex_of h0 h5] at h1;exact dG h1
  exact item_listR pl.isList h0 Z1 (by rw[hj];simpa using ew) fin hs
 have hj:(i+(its.toArray.size:Int)).toNat=j:=by
  rw[seqIndex_neg Z1 h4] at h1;rw[cn,<- hl];exact dG h1
 exact subscriptTail_builtinR (x:=w) pl.isList.typeIs slot_list_getitem.lookup
  (wpAny_getItem_list_neg (Q:=λr s'=>r=w/\EP X pins σ Q r s') pl.isList Z1 (by rw[cn]<;>omega) Z1 (by rw[hj];simpa using ew) ⟨rfl,fin⟩) hs
theorem eQ:IJ X (qu X.K):=by
 intro value slice pins s σ H x y v u Q I rx ry h hs;let#[p,xs,i,z,rfl,rfl,hq,he,q]:=h;cases rx;let#[t,rfl]:=ry;let#[its,r,pl,hz]:=I.tuple hq;let#[j,h1,h2,h3,h4,h5]:=TB he;let#[w,ew,gI]:=r.get h2;let hl:=r.length;let hn:=iz;have fin:EP X pins σ Q w s:=⟨z,H,I,gI,q⟩
 exact subscriptTail_builtinR (x:=w) pl.typeIs slot_tuple_getitem.lookup
  (getItem_tuple (j:=j) (Q:=λr s'=>r=w/\EP X pins σ Q r s') pl Z1 Z1 (by rw[cn,<- hl];exact h1) ⇑ew ⟨rfl,fin⟩) hs
theorem ga_(its:ak)(n j:Nat)(u:Aa):Obj.mapSeq (·.setIfInBounds j u) { cls:=.type "list",data:=.seq its.toArray n }={ cls:=.type "list",data:=.seq (its.set j u).toArray n }:=by
 simp[Obj.mapSeq]
theorem Inv.lst{pins:List (Addr × Obj)}{σ:St}{H:Hp}{s:Ab}{p:Addr}{xs:aj}(I:Inv X pins σ H s)(h:H p\.lst xs) :
  ∃(its:ak) (n:Nat),Vals xs its/\s.heap.get? p=some { cls:=.type "list",data:=.seq its.toArray n }/\xs.length<=sizeLine:=by
 let#[z,its,n,r,e]:=I.au p _ h;exact⟨its,n,r,e,z⟩
theorem Inv.Bn{pins:List (Addr × Obj)}{σ:St}{H:Hp}{s:Ab}{p:Addr}{xs ys:aj}{its its':ak}{n n':Nat}{f:Obj->Obj}(I:Inv X pins σ H s)(h:H p\.lst xs)
  (ho:s.heap.get? p=some { cls:=.type "list",data:=.seq its.toArray n }) (hf:f { cls:=.type "list",data:=.seq its.toArray n }={ cls:=.type "list",data:=.seq its'.toArray n' }) (r:Vals ys its') (hz:ys.length<=sizeLine) (t:Nat) :
  Inv X pins σ (upd H p (.lst ys)) { s with heap:=s.heap.update p f,toks:=t }:=by
 have e:(s.heap.update p f).get? p=some { cls:=.type "list",data:=.seq its'.toArray n' }:=by
  rw[zM f ho (by rw[hf]<;>rfl),hf]
 apply I.write (x:=p) (e:=p) (by rw[h];trivial) (.inl rfl) (λb u hb q=>(ji _ _ (Ne.symm hb)).trans q) ⟨_,e⟩ ?_;exact⟨hz,its',n',r,e⟩
inductive yT (o:V) (i:V) (v:V) (H:Hp) (Q:Hp->Prop):Prop
 |mk:∀p xs k j,o=.ref p->i=.int k->H p\.lst xs->zf xs.length k\j->Q (upd H p (.lst (xs.set j v)))->yT o i v H Q
theorem Ub:IG X yT:=by
 intro pins s σ H o i v ov iv u Q I ro ri rv h;let#[p,xs,k,j,rfl,rfl,hp,hj,q]:=h;cases ro;let#[t,rfl]:=ri;let#[its,n,r,ho,hz]:=I.lst hp;let#[h1,h2,h3,h4]:=TX hj;let hl:=r.length;let hn:=iz
 have I':Inv X pins σ (upd H p (.lst (xs.set j v))) { s with heap:=s.heap.update p (Obj.mapSeq (·.setIfInBounds j u)) }:=
  I.Bn hp ho (ga_ its n j u) (r.set rv j) (by rw[List.length_set];exact hz) s.toks
 by_cases h0:0<=k
 ·have hk:k.toNat=j:=by
   rw[seqIndex_of h0 h4] at h1;exact dG h1
  exact PySem.W.ki_setAt ho h0 Z1 (by rw[cn,<- hl];exact h4) (by rw[hk];exact⟨_,I',q⟩)
 have hk:(k+(its.toArray.size:Int)).toNat=j:=by
  rw[seqIndex_neg Z1 h3] at h1;rw[cn,<- hl];exact dG h1
 exact PySem.W.ki_setBack ho Z1 (by rw[cn,<- hl];exact h3) Z1 (by rw[hk];exact⟨_,I',q⟩)
theorem eA_(lo hi:Option Int)(n:Nat):(sliceBounds lo hi none n).1=((HT.ki n 0 lo:Nat):Int)/\(sliceBounds lo hi none n).2.1=((HT.ki n n hi:Nat):Int)/\(sliceBounds lo hi none n).2.2=1:=by
 apply⟨?_,?_,rfl⟩
 ·cases lo with
  |none=>simp[sliceBounds,HT.ki]
  |some i=>
   simp only[sliceBounds,HT.ki,Option.getD_none,show (1:Int) > 0 by decide,if_true];by_cases h:i<0
   ·simp only[h,if_true]<;>omega
   simp only[h,if_false]<;>omega
 cases hi with
 |none=>simp[sliceBounds,HT.ki]
 |some i=>
  simp only[sliceBounds,HT.ki,Option.getD_none,show (1:Int) > 0 by decide,if_true];by_cases h:i<0
  ·simp only[h,if_true]<;>omega
  simp only[h,if_false]<;>omega
theorem dT_(its:ak)(lo hi:Option Int):slicePick its.toArray lo hi none=((its.drop (HT.ki its.length 0 lo)).take (HT.ki its.length its.length hi - HT.ki its.length 0 lo)).toArray:=by
 let#[h1,h2,h3]:=eA_ lo hi its.toArray.size;unfold slicePick;rw[h1,h2,h3];simp only[sliceRange_one,pick_run,cn]<;>rfl
inductive Fk (K:af) (x:V) (lo:Option Int) (hi:Option Int) (H:Hp) (Q:VK):Prop
 |mk:∀a xs,x=.ref a->dH K H a xs->(∀p,H p=none->Q (.ref p) (upd H p (.lst (kL xs lo hi))))->Fk K x lo hi H Q
theorem Tr:Wu X (Fk X.K):=by
 intro pins s σ H x v vl vu lo hi sl Q I rx hs pl pu h;let#[a,xs,rfl,hx,q]:=h;cases rx;let#[its,r,ht,hz]:=I.list hx;let hlen:=r.length;apply⟨"list",_,slot_list_getitem.lookup,ht.isList.typeIs,?_⟩;apply wpAny_getItem_list_slice ht.isList hs pl pu .none Z2 ?_ (by rw[cn]<;>omega)
 rw[dT_,<- hlen];apply⟨.ref s.heap.objs.size,_,I.laid (t':=s.toks) (o:=.lst (kL xs lo hi)) (λb ob q=>bQ _ q) (bj _) ?_,rfl,q _ (I.au.fresh (bj _))⟩;exact⟨oG (f0_ xs lo hi) hz,_,0,(r.drop (HT.ki xs.length 0 lo)).take (HT.ki xs.length xs.length hi - HT.ki xs.length 0 lo),dU _ rfl⟩
def jY:V->Bool
 |.non=>true
 |.bl _=>true
 |.int _=>true
 |.str _=>true
 |_=>false
def iY:V->V->Bool
 |.non,.non=>true
 |.bl a,.bl b=>a == b
 |.bl a,.int b=>(if a then 1 else 0) == b
 |.int a,.bl b=>a == (if b then 1 else 0)
 |.int a,.int b=>a == b
 |.str a,.str b=>a == b
 |_,_=>false
theorem Ea{A:Ag}{s:Ab}{y x:V}{u v:Aa}(ry:RelV y u)(rx:RelV x v)(fy:jY y=true)(fx:jY x=true):SeqAt.EqAt A s u v (iY y x):=by
 cases y with
 |non=>
  cases ry;cases x with
  |non=>cases rx;exact SeqAt.EqAt.same _
  |bl b=>cases rx;exact SeqAt.EqAt.none_bool b
  |int b=>let#[t,rfl]:=rx;exact SeqAt.EqAt.none_int b t
  |str b=>let#[t,rfl]:=rx;exact SeqAt.EqAt.none_str b t
  |_=>exact absurd (show false=true from fx) gO
 |bl a=>
  cases ry;cases x with
  |non=>cases rx;exact SeqAt.EqAt.bool_none a
  |bl b=>cases rx;exact SeqAt.EqAt.bool_bool a b
  |int b=>let#[t,rfl]:=rx;exact SeqAt.EqAt.bool_int a b t
  |str b=>let#[t,rfl]:=rx;exact SeqAt.EqAt.bool_str a b t
  |_=>exact absurd (show false=true from fx) gO
 |int a=>
  let#[t',rfl]:=ry;cases x with
  |non=>cases rx;exact SeqAt.EqAt.int_none a t'
  |bl b=>cases rx;exact SeqAt.EqAt.int_bool a t' b
  |int b=>let#[t,rfl]:=rx;exact SeqAt.EqAt.int_int a t' b t
  |str b=>let#[t,rfl]:=rx;exact SeqAt.EqAt.int_str a t' b t
  |_=>exact absurd (show false=true from fx) gO
 |str a=>
  let#[t',rfl]:=ry;cases x with
  |non=>cases rx;exact SeqAt.EqAt.str_none a t'
  |bl b=>cases rx;exact SeqAt.EqAt.str_bool a t' b
  |int b=>let#[t,rfl]:=rx;exact SeqAt.EqAt.str_int a t' b t
  |str b=>let#[t,rfl]:=rx;exact SeqAt.EqAt.str_str a t' b t
  |_=>exact absurd (show false=true from fx) gO
 |_=>exact absurd (show false=true from fy) gO
def nO(x:V)(u:Aa):Bool:=match u with
 |.none=>iY .non x
 |.bool b=>iY (.bl b) x
 |.int i _=>iY (.int i) x
 |.str z _=>iY (.str z) x
 |_=>false
theorem JZ{x y:V}{u:Aa}(r:RelV y u)(f:jY y=true):nO x u=iY y x:=by
 cases y with
 |non=>cases r;rfl
 |bl b=>cases r;rfl
 |int i=>let#[t,rfl]:=r;rfl
 |str z=>let#[t,rfl]:=r;rfl
 |_=>exact absurd (show false=true from f) gO
theorem OT{x:V}:∀{xs:aj} {us:ak},Vals xs us->xs.all jY=true->us.any (nO x)=xs.any λy=>iY y x
 |_,_,.nil,_=>rfl
 |y::xs,u::us,.cons r t,f=>by
  rw[List.all_cons,wD] at f;rw[List.any_cons,List.any_cons,JZ r f.1,OT t f.2]
theorem Ic{A:Ag}{s:Ab}{x:V}{v:Aa}(rx:RelV x v)(fx:jY x=true):∀{xs:aj} {us:ak},Vals xs us->xs.all jY=true->∀u∈us,SeqAt.EqAt A s u v (nO x u)
 |_,_,.nil,_=>λu hu=>by cases hu
 |y::xs,u::us,.cons r t,f=>λu' hu=>by
  rw[List.all_cons,wD] at f;rcases bW.mp hu with rfl|hu
  ·rw[JZ r f.1];exact Ea r rx f.1 fx
  exact Ic rx fx t f.2 u' hu
def F2(x:V)(xs:aj):Bool:=xs.any λy=>iY y x
inductive Jg (K:af) (neg:Bool) (x:V) (y:V) (H:Hp) (Q:VK):Prop
 |mk:∀p xs,y=.ref p->(dH K H p xs∨iD K H p xs)->jY x=true->xs.all jY=true->Q (.bl (if neg then !F2 x xs else F2 x xs)) H->Jg K neg x y H Q
theorem UO:eW X (compareOp .In) (Jg X.K false):=by
 intro pins s σ H x y v u Q I rx ry h;let#[p,xs,rfl,hq,fx,fs,q]:=h;cases ry;rcases hq with hq|hq
 ·let#[its,r,pl,hz]:=I.list hq;apply SeqAt.in_listAt (nO x) pl.isList (λw hw=>Ic rx fx r fs w ⇑hw) ⟨.bl _,H,I,rfl,?_⟩;rw[show its.toArray.any (nO x)=its.any (nO x) by simp,OT r fs];exact q
 let#[its,r,pl,hz]:=I.tuple hq;apply SeqAt.in_tupleAt (nO x) pl (λw hw=>Ic rx fx r fs w ⇑hw) ⟨.bl _,H,I,rfl,?_⟩;rw[show its.toArray.any (nO x)=its.any (nO x) by simp,OT r fs];exact q
inductive QX (K:af) (xs:aj) (H:Hp) (Q:VK):Prop
 |mk:∀p ys,xs=[.ref p]->(dH K H p ys∨iD K H p ys)->Q (.int ys.length) H->QX K xs H Q
theorem qR:fW X (.builtin "len") (QX X.K):=by
 intro pins s σ H xs us Q I r h;let#[p,ys,rfl,hq,q]:=h;let#[u,rfl,rx]:=vals1 r;cases rx;let hn:=iz;rcases hq with hq|hq
 ·let#[its,r',pl,hz]:=I.list hq;let hlen:=r'.length;exact Calls.call_len_list pl.isList (by simp only[cn]<;>omega) ⟨.int ys.length,H,I.tok _,⟨s.toks+1,by rw[cn,hlen]⟩,q⟩
 let#[its,r',pl,hz]:=I.tuple hq;let hlen:=r'.length;exact len_tuple pl (by simp only[cn]<;>omega) ⟨.int ys.length,H,I.tok _,⟨s.toks+1,by rw[cn,hlen]⟩,q⟩
inductive Wm (xs:aj) (H:Hp) (Q:VK):Prop
 |mk:∀z,xs=[.str z]->z.length<=sizeLine->Q (.int z.length) H->Wm xs H Q
theorem ei_:fW X (.builtin "len") Wm:=by
 intro pins s σ H xs us Q I r h;let#[z,rfl,hz,q]:=h;let#[u,rfl,t,rfl]:=vals1 r;let hn:=iz;exact len_str Z1 ⟨.int z.length,H,I.tok _,⟨_,rfl⟩,q⟩
inductive V1 (K:af) (xs:aj) (H:Hp) (Q:VK):Prop
 |mk:∀p ys,xs=[.ref p]->(dH K H p ys∨iD K H p ys)->(∀l,H l=none->Q (.ref l) (upd H l (.lst ys)))->V1 K xs H Q
theorem ev_:fW X (.type "list") (V1 X.K):=by
 intro pins s σ H xs us Q I r h;let#[p,ys,rfl,hq,q]:=h;let#[u,rfl,rx]:=vals1 r;cases rx
 have fin:∀(its:ak),Vals ys its->ys.length<=sizeLine->∀(h':Heap) (c':Nat),(∀b o',s.heap.get? b\o'->h'.get? b\o')->
   h'.get? s.heap.objs.size=some { cls:=.type "list",dict:=none,data:=.seq its.toArray c',slots:=#[] }->EP X pins σ Q (.ref s.heap.objs.size) { s with heap:=h' }:=λits r' hz h' c' kp e=>
  #[.ref s.heap.objs.size,_,I.laid (t':=s.toks) kp (bj _) (show d9 X.prog X.w _ h' _ (.lst ys) from #[hz,its,c',r',e]),Z,q _ (I.au.fresh (bj _))]
 rcases hq with hq|hq
 ·let#[its,r',pl,hz]:=I.list hq;let hlen:=r'.length;let#[o,ho,hc,n,hd]:=pl.isList;exact call_list_seq p (.inl Z) ho hc hd (λh' c' kp e=>fin its r' hz h' c' kp e) (by simp only[cn]<;>omega)
 let#[its,r',pl,hz]:=I.tuple hq;let hlen:=r'.length;let#[o,ho,hc,n,hd]:=pl;exact call_list_seq p (.inr Z) ho hc hd (λh' c' kp e=>fin its r' hz h' c' kp e) (by simp only[cn]<;>omega)
inductive QY (K:af) (xs:aj) (H:Hp) (Q:VK):Prop
 |mk:∀p ys,xs=[.ref p]->((dH K H p ys/\∀l,H l=none->Q (.ref l) (upd H l (.tup ys)))∨(iD K H p ys/\Q (.ref p) H))->QY K xs H Q
theorem dI_:fW X (.type "tuple") (QY X.K):=by
 intro pins s σ H xs us Q I r h;let#[p,ys,rfl,h]:=h;let#[u,rfl,rx]:=vals1 r;cases rx;rcases h with⟨hq,q⟩|⟨hq,q⟩
 ·let#[its,r',pl,hz]:=I.list hq;let hlen:=r'.length;apply call_tuple_list pl.isList (λh' kp=>?_) (by simp only[cn]<;>omega)
  have I1:Inv X pins σ H { s with heap:=h' }:=I.kept (t':=s.toks) kp
  have I2:Inv X pins σ (upd H h'.objs.size (.tup ys)) { s with heap:=h'.push { cls:=.type "tuple",data:=.seq its.toArray } }:=
   I1.laid (t':=s.toks) (λb o e=>bQ _ e) (bj _) (show d9 X.prog X.w _ _ _ (.tup ys) from ⟨hz,its,r',IsTup.new _ _,_,dU _ rfl,rfl⟩)
  exact⟨.ref h'.objs.size,_,I2,rfl,q _ (I1.au.fresh (bj _))⟩
 let#[its,r',pl,hz]:=I.tuple hq;exact call_tuple_same pl ⟨.ref p,H,I,rfl,q⟩
def Rt(K:af)(T:String)(x:V)(H:Hp):Prop:=match x with
 |.str _=>T="str"
 |.int _=>T="int"
 |.ref p=>(T="list"/\∃xs,dH K H p xs)∨(T="tuple"/\∃o,K.lookup p\o/\o.cls=.type "tuple"/\o.dict=none) ∨
   (T="dict"/\((∃kvs,H p\.dK kvs)∨∃kvs,H p\.dT kvs))∨(T="set"/\∃S n,H p\.set S n)
 |_=>False
theorem _j{pins:List (Addr × Obj)}{σ:St}{H:Hp}{s:Ab}{T:String}{x:V}{v:Aa}(I:Inv X pins σ H s)(r:RelV x v)(ty:Rt X.K T x H) :
  s.TypeIs v T/\∀a,v=.ref a->∃ob,s.heap.get? a\ob/\ob.dict=none:=by
 cases x with
 |str z=>
  let#[t,rfl]:=r;cases (show T="str" from ty);exact#[typeIs_str s z t,λ_ e=>nomatch e]
 |int i=>
  let#[t,rfl]:=r;cases (show T="int" from ty);exact#[typeIs_int s i t,λ_ e=>nomatch e]
 |ref p=>
  cases r;rcases ty with⟨rfl,xs,hq⟩|⟨rfl,o,hk,hc,hd⟩|⟨rfl,hk⟩|⟨rfl,S,n,hk⟩
  ·let#[its,_,pl,_]:=I.list hq;apply#[pl.isList.typeIs,λa e=>?_];cases e;let#[o,n,e,c,hd,_]:=pl;exact#[o,e,hd]
  ·apply#[#[o,I.fj p o hk,hc],λa e=>?_];cases e;exact#[o,I.fj _ o hk,hd]
  ·have z:∃o,s.heap.get? p\o/\o.ExactDict:=by
    rcases hk with⟨kvs,hk⟩|⟨kvs,hk⟩
    ·let#[_,_,_,_,o,_,_,e,ex,_]:=I.au p _ hk;exact#[o,e,ex]
    let#[_,_,_,_,o,_,_,e,ex,_]:=I.au p _ hk;exact#[o,e,ex]
   let#[o,e,ex]:=z;apply#[#[o,e,ex.1],λa e2=>?_];cases e2;exact#[o,e,ex.2.1]
  ·let#[o,_,_,_,e,ex,_]:=I.au p _ hk;apply#[#[o,e,ex.1],λa e2=>?_];cases e2;exact#[o,e,ex.2.1]
 |_=>exact False.elim ty
def IT(K:af)(T:String)(r:V->aj->Hp->VK->Prop)(to:TE)(t:TA):TE:=λσ H Q=>to σ H λx H1=>Rt K T x H1/\t σ H1 λxs H2=>r x xs H2 Q
variable{o e:Expr}{es:List Expr}{to:TE}{t:TA}{name:Str}{apos bu:Pos}{T id:String}{r:V->aj->Hp->VK->Prop}
theorem vk(pa:PlainAttrs T)(slot:Slot T name id)(Nq:typeOf (.builtin id)=pure (.type "method_descriptor"))(hm:Wx X id r)(ho:PE X o to)(ha:PA X (e::es) t)
  (dO:attributeBase o name X.env (eval o X.env)=eval o X.env:=by rfl)
  (BS:((backTo bu (starEach (e::es) X.env)).all (λx=>!x.1)&&(backToKw bu (keywordEach [] X.env)).all (λx=>x.1.isSome)
   && decide ((e::es).length+([]:List Keyword).length+(if ([]:List Keyword).isEmpty then 0 else 1)<30))=true:=by rfl)
  (fR:(apos.endLine == bu.line)=true:=by rfl) (hs:starEach (e::es) X.env=(false,eval e X.env)::starEach es X.env:=by rfl) (nE:(backTo bu (starEach es X.env)).any (·.1)=false:=by rfl) :
  PE X (.Call (.Attribute o name apos) (e::es) [] bu) (IT X.K T r to t):=by
 intro pins s σ H Q I h;apply wpAny_Call_method_late dO BS fR Z (aQ (ho pins s σ H _ I h) λv s1 ⟨x,H1,I1,r1,ty,q1⟩=>?_);let#[h1,h2]:=_j I1 r1 ty;apply#[T,id,pa,slot,Nq,h1,h2,?_];let hA:=ha bu pins s1 σ H1 _ I1 q1;rw[hs] at hA ⊢;apply Calls.callWith_builtin (by show (false || (backTo bu (starEach es X.env)).any (·.1))=false;rw[nE]<;>rfl) (Calls.evalArgs_plain ?_)
 exact aQ hA λus s2 ⟨vs,H2,I2,r2,q2⟩=>hm pins s2 σ H2 x vs v us Q I2 r1 r2 q2
end
end L2
namespace L2
open PySem PySem.Spec PyProof.Rows
def Lm(X:Cx)(id:String)(r:V->aj->Hp->VK->Prop):Prop:=
 ∀(pins:List (Addr × Obj)) (s:Ab) (σ:St) (H:Hp) (x:V) (xs:aj) (v:Aa) (us:ak) (Q:VK),Inv X pins σ H s->RelV x v->Vals xs us->r x xs H Q->
  wpAny (model X.prog X.w) X.A (call (.builtin id) (v::us)) (EP X pins σ Q) X.xe s
theorem Vals.one:∀{x:V} {us:ak},Vals [x] us->∃u,us=[u]/\RelV x u
 |_,_,.cons r .nil=>#[_,Z,r]
section
variable{X:Cx}{pins:List (Addr × Obj)}{σ:St}{H:Hp}{s:Ab}{l b:Addr}{xs ys zs:aj}
theorem Inv.FP{its its':ak}{n:Nat}{f:Array Aa->Array Aa}{t':Nat}(I:Inv X pins σ H s)(hH:H l\.lst xs)
  (e:s.heap.get? l=some { cls:=.type "list",data:=.seq its.toArray n }) (hf:f its.toArray=its'.toArray) (hv:Vals ys its') (hz:ys.length<=sizeLine) :
  Inv X pins σ (upd H l (.lst ys)) { s with heap:=s.heap.update l (Obj.mapSeq f),toks:=t' }:=by
 let q:=PySem.IsL.update e f;rw[hf] at q;apply I.write (x:=l) (e:=l) (by rw[hH];exact trivial) (.inl Z) (λb' u hb hu=>(ji s.heap (Obj.mapSeq f) (Ne.symm hb)).trans hu) #[_,q] ?_;exact#[hz,its',_,hv,q]
theorem Inv.Bo{its:ak}{t':Nat}(I:Inv X pins σ H s)(hv:Vals ys its)(hz:ys.length<=sizeLine) :
  Inv X pins σ (upd H s.heap.objs.size (.lst ys)) { s with heap:=s.heap.push { cls:=.type "list",data:=.seq its.toArray },toks:=t' }:=
 I.laid (λ_ _ q=>bQ _ q) (bj _) #[hz,its,0,hv,dU _ Z]
theorem Inv.fresh(I:Inv X pins σ H s):H s.heap.objs.size=none:=I.au.fresh (bj _)
theorem Inv.ko(I:Inv X pins σ H s)(hH:H l\.lst xs):xs.length<=sizeLine/\∃(its:ak) (n:Nat),Vals xs its/\xs.length=its.length/\s.heap.get? l=some { cls:=.type "list",data:=.seq its.toArray n }:=by
 let#[z,its,n,r,e]:=I.au l _ hH;exact#[z,its,n,r,r.length,e]
theorem ur{n:Nat}(h:n<=sizeLine):Builtin.List.listTooLong n=false:=by
 unfold Builtin.List.listTooLong;exact dc Z1
end
section
variable{X:Cx}
inductive pG (x:V) (vs:aj) (H:Hp) (Q:VK):Prop
 |mk:∀l xs y,x=.ref l->vs=[y]->H l\.lst xs->xs.length<sizeLine->Q .non (upd H l (.lst (xs++[y])))->pG x vs H Q
theorem zR:Lm X "list.append" pG:=by
 intro pins s σ H x vs v us Q I rx rv h;let#[l,xs,y,rfl,rfl,hH,hz,q]:=h;cases rx;let#[u,rfl,ru]:=rv.one;let#[z,its,n,r,hl,e]:=I.ko hH;apply call_meets F.slot_list_append ⟨_,e,rfl⟩ F.entry_list_append (F.args_list_append_2 _ _) (PySem.list_append l its.toArray n u (by rw[cn];omega)) ⟨e,?_⟩;apply⟨.non,_,I.FP (its':=its++[u]) hH e Z2 (r.append (.cons ru .nil)) ?_,rfl,q⟩;rw[fZ,List.length_singleton];omega
inductive pE (x:V) (vs:aj) (H:Hp) (Q:VK):Prop
 |mk:∀l b xs zs,x=.ref l->vs=[.ref b]->H l\.lst xs->H b\.lst zs->xs.length+zs.length<=sizeLine->Q .non (upd H l (.lst (xs++zs)))->pE x vs H Q
theorem Ih:Lm X "list.extend" pE:=by
 intro pins s σ H x vs v us Q I rx rv h;let#[l,b,xs,zs,rfl,rfl,hH,hB,hz,q]:=h;cases rx;let#[u,rfl,ru]:=rv.one;cases ru;let#[z,its,n,r,hl,e]:=I.ko hH;let#[z2,jz,n2,r2,lR,e2]:=I.ko hB;have hsz:its.toArray.size+jz.toArray.size<=sizeLine:=by rw[cn,cn];omega
 have Gm:¬(!its.toArray.isEmpty&&Builtin.List.listTooLong (its.toArray.size+jz.toArray.size))=true:=by
  rw[ur hsz,Bool.and_false];exact gO
 apply call_meets F.slot_list_extend ⟨_,e,rfl⟩ F.entry_list_extend (F.args_list_extend_2 _ _)
  (AutoSeq1.list_extend_list_list_0 l its.toArray n b jz.toArray n2 Gm (by rw[cn];omega) Z1) ⟨e,e2,?_⟩
 apply⟨.non,_,I.FP (its':=its++jz) hH e Z2 (r.append r2) ?_,rfl,q⟩;rw[fZ];omega
inductive Fq (x:V) (y:V) (H:Hp) (Q:VK):Prop
 |mk:∀l b xs zs,x=.ref l->y=.ref b->H l\.lst xs->H b\.lst zs->xs.length+zs.length<=sizeLine->(∀p,H p=none->Q (.ref p) (upd H p (.lst (xs++zs))))->Fq x y H Q
theorem Sy:eW X (binaryOp .Add) Fq:=by
 intro pins s σ H x y v u Q I rx ry h;let#[l,b,xs,zs,rfl,rfl,hH,hB,hz,q]:=h;cases rx;cases ry;let#[z,its,n,r,hl,e]:=I.ko hH;let#[z2,jz,n2,r2,lR,e2]:=I.ko hB;apply PySem.P.add_list e e2 ?_ (by rw[cn,cn];omega);have ea:its.toArray++jz.toArray=(its++jz).toArray:=by simp
 rw[ea];exact⟨.ref _,_,I.Bo (t':=s.toks) (r.append r2) (by rw[fZ];omega),rfl,q _ I.fresh⟩
end
section
variable{prog:Ad}{w:Af}{A:Ag}{E:Aa->Ab->Prop}{s:Ab}
end
section
variable{X:Cx}
end
end L2
namespace L2
open PySem PySem.Spec PyProof.Rows
section
variable{κ:Type}[DecidableEq κ]
def br(kvs:List (κ × V))(k:κ):aV:=(kvs.find? λkv=>decide (kv.1=k)).map (·.2)
def putK(kvs:List (κ × V))(k:κ)(v:V):List (κ × V):=
 if (kvs.any λkv=>decide (kv.1=k))=true then kvs.map (λkv=>if kv.1=k then (kv.1,v) else kv) else kvs++[(k,v)]
def Cj(kvs:List (κ × V))(k:κ):List (κ × V):=kvs.filter λkv=>decide (kv.1≠k)
theorem CT{p:κ × V}{r:List (κ × V)}{k:κ}(e:p.1=k):br (p::r) k\p.2:=by simp[br,yg,e]
theorem CU{p:κ × V}{r:List (κ × V)}{k:κ}(e:¬p.1=k):br (p::r) k=br r k:=by simp[br,yg,e]
theorem Hv(k:κ):∀kvs:List (κ × V),(kvs.any λkv=>decide (kv.1=k))=(br kvs k).isSome
 |[]=>rfl
 |p::r=>by
  rw[List.any_cons];by_cases e:p.1=k
  ·simp only[CT e,cc e,Bool.true_or,Option.isSome_some]
  rw[CU e,dc e,Bool.false_or];exact Hv k r
theorem QU(kvs:List (κ × V))(k:κ)(v:V):(putK kvs k v).length<=kvs.length+1:=by
 unfold putK;split
 ·rw[aB];omega
 rw[fZ,j3,rX];omega
theorem Eo{kvs:List (κ × V)}{k:κ}(v:V)(h:br kvs k=none):putK kvs k v=kvs++[(k,v)]:=by
 unfold putK;rw[Hv,h];exact aC (by decide)
theorem eF.dN{o:aV}{u:Option Aa}(r:eF o u):o.isSome=u.isSome:=by
 cases o with
 |none=>cases u with
  |none=>rfl
  |some _=>exact (show False from r).elim
 |some _=>cases u with
  |none=>exact (show False from r).elim
  |some _=>rfl
theorem KV.val{kvs:List (κ × V)}{vs:List (κ × Aa)}(r:KV kvs vs)(k:κ):eF (br kvs k) (valueAt vs k):=by
 unfold KV at r
 induction r with
 |nil=>exact True.intro
 |@cons p q ps qs h t ih=>
  let#[h1,h2]:=h;by_cases e:p.1=k
  ·have e':q.1=k:=h1.symm.trans e;have b:valueAt (q::qs) k\q.2:=by simp[valueAt,yg,e']
   rw[CT e,b];exact h2
  have e':¬q.1=k:=λz=>e (h1.trans z);have b:valueAt (q::qs) k=valueAt qs k:=by simp[valueAt,yg,e']
  rw[CU e,b];exact ih
theorem KV.any{kvs:List (κ × V)}{vs:List (κ × Aa)}(r:KV kvs vs)(k:κ):(kvs.any λkv=>decide (kv.1=k))=vs.any λkv=>decide (kv.1=k):=by
 unfold KV at r
 induction r with
 |nil=>rfl
 |cons h t ih=>rw[List.any_cons,List.any_cons,ih,h.1]
theorem KV.A_{kvs:List (κ × V)}{vs:List (κ × Aa)}(r:KV kvs vs)(k:κ){y:V}{u:Aa}(ry:RelV y u) :
  KV (kvs.map λkv=>if kv.1=k then (kv.1,y) else kv) (vs.map λkv=>if kv.1=k then (kv.1,u) else kv):=by
 unfold KV at r ⊢
 induction r with
 |nil=>exact .nil
 |@cons p q ps qs h t ih=>
  rw[eV,eV];apply .cons ?_ ih;let#[h1,h2]:=h;by_cases e:p.1=k
  ·rw[aJ e,aJ (h1.symm.trans e)];exact#[h1,ry]
  rw[aC e,aC (λz=>e (h1.trans z))];exact#[h1,h2]
theorem KV.put{kvs:List (κ × V)}{vs:List (κ × Aa)}(r:KV kvs vs)(k:κ){y:V}{u:Aa}(ry:RelV y u):KV (putK kvs k y) (stored vs k u):=by
 unfold putK stored;rw[r.any k];by_cases e:(vs.any λkv=>decide (kv.1=k))=true
 ·rw[aJ e,aJ e];exact r.A_ k ry
 rw[aC e,aC e];exact Paired.snoc r #[Z,ry]
theorem KV.drop{kvs:List (κ × V)}{vs:List (κ × Aa)}(r:KV kvs vs)(k:κ):KV (Cj kvs k) (without vs k):=by
 unfold KV at r ⊢;unfold Cj without
 induction r with
 |nil=>exact .nil
 |@cons p q ps qs h t ih=>
  let#[h1,h2]:=h;rw[List.filter_cons,List.filter_cons];by_cases e:p.1=k
  ·have a:¬decide (p.1≠k)=true:=by simp[e]
   have b:¬decide (q.1≠k)=true:=by simp[h1.symm.trans e]
   rw[aC a,aC b];exact ih
  have e':¬q.1=k:=λz=>e (h1.trans z);have a:decide (p.1≠k)=true:=by simp[e]
  have b:decide (q.1≠k)=true:=by simp[e']
  rw[aJ a,aJ b];exact .cons #[h1,h2] ih
theorem KV.keys{kvs:List (κ × V)}{vs:List (κ × Aa)}(r:KV kvs vs):kvs.map (·.1)=vs.map (·.1):=by
 unfold KV at r
 induction r with
 |nil=>rfl
 |cons h t ih=>rw[eV,eV,ih,h.1]
theorem KV.length{kvs:List (κ × V)}{vs:List (κ × Aa)}(r:KV kvs vs):kvs.length=vs.length:=bS r
theorem iH_(kvs:List (κ × V))(k:κ):(Cj kvs k).length<=kvs.length:=List.length_filter_le _ _
end
theorem v_{P:Ad}{w:Af}{k:Key}{u:Aa}(r:RelV (kV k) u):(d_ P w).is k u=true:=by
 cases k with
 |inl i=>let#[t,e]:=(show ∃t,u=Value.int i t from r);subst e;exact f2_ P w i t
 |inr x=>let#[t,e]:=(show ∃t,u=Value.str x t from r);subst e;exact QW P w x t
theorem Vg{P:Ad}{w:Af}:∀{ks:ax} {us:ak},Vals (ks.map kV) us->ItemsAre (d_ P w) ks us
 |[],_,r=>by rw[List.map_nil] at r;cases r;exact .nil
 |k::ks,_,r=>by
  rw[eV] at r;cases r with
  |cons h t=>exact .cons (v_ h) (Vg t)
abbrev KT(H:Hp):List (ax × V)->List (ax × Addr × Aa)->Prop:=Paired λp q=>p.1=q.1/\H q.2.1\.tup (p.1.map kV)/\RelV p.2 q.2.2
theorem KT.val{H:Hp}{kvs:List (ax × V)}{xs:List (ax × Addr × Aa)}(r:KT H kvs xs)(k:ax):eF (br kvs k) ((atKey xs k).map (·.2)):=by
 induction r with
 |nil=>exact True.intro
 |@cons p q ps qs h t ih=>
  let#[h1,_,h2]:=h;by_cases e:p.1=k
  ·have e':q.1=k:=h1.symm.trans e;have b:atKey (q::qs) k\q.2:=by simp[atKey,yg,e']
   rw[CT e,b];exact h2
  have e':¬q.1=k:=λz=>e (h1.trans z);have b:atKey (q::qs) k=atKey qs k:=by simp[atKey,yg,e']
  rw[CU e,b];exact ih
theorem KT.A_{H:Hp}{kvs:List (ax × V)}{xs:List (ax × Addr × Aa)}(r:KT H kvs xs)(k:ax){y:V}{u:Aa}(ry:RelV y u) :
  KT H (kvs.map λkv=>if kv.1=k then (kv.1,y) else kv) (xs.map (putAt k u)):=by
 induction r with
 |nil=>exact .nil
 |@cons p q ps qs h t ih=>
  rw[eV,eV];apply .cons ?_ ih;let#[h1,h2,h3]:=h;unfold putAt;by_cases e:p.1=k
  ·rw[aJ e,aJ (h1.symm.trans e)];exact#[h1,h2,ry]
  rw[aC e,aC (λz=>e (h1.trans z))];exact#[h1,h2,h3]
theorem KT.put{H:Hp}{kvs:List (ax × V)}{xs:List (ax × Addr × Aa)}(r:KT H kvs xs)(k:ax){b:Addr}{y:V}{u:Aa}(hb:H b\.tup (k.map kV))(ry:RelV y u) :
  KT H (putK kvs k y) (storedH xs k b u):=by
 have e:(kvs.any λkv=>decide (kv.1=k))=(atKey xs k).isSome:=by
  rw[Hv,(r.val k).dN,Option.isSome_map]
 unfold putK storedH;rw[e];by_cases q:(atKey xs k).isSome=true
 ·rw[aJ q,aJ q];exact r.A_ k ry
 rw[aC q,aC q];exact Paired.snoc r #[Z,hb,ry]
theorem KT.keeps{H H':Hp}{kvs:List (ax × V)}{xs:List (ax × Addr × Aa)}(r:KT H kvs xs)(ht:∀b ys,H b\.tup ys->H' b\.tup ys):KT H' kvs xs:=
 Paired.bC r λ_ _ z=>#[z.1,ht _ _ z.2.1,z.2.2]
section
variable{P:Ad}{w:Af}{H:Hp}{h:Heap}{a:Addr}
theorem Sa{u:HO}(ok:cO P w H h)(e:Rd H a u):d9 P w H h a u:=e.ok ok
theorem oq{kvs:List (Key × V)}(ok:cO P w H h)(e:Rd H a (.dK kvs)):kvs.length<=sizeLine/\(a == sysModules)=false/\∃vs,KV kvs vs/\h.DictOf (d_ P w) a vs:=
 show d9 P w H h a (.dK kvs) from Sa ok e
theorem zD{kvs:List (Key × V)}(ok:cO P w H h)(e:H a\.dK kvs):kvs.length<=sizeLine/\(a == sysModules)=false/\∃vs,KV kvs vs/\h.DictOf (d_ P w) a vs:=oq ok (.inl e)
theorem D9{ks:ax}(ok:cO P w H h)(e:H a\.tup (ks.map kV)):(tupleKind (d_ P w)).is h ks a:=by
 let#[_,its,r,#[o,h1,h2,n,h3],_]:=(show d9 P w H h a (.tup (ks.map kV)) from ok a _ e);exact#[o,its.toArray,n,h1,h2,h3,by simpa using Vg r]
theorem DN{kvs:List (ax × V)}(ok:cO P w H h)(e:Rd H a (.dT kvs)):kvs.length<=sizeLine/\(a == sysModules)=false /\
  ∃xs,KT H kvs xs/\h.DictOfH (tupleKind (d_ P w)) a xs:=by
 let#[z,y,xs,r,o,es,ep,h1,h2,h3,h4,h5]:=(show d9 P w H h a (.dT kvs) from Sa ok e);apply#[z,y,xs,r,o,es,ep,h1,h2,h3,h4,λx hx=>?_,h5]
 have all:∀{l:List (ax × V)} {m:List (ax × Addr × Aa)},KT H l m->∀x∈m,(tupleKind (d_ P w)).is h x.1 x.2.1:=by
  intro l m q
  induction q with
  |nil=>intro x hx;exact nomatch hx
  |@cons p q ps qs hq t ih=>
   intro x hx;rcases bW.mp hx with e|hx
   ·subst e;exact D9 ok (by rw[<- hq.1];exact hq.2.1)
   exact ih x hx
 exact all r x hx
theorem _b{kvs:List (ax × V)}(ok:cO P w H h)(e:H a\.dT kvs):kvs.length<=sizeLine/\(a == sysModules)=false /\
  ∃xs,KT H kvs xs/\h.DictOfH (tupleKind (d_ P w)) a xs:=DN ok (.inl e)
end
def gC(H:Hp)(a:Addr)(y:V)(r:aV):Prop:=
 (∃kvs k,Rd H a (.dK kvs)/\y=kV k/\r=br kvs k)∨∃kvs k b,Rd H a (.dT kvs)/\y=.ref b/\H b\.tup (k.map kV)/\r=br kvs k
def qY(H:Hp)(a:Addr)(y v:V)(H':Hp):Prop:=
 (∃kvs k,H a\.dK kvs/\y=kV k/\kvs.length<sizeLine/\H'=upd H a (.dK (putK kvs k v))) ∨
 ∃kvs k b,H a\.dT kvs/\y=.ref b/\H b\.tup (k.map kV)/\kvs.length<sizeLine/\H'=upd H a (.dT (putK kvs k v))
theorem gC.k{H:Hp}{a:Addr}{kvs:List (Key × V)}{k:Key}(e:H a\.dK kvs):gC H a (kV k) (br kvs k):=.inl #[kvs,k,.inl e,Z,Z]
theorem gC.t{H:Hp}{a b:Addr}{kvs:List (ax × V)}{k:ax}(e:H a\.dT kvs)(eb:H b\.tup (k.map kV)):gC H a (.ref b) (br kvs k):=.inr #[kvs,k,b,.inl e,Z,eb,Z]
theorem qY.k{H:Hp}{a:Addr}{kvs:List (Key × V)}{k:Key}{v:V}(e:H a\.dK kvs)(hl:kvs.length<sizeLine):qY H a (kV k) v (upd H a (.dK (putK kvs k v))):=.inl #[kvs,k,e,Z,hl,Z]
theorem qY.t{H:Hp}{a b:Addr}{kvs:List (ax × V)}{k:ax}{v:V}(e:H a\.dT kvs)(eb:H b\.tup (k.map kV))(hl:kvs.length<sizeLine) :
  qY H a (.ref b) v (upd H a (.dT (putK kvs k v))):=.inr #[kvs,k,b,e,Z,eb,hl,Z]
section
variable{X:Cx}{pins:List (Addr × Obj)}{σ:St}{H:Hp}{s:Ab}{a:Addr}{y v:V}{u r:Aa}{o:aV}{A:Ag}{E:Aa->Ab->Prop}
theorem Inv.big(I:Inv X pins σ H s):sysModules<s.heap.objs.size:=by
 have h:mainGlobals<s.heap.objs.size:=(I.mod.glob.keeps I.bk).lt;exact Nat.lt_trans (by decide) h
theorem hn_{Q:Aa->Ab->Prop}(hu:A.units+1<cLine)(I:Inv X pins σ H s)(g:gC H a y (some v))(ry:RelV y u)(h:∀w' s',Inv X pins σ H s'->RelV v w'->Q w' s') :
  wpAny (model X.prog X.w) A (getItem (.ref a) u) Q E s:=by
 rcases g with⟨kvs,k,e,ey,l⟩|⟨kvs,k,b,e,ey,eb,l⟩
 ·subst ey;let#[z,hd,vs,rel,dd]:=oq I.au e;let#[w',hw,gI]:=eF.some_of (v:=v) (o:=valueAt vs k) (by rw[l];exact rel.val k);exact wpAny_getItem_of (v_ ry) dd.mapOf hw (h w' _ (I.tok _) gI)
 subst ey;cases (show u=Value.ref b from ry);let#[z,hd,xs,rel,dd]:=DN I.au e;let#[w',hw,gI]:=eF.some_of (v:=v) (o:=(atKey xs k).map (·.2)) (by rw[l];exact rel.val k);let#[p,hp,pM]:=Option.map_eq_some_iff.mp hw;apply wpAny_getItem_heap (tupleKind_room_in1 hu) (D9 I.au eb) dd hp ?_;rw[pM];exact h w' _ (I.tok _) gI
theorem O_{Q:Aa->Ab->Prop}(hu:A.units+1<cLine)(I:Inv X pins σ H s)(g:gC H a y o)(ry:RelV y u)(h:∀s',Inv X pins σ H s'->Q (.bool o.isSome) s') :
  wpAny (model X.prog X.w) A (compareOp .In u (.ref a)) Q E s:=by
 rcases g with⟨kvs,k,e,ey,l⟩|⟨kvs,k,b,e,ey,eb,l⟩
 ·subst ey;let#[z,hd,vs,rel,dd]:=oq I.au e;apply wpAny_in_of (v_ ry) hd dd.mapOf ?_;rw[<- (rel.val k).dN,<- l];exact h _ (I.tok _)
 subst ey;cases (show u=Value.ref b from ry);let#[z,hd,xs,rel,dd]:=DN I.au e;apply wpAny_in_heap (tupleKind_room_in1 hu) (D9 I.au eb) hd dd ?_;let q:=(rel.val k).dN;rw[Option.isSome_map] at q;rw[<- q,<- l];exact h _ (I.tok _)
theorem _A{Q:Aa->Ab->Prop}(hu:A.units+1<cLine)(I:Inv X pins σ H s)(g:gC H a y o)(ry:RelV y u)(h:∀s',Inv X pins σ H s'->Q (.bool (!o.isSome)) s') :
  wpAny (model X.prog X.w) A (compareOp .NotIn u (.ref a)) Q E s:=by
 rcases g with⟨kvs,k,e,ey,l⟩|⟨kvs,k,b,e,ey,eb,l⟩
 ·subst ey;let#[z,hd,vs,rel,dd]:=oq I.au e;apply wpAny_notIn_of (v_ ry) hd dd.mapOf ?_;rw[<- (rel.val k).dN,<- l];exact h _ (I.tok _)
 subst ey;cases (show u=Value.ref b from ry);let#[z,hd,xs,rel,dd]:=DN I.au e;apply wpAny_notIn_heap (tupleKind_room_in1 hu) (D9 I.au eb) hd dd ?_;let q:=(rel.val k).dN;rw[Option.isSome_map] at q;rw[<- q,<- l];exact h _ (I.tok _)
theorem HY{h':Heap}{t':Nat}{ob:HO}(I:Inv X pins σ H s)(mu:II (H a))(hs:Heap.SameBut a s.heap h')(he:∃q,h'.get? a\q)(new:d9 X.prog X.w (upd H a ob) h' a ob) :
  Inv X pins σ (upd H a ob) { s with heap:=h',toks:=t' }:=
 I.write (x:=a) (e:=a) mu (.inl Z) (λb q hb z=>(hs.2 b hb).trans z) he new
theorem J2{P:Ad}{w:Af}{H':Hp}{h':Heap}{kvs:List (Key × V)}{vs:List (Key × Aa)}(z:kvs.length<=sizeLine)(hd:(a == sysModules)=false)(rel:KV kvs vs)(dd:h'.DictOf (d_ P w) a vs) :
  d9 P w H' h' a (.dK kvs):=#[z,hd,vs,rel,dd]
theorem gC_{H':Hp}{Q:Unit->Ab->Prop}(hu:A.units+1<cLine)(I:Inv X pins σ H s)(g:qY H a y v H')(ry:RelV y u)(rv:RelV v r)(h:∀s',Inv X pins σ H' s'->Q () s') :
  wpAny (model X.prog X.w) A (setItem (.ref a) u r) Q E s:=by
 rcases g with⟨kvs,k,e,ey,l,eH⟩|⟨kvs,k,b,e,ey,eb,l,eH⟩
 ·subst ey eH;let#[z,hd,vs,rel,dd]:=zD I.au e;have hz:vs.length<=sizeLine:=by rw[<- rel.length];exact z
  have hl:(putK kvs k v).length<=sizeLine:=by have:=QU kvs k v;omega
  apply wpAny_setItem_pairs (hsz:=hz) (v_ ry) dd λh' vg hs=>h _ ?_;have he:∃q,h'.get? a\q:=let #[q,_,_,hq,_]:=vg;#[q,hq];exact HY I (by rw[e];exact True.intro) hs he (J2 hl hd (rel.put k rv) vg)
 subst ey eH;cases (show u=Value.ref b from ry);let#[z,hd,xs,rel,dd]:=_b I.au e;have hz:xs.length<=sizeLine:=by rw[<- bS rel];exact z
 have hl:(putK kvs k v).length<=sizeLine:=by have:=QU kvs k v;omega
 apply wpAny_setItem_heap (hsz:=hz) (tupleKind_room_in1 hu) (D9 I.au eb) dd λh' vg hs=>h _ ?_;let#[q,es,ep,hq,h2,h3,h4,_,h5]:=vg;apply HY I (by rw[e];exact True.intro) hs #[q,hq] #[hl,hd,_,(rel.put k eb rv).keeps λc ys ec=>?_,q,es,ep,hq,h2,h3,h4,h5];rw[aF (cj ec e nofun)];exact ec
end
section
variable{X:Cx}{pins:List (Addr × Obj)}{σ:St}{H:Hp}{s:Ab}{a:Addr}{kvs:List (Key × V)}{k:Key}{u:Aa}{A:Ag}{E:Aa->Ab->Prop}
theorem _c{v:V}{more:ak}{Q:Aa->Ab->Prop}(I:Inv X pins σ H s)(e:H a\.dK kvs)(ry:RelV (kV k) u)(l:br kvs k\v)(hm:more=[]∨∃x,more=[x])
  (h:∀w' s',Inv X pins σ (upd H a (.dK (Cj kvs k))) s'->RelV v w'->Q w' s'):wpAny (model X.prog X.w) A (call (.builtin "dict.pop") (.ref a::u::more)) Q E s:=by
 let#[z,hd,vs,rel,dd]:=zD I.au e;let#[w',hw,gI]:=eF.some_of (v:=v) (o:=valueAt vs k) (by rw[<- l];exact rel.val k)
 have hp:(keyPart u).isSome=true:=by
  cases k with
  |inl i=>let#[t,q]:=(show ∃t,u=Value.int i t from ry);subst q;rfl
  |inr x=>let#[t,q]:=(show ∃t,u=Value.str x t from ry);subst q;rfl
 have ha:argsOk "dict.pop" #[.ref a::u::more,[]]:=by
  rcases hm with q|⟨x,q⟩
  ·subst q;exact PySem.F.args_dict_pop_2 _ _
  subst q;exact PySem.F.args_dict_pop_3 _ _ _
 apply call_meetsIn PySem.F.slot_dict_pop dd.typeIs PySem.F.entry_dict_pop ha (meets_dict_pop_there (d_ X.prog X.w) a (v_ ry) more hm hp)
  #[vs,w',dd,by rw[<- rel.length];exact z,hw,λh' vg hs=>h w' _ ?_ gI]
 have he:∃q,h'.get? a\q:=let #[q,_,_,hq,_]:=vg;#[q,hq];exact HY I (by rw[e];exact True.intro) hs he (J2 (oG (iH_ kvs k) z) hd (rel.drop k) vg)
theorem _a{Q:Aa->Ab->Prop}(I:Inv X pins σ H s)(e:Rd H a (.dK kvs))(h:∀t s',Inv X pins σ H s'->Q (.int kvs.length t) s'):wpAny (model X.prog X.w) A (call (.builtin "len") [.ref a]) Q E s:=by
 let#[z,hd,vs,rel,dd]:=oq I.au e;apply call_len_dict hd dd (by rw[<- rel.length];rw[cm] at z;omega) ?_;rw[<- rel.length];exact h _ _ (I.tok _)
end
def yl(i:Expr):Prop:=∀ov iv,subscripted i false ov iv=operate [ov,iv] (getItem ov iv)
theorem Os{prog:Ad}{w:Af}{A:Ag}{E:Aa->Ab->Prop}{s:Ab}{env:Env}{value slice:Expr}{pos:Pos}{T id:String}{Q:Aa->Ab->Prop}
  (hl:typeLookup (.type T) "__getitem__"=pure (some (.builtin id))) (hs:yl slice)
  (h:wpAny (model prog w) A (eval value env) (λo aY=>wpAny (model prog w) A (eval slice env) (λi fP=>fP.TypeIs o T/\wpAny (model prog w) A (getItem o i) Q E fP) E aY) E s) :
  wpAny (model prog w) A (eval (.Subscript value slice pos) env) Q E s:=by
 apply Subscript_ (iM h (λo aY aU=>iM aU (λi fP jA=>?_) λ_ _ x=>x) λ_ _ x=>x);let#[hT,jA]:=jA;unfold subscriptTail;apply ao ?_;rw[getitemInPython_of_ne hT.not_modules];apply ao (wpAny_specialOf hT hl ?_)
 have fin:wpAny (model prog w) A (subscripted slice false o i) (λr wQ=>wpAny (model prog w) A (letTemporaryGo value o r >>= λ_=>pure r) Q E wQ) E fP:=by
  rw[hs o i];exact wpAny_operating (iM jA (λr wQ uK=>ao (wpAny_letTemporaryGo (aP uK))) λ_ _ x=>x)
 first
  |exact aP (ao fin)
  |exact ao (aP (ao fin))
  |exact ao fin
theorem fe_{X:Cx}{pins:List (Addr × Obj)}{σ:St}{H:Hp}{s:Ab}{a:Addr}{y:V}{o:aV}(I:Inv X pins σ H s)(g:gC H a y o):s.TypeIs (.ref a) "dict":=by
 rcases g with⟨kvs,k,e,_,_⟩|⟨kvs,k,b,e,_,_,_⟩
 ·let#[_,_,vs,_,dd]:=oq I.au e;exact dd.typeIs
 let#[_,_,xs,_,dd]:=DN I.au e;exact dd.typeIs
inductive sJ (Q:VK) (x:V) (y:V) (H2:Hp):Prop
 |mk:∀a v,x=.ref a->gC H2 a y (some v)->Q v H2->sJ Q x y H2
def EY(td ty:TE):TE:=λσ H Q=>td σ H λx H1=>ty σ H1 λy H2=>sJ Q x y H2
inductive yD (Q:VK) (y:V) (x:V) (H2:Hp):Prop
 |mk:∀a o,x=.ref a->gC H2 a y o->Q (.bl o.isSome) H2->yD Q y x H2
def LO(ty td:TE):TE:=λσ H Q=>ty σ H λy H1=>td σ H1 λx H2=>yD Q y x H2
inductive Va (Q:VK) (y:V) (x:V) (H2:Hp):Prop
 |mk:∀a o,x=.ref a->gC H2 a y o->Q (.bl (!o.isSome)) H2->Va Q y x H2
def wO(ty td:TE):TE:=λσ H Q=>ty σ H λy H1=>td σ H1 λx H2=>Va Q y x H2
inductive tY (D:Ends) (σ:St) (v:V) (x:V) (y:V) (H3:Hp):Prop
 |mk:∀a H4,x=.ref a->qY H3 a y v H4->D.nx σ H4->tY D σ v x y H3
def Fb(td ty tv:TE):TS:=λD σ H=>tv σ H λv H1=>td σ H1 λx H2=>ty σ H2 λy H3=>tY D σ v x y H3
section
variable{X:Cx}{o i e value:Expr}{pos pos' EI:Pos}{td ty tv:TE}
theorem mi(hu:X.A.units+1<cLine)(ho:PE X o td)(hi:PE X i ty)(hs:yl i:=by exact λ_ _=>rfl):PE X (.Subscript o i pos) (EY td ty):=by
 intro pins s σ H Q I h;apply Os PySem.F.slot_dict_getitem.lookup hs (aQ (ho pins s σ H _ I h) λu s1 ⟨x,H1,I1,rx,q1⟩=>aQ (hi pins s1 σ H1 _ I1 q1) λiv s2 ⟨y,H2,I2,ry,a,v,ex,g,q2⟩=>?_);subst ex;obtain rfl:u=Value.ref a:=rx;exact#[fe_ I2 g,hn_ hu I2 g ry λw' s3 I3 gI=>#[v,H2,I3,gI,q2]]
theorem D7(hu:X.A.units+1<cLine)(hi:PE X i ty)(ho:PE X o td):PC X .In i o (LO ty td):=by
 intro pins s σ H Q I h;apply aQ (hi pins s σ H _ I h) λiv s1 ⟨y,H1,I1,ry,q1⟩=>aQ (ho pins s1 σ H1 _ I1 q1) λu s2 ⟨x,H2,I2,rx,a,ov,ex,g,q2⟩=>?_;subst ex;obtain rfl:u=Value.ref a:=rx;exact O_ hu I2 g ry λs3 I3=>#[.bl ov.isSome,H2,I3,Z,q2]
theorem Vc(hu:X.A.units+1<cLine)(hi:PE X i ty)(ho:PE X o td):PC X .NotIn i o (wO ty td):=by
 intro pins s σ H Q I h;apply aQ (hi pins s σ H _ I h) λiv s1 ⟨y,H1,I1,ry,q1⟩=>aQ (ho pins s1 σ H1 _ I1 q1) λu s2 ⟨x,H2,I2,rx,a,ov,ex,g,q2⟩=>?_;subst ex;obtain rfl:u=Value.ref a:=rx;exact _A hu I2 g ry λs3 I3=>#[.bl (!ov.isSome),H2,I3,Z,q2]
theorem wu(hu:X.A.units+1<cLine)(ho:PE X o td)(hi:PE X i ty)(hv:PE X value tv)(hs:swapsWith value (some (.Subscript o i pos')) pos.line X.env=pure false) :
  PS X (.Assign [.Subscript o i pos'] value pos) (Fb td ty tv):=by
 intro pins s σ H D I h;apply wpAny_Assign_Subscript (aQ (hv pins s σ H _ I h) λr s1 ⟨v,H1,I1,rv,q1⟩=>aQ (ho pins s1 σ H1 _ I1 q1) λu s2 ⟨x,H2,I2,rx,q2⟩=>aQ (hi pins s2 σ H2 _ I2 q2) λiv s3 ⟨y,H3,I3,ry,a,H4,ex,g,q3⟩=>?_) hs;subst ex;obtain rfl:u=Value.ref a:=rx;exact gC_ hu I3 g ry rv λs4 I4=>#[σ,H4,I4,q3]
end
theorem jv_{P:Ad}{w:Af}{H:Hp}(h:Heap)(hb:sysModules<h.objs.size):d9 P w H (h.push { cls:=.type "dict",data:=.dict #[] }) h.objs.size (.dK []):=
 #[hG _,beq_eq_false_iff_ne.mpr (Ne.symm (dB hb)),[],.nil,Heap.DictOf.new h]
theorem iP_{P:Ad}{w:Af}{H:Hp}(h:Heap)(hb:sysModules<h.objs.size):d9 P w H (h.push { cls:=.type "dict",data:=.dict #[] }) h.objs.size (.dT []):=
 #[hG _,beq_eq_false_iff_ne.mpr (Ne.symm (dB hb)),[],.nil,_,#[],0,dU _ Z,#[Z,Z,Z],Z,Z,List.nodup_nil]
def Ax:TE:=λ_ H Q=>∀p,H p=none->Q (.ref p) (upd H p (.dK []))
def Av:TE:=λ_ H Q=>∀p,H p=none->Q (.ref p) (upd H p (.dT []))
section
variable{X:Cx}{pos:Pos}
theorem H_:PE X (.Dict [] [] pos) Ax:=λpins s σ H Q I h=>
 wpAny_Dict_empty #[.ref s.heap.objs.size,_,I.laid (a:=s.heap.objs.size) (o:=.dK []) (t':=s.toks) (λ_ _ q=>bQ _ q) (bj _) (jv_ s.heap I.big),Z,h _ (I.au.fresh (bj _))]
theorem jj_:PE X (.Dict [] [] pos) Av:=λpins s σ H Q I h=>
 wpAny_Dict_empty #[.ref s.heap.objs.size,_,I.laid (a:=s.heap.objs.size) (o:=.dT []) (t':=s.toks) (λ_ _ q=>bQ _ q) (bj _) (iP_ s.heap I.big),Z,h _ (I.au.fresh (bj _))]
end
def Cv(kvs more:List (Key × V)):List (Key × V):=more.foldl (λacc kv=>putK acc kv.1 kv.2) kvs
theorem Wl:∀(more kvs:List (Key × V)),(Cv kvs more).length<=kvs.length+more.length
 |[],kvs=>by show kvs.length<=kvs.length+0;omega
 |p::r,kvs=>by
  let h1:=Wl r (putK kvs p.1 p.2);let h2:=QU kvs p.1 p.2;show (Cv (putK kvs p.1 p.2) r).length<=_;rw[j3];omega
structure M1 (X:Cx) (o:Expr) (m:Str) (apos:Pos) (e:Expr) (bu:Pos):Prop where
 base:attributeBase o m X.env (eval o X.env)=eval o X.env
 Uj:((backTo bu (starEach [e] X.env)).all (λx=>!x.1)&&(backToKw bu (keywordEach [] X.env)).all (λx=>x.1.isSome)
  && decide (([e]:List Expr).length+([]:List Keyword).length+(if ([]:List Keyword).isEmpty then 0 else 1)<30))=true
 line:(apos.endLine == bu.line)=true
 trees:backTo bu (starEach [e] X.env)=[(false,eval e X.env)]
structure M2 (X:Cx) (o:Expr) (m:Str) (apos:Pos) (e f:Expr) (bu:Pos):Prop where
 base:attributeBase o m X.env (eval o X.env)=eval o X.env
 Uj:((backTo bu (starEach [e,f] X.env)).all (λx=>!x.1)&&(backToKw bu (keywordEach [] X.env)).all (λx=>x.1.isSome)
  && decide (([e,f]:List Expr).length+([]:List Keyword).length+(if ([]:List Keyword).isEmpty then 0 else 1)<30))=true
 line:(apos.endLine == bu.line)=true
 trees:backTo bu (starEach [e,f] X.env)=[(false,eval e X.env),(false,eval f X.env)]
def Wz(H:Hp)(a:Addr):Prop:=(∃kvs,Rd H a (.dK kvs))∨∃kvs,Rd H a (.dT kvs)
theorem Oe{X:Cx}{pins:List (Addr × Obj)}{σ:St}{H:Hp}{s:Ab}{a:Addr}(I:Inv X pins σ H s)(d:Wz H a) :
  s.TypeIs (.ref a) "dict"/\(∀b,Value.ref a=.ref b->∃ob,s.heap.get? b\ob/\ob.dict=none)/\(a == sysModules)=false:=by
 rcases d with⟨kvs,e⟩|⟨kvs,e⟩
 ·let#[_,hd,vs,_,dd]:=oq I.au e;apply#[dd.typeIs,λb q=>?_,hd];cases q;let#[ob,_,_,h1,h2,_]:=dd;exact#[ob,h1,h2.2.1]
 let#[_,hd,xs,_,dd]:=DN I.au e;apply#[dd.typeIs,λb q=>?_,hd];cases q;let#[ob,_,_,h1,h2,_]:=dd;exact#[ob,h1,h2.2.1]
section
variable{X:Cx}{pins:List (Addr × Obj)}{σ:St}{H:Hp}{s:Ab}{a:Addr}{y d:V}{u r:Aa}{o:aV}{A:Ag}{E:Aa->Ab->Prop}
end
def Au(td ty:TE):TE:=λσ H Q=>td σ H λx H1=>∃a,x=.ref a/\Wz H1 a/\ty σ H1 λy H2=>∃kvs k v,H2 a\.dK kvs/\y=kV k/\br kvs k\v/\Q v (upd H2 a (.dK (Cj kvs k)))
section
variable{X:Cx}{o e f:Expr}{apos bu:Pos}{td ty tx:TE}
theorem Uy(ho:PE X o td)(he:PE X e ty)(m:M1 X o "pop" apos e bu):PE X (.Call (.Attribute o "pop" apos) [e] [] bu) (Au td ty):=by
 intro pins s σ H Q I h;apply wpAny_Call_method m.base m.Uj m.line PySem.F.plainAttrs_dict PySem.F.slot_dict_pop PySem.F.type_dict_pop (aQ (ho pins s σ H _ I h) λu s1 ⟨x,H1,I1,rx,a,ex,d,q1⟩=>?_);subst ex;obtain rfl:u=Value.ref a:=rx;let#[t1,t2,_]:=Oe I1 d;apply#[t1,t2,?_];rw[m.trees];apply Calls.callWith_builtin Z (Calls.evalArgs_plain (Calls.spliced_cons (aQ (he pins s1 σ H1 _ I1 q1) λiv s2 ⟨y,H2,I2,ry,kvs,k,v,ea,ey,l,q2⟩=>Calls.spliced_nil ?_)));subst ey;exact _c I2 ea ry l (.inl Z) λw' s3 I3 gI=>#[v,_,I3,gI,q2]
end
section
variable{X:Cx}{pins:List (Addr × Obj)}{σ:St}{H:Hp}{s:Ab}{a:Addr}{kvs:List (Key × V)}{A:Ag}{E:Aa->Ab->Prop}
theorem iG_{Q:Aa->Ab->Prop}(I:Inv X pins σ H s)(e:Rd H a (.dK kvs))(h:∀p s',H p=none->Inv X pins σ (upd H p (.dK kvs)) s'->Q (.ref p) s'):wpAny (model X.prog X.w) A (call (.type "dict") [.ref a]) Q E s:=by
 let#[z,hd,vs,rel,dd]:=oq I.au e;apply kt_call_dict hd dd (by rw[<- rel.length];exact z) λh' vg hs=>?_;apply h _ _ (I.au.fresh (bj _)) (I.laid (a:=s.heap.objs.size) (o:=.dK kvs) (t':=s.toks) (λb q hq=>?_) (bj _) (J2 z (beq_eq_false_iff_ne.mpr (Ne.symm (dB I.big))) rel vg));exact (hs.2 b (dB (bN hq))).trans (bQ _ hq)
end
section
variable{X:Cx}{pins:List (Addr × Obj)}{σ:St}{H:Hp}{s:Ab}{a:Addr}{y:V}{u:Aa}{A:Ag}{E:Aa->Ab->Prop}
end
end L2
namespace WA
open PySem PySem.W PySem.Calls PyProof.Rows
theorem cV_{P:Params}{h:Heap}:∀(ns:List Int) (vs:ak),WellAll P h vs (ns.map WData.int)->IntsAre vs ns:=by
 intro ns
 induction ns with
 |nil=>
  intro vs w;rw[List.map_nil] at w;cases w;exact .nil
 |cons n ns ih=>
  intro vs w;rw[eV] at w;cases w with
  |cons a b=>
   cases a;exact .cons _ _ (ih _ b)
theorem hs_{l:OpenLaw}{n:Nat}(hn:l.most\n){P:Params}{h:Heap}{args:List WData}{vals:ak}
  (xA:l.row.toRowW.claim.pre args=true) (Nn:WellAll P h vals args) :
  ∃a vs ns,vals=[Value.ref a]/\args=[WData.list (ns.map WData.int)]/\h.get? a=some { cls:=.type "list",data:=.seq vs.toArray }/\IntsAre vs ns/\ns.length<=n:=by
 have hsh:WShape.hasAll [] args [.list .int]=true:=(pre_splitW xA).1;have hc:l.pre.holds [] { args:=args }=true:=(pre_splitW xA).2;let#[d,r,rfl,h1,h2]:=hasAllW_cons hsh;obtain rfl:=hasAllW_nil h2;let#[xs,rfl,h3]:=hasW_list h1;let#[ns,rfl]:=items_int h3
 have hlen:ns.length<=n:=by
  unfold OpenLaw.pre at hc
  have h4:(WTm.not (.lt (.lit (.int (n:Int))) (.len (.arg 0)))).holds [] { args:=[.list (ns.map .int)] }=true:=by
   let h4:=(holds_andW hc).1;rw[hn] at h4;exact h4
  let h5:=condW_of h4 (w_not (w_lt w_lit (w_len_list (w_arg Z))));rw[aB] at h5;apply Nat.le_of_not_lt λq=>?_;have q':(n:Int)<((ns.length:Nat):Int):=by omega
  first
   |(rw[cc q'] at h5;exact absurd h5 (by decide))
   |(simp at h5;omega)
 cases Nn with
 |cons w1 w2=>
  cases w2;cases w1 with
  |list ho kI=>exact#[_,_,ns,Z,Z,ho,cV_ ns _ kI,hlen]
theorem hO_(l:OpenLaw)(args:List WData):l.row.toRowW.claim.post args (.bool true) args=true:=
 postW_of (r:=l.row.toRowW) (X:=(true == true))
  (show WShape.has [] (.bool true) .bool=true by first|rfl|decide|simp[WShape.has,WShape.arms,WShape.armsAll])
  (show (WTm.eq .res (.lit (.bool true))).value [] { args:=args,res:=some (.bool true),after:=args }=some (.bool (true == true)) from w_eq_bool (w_res Z) w_lit) Z
theorem kY{l:OpenLaw}{n:Nat}{q:Ad}{loose:ae}{XP:(Str->Option Aa)->Heap->Prop}{YP:Af->Heap->Prop}{d:DefRec}
  (hn:l.most\n) (uU:d.params.defaults=[])
  (call:∀(w:Af) (cg aY:Ab) (mg mb:Str->Option Aa) (fa:Addr) (o:Obj) (pm cd doc:Aa) (a:Addr) (vs:ak) (ns:List Int),
   Ground q loose [] XP w cg mg mb aY.heap->YP w aY.heap->
   aY.heap.get? fa\o->o.data=.func (docDef d.name d.params d.body d.scope pm cd doc)->aY.heap.CodeRec cd d.name->mg d.name\.ref fa->
   aY.heap.get? a=some { cls:=.type "list",data:=.seq vs.toArray }->IntsAre vs ns->ns.length<=n->aY.gens=#[]->
   codeAny (model l.prog w) callerA (.call (.ref fa) #[[.ref a],[]]) (λr s'=>r=.ok (.ret (.bool true))/\OldK aY.heap s'.heap/\s'.os=aY.os/\AllBare s'.gens) aY) :
  WalkO q loose XP YP l.row.toRowW d [] (λf vs=>PySem.call f vs):=by
 intro w cg aY mg mb G Y fa o pm cd doc dV kV ho hd fL hD hmg hg args vals as xA hlay hrd Nn hlo;obtain rfl:dV=.none:=Dflts.none hD uU;obtain rfl:kV=.none:=Dflts.noKw hD;let#[a,vs,ns,rfl,rfl,BJ,hints,hlen]:=hs_ hn xA Nn;apply enter_call (codeAny_mono (call w cg aY mg mb fa o pm cd doc a vs ns G Y ho (fd_plain hd) fL hmg BJ hints hlen hg) λr s' hq=>?_);let#[rfl,h2,h3,h4]:=hq;exact#[.inl #[.bool true,.bool true,[],Z,λ_=>rfl,.bool true,hO_ l _,λ_=>#[List.Pairwise.nil,λ_ hm=>(nomatch hm)]],h2,h3,h4]
section
variable{prog:Ad}{w:Af}{A:Ag}{E:Aa->Ab->Prop}{s:Ab}{K:Frag}
end
end WA
namespace L2
open PySem PySem.Spec PyProof.Rows
theorem Vf:∀{vs:ak} {ns:List Int},IntsAre vs ns->Vals (ns.map V.int) vs
 |_,_,.nil=>.nil
 |_,_,.cons n t h=>.cons #[t,Z] (Vf h)
end L2
namespace L2
open PySem PySem.Spec PyProof.Rows
end L2
namespace L2
open PySem PySem.Spec PyProof.Rows
def jV(s:Stmt)(j:Nat):Stmt:=match s with
 |.ClassDef _ _ _ body _ _ _ _ _ _ _=>body.getD j (.Pass #[0,0,0,0])
 |_=>.Pass #[0,0,0,0]
def gX(s:Stmt):Ai:=match s with
 |.FunctionDef _ a _ _ _ _ _ _ _ _=>a
 |_=>{ posonlyargs:=[],args:=[],vararg:=none,kwonlyargs:=[],kw_defaults:=[],kwarg:=none,defaults:=[] }
def eY(s:Stmt):List Stmt:=match s with
 |.FunctionDef _ _ b _ _ _ _ _ _ _=>b
 |_=>[]
def aL(s:Stmt):Scope:=match s with
 |.FunctionDef _ _ _ _ _ _ sc _ _ _=>sc
 |_=>{ kind:=.function,names:=[],isGenerator:=false,isCoroutine:=false }
abbrev bc:i_:=λ_ _ _ _ _ _=>False
abbrev E0:XK:=λ_ _ _=>False
theorem kl{X:Cx}:jG bc X E0:=λ_ _ _ _ _ _ _ h=>h.elim
structure a_ (K:af) (x qual:Str) (st:Stmt) (f:Addr) (fd:Ae):Prop where
 ex:∃(oc:Aa) (od:Option Addr) (kV doc pm:Aa) (an:Option Addr) (aD ct:Aa) (iI:Array (Option Aa)),
  fd=PySem.W.fnOf x qual (gX st) (eY st) (aL st) .none kV doc pm an aD ct/\K.lookup f=some #[oc,od,.func fd,iI]/\PySem.W.codeIn K aD qual=true
 kp:PySem.W.keepIn K (.ref f)=true
section v
theorem a_.ok{x qual:Str}{st:Stmt}{f:Addr}{fd:Ae}{N ps:ae}{k:Nat}{sp:Sp}(F:a_ K x qual st f fd)(S:bq N ps (aL st))(len:∀vs H Q E,sp vs H Q E->vs.length=ps.length)
  (bR:∀(aD:Aa) (A:Ag) (outer:List Env) (s:Ab) (H:Hp) (vs:aj) (Q:VK) (E:XK),aK k (A.deeper (envOfC qual (aL st) s.heap.objs.size f aD))->sp vs H Q E->
   ∃t,ig (dP bc P w K mg base N qual (aL st) f aD A outer s H E).uo (eY st) t/\t { nx:=λ_ H'=>Q .non H',rt:=Q } (start N vs) H):!ag bc (k+1) f fd ps sp:=by
 let#[oc,od,kV,doc,pm,an,aD,ct,iI,rfl,lk,fL]:=F.ex;apply Jr lk fL S len λA outer s H vs Q E hr gn=>?_;let#[t,h,q]:=bR aD A outer s H vs Q E hr gn;exact#[t,h.uo,q]
theorem a_.bH{x qual:Str}{st:Stmt}{f:Addr}{fd:Ae}{N ps:ae}{k:Nat}{sp:Sp}(F:a_ K x qual st f fd)(S:bq N ps (aL st)) (bR:∀(aD:Aa) (A:Ag) (outer:List Env) (s:Ab) (H:Hp) (vs:aj) (Q:VK) (E:XK),aK k (A.deeper (envOfC qual (aL st) s.heap.objs.size f aD))->sp vs H Q E->
   ∃t,ig (dP bc P w K mg base N qual (aL st) f aD A outer s H E).uo (eY st) t/\t { nx:=λ_ H'=>Q .non H',rt:=Q } (start N vs) H) (len:∀vs H Q E,sp vs H Q E->vs.length=ps.length:=by intro vs H Q E h;first|(cases h;subst_vars;rfl)|(let#[rfl,_]:=h;rfl)|(let#[_,rfl,_]:=h;rfl)|(let#[_,_,rfl,_]:=h;rfl)|(let#[_,_,_,rfl,_]:=h;rfl)|(let#[_,_,_,_,rfl,_]:=h;rfl)|(let#[_,_,_,_,_,_,_,_,_,rfl,_]:=h;rfl)):!ag bc (k+1) f fd ps sp:=F.ok S len bR
theorem a_.binds{x qual:Str}{st:Stmt}{f:Addr}{fd:Ae}{ps:ae}(F:a_ K x qual st f fd)
  (h:∀(kV doc pm:Aa) (an:Option Addr) (aD ct:Aa) (us:ak),us.length=ps.length->bindArgs (PySem.W.fnOf x qual (gX st) (eY st) (aL st) .none kV doc pm an aD ct) #[us,[]]=pure (ps.zip us)):l8 K fd ps []:=by
 let#[oc,od,kV,doc,pm,an,aD,ct,iI,rfl,lk,fL]:=F.ex;exact .all (h kV doc pm an aD ct)
theorem Sq{x qual:Str}{st:Stmt}{f:Addr}{oc:Aa}{od an:Option Addr}{iI:Array (Option Aa)}{kV doc pm aD ct:Aa}(l:K.lookup f=some #[oc,od,.func (PySem.W.fnOf x qual (gX st) (eY st) (aL st) .none kV doc pm an aD ct),iI])
  (c:PySem.W.codeIn K aD qual=true) (k:PySem.W.keepIn K (.ref f)=true):a_ K x qual st f (PySem.W.fnOf x qual (gX st) (eY st) (aL st) .none kV doc pm an aD ct):=#[#[oc,od,kV,doc,pm,an,aD,ct,iI,Z,l,c],k]
end
theorem gz{A:Ag}{k:Nat}(hr:aK k A):A.units+1<cLine:=Nat.lt_of_le_of_lt (Nat.add_le_add_left (by decide:1<=64) _) hr.units
section
variable{X:Cx}
theorem pv(i:Nat){x:Str}{pos:Pos}(hN:X.N[i]? = some x:=by rfl)(hv:Q7 X.env.scope x:=by first|exact Or.inl Z|exact Or.inr (Or.inl Z)|exact Or.inr (Or.inr Z))(hd:(x == ("__debug__":Str))=false:=by decide)
  (fL:(x == ("__classdict__":Str))=false:=by decide):PE X (.Name x pos) (gg i):=_s hN hv hd fL
inductive VL (xs:aj) (H:Hp) (Q:VK):Prop
 |mk:∀a kvs,xs=[V.ref a]->H a\.dK kvs->Q (.int kvs.length) H->VL xs H Q
theorem PF:fW X (.builtin "len") VL:=by
 intro pins s σ H xs us Q I r h;let#[a,kvs,rfl,ha,q]:=h;let#[u,rfl,ru]:=vals1 r;cases ru;exact _a I (.inl ha) λt s' I'=>#[.int kvs.length,H,I',#[t,Z],q]
end
theorem aR{A B:Prop}(h:B):if false=true then A else B:=by
 rw[aC gO];exact h
theorem bK{A B:Prop}(h:A):if true=true then A else B:=by
 rw[aJ Z];exact h
theorem aO{c A B:Prop}[Decidable c](h1:c->A)(h2:¬c->B):if c then A else B:=by
 by_cases h:c
 ·rw[aJ h];exact h1 h
 rw[aC h];exact h2 h
theorem uE{c A B:Prop}[Decidable c](hc:c)(h:B):if (!decide c)=true then A else B:=by
 rw[cc hc];exact aR h
def aa(H H':Hp):Prop:=∀b o,H b\o->H' b\o
theorem aa.refl(H:Hp):aa H H:=λ_ _ h=>h
theorem aa.trans{H H1 H2:Hp}(a:aa H H1)(b:aa H1 H2):aa H H2:=λc o h=>b c o (a c o h)
theorem aa.free{H H':Hp}(e:aa H H'){l:Addr}(h:H' l=Option.none):H l=Option.none:=by
 cases q:H l with
 |none=>rfl
 |some o=>
  rw[e l o q] at h;cases h
section
variable{κ:Type}[DecidableEq κ]
theorem _I{kvs:List (κ × V)}{k:κ}{v:V}(h:br kvs k\v):k∈kvs.map (·.1):=by
 have q:(kvs.any λkv=>decide (kv.1=k))=true:=by
  rw[Hv,h]
  all_goals rfl
 let#[p,hp,e]:=List.any_eq_true.mp q;exact bD.mpr #[p,hp,ye e]
end
end L2
local macro_rules|`(%[$x,*|$_])=>do return (<-x.getElems.foldrM (λe (a:Lean.Term)=>if e.raw.isNatLit?.isSome then`(L2.hZ (L2.pv $e) $a)else`(L2.hZ $e $a)) (<-`(L2.bo)))
namespace L2
open PySem PySem.Spec PyProof.Rows
def jI(env:Env):List (Str × NameKind)->List (Str × Addr)->List (Str × Addr)
 |[],cs=>cs
 |(n,k)::r,cs=>jI env r (if k == .free then (n,(env.cells.lookup n).getD 0)::cs else cs)
theorem QT{env:Env}(f:Str × NameKind->List (Str × Addr)->Sem (ForInStep (List (Str × Addr))))
  (hf:∀n k cs,f (n,k) cs=if (k == .free)=true then (do let a <- cellOf env n;pure (.yield ((n,a)::cs))) else pure (.yield cs)) :
  ∀(names:List (Str × NameKind)) (cs:List (Str × Addr)),(∀x∈names,x.2=.free->∃c,env.cells.lookup x.1\c)->forIn names cs f=(pure (jI env names cs):Sem _)
 |[],cs,_=>by rw[List.forIn_nil];rfl
 |(n,k)::r,cs,h=>by
  rw[List.forIn_cons,hf];have hr:∀x∈r,x.2=.free->∃c,env.cells.lookup x.1\c:=λx hx=>h x (dZ _ hx);unfold jI;by_cases hk:(k == NameKind.free)=true
  ·let#[c,hc]:=h (n,k) eZ ⇑hk;have hc:env.cells.lookup n\c:=hc;rw[aJ hk,aJ hk];have e:cellOf env n=pure c:=by unfold cellOf;rw[hc]
   rw[e];simp only[pure_bind];rw[QT f hf r _ hr,hc];rfl
  rw[aC hk,aC hk];simp only[pure_bind];exact QT f hf r _ hr
theorem Wk{scope:Scope}{env:Env}(h:∀x∈scope.names,x.2=.free->∃c,env.cells.lookup x.1\c):closureFor scope env=pure (jI env scope.names []):=by
 simp only[closureFor];rw[QT (env:=env) _ (λn k cs=>by by_cases hk:(k == NameKind.free)=true<;>simp[hk]) scope.names [] h]
 simp only[pure_bind]
theorem VE{env:Env}:∀{names:List (Str × NameKind)} {cs:List (Str × Addr)} {x:Str} {c:Addr},(x,c)∈jI env names cs->(x,c)∈cs∨((x,NameKind.free)∈names/\c=(env.cells.lookup x).getD 0)
 |[],cs,x,c,h=>.inl h
 |(n,k)::r,cs,x,c,h=>by
  unfold jI at h;rcases VE h with h|⟨h,e⟩
  ·by_cases hk:(k == NameKind.free)=true
   ·rw[aJ hk] at h;rcases bW.mp h with q|q
    ·cases q;have:k=.free:=⇑hk
     subst this;exact .inr #[eZ,Z]
    exact .inl q
   rw[aC hk] at h;exact .inl h
  exact .inr #[dZ _ h,e]
theorem PQ{env:Env}:∀{names:List (Str × NameKind)} {cs:List (Str × Addr)} {x:Str},(x,NameKind.free)∈names∨(∃c,(x,c)∈cs)->∃c,(x,c)∈jI env names cs
 |[],cs,x,h=>by
  rcases h with h|h
  ·cases h
  ·exact h
 |(n,k)::r,cs,x,h=>by
  unfold jI;apply PQ ?_;rcases h with h|⟨c,h⟩
  ·rcases bW.mp h with e|h
   ·cases e;exact .inr #[(env.cells.lookup n).getD 0,by rw[aJ (by decide)];exact eZ]
   exact .inl h
  apply .inr #[c,?_];split
  ·exact dZ _ h
  exact h
theorem QQ:∀(names:List (Str × NameKind)) (n:Nat) (acc cl:List (Str × Addr)),cellsFrom n names (acc++cl)=cellsFrom n names acc++cl
 |[],_,_,_=>rfl
 |(x,k)::r,n,acc,cl=>by
  unfold cellsFrom;split
  ·exact QQ r (n+1) ((x,n)::acc) cl
  exact QQ r n acc cl
theorem QR:∀{names:List (Str × NameKind)} {n:Nat} {acc:List (Str × Addr)} {x:Str} {c:Addr},(x,c)∈cellsFrom n names acc->(x,c)∈acc∨(x,NameKind.cell)∈names
 |[],_,_,_,_,h=>.inl h
 |(y,k)::r,n,acc,x,c,h=>by
  unfold cellsFrom at h;by_cases hk:(k == NameKind.cell)=true
  ·rw[aJ hk] at h;rcases QR h with h|h
   ·rcases bW.mp h with e|h
    ·cases e;have:k=.cell:=⇑hk
     subst this;exact .inr eZ
    exact .inl h
   exact .inr (dZ _ h)
  rw[aC hk] at h;rcases QR h with h|h
  ·exact .inl h
  exact .inr (dZ _ h)
theorem QS{α:Type}:∀{l:List (Str × α)} {x:Str} {c:α},(x,c)∈l->∃c',l.lookup x\c'
 |(k,v)::r,x,c,h=>by
  rw[qV];cases hb:x == k with
  |true=>exact#[v,Z]
  |false=>
   rcases bW.mp h with e|h
   ·cases e;simp at hb
   exact QS h
def kP(scope:Scope)(C:Addr)(env:Env):Env:=
 { scope:=relabel scope env,locals:=C,globals:=env.globals,cells:=cellsFrom (C+1) scope.names (jI env scope.names []),qual:=env.qual,func:=none,code:=env.code,frame:=env.frame,builtins:=env.builtins }
theorem V_{M:Model}{A:Ag}{E:Aa->Ab->Prop}{s:Ab}{scope:Scope}{cl:List (Str × Addr)}{env:Env}{Q:Env->Ab->Prop}
  (h:Q { scope:=scope,locals:=s.heap.objs.size,globals:=env.globals,cells:=cellsFrom (s.heap.objs.size+1) scope.names cl,qual:=env.qual,func:=none,code:=env.code,frame:=env.frame,builtins:=env.builtins }
   { s with heap:=pushCells (s.heap.push { cls:=.type "dict",data:=.dict #[] }) scope.names }) :
  wpAny M A (newFunctionEnv scope env.globals cl [] env.qual none .none (some env)) Q E s:=by
 simp only[newFunctionEnv,Option.isSome_some,if_true];apply ao (wpAny_alloc ?_);apply ao (wpAny_layCells _ (λname kind cells=>by cases hkc:kind == NameKind.cell<;>simp[hkc]) _ _ _ _ ?_)
 rw[show ({ s with heap:=s.heap.push { cls:=.type "dict",data:=.dict #[] } }:Ab).heap.objs.size=s.heap.objs.size+1 from Heap.size_push ..];rw[List.forIn_nil];exact ao (aP (aP h))
def Kn(PN:ae)(ps:Scope)(N:ae)(own:Nat)(fr:List Nat)(scope:Scope):Bool:=
 decide (scope.kind=.function)&&decide N.Nodup&&decide (own+fr.length=N.length)
 && (scope.names.all λy=>decide (scope.names.lookup y.1\y.2))
 && (scope.names.all λy=>if y.2=.free then decide (ps.names.lookup y.1\.cell) || decide (ps.names.lookup y.1\.free) else true)
 && ((fr.map λj=>PN[j]?) == (N.drop own).map some)
 && ((N.drop own).all λx=>decide (scope.names.lookup x\.free))
structure oK (PN:ae) (ps:Scope) (N:ae) (own:Nat) (fr:List Nat) (scope:Scope):Prop where
 kind:scope.kind=.function
 nd:N.Nodup
 len:own+fr.length=N.length
 look:∀y∈scope.names,scope.names.lookup y.1\y.2
 par:∀y∈scope.names,y.2=.free->ps.names.lookup y.1\.cell∨ps.names.lookup y.1\.free
 dF:(fr.map λj=>PN[j]?)=(N.drop own).map some
 frk:∀x∈N.drop own,scope.names.lookup x\.free
theorem oK.of{PN:ae}{ps:Scope}{N:ae}{own:Nat}{fr:List Nat}{scope:Scope}(h:Kn PN ps N own fr scope=true):oK PN ps N own fr scope:=by
 unfold Kn at h;simp only[wD,decide_eq_true_eq,List.all_eq_true,beq_iff_eq] at h;let#[#[#[#[#[#[h1,h2],h3],h4],h5],h6],h7]:=h;apply#[h1,h2,h3,h4,λy hy e=>?_,h6,h7];let q:=h5 y hy;rw[aJ e] at q;simpa using q
def C7(own:Nat)(fr:List Nat)(σ:St):St:=List.replicate own none++fr.map λj=>(σ[j]?).join
def iN(X:Cx)(N:ae)(scope:Scope)(fp:ai)(s:Ab)(H:Hp):Cx where
 prog:=X.prog
 w:=X.w
 K:=X.K
 mg:=X.mg
 base:=X.base
 A:=X.A
 N:=N
 cg:=s
 iF:=H
 env:=kP scope s.heap.objs.size X.env
 outer:=X.stack
 stack:=X.stack
 ex:=fp
 fn:=λx=>decide (scope.names.lookup x\.local) || decide (scope.names.lookup x\.cell)
 calm:=X.calm
 pn:=[]
 xe:=λ_ _=>False
theorem V0{ps:Scope}{env:Env}(he:env.scope=ps){x:Str}:∀{names:List (Str × NameKind)} {k:NameKind},names.lookup x\k->
  (names.map λ(n,k)=>if (k == NameKind.free&&env.scope.kind == .function&&env.kindOf n == some .cell) then (n,NameKind.cell) else (n,k)).lookup x =
   some (if (k == NameKind.free&&env.scope.kind == .function&&env.kindOf x == some .cell) then .cell else k)
 |(n,k')::r,k,h=>by
  rw[qV] at h;rw[eV];cases hb:x == n with
  |true=>
   rw[hb] at h;cases h;have e:x=n:=⇑hb
   subst e;dsimp only;split<;>simp[qV]
  |false=>
   rw[hb] at h;let ih:=V0 he (env:=env) h;dsimp only;split<;>(rw[qV,hb];exact ih)
theorem PP{env:Env}{x:Str}:∀{names:List (Str × NameKind)} {k:NameKind},(names.map λ(n,k)=>if (k == NameKind.free&&env.scope.kind == .function&&env.kindOf n == some .cell) then (n,NameKind.cell) else (n,k)).lookup x\k->∃k',names.lookup x\k'/\(k'=k∨(k'=.free/\k=.cell))
 |(n,k')::r,k,h=>by
  rw[eV] at h;rw[qV];dsimp only at h;cases hb:x == n with
  |true=>
   apply#[k',Z,?_];by_cases hc:(k' == NameKind.free&&env.scope.kind == .function&&env.kindOf n == some .cell)=true
   ·rw[aJ hc,qV,hb] at h;cases h;simp only[wD,beq_iff_eq] at hc;exact .inr #[hc.1.1,Z]
   ·rw[aC hc,qV,hb] at h;cases h;exact .inl Z
  |false=>
   have h':(r.map λ(n,k)=>if (k == NameKind.free&&env.scope.kind == .function&&env.kindOf n == some .cell) then (n,NameKind.cell) else (n,k)).lookup x\k:=by
    split at h<;>(rw[qV,hb] at h;exact h)
   exact PP h'
theorem e0_{α:Type}{x:Str}{c:α}:∀{l r:List (Str × α)},(l++r).lookup x\c->(x,c)∈l∨(x,c)∈r:=λh=>gY.mp (jW h)
section
variable{X:Cx}{pins:List (Addr × Obj)}{σ:St}{H:Hp}{s:Ab}{N:ae}{own:Nat}{fr:List Nat}{scope:Scope}{fp:ai}
theorem Vo(I:Inv X pins σ H s)(S:oK X.N X.env.scope N own fr scope){x:Str}{c:Addr}(h:(x,c)∈jI X.env scope.names []):X.env.cells.lookup x\c/\(x,NameKind.free)∈scope.names:=by
 rcases VE h with h|⟨h,e⟩
 ·cases h
 let#[c',hc]:=I.ok.has x (S.par _ h Z);apply#[?_,h];rw[e,hc];rfl
theorem Inv.block(I:Inv X pins σ H s)(S:oK X.N X.env.scope N own fr scope)(JK:∀b∈fp,cy X pins H b)(hfo:∀b∈fp,∃o,s.heap.get? b\o) :
  Inv (iN X N scope fp s H) [] (C7 own fr σ) H { s with heap:=pushCells (s.heap.push { cls:=.type "dict",data:=.dict #[] }) scope.names }:=by
 have kept:∀b o,s.heap.get? b\o->(pushCells (s.heap.push { cls:=.type "dict",data:=.dict #[] }) scope.names).get? b\o:=λb o e=>pushCells_keeps _ _ b o (bQ _ e);let KS:=cellsFrom_ok scope.names (s.heap.push { cls:=.type "dict",data:=.dict #[] }) (s.heap.objs.size+1) [] #[λ_ _ hm=>(nomatch hm),List.Pairwise.nil] (by rw[Heap.size_push];exact bj _);rw[Heap.size_push] at KS;have ecs:cellsFrom (s.heap.objs.size+1) scope.names (jI X.env scope.names [])=cellsFrom (s.heap.objs.size+1) scope.names []++jI X.env scope.names []:=QQ _ _ [] _
 have iy:∀{x c},(cellsFrom (s.heap.objs.size+1) scope.names (jI X.env scope.names [])).lookup x\c->((x,c)∈cellsFrom (s.heap.objs.size+1) scope.names []/\(x,NameKind.cell)∈scope.names/\s.heap.objs.size+1<=c)∨(X.env.cells.lookup x\c/\(x,NameKind.free)∈scope.names):=λ{x c} h=>by
  rw[ecs] at h;rcases e0_ h with h|h
  ·apply .inl #[h,?_,(KS.empty _ _ h).2];rcases QR h with q|q
   ·cases q
   exact q
  exact .inr (Vo I S h)
 have Fx:∀{x c},X.env.cells.lookup x\c->c<s.heap.objs.size:=λ{x c} h=>by
  let#[v,hv]:=I.cell x c h;exact hv.lt
 have hb:∀b∈fp,b<s.heap.objs.size:=λb hb=>let #[o,e]:=hfo b hb;bN e
 apply#[#[I.ok.mod,S.kind,I.ok.glob,I.ok.blt,bj _,λx y c h1 h2=>?_,λx hx=>?_,λx c hf h=>?_,I.ok.hd,I.ok.frames,.inl Z,λb pT=>#[dB (hb b pT),λx c h=>?_],I.bs,?_,λb o e pT=>?_,λb pT hs=>?_,I.stack,I.hY],
  rfl,I.bare,Un.kept kept,#[_,(Heap.Ns.new s.heap (.type "dict")).keeps (pushCells_keeps _ _),λi x v h1 h2 h3=>?_],λx c h=>?_,I.au.fresh (bj _),λx c h=>?_,λp hp=>absurd (show p∈([]:List (Addr × Obj)) from hp) Z2,I.au.kept kept,?_]
 ·-- inj
  rcases iy h1 with⟨m1,k1,l1⟩|⟨m1,k1⟩<;>rcases iy h2 with⟨m2,k2,l2⟩|⟨m2,k2⟩
  ·exact name_of_addr KS.apart m1 m2
  ·exact absurd (Fx m2) (Nat.not_lt.mpr (Nat.le_of_succ_le l1))
  ·exact absurd (Fx m1) (Nat.not_lt.mpr (Nat.le_of_succ_le l2))
  exact I.ok.inj x y c m1 m2
 ·-- has
  have key:(x,NameKind.cell)∈scope.names∨(x,NameKind.free)∈scope.names:=by
   rcases hx with hx|hx
   ·let#[k',e,q]:=PP (env:=X.env) (show _\NameKind.cell from hx);let m:=jW e;rcases q with q|⟨q,_⟩
    ·exact .inl (q▸m)
    exact .inr (q▸m)
   let#[k',e,q]:=PP (env:=X.env) (show _\NameKind.free from hx);let m:=jW e;rcases q with q|⟨_,q⟩
   ·exact .inr (q▸m)
   cases q
  show ∃c,(cellsFrom (s.heap.objs.size+1) scope.names (jI X.env scope.names [])).lookup x\c
  have:((cellsFrom (s.heap.objs.size+1) scope.names (jI X.env scope.names [])).lookup x).isSome=true:=by
   apply PySem.W.cellsFrom_some _ _ _ ?_;rcases key with q|q
   ·exact .inl (S.look _ q)
   let#[c,m]:=PQ (env:=X.env) (names:=scope.names) (cs:=[]) (x:=x) (.inl q);let#[c',e]:=QS m;exact .inr (by rw[e];rfl)
  exact vH.mp this
 ·-- wa
  rcases iy h with⟨_,_,l⟩|⟨_,k⟩
  ·exact Nat.le_of_succ_le l
  let e:=S.look _ k;have hf:(decide (scope.names.lookup x\.local) || decide (scope.names.lookup x\.cell))=true:=hf;rw[show scope.names.lookup x\.free from e] at hf;exact absurd hf (by decide)
 ·rcases iy h with⟨_,_,l⟩|⟨q,_⟩
  ·exact oF (gZ (hb b pT) (Nat.le_of_succ_le l))
  exact (JK b pT).2.2.2.2.1 x c q
 ·exact oG I.ok.lY I.sz
 ·rcases (JK b pT).2.2.2.1 with q|q
  ·exact I.ok.nv b o e q
  exact absurd (gZ (bN e) I.ok.lY) Z1
 ·rcases bW.mp (I.gh b hs) with q|q
  ·exact (JK b pT).2.1 q
  exact (JK b pT).2.2.1 q
 ·-- names
  have hi:own<=i:=by
   apply Nat.le_of_not_lt λdX=>?_;unfold C7 at h2;rw[Ez (by rw[Ew];exact dX),List.getElem?_replicate,aJ dX] at h2;cases h2
  have iL:(fr.map λj=>(σ[j]?).join)[i - own]? = some (some v):=by
   unfold C7 at h2;rw[De (by rw[Ew];exact hi),Ew] at h2;exact h2
  have h1:N[i]? = some x:=h1;have hx:(N.drop own)[i - own]? = some x:=by rw[List.getElem?_drop,show own+(i - own)=i by omega];exact h1
  rw[dQ] at iL;cases ej:fr[i - own]? with
  |none=>rw[ej] at iL;cases iL
  |some j=>
   rw[ej] at iL;have iL:(σ[j]?).join\v:=dG iL
   have xy:σ[j]? = some (some v):=by
    cases q:σ[j]? with
    |none=>rw[q] at iL;cases iL
    |some o=>rw[q] at iL;exact eA some iL
   have hN:X.N[j]? = some x:=by
    let q:=eA (λl=>l[i - own]?) S.dF;simp only[dQ,ej,hx,Option.map_some] at q;exact dG q
   let kf:=S.frk x (dD hx);let mf:=jW kf;let#[m,hm,hv]:=I.loc;let pk:=S.par _ mf Z;let#[u,ru,lk]:=hv j x v hN xy (pk.elim (λq=>.inr (.inl q)) λq=>.inr (.inr q));apply#[u,ru,?_];have RJ:X.env.kindOf x\.cell∨X.env.kindOf x\.free:=pk;rcases lk with⟨k,_⟩|⟨_,c,hc,pR⟩
   ·rw[k] at RJ;rcases RJ with q|q<;>cases q
   let#[c',m1]:=PQ (env:=X.env) (names:=scope.names) (cs:=[]) (x:=x) (.inl mf);let e1:=(Vo I S m1).1;rw[hc] at e1;cases e1;apply .inr #[?_,c,?_,pR.keeps kept]
   ·let q:=V0 (env:=X.env) Z kf;show (relabel scope X.env).names.lookup x\.cell∨(relabel scope X.env).names.lookup x\.free;unfold relabel;rw[q];split
    ·exact .inl Z
    exact .inr Z
   let#[c2,e2]:=vH.mp (PySem.W.cellsFrom_some (x:=x) scope.names (s.heap.objs.size+1) (jI X.env scope.names []) (.inr (by let#[c',e]:=QS m1;rw[e];rfl)));show (cellsFrom (s.heap.objs.size+1) scope.names (jI X.env scope.names [])).lookup x\c;rcases iy e2 with⟨_,q,_⟩|⟨q,_⟩
   ·have:=S.look _ q;rw[show scope.names.lookup x\.free from kf] at this;cases this
   rw[hc] at q;cases q;exact e2
 ·-- cells
  rcases iy h with⟨q,_,_⟩|⟨q,_⟩
  ·exact#[_,(KS.empty _ _ q).1]
  let#[v,hv]:=I.cell x c q;exact#[v,hv.keeps kept]
 ·rcases iy h with⟨q,_,l⟩|⟨q,_⟩
  ·exact I.au.fresh Z1
  exact I.bX x c q
 show (C7 own fr σ).length=N.length;unfold C7;rw[fZ,Ew,aB];exact S.len
end
def IF(X:Cx)(ifs:List Expr)(t:TT):Prop:=
 ∀(pins:List (Addr × Obj)) (s:Ab) (σ:St) (H:Hp) (Q:Bool->Hp->Prop),Inv X pins σ H s->t σ H Q->
  wpAny (model X.prog X.w) X.A (forIn ifs true λc r=>if r=true then do let ok <- isTrue c X.env (eval c X.env);pure (ForInStep.yield ok) else pure (ForInStep.yield r)) (TP X pins σ Q) X.xe s
def wM:TT:=λ_ H Q=>Q true H
theorem fg{σ:St}{H:Hp}{A B:Hp->Prop}(h:A H):wM σ H λb H4=>if b=true then A H4 else B H4:=by
 unfold wM;exact bK h
theorem k7{X:Cx}:IF X [] wM:=λ_ _ _ H _ I h=>wpAny_tests_nil #[H,I,h]
theorem kD_{X:Cx}{c:Expr}{t:TT}(h:PT X c t):IF X [c] t:=λpins s σ H Q I q=>wpAny_tests_one (h pins s σ H Q I q)
def D0(J:It)(g:TG)(tc:TT)(te:TE)(ql:St)(D:Addr)(H1:Hp)(Q:VK):Prop:=∃W:Nat->Nat->St->Hp->Prop,
 (∃m,W 0 m ql (upd H1 D (.lst [])))/\∀i m ba H',W i m ba H'->(J.stop i H'/\Q (.ref D) H') ∨
  (J.go i H'/\∃Nx:St->Hp->Prop,(∀fO H2,Nx fO H2->∃m',m'<m/\W (i+1) m' fO H2) /\
   ∀x H2,J.wJ i H' x H2->g x ba H2 λlO H3=>tc lO H3 λb H4=>if b=true then te lO H4 λy H5=>∃out,H5 D\.lst out/\out.length<sizeLine/\Nx lO (upd H5 D (.lst (out++[y]))) else Nx lO H4)
def yE(wi:TI)(own:Nat)(fr:List Nat)(g:TG)(tc:TT)(te:TE):TE:=λσ H Q=>wi σ H λJ H1=>∀D,H1 D=none->D0 J g tc te (C7 own fr σ) D H1 Q
section
variable{X:Cx}{tg iter elt:Expr}{ifs:List Expr}{scope:Scope}{pos:Pos}{wi:TI}{g:TG}{tc:TT}{te:TE}{N:ae}
theorem Tf{R:Result->Ab->Prop}{own:Nat}{fr:List Nat}{pins:List (Addr × Obj)}{σ:St}{H1:Hp}{s2:Ab}{it:Addr}{fp:ai}{tn:Nat->Heap->Prop}{J:It}{D:Addr}{Q:VK}
  (S:oK X.N X.env.scope N own fr scope) (hc:X.calm=true) (hg:∀fp s H,PG (iN X N scope fp s H) tg g) (ht:∀fp s H,IF (iN X N scope fp s H) ifs tc) (he:∀fp s H,PE (iN X N scope fp s H) elt te)
  (I3:Inv X pins σ (upd H1 D (.lst [])) s2) (T:Turn X.prog X.w X.K tg J fp it tn) (st:tn 0 s2.heap) (f2:∀b∈fp,cy X pins (upd H1 D (.lst [])) b)
  (k:D0 J g tc te (C7 own fr σ) D H1 Q)
  (hR:∀H' s',Inv X pins σ H' s'->(∃m,s'.heap.Ns s2.heap.objs.size m)->H' s2.heap.objs.size=none->Q (.ref D) H'->R (.ok .next) s') :
  codeAny (model X.prog X.w) X.A (.compStart (.ListComp elt [#[tg,iter,ifs,0]] scope pos) 0 (.ref it) (.ref D) (kP scope s2.heap.objs.size X.env)) R
   { s2 with heap:=pushCells (s2.heap.push { cls:=.type "dict",data:=.dict #[] }) scope.names }:=by
 let#[W,#[m0,w0],turn]:=k;let I4:=I3.block (N:=N) S f2 (λb hb=>let #[o,e,_]:=T.obj _ _ st b hb;#[o,e]);have kept:∀b o,s2.heap.get? b\o->(pushCells (s2.heap.push { cls:=.type "dict",data:=.dict #[] }) scope.names).get? b\o:=λb o e=>pushCells_keeps _ _ b o (bQ _ e);have iS:tn 0 (pushCells (s2.heap.push { cls:=.type "dict",data:=.dict #[] }) scope.names):=T.keep _ _ _ st λb hb o e=>kept b o e
 have fx:∀{H':Hp},(∀b∈fp,H' b=none)->∀b∈fp,cy (iN X N scope fp s2 (upd H1 D (.lst []))) [] H' b:=λhn b hb=>
  #[hn b hb,(I4.ok.DY b hb).1,I4.ok.nM b hb,.inl hb,(I4.ok.DY b hb).2,λp hp=>absurd (show p∈([]:List (Addr × Obj)) from hp) Z2]
 have loop:codeAny (model X.prog X.w) X.A (.compLoop (.ListComp elt [#[tg,iter,ifs,0]] scope pos) 0 (.ref it) (.ref D) (kP scope s2.heap.objs.size X.env)) R
   { s2 with heap:=pushCells (s2.heap.push { cls:=.type "dict",data:=.dict #[] }) scope.names }:=by
  apply codeAny_loop Z (λn s'=>∃i ba H',Inv (iN X N scope fp s2 (upd H1 D (.lst []))) [] ba H' s'/\tn i s'.heap/\(∀b∈fp,H' b=none)/\W i n ba H') (λn s' hI=>?_) m0 #[0,_,_,I4,iS,λb hb=>(f2 b hb).1,w0];let#[i,ba,H',I5,fq,pW,w5]:=hI;show wpAny _ X.A ((compTurn (.ListComp elt [#[tg,iter,ifs,0]] scope pos) 0 (.ref it) (.ref D) (kP scope s2.heap.objs.size X.env)).onRaise (λx=>do noteFrame x (kP scope s2.heap.objs.size X.env);theTreesLotGoes x)) _ _ s';apply wpAny_noted (iM (E:=λ_ _=>False) ?_ (λ_ _ q=>q) λ_ _ q=>q.elim);rw[compTurn_list];apply ao (wpAny_standAt (ao ?_));rcases turn i n ba H' w5 with⟨stop,q⟩|⟨go,Nx,hN,step⟩
  ·apply aQ (T.done (iN X N scope fp s2 (upd H1 D (.lst []))) Z Z Z hc i [] s' ba H' _ I5 (fx pW) fq stop) λr s6 ⟨hr,I6⟩=>?_;subst hr;apply aP (hR H' s6 (I3.jf I6.os I6.base I6.au I6.bare λb hb=>?_) ?_ I6.free q)
   ·exact#[(f2 b hb).2.2.2.1,(f2 b hb).2.1,(f2 b hb).2.2.2.2.1,(f2 b hb).2.2.2.2.2]
   let#[m,hm,_]:=I6.loc;exact#[m,hm]
  apply aQ (T.item (iN X N scope fp s2 (upd H1 D (.lst []))) Z Z Z hc i [] s' ba H' _ I5 (fx pW) fq go) λr s6 ⟨u,hr,h6⟩=>?_;subst hr;apply ao (aQ h6 λ_ s7 ⟨x,H7,I7,r7,y7,AE,fr7⟩=>?_);let I7':=I7.pinned (fx fr7) (T.obj _ _ AE)
  have back:∀{vO:St} {H8:Hp} {s8:Ab},Inv (iN X N scope fp s2 (upd H1 D (.lst []))) ([]++yc fp s7.heap) vO H8 s8->Nx vO H8->∃m,m<n/\∃i ba H',Inv (iN X N scope fp s2 (upd H1 D (.lst []))) [] ba H' s8/\tn i s8.heap/\(∀b∈fp,H' b=none)/\W i m ba H':=λ{vO H8 s8} I8 n8=>by
   let#[m',hm,w8]:=hN vO H8 n8;apply#[m',hm,i+1,vO,H8,I8.eM,T.keep _ _ _ AE λb hb o e=>(I8.pin (b,o) (oB _ (oB _ (Ld hb e)))).1,λb hb=>?_,w8];let#[o,e,d]:=T.obj _ _ AE b hb;exact (I8.pin (b,o) (oB _ (oB _ (Ld hb e)))).2.1
  apply ao (aQ (hg fp s2 (upd H1 D (.lst [])) _ s7 ba H7 x u _ I7' r7 (step x H7 y7)) λ_ s8 ⟨vO,H8,I8,q8⟩=>?_);apply ao (aQ (ht fp s2 (upd H1 D (.lst [])) _ s8 vO H8 _ I8 q8) λb s9 ⟨H9,I9,q9⟩=>?_);cases b with
  |false=>
   simp only[me,if_false] at q9 ⊢;exact aP #[Z,back I9 q9]
  |true=>
   simp only[if_true] at q9 ⊢;apply ao (ao (aQ (he fp s2 (upd H1 D (.lst [])) _ s9 vO H9 _ I9 q9) λy A9 ⟨yv,Rh,ym,Yr,out,hD,hz,Yv⟩=>?_));apply ao (aQ (zR (X:=iN X N scope fp s2 (upd H1 D (.lst []))) _ A9 vO Rh (.ref D) [yv] (.ref D) [y] (λ_ H'=>Nx vO H') ym Z (.cons Yr .nil) #[D,out,yv,Z,Z,hD,hz,Yv]) λ_ Mg ⟨_,H11,I11,_,Yu⟩=>?_);exact aP (aP #[Z,back I11 Yu])
 exact codeAny_compStart_list loop (T.self _ 0 _ _ _ iS loop)
theorem p9(N:ae)(own:Nat)(fr:List Nat)(hi:PI X tg iter wi)(hg:∀fp s H,PG (iN X N scope fp s H) tg g)(ht:∀fp s H,IF (iN X N scope fp s H) ifs tc)(he:∀fp s H,PE (iN X N scope fp s H) elt te)
  (S:Kn X.N X.env.scope N own fr scope=true:=by kernel_rfl) (hc:X.calm=true:=by rfl) (hs:∀x,foldedSetIterable iter X.env x=pure x:=by intro _;rfl) :
  PE X (.ListComp elt [#[tg,iter,ifs,0]] scope pos) (yE wi own fr g tc te):=by
 intro pins s σ H Q I h;let S':=oK.of S;rw[eval_ListComp];have uV:closureFor scope X.env=pure (jI X.env scope.names []):=Wk λx hx e=>I.ok.has x.1 (S'.par x hx e);apply wpAny_comprehension_free (use:=none) Z hs uV S'.kind (λx hx e=>by rw[S'.look x hx,e]) (aQ (hi pins s σ H _ I h) λv s1 h1=>aQ h1 λJs s2 h2=>?_);let#[it,fp,tn,J,H1,rfl,I2,T,gH,f2,k]:=h2;apply wb (V_ ?_);have hD:H1 s2.heap.objs.size=none:=I2.fresh;let I3:=I2.Bo (ys:=[]) (its:=[]) (t':=s2.toks) .nil (hG _);have kept:∀b o,s2.heap.get? b\o->(s2.heap.push { cls:=.type "list",data:=.seq ([]:ak).toArray }).get? b\o:=λb o e=>bQ _ e;apply Tf (own:=own) (fr:=fr) (Q:=Q) S' hc hg ht he I3 T (T.keep _ _ _ gH λb hb o e=>kept b o e) (λb hb=>?_) (k _ hD) ?_
 ·apply#[?_,(f2 b hb).2];let#[o,e,_]:=T.obj _ _ gH b hb;rw[aF (dB (bN e))];exact (f2 b hb).1
 rintro H' s' I' ⟨m,hm⟩ hn q;apply#[m,hm,λh' rA=>#[.ref s2.heap.objs.size,H',?_,Z,q]]
 exact I'.turned (t':=s'.toks) (λb o hb e=>rA.extBut b o hb e) hn (oF I3.lt) (.inr I3.sz) (λx c GD e=>by
  let#[v,hv]:=I3.cell x c GD
  exact absurd hv.lt (by rw[e];exact yj _)) λp hp e=>by
   have:=(I3.pin p hp).1;rw[e] at this;exact absurd (bN this) (yj _)
def EZ(i:Nat)(te:TE):TS:=λD σ H=>te σ H λx H1=>D.nx (σ.set i (some x)) H1
theorem Ks{i:Nat}{x:Str}{px:Pos}(N:ae)(own:Nat)(fr:List Nat)(hN:X.N.Nodup)(hi':X.N[i]? = some x)(hx:Loc X.env.scope x)
  (hi:PI X tg iter wi) (hg:∀fp s H,PG (iN X N scope fp s H) tg g) (ht:∀fp s H,IF (iN X N scope fp s H) ifs tc) (he:∀fp s H,PE (iN X N scope fp s H) elt te) {pos':Pos}
  (S:Kn X.N X.env.scope N own fr scope=true:=by kernel_rfl) (hc:X.calm=true:=by rfl) (hs:∀x,foldedSetIterable iter X.env x=pure x:=by intro _;rfl)
  (hf:X.fn x=true∨X.env.scope.names.lookup x\.local:=by first|exact .inl Z|exact .inr Z|assumption)
  (hsw:swapsWith (.ListComp elt [#[tg,iter,ifs,0]] scope pos) (some (.Name x px)) pos'.line X.env=pure true:=by rfl) :
  PS X (.Assign [.Name x px] (.ListComp elt [#[tg,iter,ifs,0]] scope pos) pos') (EZ i (yE wi own fr g tc te)):=by
 intro pins s σ H E I h;let S':=oK.of S;rw[exec_Assign_Name_used _ _ _ _ hsw];apply ao (wpAny_standAt (ao ?_));show wpAny _ X.A (do let _ <- comprehension (.ListComp elt [#[tg,iter,ifs,0]] scope pos) scope X.env _ (newList []) false (eval iter X.env) (some (assign (.Name x px) X.env))) _ _ s;have uV:closureFor scope X.env=pure (jI X.env scope.names []):=Wk λx hx e=>I.ok.has x.1 (S'.par x hx e)
 apply ao (iM (wpAny_comprehension_free (use:=some (assign (.Name x px) X.env)) (Q:=λ_ s'=>SP X pins E .next s') Z hs uV S'.kind (λx hx e=>by rw[S'.look x hx,e]) (aQ (hi pins s σ H _ I h) λv s1 h1=>aQ h1 λJs s2 h2=>?_))
  (λ_ s' hq=>aP (aP hq)) λ_ _ e=>e)
 let#[it,fp,tn,J,H1,rfl,I2,T,gH,f2,k]:=h2;apply wb (V_ ?_);have hD:H1 s2.heap.objs.size=none:=I2.fresh;let I3:=I2.Bo (ys:=[]) (its:=[]) (t':=s2.toks) .nil (hG _);have kept:∀b o,s2.heap.get? b\o->(s2.heap.push { cls:=.type "list",data:=.seq ([]:ak).toArray }).get? b\o:=λb o e=>bQ _ e;apply Tf (own:=own) (fr:=fr) (Q:=λx H1=>E.nx (σ.set i (some x)) H1) S' hc hg ht he I3 T (T.keep _ _ _ gH λb hb o e=>kept b o e) (λb hb=>?_) (k _ hD) ?_
 ·apply#[?_,(f2 b hb).2];let#[o,e,_]:=T.obj _ _ gH b hb;rw[aF (dB (bN e))];exact (f2 b hb).1
 rintro H' s' I' ⟨m,hm⟩ hn q
 have nX:∀y c,X.env.cells.lookup y\c->c≠(s2.heap.push { cls:=.type "list",data:=.seq ([]:ak).toArray }).objs.size:=λy c GD e=>by
  let#[v,hv]:=I3.cell y c GD;exact absurd hv.lt (by rw[e];exact yj _)
 show wpAny _ X.A (assign (.Name x px) X.env (.ref s2.heap.objs.size)) _ _ s';apply wpAny_assign_Name (UH (v:=V.ref s2.heap.objs.size) I' hN hi' hx Z (λrg I'' ⟨a,BD,ha⟩=>?_) hf)
 have hCa:(s2.heap.push { cls:=.type "list",data:=.seq ([]:ak).toArray }).objs.size≠a:=by
  rcases ha with e|e
  ·rw[e];exact oF I3.lt
  exact (nX x a e).symm
 apply#[m,hm.sameBut BD hCa,λh' rA=>#[_,H',?_,q]]
 exact I''.turned (t':=rg.toks) (λb o hb e=>rA.extBut b o hb e) hn (oF I3.lt) (.inr I3.sz) nX λp hp e=>by
   have:=(I3.pin p hp).1;rw[e] at this;exact absurd (bN this) (yj _)
end
def EB(g:TG)(own:Nat)(fv:List aV)(dec:V->Hp->List aV->Prop):Prop:=
 ∀(x:V) (o:List aV) (H:Hp) (k:lG) (o3:List aV),o.length=own->dec x H o3->k (o3++fv) H->g x (o++fv) H k
theorem fU{fv:List aV}:EB (jL 0) 1 fv (λx _ o3=>o3=[some x]):=λx o H k o3 hl e h=>by
 subst e
 match o,hl with
 |[a],_=>exact h
inductive G8 (K:af) (x:V) (H:Hp) (o3:List aV):Prop
 |mk:∀p u v,x=.ref p->iD K H p [u,v]->o3=[some u,some v]->G8 K x H o3
inductive G7 (K:af) (x:V) (H:Hp) (o3:List aV):Prop
 |mk:∀p u v w,x=.ref p->iD K H p [u,v,w]->o3=[some u,some v,some w]->G7 K x H o3
theorem GK{K:af}{fv:List aV}:EB (iX K 2 (wm (jL 0) (wm (jL 1) xO))) 2 fv (G8 K):=λx o H k o3 hl e h=>by
 let#[p,u,v,rfl,hp,rfl]:=e
 match o,hl with
 |[a,b],_=>exact#[p,[u,v],Z,hp,Z,u,[v],Z,v,[],Z,Z,h]
theorem Og{K:af}{fv:List aV}:EB (iX K 3 (wm (jL 0) (wm (jL 1) (wm (jL 2) xO)))) 3 fv (G7 K):=λx o H k o3 hl e h=>by
 let#[p,u,v,w,rfl,hp,rfl]:=e
 match o,hl with
 |[a,b,c],_=>exact#[p,[u,v,w],Z,hp,Z,u,[v,w],Z,v,[w],Z,w,[],Z,Z,h]
theorem Ky{J:It}{g:TG}{tc:TT}{te:TE}{own:Nat}{fv:List aV}{dec:V->Hp->List aV->Prop}{D:Addr}{H:Hp}{Q:VK}{ql:St}(xy:ql=List.replicate own none++fv)(G:EB g own fv dec)(n:Nat)(Pv:Nat->aj->Hp->Prop)
  (h0:Pv 0 [] (upd H D (.lst []))) (Gb:∀out H',Pv n out H'->J.stop n H'/\Q (.ref D) H')
  (Gv:∀i out H',i<n->Pv i out H'->J.go i H'/\∀x H2,J.wJ i H' x H2->∃o3,dec x H2 o3/\o3.length=own/\∀Nx:Hp->Prop,(∀nu H2,Pv (i+1) nu H2->Nx H2)->
   tc (o3++fv) H2 λb H4=>if b=true then te (o3++fv) H4 λy H5=>∃gi,H5 D\.lst gi/\gi.length<sizeLine/\Nx (upd H5 D (.lst (gi++[y]))) else Nx H4) :
  D0 J g tc te ql D H Q:=by
 subst xy;apply#[λi m ba H'=>m=n - i/\i<=n/\(∃o:List aV,ba=o++fv/\o.length=own)/\∃out,Pv i out H',#[n,by simp,hG _,#[_,Z,Ew],_,h0],?_];rintro i m ba H' ⟨rfl,hi,⟨o,rfl,ho⟩,out,p⟩;by_cases dX:i<n
 ·let#[go,k]:=Gv i out H' dX p;apply .inr #[go,λfO H2=>(∃o:List aV,fO=o++fv/\o.length=own)/\∃out,Pv (i+1) out H2,λfO H2 q=>#[n - (i+1),by omega,Z,dX,q],λx H2 y=>?_];let#[o3,d,l3,q]:=k x H2 y;exact G x o H2 _ o3 ho d (q (λH2=>(∃o:List aV,o3++fv=o++fv/\o.length=own)/\∃out,Pv (i+1) out H2) λnu H2 z=>#[#[o3,Z,l3],nu,z])
 have e:i=n:=by omega
 subst e;exact .inl (Gb out H' p)
theorem qa{K:af}{a:Addr}{xs:aj}{g:TG}{tc:TT}{te:TE}{own:Nat}{fv:List aV}{dec:V->Hp->List aV->Prop}{D:Addr}{H:Hp}{Q:VK}{ql:St}(xy:ql=List.replicate own none++fv)(G:EB g own fv dec)(Pv:Nat->aj->Hp->Prop)
  (h0:Pv 0 [] (upd H D (.lst []))) (hl:∀i out H',i<=xs.length->Pv i out H'->dH K H' a xs) (hd:∀out H',Pv xs.length out H'->Q (.ref D) H')
  (Gv:∀i x out H',xs[i]? = some x->Pv i out H'->∃o3,dec x H' o3/\o3.length=own/\∀Nx:Hp->Prop,(∀nu H2,Pv (i+1) nu H2->Nx H2)->
   tc (o3++fv) H' λb H4=>if b=true then te (o3++fv) H4 λy H5=>∃gi,H5 D\.lst gi/\gi.length<sizeLine/\Nx (upd H5 D (.lst (gi++[y]))) else Nx H4) :
  D0 (Dk K a) g tc te ql D H Q:=by
 apply Ky xy G xs.length Pv h0 (λout H' p=>#[#[xs,hl _ _ _ (bj _) p,bj _],hd out H' p]) λi out H' hi p=>?_;let q:=hl i out H' (Nat.le_of_lt hi) p;apply#[#[xs,xs[i],q,by simp[hi]],λx H2 y=>?_];let#[e,y]:=y;subst e;exact Gv i x out _ (y xs q) p
end L2
namespace qk
open PySem PySem.W PyProof.Rows
def Ok{α:Type}(f:Nat->Nat->Bool)(n:Nat):KasT α->(α->Prop)->Prop
 |.ret a,Q=>Q a
 |.ask i j k,Q=>i<n/\j<n/\Ok f n (k (f i j)) Q
theorem Ok.bind{α β:Type}{f:Nat->Nat->Bool}{n:Nat}{g:α->KasT β}{Q:β->Prop}:∀{t:KasT α} {R:α->Prop},Ok f n t R->(∀a,R a->Ok f n (g a) Q)->Ok f n (t.bind g) Q
 |.ret a,R,h,k=>k a h
 |.ask i j t,R,h,k=>#[h.1,h.2.1,Ok.bind h.2.2 k]
theorem Ok.imp{α:Type}{f:Nat->Nat->Bool}{n:Nat}{Q R:α->Prop}(k:∀a,Q a->R a):∀{t:KasT α},Ok f n t Q->Ok f n t R
 |.ret a,h=>k a h
 |.ask i j t,h=>#[h.1,h.2.1,Ok.imp k h.2.2]
theorem Ok.wp{α:Type}{f:Nat->Nat->Bool}{n:Nat}{cmp:Nat->Nat->(Bool->Ab->Prop)->Ab->Prop}{s:Ab}(hc:∀i j C,i<n->j<n->C (f i j) s->cmp i j C s){Q:α->Prop}{G:α->Ab->Prop}(k:∀a,Q a->G a s) :
  ∀{t:KasT α},Ok f n t Q->t.kasWp cmp G s
 |.ret a,h=>k a h
 |.ask i j t,h=>hc i j _ h.1 h.2.1 (Ok.wp hc k h.2.2)
structure Ord (f:Nat->Nat->Bool):Prop where
 fD:∀i,f i i=false
 trans:∀{i j k},f j i=false->f k j=false->f k i=false
 IQ:∀{i j},f i j=true->f j i=false
section
variable{f:Nat->Nat->Bool}(O:Ord f){N:Nat}
abbrev at'(p:Array Nat)(i:Nat):Nat:=p.getD i 0
def Up(f:Nat->Nat->Bool)(p:Array Nat)(k:Nat):Prop:=∀i j,i<=j->j<k->f (at' p j) (at' p i)=false
def Down(f:Nat->Nat->Bool)(p:Array Nat)(k:Nat):Prop:=∀i j,i<=j->j<k->f (at' p i) (at' p j)=false
def qX(f:Nat->Nat->Bool)(p:Array Nat)(lo k:Nat):Prop:=∀i,lo<=i->i<k->f (at' p i) (at' p (k - 1))=false/\f (at' p (k - 1)) (at' p i)=false
def Good(N:Nat)(p:Array Nat):Prop:=p.Perm (List.range N).toArray
theorem Good.size{p:Array Nat}(h:Good N p):p.size=N:=by
 have:=h.size_eq;simpa using this
theorem Good.lt{p:Array Nat}(h:Good N p)(hN:0<N)(i:Nat):at' p i<N:=by
 unfold at';by_cases hi:i<p.size
 ·have e:p.getD i 0=p[i]:=by simp[Array.getD,hi]
  rw[e];have m:p[i]∈(List.range N).toArray:=h.mem_iff.mp (Array.getElem_mem hi);simpa using m
 have e:p.getD i 0=0:=by simp[Array.getD,hi]
 rw[e];exact hN
theorem Good.rev{p:Array Nat}(h:Good N p)(i j:Nat):Good N (kas_rev p i j):=(mirror_perm _ _ _ _).trans h
theorem Good.bub{p:Array Nat}(h:Good N p)(i j:Nat):Good N (bubble p i j):=(bubble_perm _ _ _).trans h
theorem Hy{p q:Array Nat}{i j:Nat}(h:p[i]? = q[j]?):at' p i=at' q j:=by
 unfold at';rw[Array.getD_eq_getD_getElem?,Array.getD_eq_getD_getElem?,h]
theorem CL{p:Array Nat}{i j:Nat}(hj:j<=p.size)(k:Nat):at' (kas_rev p i j) k=if i<=k/\k<j then at' p (i+j - 1 - k) else at' p k:=by
 let e:=getElem?_mirror_all (i:=i) hj k;unfold kas_rev;split
 ·rename_i c
  rw[aJ c] at e;exact Hy e
 rename_i c
 rw[aC c] at e;exact Hy e
theorem Sx{p:Array Nat}{k l:Nat}(hk:k<p.size)(hl:l<=k)(i:Nat):at' (bubble p k (k - l)) i=if i=l then at' p k else if l<i/\i<=k then at' p (i - 1) else at' p i:=by
 let e:=getElem?_bubble hk (k - l) Z1 i;rw[show k - (k - l)=l by omega] at e;by_cases c:i=l
 ·rw[aJ c] at e ⊢;exact Hy e
 rw[aC c] at e ⊢;split
 ·rename_i d
  rw[aJ d] at e;exact Hy e
 rename_i d
 rw[aC d] at e;exact Hy e
include O
theorem Up.more{p:Array Nat}{n:Nat}(h:Up f p n)(h1:1<=n)(c:f (at' p n) (at' p (n - 1))=false):Up f p (n+1):=λi j pO hj=>by
 by_cases e:j<n
 ·exact h i j pO e
 have e:j=n:=by omega
 subst e;by_cases e2:i=j
 ·subst e2;exact O.fD _
 exact O.trans (h i (j - 1) Z1 Z1) c
theorem Down.more{p:Array Nat}{n:Nat}(h:Down f p n)(h1:1<=n)(c:f (at' p (n - 1)) (at' p n)=false):Down f p (n+1):=λi j pO hj=>by
 by_cases e:j<n
 ·exact h i j pO e
 have e:j=n:=by omega
 subst e;by_cases e2:i=j
 ·subst e2;exact O.fD _
 exact O.trans c (h i (j - 1) Z1 Z1)
theorem Ng{p:Array Nat}(g:Good N p)(hN:0<N):∀(m n:Nat),1<=n->Up f p n->Ok f N (kas_asc p m n) λr=>n<=r/\r<=n+m/\Up f p r/\(r<n+m->f (at' p r) (at' p (r - 1))=true)
 |0,n,_,h=>#[bj _,bj _,h,λq=>absurd q Z1]
 |m+1,n,h1,h=>by
  apply#[g.lt hN _,g.lt hN _,?_];dsimp only;by_cases c:f (at' p n) (at' p (n - 1))=true
  ·rw[aJ c];exact#[bj _,by omega,h,λ_=>c]
  rw[aC c];apply (Ng g hN m (n+1) Z1 (h.more O h1 ⇑c)).imp λr ⟨a,b,u,z⟩=>#[by omega,by omega,u,λq=>z Z1]
theorem qX.rev{p:Array Nat}{lo k:Nat}(h:qX f p lo k)(hk:k<=p.size)(i:Nat):f (at' (kas_rev p lo k) i) (at' p i)=false/\f (at' p i) (at' (kas_rev p lo k) i)=false:=by
 rw[CL hk];split
 ·rename_i c
  let#[a1,a2]:=h i c.1 c.2;let#[b1,b2]:=h (lo+k - 1 - i) Z1 Z1;exact#[O.trans a2 b1,O.trans b2 a1]
 exact#[O.fD _,O.fD _]
theorem Down.rev{p:Array Nat}{lo k n:Nat}(h:Down f p n)(l:qX f p lo k)(hk:k<=p.size):Down f (kas_rev p lo k) n:=λi j pO hj=>by
 let#[a1,_]:=l.rev O hk i;let#[_,b2]:=l.rev O hk j;exact O.trans (O.trans b2 (h i j pO hj)) a1
theorem Kv(hN:0<N):∀(m:Nat) (p:Array Nat) (n q:Nat),Good N p->1<=n->q+1<=n->n+m<=N->Down f p n->qX f p (n - (q+1)) n->
  Ok f N (kas_desc m p n q) λr=>Good N r.1/\n<=r.2.1/\r.2.1<=n+m/\Down f r.1 r.2.1/\r.2.2+1<=r.2.1/\qX f r.1 (r.2.1 - (r.2.2+1)) r.2.1
 |0,p,n,q,g,h1,hq,hn,d,l=>#[g,bj _,bj _,d,hq,l]
 |m+1,p,n,q,g,h1,hq,hn,d,l=>by
  apply#[g.lt hN _,g.lt hN _,?_];dsimp only;by_cases c:f (at' p n) (at' p (n - 1))=true
  ·rw[aJ c];have d2:Down f p (n+1):=d.more O h1 (O.IQ c)
   have one:∀p':Array Nat,qX f p' (n+1 - (0+1)) (n+1):=λp' i h2 h3=>by
    have e:i=n+1 - 1:=by omega
    subst e;exact#[O.fD _,O.fD _]
   by_cases SR:q > 0
   ·rw[aJ SR];have hk:n<=p.size:=by rw[g.size];omega
    exact (Kv hN m _ (n+1) 0 (g.rev _ _) Z1 Z1 Z1 (d2.rev O l hk) (one _)).imp λr ⟨a,b,b2,z⟩=>#[a,by omega,by omega,z]
   rw[aC SR];exact (Kv hN m _ (n+1) 0 g Z1 Z1 Z1 d2 (one _)).imp λr ⟨a,b,b2,z⟩=>#[a,by omega,by omega,z]
  rw[aC c];apply#[g.lt hN _,g.lt hN _,?_];dsimp only;have c:f (at' p n) (at' p (n - 1))=false:=⇑c
  by_cases e:f (at' p (n - 1)) (at' p n)=true
  ·rw[aJ e];exact#[g,bj _,by show n<=n+(m+1);omega,d,hq,l]
  rw[aC e];have e:f (at' p (n - 1)) (at' p n)=false:=⇑e
  apply (Kv hN m p (n+1) (q+1) g Z1 Z1 Z1 (d.more O h1 e) λi h2 h3=>?_).imp λr ⟨a,b,b2,z⟩=>#[a,by omega,by omega,z];show f (at' p i) (at' p n)=false/\f (at' p n) (at' p i)=false;by_cases ei:i=n
  ·subst ei;exact#[O.fD _,O.fD _]
  let#[a1,a2]:=l i Z1 Z1;exact#[O.trans e a1,O.trans a2 c]
def OF(f:Nat->Nat->Bool)(N cq:Nat)(r:Nat × Array Nat):Prop:=Good N r.2/\1<=r.1/\r.1<=cq/\Up f r.2 r.1
theorem TU(hN:0<N){p:Array Nat}{n cq:Nat}(g:Good N p)(h1:1<=n)(hn:n<=cq)(hr:cq<=N)(d:Down f p n):Ok f N (kas_tail3 n cq p) (OF f N cq):=by
 unfold kas_tail3
 have u:Up f (kas_rev p 0 n) n:=λi j pO hj=>by
  rw[CL (by rw[g.size];omega),CL (by rw[g.size];omega),aJ Z1,aJ Z1];exact d _ _ Z1 Z1
 exact (Ng O (g.rev _ _) hN (cq - n) n h1 u).bind λm ⟨a,b,u,_⟩=>#[g.rev _ _,by show 1<=m;omega,by show m<=cq;omega,u]
theorem V3(hN:0<N){p:Array Nat}{n cq:Nat}(g:Good N p)(hn:n+1<=cq)(hr:cq<=N)(d:Down f p (n+1)):Ok f N (kas_descPart n cq p) (OF f N cq):=by
 unfold kas_descPart;apply (Kv O hN (cq - (n+1)) p (n+1) 0 g Z1 Z1 Z1 d λi h2 h3=>?_).bind λr ⟨g',a,b,d',hq,l⟩=>?_
 ·have e:i=n+1 - 1:=by omega
  subst e;exact#[O.fD _,O.fD _]
 split
 ·exact TU O hN (g'.rev _ _) Z1 Z1 hr (d'.rev O l (by rw[g'.size];omega))
 exact TU O hN g' Z1 Z1 hr d'
theorem j5_(hN:0<N){p:Array Nat}{cq:Nat}(g:Good N p)(h1:1<=cq)(hr:cq<=N):Ok f N (kas_count cq p) (OF f N cq):=by
 unfold kas_count;apply (Ng O g hN (cq - 1) 1 (bj _) λi j pO hj=>?_).bind λn ⟨a,b,u,st⟩=>?_
 ·have e:i=j:=by omega
  subst e;exact O.fD _
 by_cases e:(n == cq)=true
 ·rw[aJ e];exact#[g,a,by show n<=cq;omega,u]
 rw[aC e];have e:n≠cq:=⇑e
 let c:=st Z1;by_cases h2:n > 1
 ·rw[aJ h2];apply#[g.lt hN _,g.lt hN _,?_];dsimp only;by_cases c2:f (at' p 0) (at' p (n - 1))=true
  ·rw[aJ c2];exact#[g,a,by show n<=cq;omega,u]
  rw[aC c2];have c2:f (at' p 0) (at' p (n - 1))=false:=⇑c2
  apply V3 O hN (g.rev _ _) Z1 hr λi j pO hj=>?_;by_cases ej:j<n
  ·rw[CL (by rw[g.size];omega),CL (by rw[g.size];omega),aJ Z1,aJ Z1];exact u _ _ Z1 Z1
  have ej:j=n:=by omega
  subst ej;by_cases ei:i=j
  ·subst ei;exact O.fD _
  rw[CL (by rw[g.size];omega),CL (by rw[g.size];omega),aJ Z1,aC Z1];exact O.trans (O.trans (O.IQ c) c2) (u 0 _ Z1 Z1)
 rw[aC h2];have e1:n=1:=by omega
 subst e1;apply V3 O hN g Z1 hr λi j pO hj=>?_;by_cases ei:i=j
 ·subst ei;exact O.fD _
 have q1:i=0:=by omega
 have q2:j=1:=by omega
 subst q1;subst q2;exact O.IQ c
theorem O1(hN:0<N){p:Array Nat}{k:Nat}(g:Good N p)(u:Up f p k):∀(m l r:Nat),r - l<=m->l<=r->r<=k->(∀i,i<l->f (at' p k) (at' p i)=false)->(∀i,r<=i->i<k->f (at' p k) (at' p i)=true)->
  Ok f N (kas_place p k m l r) λx=>x<=k/\(∀i,i<x->f (at' p k) (at' p i)=false)/\∀i,x<=i->i<k->f (at' p k) (at' p i)=true
 |0,l,r,hm,hl,hr,h1,h2=>by
  have e:l=r:=by omega
  subst e;exact#[hr,h1,h2]
 |m+1,l,r,hm,hl,hr,h1,h2=>by
  unfold kas_place;by_cases e:l ≥ r
  ·rw[aJ e];have e:l=r:=by omega
   subst e;exact#[hr,h1,h2]
  rw[aC e];apply#[g.lt hN _,g.lt hN _,?_];dsimp only;by_cases c:f (at' p k) (at' p ((l+r) / 2))=true
  ·rw[aJ c];apply O1 hN g u m l _ Z1 Z1 Z1 h1 λi h3 h4=>?_;by_cases ei:f (at' p k) (at' p i)=true
   ·exact ei
   have ei:f (at' p k) (at' p i)=false:=⇑ei
   have:=O.trans (u _ i h3 h4) ei;rw[c] at this;cases this
  rw[aC c];have c:f (at' p k) (at' p ((l+r) / 2))=false:=⇑c
  exact O1 hN g u m _ r Z1 Z1 hr (λi h3=>O.trans (u i _ Z1 Z1) c) h2
theorem Sk(hN:0<N):∀(m:Nat) (p:Array Nat) (k:Nat),Good N p->k+m=N->Up f p k->Ok f N (kas_bin m p k) λr=>Good N r/\Up f r N
 |0,p,k,g,e,u=>by
  have e:k=N:=by omega
  subst e;exact#[g,u]
 |m+1,p,k,g,e,u=>by
  unfold kas_bin;apply (O1 O hN g u k 0 k Z1 Z1 (bj _) (λi h=>absurd h Z1) λi h1 h2=>absurd h2 Z1).bind λl ⟨hl,h1,h2⟩=>?_;have hk:k<p.size:=by rw[g.size];omega
  apply Sk hN m _ (k+1) (g.bub _ _) Z1 λi j pO hj=>?_;rw[Sx hk hl,Sx hk hl];by_cases ej:j=l
  ·rw[aJ ej];by_cases ei:i=l
   ·rw[aJ ei];exact O.fD _
   rw[aC ei,aC Z1];exact h1 i Z1
  rw[aC ej];by_cases UQ:l<j/\j<=k
  ·rw[aJ UQ];by_cases ei:i=l
   ·rw[aJ ei];exact O.IQ (h2 (j - 1) Z1 Z1)
   rw[aC ei];by_cases UR:l<i/\i<=k
   ·rw[aJ UR];exact u _ _ Z1 Z1
   rw[aC UR];exact u _ _ Z1 Z1
  rw[aC UQ];rw[aC (show ¬i=l by omega),aC (show ¬(l<i/\i<=k) by omega)];exact u _ _ Z1 Z1
theorem TL(hN:0<N):Ok f N (kas_sort N) λp=>Good N p/\Up f p N:=by
 unfold kas_sort;apply (j5_ O hN (p:=(List.range N).toArray) (Array.Perm.refl _) hN (bj _)).bind λr ⟨g,h1,h2,u⟩=>?_;split
 ·rename_i c
  rw[show max r.1 1=r.1 by omega];exact Sk O hN _ _ _ g Z1 u
 rename_i c
 have e:r.1=N:=by omega
 exact#[g,e▸u]
end
end qk
namespace qk
open PySem PySem.W PyProof.Rows
section
variable{prog:Ad}{w:Af}{A:Ag}{E:Aa->Ab->Prop}{s:Ab}
def yo(prog:Ad)(w:Af)(A:Ag)(f:Nat->Nat->Bool)(vs:ak)(s:Ab):Prop:=
 ∃κ,(∀Q:SortKind->Ab->Prop,Q κ s->wpAny (model prog w) A (keyKind' vs.toArray) Q (λ_ _=>False) s)/\∀i j C,i<vs.length->j<vs.length->C (f i j) s->kas_ask prog w A κ vs i j C s
def HP(a:Addr)(h h':Heap):Prop:=∀b o,b≠a->h.get? b\o->h'.get? b\o
def oz(p:Array Nat)(vs:ak):ak:=p.toList.map λi=>vs.getD i Value.none
theorem V8(vs:ak):oz (List.range vs.length).toArray vs=vs:=by
 unfold oz;apply List.ext_getElem? ?_;intro i;simp only[dQ];by_cases h:i<vs.length
 ·simp[h]
 simp[Nat.le_of_not_lt h]
theorem jC_{a:Addr}{vs:ak}{n:Nat}{f:Nat->Nat->Bool}{P:Fin->Ab->Prop}(O:Ord f)(ho:s.heap.get? a\seqObj "list" vs.toArray n)(bY:vs.length<64)
  (B0:2<=vs.length->∀h',HP a s.heap h'->yo prog w A f vs { s with heap:=h' })
  (h:∀(p:Array Nat) (h':Heap) (e:Nat),Good vs.length p->Up f p vs.length->h'.get? a\seqObj "list" (oz p vs).toArray e->HP a s.heap h'->P (.done (.ret .none)) { s with heap:=h' }) :
  wpAny (model prog w) A (Builtin.«list.sort» #[[.ref a],[]]) P E s:=by
 have haz:a<s.heap.objs.size:=bN ho;obtain⟨e1,DD⟩:∃e1,(s.heap.update a (Obj.mapSeq λ_=>(#[]:Array Aa))).get? a\seqObj "list" #[] e1:=#[_,get?_update_seq ho (λ_=>#[])]
 have MW:vs.length<=sizeLine:=by
  have:=cm;omega
 rw[list_sort_plain];apply ao (listItems_at ho Z (ao (listUpdate_at ho Z (ao (seqEpoch_at DD Z (ao (wpAny_newTuple (ao (wpAny_newList (jK ?_) (hG _))) MW)))) ⇑MW (hG _))))
 have keep:∀g:Array Aa->Array Aa,HP a s.heap ((((s.heap.update a (Obj.mapSeq λ_=>(#[]:Array Aa))).push (seqObj "tuple" vs.toArray 0)).push (seqObj "list" #[] 0)).update a (Obj.mapSeq g)):=λg b o hb e=>by
  apply (ji _ _ (Ne.symm hb)).trans (bQ _ (bQ _ ?_));exact (ji _ _ (Ne.symm hb)).trans e
 have FX:HP a s.heap (((s.heap.update a (Obj.mapSeq λ_=>(#[]:Array Aa))).push (seqObj "tuple" vs.toArray 0)).push (seqObj "list" #[] 0)):=λb o hb e=>
  bQ _ (bQ _ ((ji _ _ (Ne.symm hb)).trans e))
 have DC:(((s.heap.update a (Obj.mapSeq λ_=>(#[]:Array Aa))).push (seqObj "tuple" vs.toArray 0)).push (seqObj "list" #[] 0)).get? a\seqObj "list" #[] e1:=bQ _ (bQ _ DD);show wpAny (model prog w) A _ P E { s with heap:=((s.heap.update a (Obj.mapSeq λ_=>(#[]:Array Aa))).push (seqObj "tuple" vs.toArray 0)).push (seqObj "list" #[] 0) };dsimp only;by_cases h2:vs.toArray.size<2
 ·rw[aJ h2,aJ h2];apply ao (aP ?_);rw[StateT.run_pure]
  have xQ:((vs.toArray.zip vs.toArray).map λx:Keyed=>x.2)=(oz (List.range vs.length).toArray vs).toArray:=by
   rw[V8];apply Array.ext' ?_;simp[List.map_snd_zip]
  apply ao (aP (ao (seqEpoch_at DC Z (ao (listUpdate_at DC Z ?_ (hG _) ?_)))))
  ·simp only[bne_self_eq_false,me,if_false];apply aP (h (List.range vs.length).toArray _ _ (Array.Perm.refl _) (λi j pO hj=>?_) ((get?_update_seq DC _).trans (eA (λz=>some (seqObj "list" z _)) xQ)) (keep _))
   have e:i=j:=by
    simp only[cn] at h2;omega
   subst e;exact O.fD _
  have e:((vs.toArray.zip vs.toArray).map λx:Keyed=>x.2).size<=sizeLine+1:=by
   simp only[Array.size_map,Array.size_zip,cn];omega
  exact e
 rw[aC h2,aC h2]
 have iL:2<=vs.length:=by
  simp only[cn] at h2;omega
 let#[κ,hk,hc]:=B0 iL _ FX;apply ao (iM (hk (λk s'=>k=κ/\s'=_) #[Z,Z]) (λk s' Gs=>?_) λ_ _ x=>x.elim);let#[rfl,rfl]:=Gs
 apply ao (iM (kat_run (ks:=vs) (vs:=vs) (G:=λp s'=>s'={ s with heap:=((s.heap.update a (Obj.mapSeq λ_=>(#[]:Array Aa))).push (seqObj "tuple" vs.toArray 0)).push (seqObj "list" #[] 0) }/\Good vs.length p/\Up f p vs.length)
  (Q:=λfI s'=>∃p:Array Nat,arrOf fI=p.map (kas_item (vs.toArray.zip vs.toArray))/\failedOf fI=none/\s'={ s with heap:=((s.heap.update a (Obj.mapSeq λ_=>(#[]:Array Aa))).push (seqObj "tuple" vs.toArray 0)).push (seqObj "list" #[] 0) }/\Good vs.length p/\Up f p vs.length)
  rfl iL bY (λp fI s' _ q1 q2 q3=>#[p,q1,q2,q3]) (Ok.wp hc (λp q=>#[Z,q]) (TL O Z1))) ?_ λ_ _ x=>x)
 rintro⟨⟨⟩,fI⟩ s' ⟨p,N4,hf,rA,g,u⟩;have rA:s'={ s with heap:=((s.heap.update a (Obj.mapSeq λ_=>(#[]:Array Aa))).push (seqObj "tuple" vs.toArray 0)).push (seqObj "list" #[] 0) }:=rA;subst rA
 have xQ:((arrOf fI).map λx:Keyed=>x.2)=(oz p vs).toArray:=by
  rw[N4];apply Array.ext' ?_;unfold oz;simp only[Array.map_map,Array.toList_map,List.toList_toArray];apply vF λi _=>?_;show (kas_item (vs.toArray.zip vs.toArray) i).2=_;unfold kas_item;by_cases hi:i<vs.length
  ·simp[Array.getD,hi]
  simp[Array.getD,hi,Nat.le_of_not_lt hi]
 have esz:((arrOf fI).map λx:Keyed=>x.2).size=vs.length:=by
  rw[xQ];unfold oz;simp only[cn,aB,vG];exact g.size
 apply ao (seqEpoch_at DC Z (ao (listUpdate_at DC Z ?_ (hG _) (by rw[esz];omega))));rw[hf];simp only[bne_self_eq_false,me,if_false];exact aP (h p _ _ g u ((get?_update_seq DC _).trans (eA (λz=>some (seqObj "list" z _)) xQ)) (keep _))
theorem Vt{x:Aa}{f:Nat->Nat->Bool}{Q:Aa->Ab->Prop}(O:Ord f)
  (nJ:wpAny (model prog w) A.in1 (collect x) (λvs s1=>vs.length<64/\(2<=vs.length->∀h':Heap,(∀b o,s1.heap.get? b\o->h'.get? b\o)->yo prog w A.in1.in1 f vs { s1 with heap:=h' }) /\
   ∀(p:Array Nat) (h':Heap) (e:Nat),Good vs.length p->Up f p vs.length->h'.get? s1.heap.objs.size\seqObj "list" (oz p vs).toArray e->(∀b o,s1.heap.get? b\o->h'.get? b\o)->Q (.ref s1.heap.objs.size) { s1 with heap:=h' }) E s) :
  wpAny (model prog w) A (call (.builtin "sorted") [x]) Q E s:=by
 apply Calls.call_function_entry kind_sorted plain_sorted entry_sorted (args_sorted1 _) ?_;unfold Builtin.«sorted»;apply ao (m:=checkCount "sorted" 1 1 _) (aP (ao (iM nJ (λvs s1 q=>?_) λ_ _ z=>z)));let#[bY,B0,hQ]:=q;apply ao (wpAny_newList ?_ (by have:=cm;omega));have hn:(s1.heap.push (seqObj "list" vs.toArray 0)).get? s1.heap.objs.size\seqObj "list" vs.toArray 0:=dU _ Z
 have old:∀h',HP s1.heap.objs.size (s1.heap.push (seqObj "list" vs.toArray 0)) h'->∀b o,s1.heap.get? b\o->h'.get? b\o:=λh' k b o e=>
  k b o (dB (bN e)) (bQ _ e)
 apply ao (jK (wpAny_call_entry slot_list_sort #[_,hn,Z] entry_list_sort (jC_ O hn bY (λh2 h' k=>B0 h2 h' (old h' k)) λp h' e g u q k=>#[_,Z,?_]) (args_list_sort _)));exact aP #[_,Z,hQ p h' e g u q (old h' k)]
end
end qk
namespace L2
open PySem PySem.Spec PyProof.Rows PySem.W qk
def jR:Key->Key->Bool
 |.inl i,.inl j=>decide (i<j)
 |.inl _,.inr _=>true
 |.inr _,.inl _=>false
 |.inr x,.inr y=>decide (x.cps.toList<y.cps.toList)
def bG:ax->ax->Bool
 |[],[]=>false
 |[],_::_=>true
 |_::_,[]=>false
 |a::r,b::q=>if a=b then bG r q else jR a b
theorem Z7:∀a:Key,jR a a=false
 |.inl i=>by simp[jR]
 |.inr x=>by simp[jR,List.lt_irrefl]
theorem U1:∀{a b:Key},jR a b=true->jR b a=false
 |.inl i,.inl j,h=>by
  simp only[jR,decide_eq_true_eq,decide_eq_false_iff_not] at *;omega
 |.inl _,.inr _,_=>rfl
 |.inr _,.inl _,h=>by cases h
 |.inr x,.inr y,h=>by
  simp only[jR,decide_eq_true_eq,decide_eq_false_iff_not] at *;exact λq=>List.lt_irrefl _ (List.lt_trans h q)
theorem Tu:∀{a b:Key},jR a b=false->jR b a=false->a=b
 |.inl i,.inl j,h,h2=>by
  simp only[jR,decide_eq_false_iff_not] at *;rw[show i=j by omega]
 |.inl _,.inr _,h,_=>by cases h
 |.inr _,.inl _,_,h=>by cases h
 |.inr x,.inr y,h,h2=>by
  simp only[jR,decide_eq_false_iff_not] at *;rw[ext_toList (List.le_antisymm (List.not_lt.mp h2) (List.not_lt.mp h))]
theorem hL_:∀{a b c:Key},jR a b=true->jR b c=true->jR a c=true
 |.inl i,.inl j,.inl k,h,h2=>by
  simp only[jR,decide_eq_true_eq] at *;omega
 |.inl _,.inl _,.inr _,_,_=>rfl
 |.inl _,.inr _,.inr _,_,_=>rfl
 |.inl _,.inr _,.inl _,_,h=>by cases h
 |.inr _,.inl _,_,h,_=>by cases h
 |.inr _,.inr _,.inl _,_,h=>by cases h
 |.inr x,.inr y,.inr z,h,h2=>by
  simp only[jR,decide_eq_true_eq] at *;exact List.lt_trans h h2
theorem Pu:∀a:ax,bG a a=false
 |[]=>rfl
 |a::r=>by
  unfold bG;rw[aJ Z];exact Pu r
theorem PU:∀{a b:ax},bG a b=true->bG b a=false
 |[],[],h=>by cases h
 |[],_::_,_=>rfl
 |_::_,[],h=>by cases h
 |a::r,b::q,h=>by
  unfold bG at h ⊢;by_cases e:a=b
  ·rw[aJ e] at h;rw[aJ e.symm];exact PU h
  rw[aC e] at h;rw[aC (Ne.symm e)];exact U1 h
theorem Pk:∀{a b:ax},bG a b=false->bG b a=false->a=b
 |[],[],_,_=>rfl
 |[],_::_,h,_=>by cases h
 |_::_,[],_,h=>by cases h
 |a::r,b::q,h,h2=>by
  unfold bG at h h2;by_cases e:a=b
  ·rw[aJ e] at h;rw[aJ e.symm] at h2;rw[e,Pk h h2]
  rw[aC e] at h;rw[aC (Ne.symm e)] at h2;exact absurd (Tu h h2) e
theorem VY:∀{a b c:ax},bG a b=true->bG b c=true->bG a c=true
 |[],_,[],h,h2=>by
  rename_i b
  cases b with
  |nil=>cases h
  |cons _ _=>cases h2
 |[],_,_::_,_,_=>rfl
 |_::_,[],_,h,_=>by cases h
 |_::_,_::_,[],_,h=>by cases h
 |a::r,b::q,c::t,h,h2=>by
  unfold bG at h h2 ⊢;by_cases e:a=b
  ·subst e;rw[aJ Z] at h;by_cases e2:a=c
   ·rw[aJ e2] at h2 ⊢;exact VY h h2
   rw[aC e2] at h2 ⊢;exact h2
  rw[aC e] at h;by_cases e2:b=c
  ·subst e2;rw[aC e];exact h
  rw[aC e2] at h2;let h3:=hL_ h h2;rw[aC (λq=>by rw[q,Z7] at h3;cases h3)];exact h3
theorem VD{a b c:ax}(h:bG b a=false)(h2:bG c b=false):bG c a=false:=by
 cases e:bG c a with
 |false=>rfl
 |true=>
  by_cases e1:bG a b=true
  ·have:=VY e e1;rw[h2] at this;cases this
  have e1:bG a b=false:=⇑e1
  have:=Pk e1 h;subst this;rw[h2] at e;cases e
def EC(ks:List ax):Prop:=ks.Pairwise λa b=>bG b a=false
theorem Vr:∀{a b:List ax},a.Perm b->EC a->EC b->a=b
 |[],b,p,_,_=>by
  have:=p.length_eq;cases b with
  |nil=>rfl
  |cons _ _=>cases this
 |x::r,[],p,_,_=>by
  have:=p.length_eq;cases this
 |x::r,y::q,p,h1,h2=>by
  let#[a1,a2]:=List.pairwise_cons.mp h1;let#[b1,b2]:=List.pairwise_cons.mp h2
  have e:x=y:=by
   rcases bW.mp (p.mem_iff.mp eZ) with m|m
   ·exact m
   rcases bW.mp (p.mem_iff.mpr eZ) with m2|m2
   ·exact m2.symm
   exact Pk (b1 _ m) (a1 _ m2)
  subst e;rw[Vr ((List.perm_cons _).mp p) a2 b2]
def a9(ks:List ax):List ax:=ks.mergeSort λa b=>!bG b a
theorem oE(ks:List ax):(a9 ks).Perm ks:=List.mergeSort_perm _ _
theorem gj_(ks:List ax):EC (a9 ks):=by
 have:=List.pairwise_mergeSort (le:=λa b=>!bG b a) (λa b c h1 h2=>by
  simp only[Bool.not_eq_true'] at *;exact VD h1 h2) (λa b=>by
  simp only[Bool.or_eq_true,Bool.not_eq_true'];by_cases e:bG b a=true
  ·exact .inr (PU e)
  exact .inl ⇑e) ks
 exact this.imp λh=>by simpa using h
theorem Qt{ks uC:List ax}(p:uC.Perm ks)(h:EC uC):uC=a9 ks:=Vr (p.trans (oE ks).symm) h (gj_ ks)
theorem Il{α:Type}{p:Array Nat}{n:Nat}(g:Good n p)(F:Nat->α):(p.toList.map F).Perm ((List.range n).map F):=by
 have e:p.toList.Perm (List.range n):=by
  have:=Array.perm_iff_toList_perm.mp g;simpa using this
 exact e.map F
theorem OQ{p:Array Nat}{ks:List ax}{f:Nat->Nat->Bool}(hf:∀i j,i<ks.length->j<ks.length->f i j=bG (ks.getD i []) (ks.getD j []))(g:Good ks.length p)(u:Up f p ks.length):EC (p.toList.map λi=>ks.getD i []):=by
 unfold EC;rw[vE,List.pairwise_iff_getElem];intro i j hi hj pO;let hs:=g.size;rw[vG] at hi hj;have NO:j<ks.length:=by omega
 let q:=u i j (Nat.le_of_lt pO) NO;have hN:0<ks.length:=by omega
 rw[hf _ _ (g.lt hN _) (g.lt hN _)] at q;have e1:at' p i=p.toList[i]:=by simp[at',Array.getD,hi]
 have e2:at' p j=p.toList[j]:=by simp[at',Array.getD,hj]
 rw[e1,e2] at q;exact q
theorem Pg(ks:List ax):Ord λi j=>bG (ks.getD i []) (ks.getD j []):=#[λ_=>Pu _,λh h2=>VD h h2,λh=>PU h]
theorem IA{α:Type}(d:α)(l:List α):((List.range l.length).map λi=>l.getD i d)=l:=by
 apply List.ext_getElem? ?_;intro i;simp only[dQ];by_cases h:i<l.length
 ·simp[h]
 simp[Nat.le_of_not_lt h]
theorem Pp{ys:aj}{vs:ak}(r:Vals ys vs){p:Array Nat}(g:Good vs.length p):Vals (p.toList.map λi=>ys.getD i .non) (oz p vs):=by
 unfold oz
 have key:∀l:List Nat,(∀i∈l,i<vs.length)->Vals (l.map λi=>ys.getD i .non) (l.map λi=>vs.getD i Value.none):=λl=>by
  induction l with
  |nil=>exact λ_=>.nil
  |cons i l ih=>
   intro h;apply .cons ?_ (ih λj hj=>h j (dZ _ hj));let hi:=h i eZ;have hy:i<ys.length:=by rw[r.length];exact hi
   let#[u,hu,ru]:=r.get (dE hy);have e1:ys.getD i .non=ys[i]:=by simp[hy]
   have e2:vs.getD i Value.none=u:=by simp[hu]
   show RelV (ys.getD i .non) (vs.getD i Value.none);rw[e1,e2];exact ru
 apply key p.toList λi hi=>?_;have m:i∈(List.range vs.length).toArray:=g.mem_iff.mp ⇑hi;simpa using m
theorem SF:∀{ss:ae} {vs:ak},Vals (ss.map V.str) vs->StrsAre vs ss
 |[],_,.nil=>.nil
 |x::r,_,.cons h t=>by
  let#[tk,rfl]:=h;exact .cons x tk (SF t)
def jk(ss:ae):ae:=(a9 (ss.map λx=>[Sum.inr x])).map λk=>match k with
 |[.inr x]=>x
 |_=>⟨#[]⟩
def dA(x:Str):ax:=[Sum.inr x]
theorem hr_{prog:Ad}{w:Af}{A:Ag}{s:Ab}{ss:ae}{vs:ak}(r:StrsAre vs ss)(h2:2<=vs.length):yo prog w A (λi j=>bG ((ss.map dA).getD i []) ((ss.map dA).getD j [])) vs s:=by
 apply#[oneType',λQ q=>?_,λi j C hi hj hC=>?_]
 ·match vs,h2 with
  |v₁::Xf::t,_=>
   rw[keyKind_strs r];exact aP q
 unfold kas_ask;rw[keyLt'_oneType]
 have look:∀k,k<vs.length->∃x t,vs.getD k Value.none=.str x t/\(ss.map dA).getD k []=[Sum.inr x]:=λk hk=>by
  let e:=r.strs;let#[x,t,q]:=r.all vs[k] (oH hk);apply#[x,t,by simp[hk,q],?_]
  have SX:k<ss.length:=by
   rw[<- e,aB];exact hk
  have e2:ss[k]=x:=by
   have e3:(vs.map strOf)[k]? = ss[k]?:=by rw[e]
   rw[dQ,dE hk,dE SX,q] at e3;exact (dG e3).symm
  simp[SX,e2,dA]
 let#[x,t,e1,e2]:=look i hi;let#[y,u,e3,e4]:=look j hj;rw[e1,e3];dsimp only at hC;rw[e2,e4] at hC;apply oneLt_str ?_;unfold bG at hC;by_cases e:x=y
 ·subst e;rw[aJ Z] at hC;have:decide (x.cps.toList<x.cps.toList)=false:=by simp[List.lt_irrefl]
  rw[this];exact hC
 rw[aC (λq=>e (iC q))] at hC;exact hC
def zg:Key->Bool
 |.inl _=>false
 |.inr _=>true
theorem hx_{prog:Ad}{w:Af}{A:Ag}{E:Aa->Ab->Prop}{s:Ab}{c:Bool}{a b:Key}{p q:Aa}{Q:Bool->Ab->Prop}(ra:RelV (kV a) p)(rb:RelV (kV b) q)(hk:zg a=zg b)(h:Q (jR a b) s) :
  wpAny (model prog w) A (oneLt' c p q) Q E s:=by
 cases a with
 |inl i=>
  cases b with
  |inr y=>cases hk
  |inl j=>
   let#[t,rfl]:=ra;let#[u,rfl]:=rb;cases c with
   |true=>exact oneLt_int h
   |false=>exact kat_one _ _ (lt_int (show PySem.W.BoolBack Q (.bool _) s from h))
 |inr x=>
  cases b with
  |inl j=>cases hk
  |inr y=>
   let#[t,rfl]:=ra;let#[u,rfl]:=rb;cases c with
   |true=>exact oneLt_str h
   |false=>exact kat_one _ _ (PyProof.Rows.lt_str (show PySem.W.BoolBack Q (.bool _) s from h))
theorem SM{a b:Key}(hk:zg a=zg b):iY (kV a) (kV b)=decide (a=b):=by
 cases a with
 |inl i=>
  cases b with
  |inr y=>cases hk
  |inl j=>
   show (i == j)=_;by_cases e:i=j
   ·subst e;simp
   ·rw[dc (λq=>e (Sum.inl.inj q))];simpa using e
 |inr x=>
  cases b with
  |inl j=>cases hk
  |inr y=>
   show (x == y)=_;by_cases e:x=y
   ·subst e;simp
   rw[dc (λq=>e (iC q))];simpa using e
theorem Uo(a:Key):jY (kV a)=true:=by cases a<;>rfl
theorem We{prog:Ad}{w:Af}{A:Ag}{s:Ab}{Q:Bool->Ab->Prop}:∀{k1 k2:ax} {us vs:ak} (i:Nat),Vals (k1.map kV) us->Vals (k2.map kV) vs->k1.map zg=k2.map zg->Q (bG k1 k2) s->KatLex prog w A true false Q (us.zip vs) i s
 |[],[],_,_,i,.nil,.nil,_,h=>h
 |[],_::_,_,_,_,_,_,h,_=>by cases h
 |_::_,[],_,_,_,_,_,h,_=>by cases h
 |a::k1,b::k2,u::us,v::vs,i,.cons ra r1,.cons rb r2,hk,h=>by
  let#[e1,e2]:=List.cons.inj hk;apply kat_cons ?_;apply Ea ra rb (Uo a) (Uo b) prog w _ _ ?_;rw[SM e1];unfold bG at h;by_cases e:a=b
  ·rw[aJ e] at h;rw[cc e];exact kat_yes (We (i+1) r1 r2 e2 h)
  rw[aC e] at h;rw[dc e];exact kat_no (hx_ ra rb e1 h)
def bF(K:af)(H:Hp):aj->List ax->Prop:=Paired λy k=>∃a,y=V.ref a/\H a\.tup (k.map kV)
def Cd(ks:List ax)(sh:List Bool):Prop:=sh≠[]/\∀k∈ks,k.map zg=sh
theorem Vb{X:Cx}{pins:List (Addr × Obj)}{σ:St}{H:Hp}{s s':Ab}{A:Ag}{ys:aj}{ks:List ax}{sh:List Bool}{vs:ak}(I:Inv X pins σ H s)(r:Vals ys vs)(t:bF X.K H ys ks)(al:Cd ks sh)(h2:2<=vs.length)
  (kp:∀b o,s.heap.get? b\o->s'.heap.get? b\o):yo X.prog X.w A (λi j=>bG (ks.getD i []) (ks.getD j [])) vs s':=by
 have look:∀k,k<vs.length->∃a its,vs.getD k Value.none=.ref a/\Vals ((ks.getD k []).map kV) its/\IsTup s'.heap a its.toArray/\ks.getD k []∈ks:=λk hk=>by
  have hy:k<ys.length:=by rw[r.length];exact hk
  have DF:k<ks.length:=by rw[<- bS t];exact hy
  let#[u,hu,ru]:=r.get (dE hy)
  have gen:∀{ys:aj} {ks:List ax} (k:Nat) (hy:k<ys.length) (DF:k<ks.length),bF X.K H ys ks->∃a,ys[k]=V.ref a/\H a\.tup (ks[k].map kV):=λ{ys ks} k hy DF t=>by
   induction t generalizing k with
   |nil=>exact absurd hy Z2
   |cons h t ih=>
    cases k with
    |zero=>exact h
    |succ k=>exact ih k ⇑hy ⇑DF
  let#[a,e,sq]:=gen k hy DF t;let#[its,ri,ti,_]:=I.tuple (iD.of sq);rw[e] at ru;cases ru;have e2:ks.getD k []=ks[k]:=by simp[DF]
  apply#[a,its,by simp[hu],by rw[e2];exact ri,ti.keeps kp,?_];rw[e2];exact oH DF
 let#[qH,GH]:=al
 obtain⟨c,E5,rfl⟩:∃c E5,sh=c::E5:=by
  cases sh with
  |nil=>exact absurd Z qH
  |cons c E5=>exact#[c,E5,Z]
 apply#[tuples' true,λQ q=>?_,λi j C hi hj hC=>?_]
 ·have B5:∀l:ak,(∀v∈l,∃(a:Addr) (its:ak) (k:ax),v=.ref a/\Vals (k.map kV) its/\IsTup s'.heap a its.toArray/\k.map zg=c::E5)->∃fs,KatTups s'.heap l fs/\fs.length=l.length/\∀v∈fs,Looks (model X.prog X.w) s'.heap (typeOf v) (.type (if c then "str" else "int")):=λl=>by
   induction l with
   |nil=>exact λ_=>#[[],.nil,Z,λ_ h=>nomatch h]
   |cons v l ih=>
    intro h;let#[fs,h1,h2,h3]:=ih λv hv=>h v (dZ _ hv);let#[a,its,k,rfl,rv,#[o,ho,hc,n,hd],hk]:=h v eZ
    match k,its,rv,hk with
    |k0::k,u::its,.cons r0 _,hk=>
     apply#[u::fs,.cons ho hc hd Z2 h1,by simp[h2],λv hv=>?_];rcases bW.mp hv with e|hv
     ·subst e;let e0:=(List.cons.inj hk).1;cases k0 with
      |inl i=>
       let#[t,rfl]:=r0;rw[<- e0];exact .now
      |inr x=>
       let#[t,rfl]:=r0;rw[<- e0];exact .now
     exact h3 v hv
  let#[fs,h1,h3,h4]:=B5 vs λv hv=>by
   let#[k,hk,rfl]:=rZ hv;let#[a,its,e,rv,ti,m]:=look k hk;apply#[a,its,_,?_,rv,ti,GH _ m];rw[<- e];simp[hk]
  apply kat_kind h1 Z1 h4 (by cases c<;>decide) ?_
  have e:((Value.type (if c then "str" else "int")) != Value.type "tuple")=true:=by cases c<;>decide
  rw[e];exact q
 unfold kas_ask;let#[a,its,e1,r1,#[o,ho,_,n,hd],m1]:=look i hi;let#[b,jz,e2,r2,#[o2,BK,_,n2,hd2],m2]:=look j hj;rw[e1,e2];apply kat_lt ho hd BK hd2 ?_;let l1:=r1.length;let l2:=r2.length;let l3:=eA List.length ((GH _ m1).trans (GH _ m2).symm);simp only[aB] at l1 l2 l3;rw[show decide (its.toArray.size<jz.toArray.size)=false by simp;omega];exact We 0 r1 r2 ((GH _ m1).trans (GH _ m2).symm) hC
end L2
namespace dI
open PySem PySem.W PyProof.Rows
section
variable{prog:Ad}{w:Af}{A:Ag}{E:Aa->Ab->Prop}{s:Ab}
def Raw(h:Heap)(d:Addr)(es:Array Ah)(ep:Nat):Prop:=∃o,h.get? d\o/\o.ExactDict/\o.data=.dict es ep
theorem Raw.cQ{h h':Heap}{d:Addr}{es:Array Ah}{ep:Nat}(x:Raw h d es ep)(k:∀o,h.get? d\o->h'.get? d\o):Raw h' d es ep:=let #[o,e,r]:=x;#[o,k o e,r]
theorem Raw.ty{d:Addr}{es:Array Ah}{ep:Nat}(x:Raw s.heap d es ep):s.TypeIs (.ref d) "dict":=let #[o,e,c,_]:=x;#[o,e,c.1]
theorem iM_{d:Addr}{es:Array Ah}{ep:Nat}{Q:Aa->Ab->Prop}(hd:(d == sysModules)=false)(x:Raw s.heap d es ep)
  (q:Q (.ref s.heap.objs.size) { s with heap:=s.heap.push { cls:=.type "dict_keyiterator",data:=.fields (List.toArray [.ref d,.int 0 0,.int es.size 0,.int ep 0]) } }) :
  wpAny (model prog w) A (pyIter (.ref d)) Q E s:=by
 let#[o,ho,hc,nI]:=id x;apply wpAny_pyIter_slot x.ty F.slot_dict_iter (wpAny_call_entry F.slot_dict_iter x.ty F.entry_dict_iter ?_ (F.args_dict_iter_1 _));unfold Builtin.«dict.__iter__» Builtin.Dict.dictSlotNone;apply ao (ao (wpAny_notOrdered_dict x.ty (show wpAny _ _ (pure (Value.ref d)) _ _ s from aP (show wpAny _ _ (Builtin.Dict.showsAll d >>= _) _ _ s from ?_))));unfold Builtin.Dict.showsAll;rw[aC (by rw[hd];decide)];apply ao (aP (ao (wpAny_dictEntries ho nI (ao (wpAny_dictEpoch ho nI (ao (wb (aP #[_,Z,"dict_keyiterator",_,#[_,dU _ Z,Z],F.slot_dict_keyiterator_next.lookup,?_]))))))));exact q
theorem jr_{it d:Addr}{i ep:Nat}{es:Array Ah}{Q:Option Aa->Ab->Prop}(hit:s.heap.IsKeyIter it d i es.size ep)(x:Raw s.heap d es ep)(hi:i<es.size)
  (q:∀h',h'.IsKeyIter it d (i+1) es.size ep->Heap.SameBut it s.heap h'->Q (some es[i].key) { s with heap:=h' }):wpAny (model prog w) A (pyNext (.ref it)) Q E s:=by
 let#[o,ho,hc,hd]:=id hit;let#[od,zj,fL,lS]:=id x;unfold pyNext;apply ao (wpAny_attempt (wpAny_callSpecial?_slot (name:=Str.ofString "__next__") hit.typeIs F.slot_dict_keyiterator_next (wpAny_call_entry F.slot_dict_keyiterator_next hit.typeIs F.entry_dict_keyiterator_next ?_ (F.args_dict_keyiterator_next_1 _))));apply ao (aP (ao (ao ?_)))
 first|refine ao (wpAny_typeNameOfWhole_keyiter hit.typeIs (aP (ao (wpAny_fieldsOf ho hd ?_))))|refine ao (wpAny_typeNameOf_keyiter hit.typeIs (aP (ao (wpAny_fieldsOf ho hd ?_))))
 simp only[show Builtin.Dict_items.ownsTuple "dict_keyiterator"=false by decide,me,if_false];apply (show wpAny _ _ (if (Value.ref d == Value.none)=true then _ else _) _ _ s from ?_);rw[aC (λz=>by cases z)];apply ao (aP (ao (wpAny_dictEntries zj lS ?_)));rw[aC Z2];apply ao (aP (ao (wpAny_dictEpoch zj lS ?_)));rw[aC Z2];apply aP ?_;simp only[show ¬((i:Int)<0) from by omega,if_false,wF,Array.getElem?_eq_getElem hi];apply ao ?_
 first|refine ao (wpAny_typeNameOfWhole_keyiter hit.typeIs (aP (ao (wpAny_isOneOf_keyiter hit.typeIs ?_))))|refine ao (wpAny_typeNameOf_keyiter hit.typeIs (aP (ao (wpAny_isOneOf_keyiter hit.typeIs ?_))))
 apply (show wpAny _ _ (setField (.ref it) 1 (rawInt ((i:Int)+1)) >>= _) _ _ s from ao (wpAny_setField ho hd Z2 ?_))
 have turned:(s.heap.update it (Obj.mapFields (·.setIfInBounds 1 (rawInt ((i:Int)+1))))).IsKeyIter it d (i+1) es.size ep:=
  #[_,zM _ ho (Obj.isFreed_of_fields (Obj.data_mapFields hd _)),(Obj.cls_mapFields ..).trans hc,by rw[Obj.data_mapFields hd];simp[rawInt]]
 apply ao (jK (ao (wpAny_isOneOf_keyiter (s:={ s with heap:=s.heap.update it (Obj.mapFields (·.setIfInBounds 1 (rawInt ((i:Int)+1)))) }) turned.typeIs ?_)));exact (show wpAny _ _ (pure es[i].key) _ _ _ from aP (aP #[_,Z,aP (q _ turned (Heap.SameBut.update ..))]))
theorem jH_{it d:Addr}{ep:Nat}{es:Array Ah}{Q:Option Aa->Ab->Prop}(hh:A.handled=none)(hit:s.heap.IsKeyIter it d es.size es.size ep)(x:Raw s.heap d es ep)
  (q:∀h',Heap.ExtBut it s.heap h'->Q none { s with heap:=h' }):wpAny (model prog w) A (pyNext (.ref it)) Q E s:=by
 let#[o,ho,hc,hd]:=id hit;let#[od,zj,fL,lS]:=id x;unfold pyNext;apply ao (wpAny_attempt (wpAny_callSpecial?_slot (name:=Str.ofString "__next__") hit.typeIs F.slot_dict_keyiterator_next (wpAny_call_entry F.slot_dict_keyiterator_next hit.typeIs F.entry_dict_keyiterator_next ?_ (F.args_dict_keyiterator_next_1 _))));apply ao (aP (ao (ao ?_)))
 first|refine ao (wpAny_typeNameOfWhole_keyiter hit.typeIs (aP (ao (wpAny_fieldsOf ho hd ?_))))|refine ao (wpAny_typeNameOf_keyiter hit.typeIs (aP (ao (wpAny_fieldsOf ho hd ?_))))
 simp only[show Builtin.Dict_items.ownsTuple "dict_keyiterator"=false by decide,me,if_false];apply (show wpAny _ _ (if (Value.ref d == Value.none)=true then _ else _) _ _ s from ?_);rw[aC (λz=>by cases z)];apply ao (aP (ao (wpAny_dictEntries zj lS ?_)));rw[aC Z2];apply ao (aP (ao (wpAny_dictEpoch zj lS ?_)));rw[aC Z2];apply aP ?_;simp only[show ¬((es.size:Int)<0) from by omega,if_false,wF,Array.getElem?_eq_none (bj _)];apply ao ?_
 first|refine ao (wpAny_typeNameOfWhole_keyiter hit.typeIs (aP ?g))|refine ao (wpAny_typeNameOf_keyiter hit.typeIs (aP ?g))
 apply (show wpAny _ _ (setField (.ref it) 0 .none >>= _) _ _ s from ao (wpAny_setField ho hd Z2 (show wpAny _ _ (newExc (.type "StopIteration") [] >>= _) _ _ _ from ao ?_)));simp only[newExc,newTuple];apply ao (wb (ao (m:=firstArgMember _ _) (wpAny_of_eq (a:=Value.none) (by first|rfl|(simp only[firstArgMember];rfl)) (wb ?_ (by size_fits)))) (by size_fits));simp only[raiseNew];apply ao (wpAny_handled ?_);rw[show A.in1.handled=none from hh];apply ao (aP (wpAny_throw ?_));exact ao (wpAny_isInstance (T:="StopIteration") (b:=true) #[_,dU _ Z,Z] isSubtype_stop (aP (q _ (((Heap.SameBut.update ..).extBut.push _).push _))))
theorem hX_(hh:A.handled=none)(I d:Addr)(qH:d≠I)(es:Array Ah)(ep:Nat) :
  Walks prog w A I [I,d] [I] es.size (λi v=>∃h:i<es.size,v=es[i].key) (λi h=>h.IsKeyIter I d i es.size ep/\Raw h d es ep) where
 sub:=λb hb=>by simp only[List.mem_singleton] at hb;simp[hb]
 frame:=λ_ _ _ st k=>#[st.1.at λo e=>k I Z2 o e,st.2.cQ λo e=>k d Z2 o e]
 item:=λi s Q E hi st hQ=>jr_ st.1 st.2 hi λh' BQ rA=>hQ _ h' s.toks #[hi,Z] #[BQ,st.2.cQ λo e=>rA.extBut d o qH e] λb o hb e=>rA.extBut b o (λh=>hb (by simp[h])) e
 done:=λs Q E st hQ=>jH_ hh st.1 st.2 λh' Gy=>hQ h' s.toks λb o hb e=>Gy b o (λh=>hb (by simp[h])) e
 self:=λ_ _ _ _ st hQ=>wpAny_pyIter_keyiter st.1 hQ
theorem _T{d:Addr}{es:Array Ah}{ep:Nat}(lo:(d == sysModules)=false):KdlSrc prog w "dict" d d es.size (λi v=>∃h:i<es.size,v=es[i].key) (λh=>Raw h d es ep) where
 type:=λs x=>x.ty
 there:=λh x=>let #[o,e,_]:=x;#[bN e,bN e]
 keep:=λh h' x k=>x.cQ λo e=>k d (.inl Z) o e
 notList:=by decide
 notTuple:=by decide
 hint:=λ_ _ s _ x q=>kdl_hint_dict x.ty q
 iter:=λA s hh x=>#[_,_,λE Q q=>iM_ lo x q,hX_ hh _ d (let #[o,e,_]:=x;dB (bN e)) es ep,#[#[_,dU _ Z,Z,Z],x.cQ λo e=>bQ _ e]]
end
end dI
namespace dI
open PySem PySem.W PyProof.Rows
theorem d6_:typeLookup (.type "list") "keys"=pure none:=by rw[typeLookup_type,builtinLookup_eq_fast];kernel_rfl
theorem hQ_{prog:Ad}{w:Af}{A:Ag}{s:Ab}{a:Addr}{xs:Array Aa}{k:Nat}{tk:Tok}{R:Result->Ab->Prop}(hx:s.heap.get? a\seqObj "list" xs k)(h:raisesAttr (.ref a) "keys" A R s) :
  codeAny (model prog w) A (.call (.builtin "list.__getattribute__") #[[.ref a,.str "keys" tk],[]]) R s:=by
 apply codeAny_call_builtin F.slot_list_getattribute.plain am_entry_list_getattribute (F.slot_list_getattribute.check _ _ _ _ _ _ _ _ #[_,hx,Z] (F.args_list_getattribute_2 _ _) ?_);exact meets_getattribute_miss_list a xs k #[] "keys" tk d6_ (by decide) (by size_fits) prog w A R s #[hx,h]
theorem Bh{prog:Ad}{w:Af}{A:Ag}{E:Aa->Ab->Prop}{s:Ab}{a:Addr}{xs:Array Aa}{k:Nat}{Q:Option Aa->Ab->Prop}(hx:s.heap.get? a\seqObj "list" xs k)(hA:A.handled=none)
  (h:∀h' tk,(∀b o,s.heap.get? b\o->h'.get? b\o)->Q none { s with heap:=h',toks:=tk }):wpAny (model prog w) A (getAttr? (.ref a) "keys") Q E s:=by
 let#[hp,g,d,tk,os]:=s;have ty:∀vR,(#[hp,g,d,vR,os]:Ab).TypeIs (.ref a) "list":=λ_=>#[_,hx,Z];let f1:=sub_AttributeError;let f2:=F.slot_list_getattribute.lookup;let f3:=F.slot_list_getattribute.bind (.ref a);let f4:=am_list_getattr_none;unfold getAttr? getAttrBy? getAttrBy
 repeat (any_goals (first|assumption|exact ty _|wp_step))
 apply hQ_ hx #[hA,λh' vR e Nl=>?_];let#[t',u',he]:=Nl.there;show wpAny _ _ (getattributeRaised _ _ _ _ _ _ _) _ _ _;unfold getattributeRaised
 repeat (any_goals (first|assumption|wp_step))
 exact h _ _ Nl.keeps
end dI
namespace dI
open PySem PySem.W PyProof.Rows
theorem Vm:entryFor table "dict.update.loop"\Builtin.«dict.update.loop»:=entryFor_of_tree (by kernel_rfl)
theorem Lb:plainId "dict.update.loop"=true:=by decide +kernel
theorem Se(d it:Addr)(i:Int)(tk:Tok):Builtin.«dict.update.loop» #[[.ref d,.ref it,.int i tk,.none],[]]=(do
  let r <- pyNext (.ref it)
  match r with
  |none=>do Builtin.Dict.addKeywords d [];ret .none
  |some item=>do
   holding [item] (do
    let pair <- (Builtin.Dict.pairItems item).tryCatch λe=>do
     if !(<- isInstance e (.type "TypeError")) then throw e
     rule "dict.update.element-no-sequence"
     raiseError "TypeError" s!"cannot convert dictionary update sequence element #{i} to a sequence"
    match pair with
    |[k,v]=>holding [k,v] (dictSet d k v)
    |l=>do
     rule "dict.update.element-length"
     raiseError "ValueError" s!"dictionary update sequence element #{i} has length {l.length}; 2 is required")
   again (.builtin "dict.update.loop" #[[.ref d,.ref it,rawInt (i+1),.none],[]])):=by
 unfold Builtin.«dict.update.loop»;apply eA (λf=>pyNext (.ref it) >>= f) (funext λr=>?_);cases r<;>rfl
section
variable{prog:Ad}{w:Af}{K:Type}[DecidableEq K]{knd:PySem.KeyKind prog w K}{A:Ag}
def OA(knd:PySem.KeyKind prog w K)(h:Heap):ak->List (K × Aa)->Prop:=Paired λv p=>∃a key,v=.ref a/\IsTup h a (List.toArray [key,p.2])/\knd.is p.1 key=true
def iw(kvs:List (K × Aa))(ps:List (K × Aa)):List (K × Aa):=ps.foldl (λacc p=>stored acc p.1 p.2) kvs
theorem go_(kvs:List (K × Aa))(k:K)(v:Aa):(stored kvs k v).length<=kvs.length+1:=by
 unfold stored;split
 ·simp
 simp
theorem Wf{h:Heap}{b it l:Addr}{i:Nat}{ys:Array Aa}(t:IsTup h b ys)(q:h.IsListIter it l i):b≠it:=λz=>by
 let#[o,ho,hc,_]:=t;let#[o2,BK,DI,_]:=q;subst z;rw[ho] at BK;cases BK;rw[hc] at DI;exact absurd DI (by decide)
theorem fd_{h:Heap}{b d:Addr}{ys:Array Aa}{kvs:List (K × Aa)}(t:IsTup h b ys)(q:h.DictOf knd d kvs):b≠d:=λz=>by
 let#[o,ho,hc,_]:=t;let#[o2,es,ep,BK,DI,_]:=q;subst z;rw[ho] at BK;cases BK;let Th:=DI.1;rw[hc] at Th;exact absurd Th (by decide)
theorem UL{h h':Heap}{d:Addr}{kvs:List (K × Aa)}(q:h.DictOf knd d kvs)(k:∀o,h.get? d\o->h'.get? d\o):h'.DictOf knd d kvs:=by
 let#[o,es,ep,ho,r]:=q;exact#[o,es,ep,k _ ho,r]
theorem iF_{it l d a:Addr}{i:Nat}{its:ak}{key x:Aa}{k:K}{kvs:List (K × Aa)}{s:Ab}{R:Result->Ab->Prop}{tk:Tok}(BW:d≠it)(hi:its.toArray[i]? = some (.ref a))(ht:IsTup s.heap a (List.toArray [key,x]))(hk:knd.is k key=true)
  (hit:s.heap.IsListIter it l i) (hl:s.heap.IsList l its.toArray) (hd:s.heap.DictOf knd d kvs) (hz:kvs.length<=1000)
  (hR:∀h2,h2.DictOf knd d (stored kvs k x)->(∀b o,b≠d->b≠it->s.heap.get? b\o->h2.get? b\o)->h2.IsListIter it l (i+1)->codeAny (model prog w) A (.builtin "dict.update.loop" #[[.ref d,.ref it,rawInt ((i:Int)+1),.none],[]]) R { s with heap:=h2,toks:=s.toks+1 }) :
  codeAny (model prog w) A (.builtin "dict.update.loop" #[[.ref d,.ref it,.int i tk,.none],[]]) R s:=by
 apply codeAny_builtin Vm ?_;rw[Around.under_plainId Lb _,Se];apply ao (wpAny_pyNext_list_item hit hl hi λh1 NQ Nr=>?_);let#[ot,hot,GE,nt,hdt]:=id ht;have Gc:h1.get? a\ot:=Nr.extBut _ _ (Wf ht hit) hot;apply ao (jK (ao (wpAny_tryCatch ?_)));unfold Builtin.Dict.pairItems;apply ao (wpAny_typeOf (T:="tuple") #[ot,Gc,GE] ?_);rw[aJ (by decide)];unfold seqItems?;apply ao (ao (wpAny_load Gc ?_));rw[hdt];apply aP (aP ?_);apply (show wpAny _ _ (holding [key,x] (dictSet d key x)) _ _ _ from jK (wpAny_dictSet_pairs hk (UL hd λo q=>Nr.extBut _ _ BW q) (λh2 hd2 BD=>?_) (by have:=cm;omega)));exact aP #[plainId_quiet Lb _,hR h2 hd2 (λb o h3 h4 q=>BD.extBut _ _ h3 (Nr.extBut _ _ h4 q)) (NQ.extBut BD.extBut (Ne.symm BW))]
theorem _D{it l d:Addr}{i:Nat}{its:ak}{kvs:List (K × Aa)}{s:Ab}{R:Result->Ab->Prop}{tk:Tok}(BW:d≠it)(hh:A.handled=none)(hi:its.toArray[i]? = none)
  (hit:s.heap.IsListIter it l i) (hl:s.heap.IsList l its.toArray) (hd:s.heap.DictOf knd d kvs)
  (hR:∀h',h'.DictOf knd d kvs->(∀b o,b≠it->s.heap.get? b\o->h'.get? b\o)->R (.ok (.ret .none)) { s with heap:=h' }) :
  codeAny (model prog w) A (.builtin "dict.update.loop" #[[.ref d,.ref it,.int i tk,.none],[]]) R s:=by
 apply codeAny_builtin Vm ?_;rw[Around.under_plainId Lb _,Se];apply ao (wpAny_pyNext_list_end hh hit hl hi λh' he=>?_);exact ao (m:=Builtin.Dict.addKeywords d []) (aP (aP (hR h' (UL hd λo q=>he _ _ BW q) λb o hb q=>he b o hb q)))
theorem ZE{it l d:Addr}(DG:l≠it)(BW:d≠it)(JN:d≠l)(hh:A.handled=none){its:ak}(rest:ak):∀(ps:List (K × Aa)) (i:Nat) (kvs:List (K × Aa)) (s:Ab) (R:Result->Ab->Prop) (tk:Tok),its.drop i=rest->OA knd s.heap rest ps->
  s.heap.IsListIter it l i->s.heap.IsList l its.toArray->s.heap.DictOf knd d kvs->kvs.length+ps.length<=1000->
  (∀h' vR,h'.DictOf knd d (iw kvs ps)->(∀b o,b≠d->b≠it->s.heap.get? b\o->h'.get? b\o)->R (.ok (.ret .none)) { s with heap:=h',toks:=vR })->
  codeAny (model prog w) A (.builtin "dict.update.loop" #[[.ref d,.ref it,.int i tk,.none],[]]) R s:=by
 induction rest with
 |nil=>
  intro ps i kvs s R tk e hp hit hl hd hz hR;cases hp
  have hi:its.toArray[i]? = none:=by
   have:=eA List.length e;simp only[List.length_drop,rX] at this;simp;omega
  exact _D BW hh hi hit hl hd λh' ia kp=>hR h' s.toks ia λb o _ hb q=>kp b o hb q
 |cons v rest ih=>
  intro ps i kvs s R tk e hp hit hl hd hz hR;cases hp with
  |@cons _ p _ ps h0 hr=>
  let#[a,key,hv,ht,hk]:=h0;let#[k,x]:=p;subst hv
  have hi:its.toArray[i]? = some (.ref a):=by
   have q:(its.drop i)[0]? = some (.ref a):=by rw[e];rfl
   rw[List.getElem?_drop] at q;simpa using q
  have e':its.drop (i+1)=rest:=by
   rw[<- List.drop_drop,e];rfl
  simp only[j3] at hz;apply iF_ BW hi ht hk hit hl hd Z1 λh2 hd2 kp NP=>?_;have c1:((i:Int)+1)=((i+1:Nat):Int):=by omega
  rw[c1];apply ih ps (i+1) (stored kvs k x) _ R 0 e' (L2.Paired.bC hr λv p ⟨b,ky,e1,t1,k1⟩=>#[b,ky,e1,?_,k1]) NP (hl.at λo q=>kp _ _ (Ne.symm JN) DG q) hd2 (by have:=go_ kvs k x;omega) λh' vR ia _R=>hR h' vR ia λb o h3 h4 q=>_R b o h3 h4 (kp b o h3 h4 q);let#[o,ho,r]:=id t1;exact#[o,kp _ _ (fd_ t1 hd) (Wf t1 hit) ho,r]
theorem eM_{E:Aa->Ab->Prop}{s:Ab}{l:Addr}{its:ak}{n:Nat}{ps:List (K × Aa)}{Q:Aa->Ab->Prop}(hh:A.handled=none)(ho:s.heap.get? l\seqObj "list" its.toArray n)(hp:OA knd s.heap its ps)(hz:ps.length<=1000)
  (h:∀h' vR,h'.DictOf knd s.heap.objs.size (iw [] ps)->(∀b o,s.heap.get? b\o->h'.get? b\o)->Q (.ref s.heap.objs.size) { s with heap:=h',toks:=vR }) :
  wpAny (model prog w) A (call (.type "dict") [.ref l]) Q E s:=by
 apply callType_codes (Q₁:=λobj aY=>obj=.ref s.heap.objs.size/\aY={ s with heap:=s.heap.push { cls:=.type "dict",data:=.dict #[] } }) F.kt_called_dict (F.kt_typeCall_dict_1 _) F.entry_dict_init (kt_code_dict_new _ #[Z,Z]) ?_;rintro obj aY ⟨rfl,rfl⟩;have uO:(s.heap.push { cls:=.type "dict",data:=.dict #[] }).DictOf knd s.heap.objs.size []:=Heap.DictOf.new s.heap;have jC:(s.heap.push { cls:=.type "dict",data:=.dict #[] }).get? l\seqObj "list" its.toArray n:=bQ _ ho;apply#[uO.typeIs,F.args_dict_init_2 _ _,?_];unfold Builtin.«dict.__init__» Builtin.Dict.selfAndRest;apply ao (ao (wpAny_notOrdered_dict uO.typeIs ?_));apply (show wpAny _ _ (pure (s.heap.objs.size,[Value.ref l])) _ _ _ from aP ?_);apply (show wpAny _ _ (Builtin.Dict.updateFrom "dict.__init__" s.heap.objs.size (.ref l) [] .none) _ _ _ from ?_);unfold Builtin.Dict.updateFrom;apply ao (wpAny_typeOf (T:="list") #[_,jC,Z] ?_);rw[aJ (by decide)];apply ao (Bh jC hh λh2 tk2 k2=>?_);simp only[Option.isNone_none,if_true];have lR:h2.get? l\seqObj "list" its.toArray n:=k2 _ _ jC;apply ao (wpAny_rule (ao (wpAny_pyIter_list #[_,lR,Z,_,Z] ?_)));apply aP #[plainId_quiet Lb _,?_];have all:∀{b o},s.heap.get? b\o->(h2.push { cls:=.type "list_iterator",data:=.fields (List.toArray [.ref l,.int 0 0]) }).get? b\o:=λq=>bQ _ (k2 _ _ (bQ _ q))
 have hd2:h2.DictOf knd s.heap.objs.size []:=by
  let#[o,es,ep,ho,r]:=uO;exact#[o,es,ep,k2 _ _ ho,r]
 have LR:s.heap.objs.size<h2.objs.size:=by
  let#[o,es,ep,ho,r]:=hd2;exact bN ho
 have lz:l<s.heap.objs.size:=bN ho
 apply ZE (A:=A.in1) (knd:=knd) (its:=its) (it:=h2.objs.size) (l:=l) (d:=s.heap.objs.size) (dB (Nat.lt_trans lz LR)) (dB LR) (oF lz) hh its ps 0 [] _ _ 0 Z (L2.Paired.bC hp λv p ⟨b,ky,e1,t1,k1⟩=>#[b,ky,e1,t1.keeps λb o q=>all q,k1])
  #[_,dU _ Z,Z,Z] #[_,bQ _ lR,Z,_,Z] (by
   let#[o,es,ep,ho,r]:=hd2;exact#[o,es,ep,bQ _ ho,r]) ⇑hz λh' vR ia kp=>#[Z,h h' vR ia λb o q=>?_]
 have bl:b<s.heap.objs.size:=bN q;exact kp b o (dB bl) (dB (Nat.lt_trans bl LR)) (all q)
end
end dI
theorem zl{n:Nat}(h:decide (n<=16777216)=true:=by rfl):n<=PySem.sizeLine:=by
 rw[PySem.sizeLine_eq];exact ye h
namespace L2
open PySem PySem.Spec PyProof.Rows PySem.W qk dI
theorem bF.same{K:af}{H H':Hp}{ys:aj}{ks:List ax}(t:bF K H ys ks)(e:aa H H'):bF K H' ys ks:=Paired.bC t λy k ⟨a,z,q⟩=>#[a,z,e _ _ q]
theorem aa.new{H:Hp}{l:Addr}{o:HO}(h:H l=none):aa H (upd H l o):=λb u e=>by rw[aF (bU e h)];exact e
section
variable{X:Cx}{pins:List (Addr × Obj)}{σ:St}{H H':Hp}{s:Ab}{h':Heap}{t':Nat}
theorem Inv.many(I:Inv X pins σ H s)(k:∀b o,s.heap.get? b\o->h'.get? b\o)(hold:aa H H')(uO:∀b,H b=none->b<s.heap.objs.size->H' b=none)
  (NB:∀b o,H' b\o->H b=none->∃xs its,o=.tup xs/\xs.length<=sizeLine/\Vals xs its/\IsTup h' b its.toArray/\∃o,h'.get? b\o/\o.dict=none):Inv X pins σ H' { s with heap:=h',toks:=t' }:=by
 apply I.un #[λb o q _ _ _=>k b o q,λb o q _ _ _=>#[o.slots,k b o q],λb o q n _=>uO b n (bN q),λb o q _=>#[o,k b o q],λb xs q=>hold b _ q,λb o u q=>hold b _ q,λb ps q=>#[#[],by rw[Array.append_empty];exact hold b _ q]] λb o q=>?_;cases e:H b with
 |some u=>
  let e2:=hold b u e;rw[q] at e2;cases e2;exact (I.au b o e).cQ (λc v _ z=>k c v z) (λc z=>hold c _ z) λc xs z=>hold c _ z
 |none=>
  let#[xs,its,rfl,z,r,t]:=NB b o q e;exact#[z,its,r,t]
end
section
variable{X:Cx}{pins:List (Addr × Obj)}{σ:St}{H:Hp}{s:Ab}{A:Ag}{E:Aa->Ab->Prop}
theorem iC_{p:Addr}{ys:aj}{R:ak->Ab->Prop}(I:Inv X pins σ H s)(h:dH X.K H p ys)(hz:ys.length<=100000)(q:∀vs s1,Inv X pins σ H s1->Vals ys vs->R vs s1):wpAny (model X.prog X.w) A (collect (.ref p)) R E s:=by
 let#[its,r,pl,_]:=I.list h;let hl:=r.length;apply collect_list pl.isList (q its _ ?_ r) (by have:=cm;omega);apply I.kept (t':=s.toks) λb u e=>?_;have lt:b<s.heap.objs.size:=bN e;rw[Heap.get?_update_ne _ _ _ _ (dB lt)];exact bQ _ e
theorem Lf{P:Nat->Aa->Prop}{acc:Array Aa}{ys:aj}(h:ItemsOf P acc ys.length)(hp:∀(j:Nat) v,P j v->∀y,ys[j]? = some y->RelV y v):Vals ys acc.toList:=by
 have gen:∀(ys:aj) (vs:ak),ys.length=vs.length->(∀(j:Nat) y v,ys[j]? = some y->vs[j]? = some v->RelV y v)->Vals ys vs:=λys=>by
  induction ys with
  |nil=>
   intro vs hl _;cases vs with
   |nil=>exact .nil
   |cons _ _=>cases hl
  |cons y ys ih=>
   intro vs hl h;cases vs with
   |nil=>cases hl
   |cons v vs=>exact .cons (h 0 y v Z Z) (ih vs ⇑hl λj y v a b=>h (j+1) y v ⇑a ⇑b)
 apply gen ys acc.toList (by rw[vG];exact h.1.symm) λj y v a b=>hp j v (h.2 j v ?_) y a;rw[<- Array.getElem?_toList];exact b
theorem SA{d:Addr}{kvs:List (Key × V)}(I:Inv X pins σ H s)(h:Rd H d (.dK kvs)):∃(P:Nat->Aa->Prop) (OK:Heap->Prop),KdlSrc X.prog X.w "dict" d d (kvs.map λkv=>kV kv.1).length P OK/\OK s.heap/\∀(j:Nat) v,P j v->∀y,(kvs.map λkv=>kV kv.1)[j]? = some y->RelV y v:=by
 let#[z,hd,vs,rel,dd]:=oq I.au h;let#[ep,dat]:=dd.dictAt;let hl:=rel.length;apply#[λi v=>∃k x,vs[i]? = some (k,x)/\(d_ X.prog X.w).is k v=true,λh=>h.DictAt (d_ X.prog X.w) d vs ep,(by rw[aB,hl];exact kdl_dict (knd:=d_ X.prog X.w) (kvs:=vs) (ep:=ep) hd),dat,λj v ⟨k,x,e,hk⟩ y hy=>?_];rw[dQ] at hy;have ek:kvs.map (·.1)=vs.map (·.1):=rel.keys;have e2:(kvs.map (·.1))[j]? = (vs.map (·.1))[j]?:=by rw[ek]
 rw[dQ,dQ,e] at e2;cases e3:kvs[j]? with
 |none=>rw[e3] at e2;cases e2
 |some kv=>
  rw[e3] at e2 hy;have e4:kv.1=k:=dG e2;have e5:kV kv.1=y:=dG hy;rw[<- e5,e4];have hk:xW k v=true:=hk;rcases r9 hk with⟨i,t,rfl,rfl⟩|⟨x,t,rfl,rfl⟩
  ·exact#[t,Z]
  exact#[t,Z]
theorem Ss{d:Addr}{kvs:List (Key × V)}{R:ak->Ab->Prop}(hh:A.handled=none)(I:Inv X pins σ H s)(h:Rd H d (.dK kvs))(q:∀vs s1,Inv X pins σ H s1->Vals (kvs.map λkv=>kV kv.1) vs->R vs s1):wpAny (model X.prog X.w) A (collect (.ref d)) R E s:=by
 let#[P,OK,S,ok,hp]:=SA I h;apply kdu_collect S hh ok ?_ λh' tk acc k a=>q _ _ (I.kept k) (Lf a hp);rw[aB];exact (oq I.au h).1
theorem _n{d:Addr}{kvs:List (ax × V)}(I:Inv X pins σ H s)(h:Rd H d (.dT kvs)):∃(ys:aj) (P:Nat->Aa->Prop) (OK:Heap->Prop),bF X.K H ys (kvs.map (·.1))/\ys.length<=sizeLine/\KdlSrc X.prog X.w "dict" d d ys.length P OK/\OK s.heap/\∀(j:Nat) v,P j v->∀y,ys[j]? = some y->RelV y v:=by
 let#[z,hd,xs,rel,o,es,ep,ho,hc,nI,BU,nd]:=h.ok I.au
 have l1:es.size=xs.length:=by
  have:=eA List.length BU;simpa using this
 let l2:=bS rel;apply#[xs.map λx=>V.ref x.2.1,λi v=>∃h:i<es.size,v=es[i].key,λh=>Raw h d es ep,?_,by rw[aB];omega,(by rw[aB,<- l1];exact _T (es:=es) (ep:=ep) hd),#[o,ho,hc,nI],λj v ⟨hj,e⟩ y hy=>?_]
 ·have gen:∀{kvs:List (ax × V)} {xs:List (ax × Addr × Aa)},KT H kvs xs->bF X.K H (xs.map λx=>V.ref x.2.1) (kvs.map (·.1)):=λ{kvs xs} r=>by
   induction r with
   |nil=>exact .nil
   |cons h _ ih=>exact .cons #[_,Z,h.2.1] ih
  exact gen rel
 rw[dQ] at hy;have hx:j<xs.length:=by omega
 rw[dE hx] at hy;have e1:V.ref xs[j].2.1=y:=dG hy
 have e2:es[j]=entryOfKey (tupleKind (d_ X.prog X.w)) xs[j]:=by
  have e3:es.toList[j]? = (xs.map (entryOfKey (tupleKind (d_ X.prog X.w))))[j]?:=by rw[BU]
  rw[dQ,dE hx,Array.getElem?_toList,Array.getElem?_eq_getElem hj] at e3;exact dG e3
 rw[<- e1,e,e2];rfl
theorem _p{d:Addr}{kvs:List (ax × V)}{R:ak->Ab->Prop}(hh:A.handled=none)(I:Inv X pins σ H s)(h:Rd H d (.dT kvs))(q:∀ys vs s1,Inv X pins σ H s1->Vals ys vs->bF X.K H ys (kvs.map (·.1))->R vs s1):wpAny (model X.prog X.w) A (collect (.ref d)) R E s:=by
 let#[ys,P,OK,t,z,S,ok,hp]:=_n I h;exact kdu_collect S hh ok z λh' tk acc k a=>q ys _ _ (I.kept k) (Lf a hp) t
def i5(v d:Addr):HO:=.ext λh=>h.IsItemsView v d
def wo(v d:Addr):HO:=.ext λh=>h.IsValuesView v d
def kW(K:af)(H:Hp):aj->List (Key × V)->Prop:=Paired λy p=>∃a,y=V.ref a/\H a\.tup [kV p.1,p.2]
theorem ie_{v d:Addr}{kvs:List (Key × V)}{R:ak->Ab->Prop}(hh:A.handled=none)(I:Inv X pins σ H s)(hv:H v\i5 v d)(h:Rd H d (.dK kvs))(q:∀H1 ys vs s1,Inv X pins σ H1 s1->aa H H1->Vals ys vs->kW X.K H1 ys kvs->R vs s1) :
  wpAny (model X.prog X.w) A (collect (.ref v)) R E s:=by
 let#[z,hd,vs,rel,dd]:=oq I.au h;let#[ep,dat]:=dd.dictAt;let#[iv,_,_]:=I.au v _ hv;let hl:=rel.length;apply kdx_collect (knd:=d_ X.prog X.w) (kvs:=vs) (ep:=ep) hh iv dat Z1 λh' tk as k la G=>?_;have up:∀b,b∈as->s.heap.objs.size<b:=G.above
 have at1:∀(j:Nat) b p,as[j]? = some b->kvs[j]? = some p->∃its,Vals [kV p.1,p.2] its/\IsTup h' b its.toArray/\∃o,h'.get? b\o/\o.dict=none:=λj b p hj hp=>by
  let#[key,kk,x,e1,e2,e3]:=G.pairs j b hj
  have gen:∀{kvs:List (Key × V)} {vs:List (Key × Aa)},KV kvs vs->∀(j:Nat),vs[j]? = some (kk,x)->kvs[j]? = some p->p.1=kk/\RelV p.2 x:=λ{kvs vs} r=>by
   induction r with
   |nil=>intro j e;simp at e
   |@cons p' q _ _ h _ ih=>
    intro j e e';cases j with
    |zero=>
     have e:q=(kk,x):=⇑e
     have e':p'=p:=⇑e'
     subst e';rw[e] at h;exact h
    |succ j=>exact ih j ⇑e ⇑e'
  let#[g1,g2]:=gen rel j e1 hp;apply#[[key,x],.cons ?_ (.cons g2 .nil),#[_,e3,Z,_,Z],_,e3,Z];rw[g1];have e2:xW kk key=true:=e2;rcases r9 e2 with⟨i,t,rfl,rfl⟩|⟨x,t,rfl,rfl⟩
  ·exact#[t,Z]
  exact#[t,Z]
 have look:∀{as:ai} {kvs:List (Key × V)},as.Pairwise (· < ·)->∀(j:Nat) b p,as[j]? = some b->kvs[j]? = some p->(as.zip kvs).lookup b\p:=λ{as}=>by
  induction as with
  |nil=>intro kvs _ j b p e;simp at e
  |cons a as ih=>
   intro kvs pw j b p e e';cases kvs with
   |nil=>simp at e'
   |cons q kvs=>
    let#[p1,p2]:=List.pairwise_cons.mp pw;show ((a,q)::as.zip kvs).lookup b\p;cases j with
    |zero=>
     have e:a=b:=⇑e
     have e':q=p:=⇑e'
     subst e;subst e';rw[List.lookup_cons_self]
    |succ j=>
     have e:as[j]? = some b:=⇑e
     have e':kvs[j]? = some p:=⇑e'
     let lt:=p1 b (dD e);rw[qV,show (b == a)=false by simp only[beq_eq_false_iff_ne];exact oF lt];exact ih p2 j b p e e'
 have lk:as.length=kvs.length:=by omega
 let H1:Hp:=λb=>if b∈as then ((as.zip kvs).lookup b).map λp=>HO.tup [kV p.1,p.2] else H b
 have GJ:∀(j:Nat) b p,as[j]? = some b->kvs[j]? = some p->H1 b\.tup [kV p.1,p.2]:=λj b p e e'=>by
  show (if b∈as then _ else _)=_;rw[aJ (dD e),look G.rise j b p e e'];rfl
 have pU:∀b,b∉as->H1 b=H b:=λb hb=>aC hb;have old:∀b,b<s.heap.objs.size->b∉as:=λb hb m=>absurd (up b m) Z1;apply q H1 (as.map V.ref) _ _ (I.many (t':=tk) k (λb o e=>by rw[pU b (old b (I.au.lt e))];exact e) (λb e hb=>by rw[pU b (old b hb)];exact e) λb o e e0=>?_) (λb o e=>by rw[pU b (old b (I.au.lt e))];exact e) ?_ ?_
 ·by_cases m:b∈as
  ·let#[j,hj]:=List.mem_iff_getElem?.mp m
   have jl:j<kvs.length:=by
    have:=(dj.mp hj).1;omega
   let e':=GJ j b kvs[j] hj (dE jl);rw[e] at e';cases e';let#[its,r,t]:=at1 j b _ hj (dE jl);exact#[_,its,Z,zl,r,t]
  rw[pU b m,e0] at e;cases e
 ·have gen:∀as:ai,Vals (as.map V.ref) (as.map Value.ref):=λas=>by
   induction as with
   |nil=>exact .nil
   |cons a as ih=>exact .cons Z ih
  exact gen as
 have gen:∀(Eu:ai) (fE:List (Key × V)),Eu.length=fE.length->(∀(j:Nat) b p,Eu[j]? = some b->fE[j]? = some p->H1 b\.tup [kV p.1,p.2])->kW X.K H1 (Eu.map V.ref) fE:=λEu=>by
  induction Eu with
  |nil=>
   intro fE hl _;cases fE with
   |nil=>exact .nil
   |cons _ _=>cases hl
  |cons a Eu ih=>
   intro fE hl h;cases fE with
   |nil=>cases hl
   |cons p fE=>exact .cons #[a,Z,h 0 a p Z Z] (ih fE ⇑hl λj b p e e'=>h (j+1) b p ⇑e ⇑e')
 exact gen as kvs lk GJ
end
end L2
namespace L2
open PySem PySem.Spec PyProof.Rows PySem.W qk dI
theorem iX_{a b:ae}(h:a.map dA=b.map dA):a=b:=by
 induction a generalizing b with
 |nil=>
  cases b with
  |nil=>rfl
  |cons _ _=>cases h
 |cons x a ih=>
  cases b with
  |nil=>cases h
  |cons y b=>
   let#[h1,h2]:=List.cons.inj h;have h1:[(Sum.inr x:Key)]=[Sum.inr y]:=h1;cases h1;rw[ih h2]
theorem VF(ss:ae):(jk ss).map dA=a9 (ss.map dA):=by
 have all:∀k∈a9 (ss.map dA),∃x,k=dA x:=λk hk=>by
  let#[x,_,e]:=bD.mp ((oE _).mem_iff.mp hk);exact#[x,e.symm]
 have gen:∀l:List ax,(∀k∈l,∃x,k=dA x)->(l.map λk=>match k with | [.inr x]=>x|_=>(⟨#[]⟩:Str)).map dA=l:=λl=>by
  induction l with
  |nil=>exact λ_=>rfl
  |cons k l ih=>
   intro h;let#[x,rfl]:=h k eZ;rw[eV,eV,ih λk hk=>h k (dZ _ hk)];rfl
 exact gen _ all
theorem zW(ss:ae):(jk ss).Perm ss:=by
 have p:((jk ss).map dA).Perm (ss.map dA):=by rw[VF];exact oE _
 have back:∀l:ae,(l.map dA).map (λk=>match k with | [.inr x]=>x|_=>(⟨#[]⟩:Str))=l:=λl=>by
  rw[bV]
  induction l with
  |nil=>rfl
  |cons x l ih=>rw[eV,ih];rfl
 let q:=p.map (λk=>match k with | [.inr x]=>x|_=>(⟨#[]⟩:Str));rwa [back,back] at q
section
variable{X:Cx}{pins:List (Addr × Obj)}{σ:St}{H:Hp}{s:Ab}
theorem eE_{u:Aa}{ss:ae}{Q:VK}(bY:ss.length<64)(nJ:wpAny (model X.prog X.w) X.A.in1 (collect u) (λvs s1=>∃H1,Inv X pins σ H1 s1/\Vals (ss.map V.str) vs/\∀l,H1 l=none->Q (.ref l) (upd H1 l (.lst ((jk ss).map V.str)))) X.xe s) :
  wpAny (model X.prog X.w) X.A (call (.builtin "sorted") [u]) (EP X pins σ Q) X.xe s:=by
 apply Vt (Pg (ss.map dA)) (aQ nJ λvs s1 ⟨H1,I1,r,q⟩=>?_);have hl:vs.length=ss.length:=by rw[<- r.length,aB]
 apply#[by omega,λh2 h' _=>hr_ (SF r) h2,λp h' e g up hD kp=>?_];have g':Good (ss.map dA).length p:=by rw[aB,<- hl];exact g
 let asc:=OQ (ks:=ss.map dA) (λi j _ _=>rfl) g' (by rw[aB,<- hl];exact up)
 have perm:(p.toList.map λi=>(ss.map dA).getD i []).Perm (ss.map dA):=by
  have:=Il g' λi=>(ss.map dA).getD i [];rwa [IA] at this
 let es:=Qt perm asc
 have inr:∀i∈p.toList,i<ss.length:=λi hi=>by
  have m:i∈(List.range vs.length).toArray:=g.mem_iff.mp ⇑hi;rw[hl] at m;simpa using m
 have e1:(p.toList.map λi=>ss.getD i ⟨#[]⟩)=jk ss:=by
  apply iX_ ?_;rw[VF,<- es,bV];apply vF λi hi=>?_;have:=inr i hi;simp[this]
 let rv:=Pp r g
 have e2:(p.toList.map λi=>(ss.map V.str).getD i .non)=(jk ss).map V.str:=by
  rw[<- e1,bV];apply vF λi hi=>?_;have:=inr i hi;simp[this]
 rw[e2] at rv;apply#[.ref s1.heap.objs.size,_,I1.laid (t':=s1.toks) kp (bj _) (show d9 X.prog X.w _ h' _ (.lst ((jk ss).map V.str)) from #[?_,oz p vs,e,rv,hD]),Z,q _ (I1.au.fresh (bj _))];rw[aB,(zW ss).length_eq];have:=cm;omega
theorem iW_{K:af}{H:Hp}{ys:aj}{ks:List ax}(t:bF K H ys ks):∀l:List Nat,(∀i∈l,i<ys.length)->bF K H (l.map λi=>ys.getD i .non) (l.map λi=>ks.getD i []):=λl=>by
 induction l with
 |nil=>exact λ_=>.nil
 |cons i l ih=>
  intro h;apply .cons ?_ (ih λj hj=>h j (dZ _ hj));let hi:=h i eZ
  have gen:∀{ys:aj} {ks:List ax} (i:Nat),i<ys.length->bF K H ys ks->∃a,ys.getD i .non=V.ref a/\H a\.tup ((ks.getD i []).map kV):=λ{ys ks} i hy t=>by
   induction t generalizing i with
   |nil=>exact absurd hy Z2
   |cons h t ih=>
    cases i with
    |zero=>exact h
    |succ i=>exact ih i ⇑hy
  exact gen i hi t
theorem VX{u:Aa}{ks:List ax}{sh:List Bool}{Q:VK}(bY:ks.length<64)(al:Cd ks sh)
  (nJ:wpAny (model X.prog X.w) X.A.in1 (collect u) (λvs s1=>∃H1 ys,Inv X pins σ H1 s1/\Vals ys vs/\bF X.K H1 ys ks/\∀l zs,H1 l=none->bF X.K H1 zs (a9 ks)->zs.Perm ys->Q (.ref l) (upd H1 l (.lst zs))) X.xe s) :
  wpAny (model X.prog X.w) X.A (call (.builtin "sorted") [u]) (EP X pins σ Q) X.xe s:=by
 apply Vt (Pg ks) (aQ nJ λvs s1 ⟨H1,ys,I1,r,t,q⟩=>?_);let l1:=r.length;let l2:=bS t;have hl:vs.length=ks.length:=by omega
 apply#[by omega,λh2 h' k=>Vb I1 r t al h2 k,λp h' e g up hD kp=>?_];have g':Good ks.length p:=by rw[<- hl];exact g
 let asc:=OQ (ks:=ks) (λi j _ _=>rfl) g' (by rw[<- hl];exact up)
 have perm:(p.toList.map λi=>ks.getD i []).Perm ks:=by
  have:=Il g' λi=>ks.getD i [];rwa [IA] at this
 let es:=Qt perm asc
 have inr:∀i∈p.toList,i<ys.length:=λi hi=>by
  have m:i∈(List.range vs.length).toArray:=g.mem_iff.mp ⇑hi;rw[<- l1] at m;simpa using m
 let tz:=iW_ t p.toList inr;rw[es] at tz;let rv:=Pp r g
 have pz:(p.toList.map λi=>ys.getD i .non).Perm ys:=by
  have:=Il (n:=ys.length) (by rw[l1];exact g) λi=>ys.getD i .non;rwa [IA] at this
 apply#[.ref s1.heap.objs.size,_,I1.laid (t':=s1.toks) kp (bj _) (show d9 X.prog X.w _ h' _ (.lst (p.toList.map λi=>ys.getD i .non)) from #[?_,oz p vs,e,rv,hD]),Z,q _ _ (I1.au.fresh (bj _)) tz pz];rw[pz.length_eq];have:=cm;omega
end
section
variable{X:Cx}
inductive pA (K:af) (xs:aj) (H:Hp) (Q:VK):Prop
 |mk:∀d kvs sh,xs=[.ref d]->H d\.dT kvs->Cd (kvs.map (·.1)) sh->kvs.length<64->(∀l zs,H l=none->bF K H zs (a9 (kvs.map (·.1)))->Q (.ref l) (upd H l (.lst zs)))->pA K xs H Q
theorem eX_(hc:X.calm=true):fW X (.builtin "sorted") (pA X.K):=by
 intro pins s σ H xs us Q I r h;let#[d,kvs,sh,rfl,hd,al,bY,q]:=h;let#[u,rfl,ru]:=vals1 r;cases ru;exact VX (by rw[aB];exact bY) al (_p (I.ok.hd hc) I (.inl hd) λys vs s1 I1 r1 t=>⟨H,ys,I1,r1,t,λl zs n t' _=>q l zs n t'⟩)
inductive pC (xs:aj) (H:Hp) (Q:VK):Prop
 |mk:∀d kvs ss,xs=[.ref d]->H d\.dK kvs->kvs.map (·.1)=ss.map Sum.inr->ss.length<64->(∀l,H l=none->Q (.ref l) (upd H l (.lst ((jk ss).map V.str))))->pC xs H Q
theorem V9(hc:X.calm=true):fW X (.builtin "sorted") pC:=by
 intro pins s σ H xs us Q I r h;let#[d,kvs,ss,rfl,hd,ek,bY,q]:=h;let#[u,rfl,ru]:=vals1 r;cases ru;apply eE_ bY (Ss (I.ok.hd hc) I (.inl hd) λvs s1 I1 r1=>⟨H,I1,?_,q⟩)
 have e:(kvs.map λkv=>kV kv.1)=ss.map V.str:=by
  rw[show (kvs.map λkv=>kV kv.1)=(kvs.map (·.1)).map kV by rw[bV];rfl,ek,bV];rfl
 rwa [e] at r1
inductive ud (K:af) (xs:aj) (H:Hp) (Q:VK):Prop
 |mk:∀(v d:Addr) (kvs:List (Key × V)) (ks:List (Key × Key)) (sh:List Bool),xs=[.ref v]->H v\i5 v d->H d\.dK kvs->kvs=ks.map (λk:Key × Key=>(k.1,kV k.2))->Cd (ks.map λk=>[k.1,k.2]) sh->ks.length<64->(∀l H1 zs,aa H H1->H1 l=none->bF K H1 zs (a9 (ks.map λk=>[k.1,k.2]))->Q (.ref l) (upd H1 l (.lst zs)))->ud K xs H Q
theorem Vw(hc:X.calm=true):fW X (.builtin "sorted") (ud X.K):=by
 intro pins s σ H xs us Q I r h;let#[v,d,kvs,ks,sh,rfl,hv,hd,ek,al,bY,q]:=h;let#[u,rfl,ru]:=vals1 r;cases ru;apply VX (by rw[aB];exact bY) al (ie_ (I.ok.hd hc) I hv (.inl hd) λH1 ys vs s1 I1 sm r1 t=>⟨H1,ys,I1,r1,?_,λl zs n t' _=>q l H1 zs sm n t'⟩);subst ek
 have gen:∀(ks:List (Key × Key)) (ys:aj),kW X.K H1 ys (ks.map (λk:Key × Key=>(k.1,kV k.2)))->bF X.K H1 ys (ks.map λk=>[k.1,k.2]):=λks=>by
  induction ks with
  |nil=>
   intro ys t;cases t;exact .nil
  |cons k ks ih=>
   intro ys t;cases t with
   |cons h t=>exact .cons h (ih _ t)
 exact gen ks ys t
inductive uf (xs:aj) (H:Hp) (Q:VK):Prop
 |mk:∀d kvs,xs=[.ref d]->Rd H d (.dK kvs)->(∀l,H l=none->Q (.ref l) (upd H l (.lst (kvs.map λkv=>kV kv.1))))->uf xs H Q
theorem P5(hc:X.calm=true):fW X (.type "list") uf:=by
 intro pins s σ H xs us Q I r h;let#[d,kvs,rfl,hd,q]:=h;let#[u,rfl,ru]:=vals1 r;cases ru;let#[P,OK,S,ok,hp]:=SA I hd;let z:=(oq I.au hd).1;apply kdl_call S (I.ok.hd hc) ok (by rw[aB];exact z) λh' tk acc c k hD a=>?_;apply#[.ref s.heap.objs.size,_,I.laid (t':=tk) k (bj _) (show d9 X.prog X.w _ h' _ (.lst (kvs.map λkv=>kV kv.1)) from #[by rw[aB];exact z,acc.toList,c,Lf a hp,by rw[Array.toArray_toList];exact hD]),Z,q _ I.fresh]
theorem KV.iw{κ:Type}[DecidableEq κ]:∀{more:List (κ × V)} {rs:List (κ × Aa)} {kvs:List (κ × V)} {vs:List (κ × Aa)},KV more rs->KV kvs vs->KV (more.foldl (λacc kv=>putK acc kv.1 kv.2) kvs) (dI.iw vs rs):=λ{more rs kvs vs} h=>by
 induction h generalizing kvs vs with
 |nil=>exact λh=>h
 |@cons p q _ _ h _ ih=>
  intro h2;let#[k,y]:=p;let#[k',u]:=q;let#[h1,h3]:=h;have h1:k=k':=h1;subst h1;exact ih (h2.put k h3)
inductive pF (K:af) (xs:aj) (H:Hp) (Q:VK):Prop
 |mk:∀p ys kvs,xs=[.ref p]->H p\.lst ys->kW K H ys kvs->kvs.length<=1000->(∀l,H l=none->Q (.ref l) (upd H l (.dK (Cv [] kvs))))->pF K xs H Q
theorem C9(hc:X.calm=true):fW X (.type "dict") (pF X.K):=by
 intro pins s σ H xs us Q I r h;let#[p,ys,kvs,rfl,hp,t,hz,q]:=h;let#[u,rfl,ru]:=vals1 r;cases ru;let#[z,its,n,rv,hl,ho]:=I.ko hp
 have gen:∀{ys:aj} {its:ak} {kvs:List (Key × V)},Vals ys its->kW X.K H ys kvs->∃ps,KV kvs ps/\OA (d_ X.prog X.w) s.heap its ps:=λ{ys its kvs} rv t=>by
  induction t generalizing its with
  |nil=>
   cases rv;exact#[[],.nil,.nil]
  |@cons y p ys kvs h t ih=>
   cases rv with
   |cons r0 rv=>
    let#[ps,h1,h2]:=ih rv;let#[a,e,sq]:=h;subst e;cases r0;let#[tv,rt,it,_]:=I.tuple (iD.of sq);let#[key,x,e2,rk,rx]:=vals2 rt;subst e2;apply#[(p.1,x)::ps,Paired.cons (show p.1=p.1/\RelV p.2 x from #[Z,rx]) h1,Paired.cons (show ∃a' FV,Value.ref a=.ref a'/\IsTup s.heap a' (List.toArray [FV,x])/\(d_ X.prog X.w).is p.1 FV=true from #[a,key,Z,it,v_ rk]) h2]
 let#[ps,h1,h2]:=gen rv t;let lp:=KV.length h1;apply eM_ (knd:=d_ X.prog X.w) (I.ok.hd hc) ho h2 Z1 λh' tk hd kp=>?_;apply#[.ref s.heap.objs.size,_,I.laid (t':=tk) kp (bj _) (J2 ?_ (beq_eq_false_iff_ne.mpr (Ne.symm (dB I.big))) (KV.iw h1 .nil) hd),Z,q _ I.fresh];have:=Wl kvs [];have:=cm;simp only[rX] at *;show (Cv [] kvs).length<=sizeLine;omega
theorem Py:∀{bs:List Bool} {vs:ak},Vals (bs.map V.bl) vs->vs=bs.map Value.bool
 |[],_,.nil=>rfl
 |b::bs,_,.cons h t=>by
  cases h;rw[Py t];rfl
inductive Bc (K:af) (g:List Bool->Bool) (xs:aj) (H:Hp) (Q:VK):Prop
 |mk:∀p bs,xs=[.ref p]->dH K H p (bs.map V.bl)->Q (.bl (g bs)) H->Bc K g xs H Q
theorem iA_(hc:X.calm=true):fW X (.builtin "all") (Bc X.K λbs=>bs.all id):=by
 intro pins s σ H xs us Q I r h;let#[p,bs,rfl,hp,q]:=h;let#[u,rfl,ru]:=vals1 r;cases ru;let#[its,rv,pl,z]:=I.list hp;obtain rfl:=Py rv;let hl:=pl.isList;have lt:p<s.heap.objs.size:=by let#[_,e,_]:=hl;exact bN e
 apply call_all_walk (wpAny_pyIter_list hl ⟨s.heap.objs.size,[s.heap.objs.size,p],[s.heap.objs.size],(bs.map Value.bool).toArray.size,_,_,λi=>(bs[i]?).getD true,rfl,Walks.list (A:=X.A.in1) (I.ok.hd hc) _ p (dB lt) _,⟨⟨_,dU _ rfl,rfl,rfl⟩,hl.push _⟩,λi v s' Q' E' hP hQ=>?_,λh' tk hk=>?_⟩)
 ·have hP:(bs.map Value.bool).toArray[i]? = some v:=hP;simp only[List.getElem?_toArray,dQ] at hP;cases e:bs[i]? with
  |none=>rw[e] at hP;cases hP
  |some b=>
   have hQ:Q' ((bs[i]?).getD true) s':=hQ;rw[e] at hP hQ;cases hP;exact rO hQ
 have e:((List.range (bs.map Value.bool).toArray.size).all λi=>(bs[i]?).getD true)=bs.all id:=by
  rw[cn,aB];exact LSm.range_all bs
 rw[e];exact#[.bl _,H,I.kept (LSm.kept_iter hk),Z,q]
theorem iy_(hc:X.calm=true):fW X (.builtin "any") (Bc X.K λbs=>bs.any id):=by
 intro pins s σ H xs us Q I r h;let#[p,bs,rfl,hp,q]:=h;let#[u,rfl,ru]:=vals1 r;cases ru;let#[its,rv,pl,z]:=I.list hp;obtain rfl:=Py rv;let hl:=pl.isList;have lt:p<s.heap.objs.size:=by let#[_,e,_]:=hl;exact bN e
 apply call_any_walk (wpAny_pyIter_list hl #[s.heap.objs.size,[s.heap.objs.size,p],[s.heap.objs.size],(bs.map Value.bool).toArray.size,_,_,λi=>(bs[i]?).getD false,Z,Walks.list (A:=X.A.in1) (I.ok.hd hc) _ p (dB lt) _,#[#[_,dU _ Z,Z,Z],hl.push _],λi v s' Q' E' hP hQ=>?_,λh' tk hk=>?_])
 ·have hP:(bs.map Value.bool).toArray[i]? = some v:=hP;simp only[List.getElem?_toArray,dQ] at hP;cases e:bs[i]? with
  |none=>rw[e] at hP;cases hP
  |some b=>
   have hQ:Q' ((bs[i]?).getD false) s':=hQ;rw[e] at hP hQ;cases hP;exact rO hQ
 have e:((List.range (bs.map Value.bool).toArray.size).any λi=>(bs[i]?).getD false)=bs.any id:=by
  rw[cn,aB];exact LSm.range_any bs
 rw[e];exact#[.bl _,H,I.kept (LSm.kept_iter hk),Z,q]
theorem SK:∀{ns:List Int} {vs:ak},Vals (ns.map V.int) vs->IntsAre vs ns
 |[],_,.nil=>.nil
 |n::ns,_,.cons h t=>by
  let#[tk,rfl]:=h;exact .cons _ _ (SK t)
inductive Fm (K:af) (xs:aj) (H:Hp) (Q:VK):Prop
 |mk:∀(p:Addr) (ns:List Int),xs=[.ref p]->dH K H p (ns.map V.int)->0<ns.length->(∀m,m∈ns->(∀a∈ns,a<=m)->Q (.int m) H)->Fm K xs H Q
theorem iJ_(hc:X.calm=true):fW X (.builtin "max") (Fm X.K):=by
 intro pins s σ H xs us Q I r h;let#[p,ns,rfl,hp,hn,q]:=h;let#[u,rfl,ru]:=vals1 r;cases ru;let#[its,rv,pl,z]:=I.list hp;let hi:=SK rv;let#[xs,e]:=hi.allInts.items;let hl:=pl.isList;have xB:ns=xs.toList.map (·.1):=by rw[<- hi.numsOf,<- nums_intItems,<- e]
 have hsz:0<xs.size:=by
  let h3:=hn;rw[xB] at h3;simpa using h3
 rw[e] at hl;apply max_intList (I.ok.hd hc) hl hsz λv h' tk hv hk=>?_;let#[t,rfl]:=intItems_at hv;let#[h1,h2]:=argBest_gt (numAt xs) (xs.size - 1);apply#[.int _,H,I.kept hk,#[t,Z],q _ ?_ λa ha=>?_]
 ·rw[xB,numAt_eq];exact getD_mem (by rw[aB,vG];omega)
 rw[xB] at ha;let#[j,hj,rfl]:=mem_getD ha;rw[aB,vG] at hj;rw[<- numAt_eq];exact h2 j Z1
end
end L2
namespace Ln
open PySem PySem.SeqAt PyProof.Rows
open AutoSeq1 (wpAny_loadPart')
open MeetsSeq MeetsSeq2 MeetsSeq3 SeqRoads2
theorem _d(l b:Addr)(xs ys:Array Aa)(n m:Nat)(dl db:Option Addr)(sl sb:Array (Option Aa))(hs:xs.size=ys.size)(e:Nat->Bool)(k:Nat) :
  ∀i:Nat,xs.size - i=k->Meets (Builtin.«list.__eq__.loop» #[[.ref l,.ref b,rawInt i,rawInt 3],[]])
   (λA R s=>(s.heap.get? l=some { cls:=.type "list",dict:=dl,data:=.seq xs n,slots:=sl }/\s.heap.get? b=some { cls:=.type "list",dict:=db,data:=.seq ys m,slots:=sb }) /\
    (∀j (h1:j<xs.size) (h2:j<ys.size),EqAt A.in1 s xs[j] ys[j] (e j))/\R (.ok (.ret (.bool (!((List.range xs.size).drop i).all e)))) s):=by
 induction k with
 |zero=>
  intro i hk prog w A R s ⟨⟨gl,gb⟩,he,h⟩;let#[hp,g,d,tk,os]:=s
  wp_walk using qO gl,qO gb
  rw[show xs[((i:Nat):Int).toNat]? = none by simp;omega,show ys[((i:Nat):Int).toNat]? = none by simp;omega];rw[show (List.range xs.size).drop i=[] by simp;omega] at h
  wp_walk using qO gl,qO gb
  apply (show R (.ok (.ret (.bool (xs.size != ys.size)))) _ from ?_);rw[show (xs.size != ys.size)=false by simp[hs]];exact h
 |succ k ih=>
  intro i hk prog w A R s ⟨⟨gl,gb⟩,he,h⟩;let#[hp,g,d,tk,os]:=s
  wp_walk using qO gl,qO gb
  have z1:i<xs.size:=by omega
  have z2:i<ys.size:=by omega
  have q1:xs[((i:Nat):Int).toNat]? = some xs[i]:=by simp[z1]
  have q2:ys[((i:Nat):Int).toNat]? = some ys[i]:=by simp[z2]
  rw[show (List.range xs.size).drop i=i::(List.range xs.size).drop (i+1) by simp[List.drop_eq_getElem_cons,z1],List.all_cons] at h;rw[q1,q2];apply ao (he i z1 z2 prog w _ _ ?_);cases c:e i with
  |true=>
   rw[c] at h
   wp_walk
   rw[show ((i:Int)+1)=((i+1:Nat):Int) by omega];apply#[plainId_quiet plain_eq_loop _,codeAny_builtin entry_eq_loop ?_];rw[Around.under_plainId plain_eq_loop _];exact ih (i+1) Z1 prog w A R _ #[#[gl,gb],he,by simpa using h]
  |false=>
   rw[c] at h
   wp_walk using qO gl,qO gb
   rw[q1,q2]
   wp_walk
   simpa using h
theorem iQ_(l b:Addr)(xs ys:Array Aa)(n m:Nat)(dl db:Option Addr)(sl sb:Array (Option Aa))(hs:xs.size=ys.size)(e:Nat->Bool) :
  Meets (Builtin.«list.__ne__» #[[.ref l,.ref b],[]])
   (λA R s=>(s.heap.get? l=some { cls:=.type "list",dict:=dl,data:=.seq xs n,slots:=sl }/\s.heap.get? b=some { cls:=.type "list",dict:=db,data:=.seq ys m,slots:=sb }) /\
    (∀j (h1:j<xs.size) (h2:j<ys.size),EqAt A.in1 s xs[j] ys[j] (e j))/\R (.ok (.ret (.bool (!(List.range xs.size).all e)))) s):=by
 intro prog w A R s ⟨⟨gl,gb⟩,he,h⟩;let#[hp,g,d,tk,os]:=s;let f3:=AutoSeq1.sub_list_list;have no:¬(xs.size != ys.size)=true:=by simp[hs]
 wp_walk using qO gl,qO gb
 apply#[plainId_quiet plain_eq_loop _,codeAny_builtin entry_eq_loop ?_];rw[Around.under_plainId plain_eq_loop _];exact _d l b xs ys n m dl db sl sb hs e _ 0 Z prog w A R _ #[#[gl,gb],he,by simpa using h]
theorem js_(l b:Addr)(xs ys:Array Aa)(n m:Nat)(dl db:Option Addr)(sl sb:Array (Option Aa))(hs:(xs.size != ys.size)=true) :
  Meets (Builtin.«list.__ne__» #[[.ref l,.ref b],[]])
   (λA R s=>(s.heap.get? l=some { cls:=.type "list",dict:=dl,data:=.seq xs n,slots:=sl }/\s.heap.get? b=some { cls:=.type "list",dict:=db,data:=.seq ys m,slots:=sb })/\R (.ok (.ret (.bool true))) s):=
 .of_wp λprog w A R s ⟨⟨gl,gb⟩,h⟩=>by
  let#[hp,g,d,tk,os]:=s;let f3:=AutoSeq1.sub_list_list
  wp_walk using qO gl,qO gb
  exact#[_,Z,h]
section
variable{prog:Ad}{w:Af}{A:Ag}{E:Aa->Ab->Prop}{s:Ab}
theorem qA{l b:Addr}{xs ys:Array Aa}{e:Nat->Bool}{Q:Aa->Ab->Prop}(hl:s.heap.IsList l xs)(hb:s.heap.IsList b ys)(hs:xs.size=ys.size)(hu:A.units<cLine)
  (he:∀j (h1:j<xs.size) (h2:j<ys.size),EqAt A.in1 s xs[j] ys[j] (e j)) (h:Q (.bool (!(List.range xs.size).all e)) s):wpAny (model prog w) A (compareOp .NotEq (.ref l) (.ref b)) Q E s:=by
 let#[#[c1,d1,t1,l1],o1,k1,n1,z1]:=id hl;let#[#[c2,d2,t2,l2],o2,k2,n2,z2]:=id hb;simp only at k1 z1 k2 z2;subst k1 z1 k2 z2;exact richCompare_meets_room (op:=.NotEq) #[_,o1,Z] #[_,o2,Z] F.slot_list_ne F.entry_list_ne (F.args_list_ne_2 _ _) (iQ_ l b xs ys n1 n2 d1 d2 l1 l2 hs e) #[#[o1,o2],he,show Value.bool (!(List.range xs.size).all e)≠Value.notImplemented/\Q (.bool (!(List.range xs.size).all e)) s from #[(λx=>nomatch x),h]] hu
theorem iq{l b:Addr}{xs ys:Array Aa}{Q:Aa->Ab->Prop}(hl:s.heap.IsList l xs)(hb:s.heap.IsList b ys)(hs:(xs.size != ys.size)=true)(hu:A.units<cLine)(h:Q (.bool true) s):wpAny (model prog w) A (compareOp .NotEq (.ref l) (.ref b)) Q E s:=by
 let#[#[c1,d1,t1,l1],o1,k1,n1,z1]:=id hl;let#[#[c2,d2,t2,l2],o2,k2,n2,z2]:=id hb;simp only at k1 z1 k2 z2;subst k1 z1 k2 z2;exact richCompare_meets_room (op:=.NotEq) #[_,o1,Z] #[_,o2,Z] F.slot_list_ne F.entry_list_ne (F.args_list_ne_2 _ _) (js_ l b xs ys n1 n2 d1 d2 l1 l2 hs) #[#[o1,o2],show Value.bool true≠Value.notImplemented/\Q (.bool true) s from #[(λx=>nomatch x),h]] hu
end
end Ln
namespace L2
open PySem PySem.Spec PyProof.Rows PySem.W qk dI
abbrev Rp(D:Type):=Hp->V->D->Prop
structure oM (X:Cx) (n:Nat) {D:Type} [DecidableEq D] (R:Rp D):Prop where
 eq:∀{pins:List (Addr × Obj)} {σ:St} {H:Hp} {s:Ab} {A:Ag} {x y:V} {u v:Aa} {d e:D},Inv X pins σ H s->RelV x u->RelV y v->R H x d->R H y e->A.units+n<cLine->SeqAt.EqAt A s u v (decide (d=e))
 one:∀{pins:List (Addr × Obj)} {σ:St} {H:Hp} {s:Ab} {x:V} {d e:D},Inv X pins σ H s->R H x d->R H x e->d=e
def rS:Rp Str:=λ_ x d=>x=.str d
def rB:Rp Bool:=λ_ x d=>x=.bl d
def r2(K:af){D1 D2:Type}(R1:Rp D1)(R2:Rp D2):Rp (D1 × D2):=λH x d=>∃a u v,x=.ref a/\iD K H a [u,v]/\R1 H u d.1/\R2 H v d.2
def rL(K:af){D:Type}(R:Rp D):Rp (List D):=λH x ds=>∃a xs,x=.ref a/\dH K H a xs/\Paired (R H) xs ds
section
variable{X:Cx}
theorem i0:oM X 0 rS where
 eq:=λ{pins σ H s A x y u v d e} I ru rv hx hy hu=>by
  have hx:x=.str d:=hx;have hy:y=.str e:=hy;subst hx;subst hy;let q:=Ea (A:=A) (s:=s) ru rv Z Z
  have e2:iY (.str d) (.str e)=decide (d=e):=by
   show (d == e)=_;by_cases h:d=e
   ·subst h;simp
   simp[h]
  rwa [e2] at q
 one:=λ{pins σ H s x d e} I hx hy=>by
  have hx:x=.str d:=hx;have hy:x=.str e:=hy;rw[hx] at hy;exact V.str.inj hy
theorem Cq:oM X 0 rB where
 eq:=λ{pins σ H s A x y u v d e} I ru rv hx hy hu=>by
  have hx:x=.bl d:=hx;have hy:y=.bl e:=hy;subst hx;subst hy;let q:=Ea (A:=A) (s:=s) ru rv Z Z
  have e2:iY (.bl d) (.bl e)=decide (d=e):=by
   show (d == e)=_;by_cases h:d=e
   ·subst h;simp
   simp[h]
  rwa [e2] at q
 one:=λ{pins σ H s x d e} I hx hy=>by
  have hx:x=.bl d:=hx;have hy:x=.bl e:=hy;rw[hx] at hy;exact V.bl.inj hy
theorem Lg{h:Heap}{a:Addr}{its:Array Aa}(t:IsTup h a its):h.IsTuple a its:=t
theorem Hj{n m:Nat}{D1 D2:Type}[DecidableEq D1][DecidableEq D2]{R1:Rp D1}{R2:Rp D2}(c1:oM X n R1)(c2:oM X m R2):oM X (max n m+1) (r2 X.K R1 R2) where
 one:=λ{pins σ H s x d e} I hx hy=>by
  let#[a,u,v,rfl,t,q1,q2]:=hx;let#[b,u',v',e0,t',Ji,Jh]:=hy;cases e0;let e1:=I.eX t t';cases e1;exact Prod.ext (c1.one I q1 Ji) (c2.one I q2 Jh)
 eq:=λ{pins σ H s A x y u v d e} I ru rv hx hy hu=>by
  let Nl:=hx;let hy':=hy;let#[a,x1,x2,rfl,t,q1,q2]:=hx;let#[b,y1,y2,rfl,t',Ji,Jh]:=hy;cases ru;cases rv;by_cases xM:a=b
  ·subst xM;let e1:=I.eX t t';cases e1;have:d=e:=Prod.ext (c1.one I q1 Ji) (c2.one I q2 Jh);rw[cc this];exact SeqAt.EqAt.same _
  let#[its,r,it,_]:=I.tuple t;let#[its',r',it',_]:=I.tuple t';let#[u1,u2,rfl,r1,r2]:=vals2 r;let#[w1,w2,rfl,Ys,Yp]:=vals2 r'
  let key:=SeqAt.EqAt.of_refs xM (SeqAt.RcAt.tuples (A:=A) (s:=s) (e:=λj=>if j=0 then decide (d.1=e.1) else decide (d.2=e.2)) (Lg it) (Lg it') Z1 λj h1 h2=>by
   match j,h1,h2 with
   |0,_,_=>exact c1.eq I r1 Ys q1 Ji (by show A.units+1+n<cLine;omega)
   |1,_,_=>exact c2.eq I r2 Yp q2 Jh (by show A.units+1+m<cLine;omega))
  have e3:((List.range (min [u1,u2].toArray.size [w1,w2].toArray.size)).all (λj=>if j=0 then decide (d.1=e.1) else decide (d.2=e.2))&&[u1,u2].toArray.size == [w1,w2].toArray.size)=decide (d=e):=by
   show (decide (d.1=e.1)&&(decide (d.2=e.2)&&true)&&true)=_;by_cases h1:d.1=e.1
   ·by_cases h2:d.2=e.2
    ·have:d=e:=Prod.ext h1 h2;simp[this]
    have:¬d=e:=λz=>h2 (by rw[z]);simp[h1,h2,this]
   have:¬d=e:=λz=>h1 (by rw[z]);simp[h1,this]
  rw[e3] at key;exact key
theorem jN{α β:Type}{F:α->β->Prop}:∀{l:List α} {m:List β},Paired F l m->∀(i:Nat) (h1:i<l.length) (h2:i<m.length),F l[i] m[i]
 |_,_,.cons h t,0,_,_=>h
 |_,_,.cons h t,i+1,h1,h2=>jN t i ⇑h1 ⇑h2
theorem QZ{D:Type}[DecidableEq D]:∀{ds es:List D},ds.length=es.length->((List.range ds.length).all λj=>decide (ds[j]? = es[j]?))=decide (ds=es):=λ{ds es} hl=>by
 by_cases h:ds=es
 ·subst h;simp
 rw[dc h]
 have:∃i,i<ds.length/\ds[i]?≠es[i]?:=by
  apply Classical.byContradiction λhn=>h ?_;apply List.ext_getElem? ?_;intro i;by_cases hi:i<ds.length
  ·exact Classical.byContradiction λq=>hn #[i,hi,q]
  rw[List.getElem?_eq_none Z1,List.getElem?_eq_none Z1]
 let#[i,hi,q]:=this;rw[List.all_eq_false];exact#[i,by simpa using hi,by simpa using q]
theorem PY{D:Type}[DecidableEq D]{n:Nat}{R:Rp D}(c:oM X n R){pins:List (Addr × Obj)}{σ:St}{H:Hp}{s:Ab}(I:Inv X pins σ H s):∀{xs:aj} {ds es:List D},Paired (R H) xs ds->Paired (R H) xs es->ds=es
 |_,_,_,.nil,.nil=>rfl
 |_,_,_,.cons h t,.cons h' t'=>by rw[c.one I h h',PY c I t t']
theorem Pa{D:Type}[DecidableEq D]{n:Nat}{R:Rp D}(c:oM X n R){pins:List (Addr × Obj)}{σ:St}{H:Hp}{s:Ab}{A:Ag}(I:Inv X pins σ H s){xs ys:aj}{us vs:ak}{ds es:List D}(ru:Vals xs us)(rv:Vals ys vs)(hx:Paired (R H) xs ds)(hy:Paired (R H) ys es)(hu:A.units+n<cLine) :
  ∀j (h1:j<us.toArray.size) (h2:j<vs.toArray.size),SeqAt.EqAt A s us.toArray[j] vs.toArray[j] (decide (ds[j]? = es[j]?)):=λj h1 h2=>by
 let l1:=ru.length;let l2:=rv.length;let l3:=bS hx;let l4:=bS hy;simp only[cn] at h1 h2;let q:=c.eq (A:=A) I (jN ru j Z1 h1) (jN rv j Z1 h2) (jN hx j Z1 Z1) (jN hy j Z1 Z1) hu
 have e:decide (ds[j]? = es[j]?)=decide (ds[j]' Z1=es[j]' Z1):=by
  rw[dE Z1,dE Z1];by_cases z:ds[j]' Z1=es[j]' Z1
  ·simp[z]
  simp[z]
 rw[e];exact q
def Fp{D:Type}[DecidableEq D](R:Rp D)(neg:Bool):V->V->Hp->VK->Prop:=λx y H Q=>∃d e,R H x d/\R H y e/\Q (.bl (if neg then !decide (d=e) else decide (d=e))) H
theorem Si{n:Nat}{D:Type}[DecidableEq D]{R:Rp D}(c:oM X n R)(hu:X.A.units+n+1<cLine):eW X (compareOp .Eq) (Fp (rL X.K R) false):=by
 intro pins s σ H x y v u Q I rx ry h;let#[d,e,#[a,xs,rfl,t,q],#[b,ys,rfl,t',q'],hq]:=h;cases rx;cases ry;let#[us,r,pl,_]:=I.list t;let#[vs,r',ui,_]:=I.list t';let l1:=r.length;let l2:=r'.length;let l3:=bS q;let l4:=bS q';by_cases hl:d.length=e.length
 ·apply SeqAt.eq_listAt pl.isList ui.isList (by simp only[cn];omega) Z1 (Pa c I r r' q q' (A:=X.A.in1) (by show X.A.units+1+n<cLine;omega)) #[.bl _,H,I,Z,?_];rw[show us.toArray.size=d.length by simp only[cn];omega,QZ hl];exact hq
 apply SeqAt.eq_list_lengthsAt pl.isList ui.isList (by simp only[cn,bne_iff_ne];omega) Z1 #[.bl _,H,I,Z,?_];have hq:Q (.bl (decide (d=e))) H:=hq;rwa [dc (λz=>hl (by rw[z]))] at hq
theorem Su{n:Nat}{D:Type}[DecidableEq D]{R:Rp D}(c:oM X n R)(hu:X.A.units+n+1<cLine):eW X (compareOp .NotEq) (Fp (rL X.K R) true):=by
 intro pins s σ H x y v u Q I rx ry h;let#[d,e,#[a,xs,rfl,t,q],#[b,ys,rfl,t',q'],hq]:=h;cases rx;cases ry;let#[us,r,pl,_]:=I.list t;let#[vs,r',ui,_]:=I.list t';let l1:=r.length;let l2:=r'.length;let l3:=bS q;let l4:=bS q';have hq:Q (.bl (!decide (d=e))) H:=hq;by_cases hl:d.length=e.length
 ·apply Ln.qA pl.isList ui.isList (by simp only[cn];omega) Z1 (Pa c I r r' q q' (A:=X.A.in1) (by show X.A.units+1+n<cLine;omega)) #[.bl _,H,I,Z,?_];rw[show us.toArray.size=d.length by simp only[cn];omega,QZ hl];exact hq
 apply Ln.iq pl.isList ui.isList (by simp only[cn,bne_iff_ne];omega) Z1 #[.bl _,H,I,Z,?_];rwa [dc (λz=>hl (by rw[z]))] at hq
def Bb(K:af){D:Type}[DecidableEq D](R:Rp D)(neg:Bool):V->V->Hp->VK->Prop:=λx y H Q=>∃d es,R H x d/\rL K R H y es/\Q (.bl (if neg then !decide (d∈es) else decide (d∈es))) H
theorem SB{D:Type}[DecidableEq D]{n:Nat}{R:Rp D}(c:oM X n R){pins:List (Addr × Obj)}{σ:St}{H:Hp}{s:Ab}{A:Ag}(I:Inv X pins σ H s){x:V}{u:Aa}{d:D}(ru:RelV x u)(hx:R H x d)(hu:A.units+n<cLine):∀{ys:aj} {vs:ak} {es:List D},Vals ys vs->Paired (R H) ys es->
  ∃f:Aa->Bool,(∀w∈vs,SeqAt.EqAt A s w u (f w))/\vs.any f=decide (d∈es):=λ{ys vs es} rv hy=>by
 let f:Aa->Bool:=λw=>@decide (∃y e,RelV y w/\R H y e/\e=d) (Classical.propDecidable _)
 have sound:∀y w e,RelV y w->R H y e->f w=decide (e=d):=λy w e h1 h2=>by
  by_cases z:e=d
  ·rw[cc z];exact @cc _ (Classical.propDecidable _) #[y,e,h1,h2,z]
  rw[dc z];apply @dc _ (Classical.propDecidable _) λ⟨y',e',g1,g2,g3⟩=>z ?_;have:y'=y:=RelV.inj g1 h1;subst this;rw[<- g3];exact c.one I h2 g2
 apply#[f,?_,?_]
 ·induction rv generalizing es with
  |nil=>exact λw hw=>nomatch hw
  |cons h t ih=>
   cases hy with
   |cons g t'=>
    intro w hw;rcases bW.mp hw with rfl|hw
    ·rw[sound _ _ _ h g];exact c.eq I h ru g hx hu
    exact ih t' w hw
 induction rv generalizing es with
 |nil=>
  cases hy;simp
 |cons h t ih=>
  cases hy with
  |@cons _ e _ es g t'=>
   rw[List.any_cons,ih t',sound _ _ _ h g];by_cases z:e=d
   ·subst z;simp
   by_cases z2:d∈es
   ·simp[z2]
   have:¬d∈e::es:=λq=>by
    rcases bW.mp q with q|q
    ·exact z q.symm
    exact z2 q
   rw[dc z,dc z2,dc this];rfl
theorem GU{n:Nat}{D:Type}[DecidableEq D]{R:Rp D}(c:oM X n R)(hu:X.A.units+n+1<cLine):eW X (compareOp .In) (Bb X.K R false):=by
 intro pins s σ H x y v u Q I rx ry h;let#[d,es,hx,#[a,ys,rfl,t,q],hq]:=h;cases ry;let#[us,r,pl,_]:=I.list t;let#[f,h1,h2]:=SB c I (A:=X.A.in1) rx hx (by show X.A.units+1+n<cLine;omega) r q;apply SeqAt.in_listAt f pl.isList (λw hw=>h1 w ⇑hw) #[.bl _,H,I,Z,?_];rw[show us.toArray.any f=us.any f by simp,h2];exact hq
theorem QG{n:Nat}{D:Type}[DecidableEq D]{R:Rp D}(c:oM X n R)(hu:X.A.units+n+1<cLine):eW X (compareOp .NotIn) (Bb X.K R true):=by
 intro pins s σ H x y v u Q I rx ry h;let#[d,es,hx,#[a,ys,rfl,t,q],hq]:=h;cases ry;let#[us,r,pl,_]:=I.list t;let#[f,h1,h2]:=SB c I (A:=X.A.in1) rx hx (by show X.A.units+1+n<cLine;omega) r q;apply SeqAt.notIn_listAt f pl.isList (λw hw=>h1 w ⇑hw) #[.bl _,H,I,Z,?_];rw[show us.toArray.any f=us.any f by simp,h2];exact hq
end
end L2
namespace L2
open PySem PySem.Spec PyProof.Rows PySem.W qk dI
section
variable{X:Cx}
inductive Fo (K:af) (xs:aj) (H:Hp) (Q:VK):Prop
 |mk:∀x T t b,xs=[x,.ty T]->bp K H x t->PySem.W.kitOne K t (.type T)\b->Q (.bl b) H->Fo K xs H Q
theorem jn:fW X (.builtin "isinstance") (Fo X.K):=by
 intro pins s σ H xs us Q I r h;let#[x,T,t,b,rfl,ty,e,q]:=h;let#[u,w',rfl,ru,gI]:=vals2 r;cases (show w'=Value.type T from gI);exact US I ru ty e λtk=>#[.bl b,H,I.tok tk,Z,q]
inductive VN (x:V) (y:V) (H:Hp) (Q:VK):Prop
 |mk:∀i j,x=.str i->y=.str j->Q (.bl (!decide (j.cps.toList<i.cps.toList))) H->VN x y H Q
theorem Ve:eW X (compareOp .LtE) VN:=by
 intro pins s σ H x y v u Q I rx ry h;let#[i,j,rfl,rfl,q]:=h;let#[t,rfl]:=rx;let#[t',rfl]:=ry;exact PySem.P.le_str ⟨.bl _,H,I,rfl,q⟩
inductive sr (mk:Addr->Addr->HO) (Q:VK) (x:V) (H1:Hp):Prop
 |mk:∀d kvs,x=.ref d->H1 d\.dK kvs->(∀v,H1 v=none->Q (.ref v) (upd H1 v (mk v d)))->sr mk Q x H1
def yu(mk:Addr->Addr->HO)(td:TE):TE:=λσ H Q=>td σ H λx H1=>sr mk Q x H1
theorem Oo{pins:List (Addr × Obj)}{σ:St}{H:Hp}{s:Ab}{d:Addr}{cls:String}(I:Inv X pins σ H s)(φ:Heap->Prop)(hφ:φ (s.heap.push { cls:=.type cls,data:=.fields (List.toArray [.ref d]) }))(hs:∀h1 h2:Heap,φ h1->(∀o,h1.get? s.heap.objs.size\o->h2.get? s.heap.objs.size\o)->φ h2) :
  Inv X pins σ (upd H s.heap.objs.size (.ext φ)) { s with heap:=s.heap.push { cls:=.type cls,data:=.fields (List.toArray [.ref d]) } }:=
 I.laid (t':=s.toks) (λ_ _ q=>bQ _ q) (bj _) #[hφ,#[_,dU _ Z],hs]
theorem CO{o:Expr}{td:TE}{apos bu:Pos}(ho:PE X o td)(dO:attributeBase o "items" X.env (eval o X.env)=eval o X.env:=by rfl)(fR:(apos.endLine == bu.line)=true:=by rfl):PE X (.Call (.Attribute o "items" apos) [] [] bu) (yu i5 td):=by
 intro pins s σ H Q I h;apply wpAny_Call_method0_late dO fR (aQ (ho pins s σ H _ I h) λv s1 ⟨x,H1,I1,r1,d,kvs,e,hd,q⟩=>?_);subst e;cases r1;let#[t1,t2,t3]:=Oe I1 (.inl #[kvs,.inl hd]);let#[_,_,vs,rel,dd]:=zD I1.au hd;apply#["dict","dict.items",PySem.F.plainAttrs_dict,PySem.F.slot_dict_items,PySem.F.type_dict_items,t1,t2,Calls.callWith_builtin Z (PySem.evalArgs_none ?_)];apply call_meetsIn PySem.F.slot_dict_items t1 PySem.F.entry_dict_items (PySem.F.args_dict_items_1 _) (meets_dict_items (d_ X.prog X.w) d t3) #[#[vs,dd],?_];exact#[.ref _,_,Oo I1 _ #[_,dU _ Z,Z,Z] λh1 h2 ⟨o,e,r⟩ k=>#[o,k o e,r],Z,q _ I1.fresh]
theorem UK{o:Expr}{td:TE}{apos bu:Pos}(ho:PE X o td)(dO:attributeBase o "values" X.env (eval o X.env)=eval o X.env:=by rfl)(fR:(apos.endLine == bu.line)=true:=by rfl):PE X (.Call (.Attribute o "values" apos) [] [] bu) (yu wo td):=by
 intro pins s σ H Q I h;apply wpAny_Call_method0_late dO fR (aQ (ho pins s σ H _ I h) λv s1 ⟨x,H1,I1,r1,d,kvs,e,hd,q⟩=>?_);subst e;cases r1;let#[t1,t2,t3]:=Oe I1 (.inl #[kvs,.inl hd]);let#[_,_,vs,rel,dd]:=zD I1.au hd;apply#["dict","dict.values",PySem.F.plainAttrs_dict,PySem.F.slot_dict_values,PySem.F.type_dict_values,t1,t2,Calls.callWith_builtin Z (PySem.evalArgs_none ?_)];apply call_meetsIn PySem.F.slot_dict_values t1 PySem.F.entry_dict_values (PySem.F.args_dict_values_1 _) (meets_dict_values (d_ X.prog X.w) d t3) #[#[vs,dd],?_];exact#[.ref _,_,Oo I1 _ #[_,dU _ Z,Z,Z] λh1 h2 ⟨o,e,r⟩ k=>#[o,k o e,r],Z,q _ I1.fresh]
end
section
variable{X:Cx}{pins:List (Addr × Obj)}{σ:St}{H:Hp}{s:Ab}{d:Addr}{kvs:List (Key × V)}
theorem Inv.freeze(I:Inv X pins σ H s)(h:H d\.dK kvs):∃o,s.heap.get? d\o/\Inv X pins σ (upd H d (.frz o (.dK kvs))) s:=by
 let#[z,hd,vs,rel,dd]:=zD I.au h;let#[o,es,ep,ho,r]:=id dd;have other:∀{b u},H b\u->u≠.dK kvs->upd H d (.frz o (.dK kvs)) b\u:=λ{b u} e ne=>by rw[aF (cj e h ne)];exact e
 apply#[o,ho,I.un (h':=s.heap) (t':=s.toks) #[λb u q _ _ _=>q,λb u q _ _ _=>#[u.slots,q],λb u q n _=>?_,λb u q _=>#[u,q],λb xs q=>other q Z2,λb u v q=>other q Z2,λb ps q=>#[#[],by rw[Array.append_empty];exact other q Z2]] λb u q=>?_]
 ·by_cases e:b=d
  ·subst e;rw[h] at n;cases n
  rw[aF e];exact n
 by_cases e:b=d
 ·subst e;rw[az] at q;cases q;exact#[ho,z,hd,vs,rel,dd]
 rw[aF e] at q;exact (I.au b u q).cQ (λc v _ z=>z) (λc z=>other z Z2) λc xs z=>other z Z2
theorem Inv.iR{o:Obj}(I:Inv X pins σ H s)(h:H d\.frz o (.dK kvs))(h0:∀o u,X.iF d≠some (.frz o u)):Inv X pins σ (upd H d (.dK kvs)) s:=by
 have other:∀{b u},H b\u->(∀o v,u≠.frz o v)->upd H d (.dK kvs) b\u:=λ{b u} e ne=>by rw[aF (cj e h (ne _ _))];exact e
 have gJ:∀{b},H b=none->upd H d (.dK kvs) b=none:=λ{b} e=>by
  rw[aF (λz=>by subst z;rw[h] at e;cases e)];exact e
 apply#[I.ok,I.os,I.bare,#[I.base.keep,I.base.slot,λb u q n hx=>gJ (I.base.free b u q n hx),I.base.there,λb xs q=>other (I.base.fC b xs q) Z2,λb u v q=>?_,λb ps q=>?_],I.loc,I.cell,gJ I.free,λx c e=>gJ (I.bX x c e),λp hp=>?_,λb u q=>?_,I.len]
 ·have:=I.base.eD b u v q;rw[aF (λz=>by subst z;exact h0 _ _ q)];exact this
 ·let#[more,e]:=I.base.fi b ps q;exact#[more,other e Z2]
 ·let#[a1,a2,a3]:=I.pin p hp;exact#[a1,gJ a2,a3]
 by_cases e:b=d
 ·subst e;rw[az] at q;cases q;let#[ho,z,hd,vs,rel,dd]:=I.au b _ h;exact#[z,hd,vs,rel,dd]
 rw[aF e] at q;exact (I.au b u q).cQ (λc v _ z=>z) (λc z=>other z Z2) λc xs z=>other z Z2
end
def EM(t:TE):TE:=λσ H Q=>∃d kvs,H d\.dK kvs/\t σ H λv H1=>∃o,H1 d\.frz o (.dK kvs)/\Q v (upd H1 d (.dK kvs))
theorem kC_{X:Cx}{e:Expr}{t:TE}(h:PE X e t):PE X e (EM t):=by
 intro pins s σ H Q I q;let#[d,kvs,hd,q]:=q;apply aQ (h pins s σ H _ I q) λu s' ⟨v,H1,I1,r,o,hf,q1⟩=>#[v,_,I1.iR hf (λo u z=>?_),r,q1];have:=I.base.eD _ _ _ z;rw[hd] at this;cases this
def Wy(d:Addr)(o:Obj)(kvs:List (Key × V)):It:=#[λi H=>H d\.frz o (.dK kvs)/\i<kvs.length,λi H x H'=>H'=H/\∃k,kvs[i]? = some (k,x),λi H=>H d\.frz o (.dK kvs)/\kvs.length<=i]
theorem Le{X:Cx}{pins:List (Addr × Obj)}{σ:St}{H:Hp}{s:Ab}{d:Addr}{kvs:List (Key × V)}{o:Obj}{es:Array Ah}{ep:Nat}(I:Inv X pins σ H s)(h:H d\.frz o (.dK kvs))(ho:o.data=.dict es ep):∃vs,KV kvs vs/\s.heap.DictAt (d_ X.prog X.w) d vs ep:=by
 let#[e,z,hd,vs,rel,o',zA,zB,e',c',d',r]:=I.au d _ h;rw[e] at e';cases e';rw[ho] at d';cases d';exact#[vs,rel,o,es,e,c',ho,r]
theorem Nj{κ:Type}{kvs:List (κ × V)}{vs:List (κ × Aa)}(r:KV kvs vs):∀(i:Nat) {k:κ} {x:V},kvs[i]? = some (k,x)->∃u,vs[i]? = some (k,u)/\RelV x u:=by
 induction r with
 |nil=>intro i k x e;simp at e
 |@cons p q _ _ h _ ih=>
  intro i k x e;cases i with
  |zero=>
   have e:p=(k,x):=⇑e
   subst e;apply#[q.2,?_,h.2];rw[List.getElem?_cons_zero];have h1:k=q.1:=h.1;rw[h1]
  |succ i=>exact ih i ⇑e
theorem gZ_{P:Ad}{w:Af}{K:af}{tg:Expr}(d it:Addr)(o:Obj)(kvs:List (Key × V)){es:Array Ah}{ep:Nat}(ho:o.data=.dict es ep):Turn P w K tg (Wy d o kvs) [it] it (λi h=>h.IsValIter it d i kvs.length ep) where
 mem:=by simp
 obj:=λi h st b hb=>by
  obtain rfl:b=it:=⇑hb
  let#[o,e,c,d]:=st;exact#[o,e,λv z=>by rw[d] at z;cases z]
 keep:=λi h h' st k=>st.at λo e=>k it Z2 o e
 item:=by
  intro X hP hw hK hc i pins s σ H E I hf st hg;subst hP hw hK;let#[hd,hi]:=hg;let#[vs,rel,dat]:=Le I hd ho;obtain⟨⟨k,x⟩,hx⟩:∃p,kvs[i]? = some p:=#[kvs[i],by simp[hi]];let#[u,hu,ru]:=Nj rel i hx;let#[f0,f1,f2,f3,f4,f5]:=hf it Z2;rw[rel.length] at st;apply wpAny_pyNext_values_item st dat hu λh' fI sb=>?_;have I1:Inv X pins σ H { s with heap:=h' }:=I.turned (t':=s.toks) (λb o hb e=>(sb.2 b hb).trans e) f0 f1 f3 f4 f5;let#[o',e,c,dd]:=id fI;apply#[u,Z,GI (s:={ s with heap:=h' }) e c dd (by decide) #[x,H,I1,ru,#[Z,k,hx],?_,λb hb=>(hf b hb).1]];show h'.IsValIter it d (i+1) kvs.length ep;rw[rel.length];exact fI
 done:=by
  intro X hP hw hK hc i pins s σ H E I hf st hg;subst hP hw hK;let#[hd,hi]:=hg;let#[vs,rel,dat]:=Le I hd ho;let#[f0,f1,f2,f3,f4,f5]:=hf it Z2;rw[rel.length] at st hi;exact wpAny_pyNext_values_end (I.ok.hd hc) st dat (by simp;omega) λh' eb=>#[Z,I.turned (t':=s.toks) (λb o hb e=>eb b o hb e) f0 f1 f3 f4 f5]
 self:=λ_ _ _ _ _ st h=>wpAny_pyIter_valiter st h
inductive uG (R:It->Hp->Prop) (x:V) (H1:Hp):Prop
 |mk:∀v d kvs,x=.ref v->H1 v\wo v d->H1 d\.dK kvs->(∀o,R (Wy d o kvs) (upd H1 d (.frz o (.dK kvs))))->uG R x H1
def F4(tv:TE):TI:=λσ H R=>tv σ H λx H1=>uG R x H1
theorem kS_{X:Cx}{tg e:Expr}{tv:TE}(he:PE X e tv):PI X tg e (F4 tv):=by
 intro pins s σ H R I h;apply aQ (he pins s σ H _ I h) λu s1 ⟨x,H1,I1,r1,v,d,kvs,ex,hv,hd,q⟩=>?_;subst ex;cases r1;let#[iv,_,_]:=I1.au v _ hv;let#[o,ho,I2]:=I1.freeze hd;let#[z,_,vs,rel,o',es,ep,h_,c',dt,r]:=zD I1.au hd;rw[ho] at h_;cases h_;have qH:v≠d:=cj hv hd nofun;apply wpAny_pyIter_values (knd:=d_ X.prog X.w) (kvs:=vs) (ep:=ep) iv #[o,es,ho,c',dt,r] ?_;apply#[s1.heap.objs.size,[s1.heap.objs.size],_,_,_,Z,I2.kept (t':=s1.toks) λb o e=>bQ _ e,gZ_ d _ o kvs dt,?_,λb hb=>?_,q o]
 ·rw[rel.length];exact#[_,dU _ Z,Z,Z]
 obtain rfl:b=s1.heap.objs.size:=⇑hb
 exact I2.jE (bj _) (I2.au.fresh (bj _))
def Rg(x:Str):It:=#[λi _=>i<x.cps.size,λi H v H'=>H'=H/\∃c,x.cps[i]? = some c/\v=.str ⟨(List.toArray [c])⟩,λi _=>x.cps.size<=i]
theorem fZ_{P:Ad}{w:Af}{K:af}{tg:Expr}(it:Addr)(x:Str)(t:Tok):Turn P w K tg (Rg x) [it] it (λi h=>i<=x.cps.size/\h.IsStrIter it "str_ascii_iterator" x t i) where
 mem:=by simp
 obj:=λi h st b hb=>by
  obtain rfl:b=it:=⇑hb
  let#[o,e,c,d]:=st.2;exact#[o,e,λv z=>by rw[d] at z;cases z]
 keep:=λi h h' st k=>#[st.1,let #[o,ho,r]:=st.2;#[o,k it Z2 o ho,r]]
 item:=by
  intro X hP hw hK hc i pins s σ H E I hf st hg;subst hP hw hK;have hg:i<x.cps.size:=hg;let#[f0,f1,f2,f3,f4,f5]:=hf it Z2;apply wpAny_pyNext_ascii_item st.2 (c:=x.cps[i]) (by simp[hg]) λh' fI sb=>?_;have I1:Inv X pins σ H { s with heap:=h',toks:=s.toks+1 }:=I.turned (t':=s.toks+1) (λb o hb e=>(sb.2 b hb).trans e) f0 f1 f3 f4 f5;let#[o',e,c,dd]:=id fI;exact#[_,Z,GI (s:={ s with heap:=h',toks:=s.toks+1 }) e c dd (by decide) #[.str ⟨(List.toArray [x.cps[i]])⟩,H,I1,#[_,Z],#[Z,_,by simp[hg],Z],#[hg,fI],λb hb=>(hf b hb).1]]
 done:=by
  intro X hP hw hK hc i pins s σ H E I hf st hg;subst hP hw hK;have hg:x.cps.size<=i:=hg;let#[f0,f1,f2,f3,f4,f5]:=hf it Z2;exact wpAny_pyNext_ascii_end (I.ok.hd hc) st.2 (by simp[hg]) λh' eb=>#[Z,I.turned (t':=s.toks) (λb o hb e=>eb b o hb e) f0 f1 f3 f4 f5]
 self:=λ_ _ _ _ _ st h=>wpAny_pyIter_striter_ascii st.2 h
theorem gL_{P:Ad}{w:Af}{K:af}{tg:Expr}(it:Addr)(x:Str)(t:Tok):Turn P w K tg (Rg x) [it] it (λi h=>i<=x.cps.size/\h.IsStrIter it "str_iterator" x t i) where
 mem:=by simp
 obj:=λi h st b hb=>by
  obtain rfl:b=it:=⇑hb
  let#[o,e,c,d]:=st.2;exact#[o,e,λv z=>by rw[d] at z;cases z]
 keep:=λi h h' st k=>#[st.1,let #[o,ho,r]:=st.2;#[o,k it Z2 o ho,r]]
 item:=by
  intro X hP hw hK hc i pins s σ H E I hf st hg;subst hP hw hK;have hg:i<x.cps.size:=hg;let#[f0,f1,f2,f3,f4,f5]:=hf it Z2;apply wpAny_pyNext_wide_item st.2 (c:=x.cps[i]) (by simp[hg]) λh' fI sb=>?_;have I1:Inv X pins σ H { s with heap:=h',toks:=s.toks+1 }:=I.turned (t':=s.toks+1) (λb o hb e=>(sb.2 b hb).trans e) f0 f1 f3 f4 f5;let#[o',e,c,dd]:=id fI;exact#[_,Z,GI (s:={ s with heap:=h',toks:=s.toks+1 }) e c dd (by decide) #[.str ⟨(List.toArray [x.cps[i]])⟩,H,I1,#[_,Z],#[Z,_,by simp[hg],Z],#[hg,fI],λb hb=>(hf b hb).1]]
 done:=by
  intro X hP hw hK hc i pins s σ H E I hf st hg;subst hP hw hK;have hg:x.cps.size<=i:=hg;let#[f0,f1,f2,f3,f4,f5]:=hf it Z2;exact wpAny_pyNext_wide_end (I.ok.hd hc) st.2 (by simp[hg]) λh' eb=>#[Z,I.turned (t':=s.toks) (λb o hb e=>eb b o hb e) f0 f1 f3 f4 f5]
 self:=λ_ _ _ _ _ st h=>wpAny_pyIter_striter_wide st.2 h
inductive zh (R:It->Hp->Prop) (v:V) (H1:Hp):Prop
 |mk:∀x,v=.str x->R (Rg x) H1->zh R v H1
def Nh(tl:TE):TI:=λσ H R=>tl σ H λv H1=>zh R v H1
theorem _h{X:Cx}{tg l:Expr}{tl:TE}(hl:PE X l tl):PI X tg l (Nh tl):=by
 intro pins s σ H R I h;apply aQ (hl pins s σ H _ I h) λv s1 ⟨y,H1,I1,r1,x,e,q⟩=>?_;subst e;let#[t,rfl]:=r1
 have fp:∀b∈[s1.heap.objs.size],cy X pins H1 b:=λb hb=>by
  obtain rfl:b=s1.heap.objs.size:=⇑hb
  exact I1.jE (bj _) (I1.au.fresh (bj _))
 cases ha:x.cps.all (· < 128)
 ·apply wpAny_pyIter_wide ha ?_;exact#[s1.heap.objs.size,[s1.heap.objs.size],_,_,H1,Z,I1.kept (t':=s1.toks) λb o e=>bQ _ e,gL_ _ x t,#[hG _,_,dU _ Z,Z,Z],fp,q]
 apply wpAny_pyIter_ascii ha ?_;exact#[s1.heap.objs.size,[s1.heap.objs.size],_,_,H1,Z,I1.kept (t':=s1.toks) λb o e=>bQ _ e,fZ_ _ x t,#[hG _,_,dU _ Z,Z,Z],fp,q]
end L2
namespace L2
open PySem PySem.Spec PyProof.Rows PySem.W qk dI
theorem Ml{X:Cx}{f:Aa->Aa->Sem Aa}{K:af}(r:af->R2)(h:eW X f (r X.K))(hK:X.K=K:=by rfl):eW X f (r K):=by
 subst hK;exact h
theorem B8{X:Cx}{f:Aa}{K:af}(r:af->aj->Hp->VK->Prop)(h:fW X f (r X.K))(hK:X.K=K:=by rfl):fW X f (r K):=by
 subst hK;exact h
theorem FZ{X:Cx}{K:af}(r:af->R2)(h:IJ X (r X.K))(hK:X.K=K:=by rfl):IJ X (r K):=by
 subst hK;exact h
abbrev Fn(K:af):=QX K
abbrev uc(K:af):=QY K
theorem Qz{X:Cx}{K:af}(hK:X.K=K:=by rfl):fW X (.builtin "len") (Fn K):=B8 Fn qR hK
theorem Cw{X:Cx}{K:af}(hK:X.K=K:=by rfl):fW X (.type "tuple") (uc K):=B8 uc dI_ hK
theorem KJ{X:Cx}{N:ae}{scope:Scope}{fp:ai}{s:Ab}{H:Hp}{es:List Expr}{k:Nat}{pos:Pos}{t:Dh}{n:Nat}(h:IH (iN X N scope fp s H) es t)(hc:X.calm=true:=by rfl)
  (hn:(assignEach es (iN X N scope fp s H).env).length=n:=by rfl) (ja:(assignEach es (iN X N scope fp s H).env).findIdx? (·.1)=none:=by rfl):PG (iN X N scope fp s H) (.Tuple es k pos) (iX X.K n t):=rQ (X:=iN X N scope fp s H) hc h hn ja
end L2
namespace L2
open PySem PySem.Spec PyProof.Rows
def TrE(h base:Heap)(e:Addr)(cls cx fl:Aa):Prop:=∃oe vs T oT ts,h.get? e\oe/\(oe.cls=cls/\oe.dict=none)/\oe.data=Data.fields vs/\vs[1]? = some (Value.ref T)/\vs[2]? = some cx/\base.get? T=none/\T≠e/\h.get? T\oT/\oT.data=Data.fields ts/\ts[3]? = some fl
def mj(base:Heap)(l:List Env)(e:Addr)(cls cx fl:Aa)(h:Heap):Prop:=base.StaysIn h/\base.get? e=none/\h.FunFrames base l/\TrE h base e cls cx fl
abbrev wI(base:Heap)(l:List Env)(e:Addr)(cls fl:Aa)(h:Heap):Prop:=mj base l e cls Value.none fl h
theorem mj.less{base h:Heap}{env:Env}{l:List Env}{e:Addr}{cls cx fl:Aa}(f:mj base (env::l) e cls cx fl h):mj base l e cls cx fl h:=#[f.1,f.2.1,f.2.2.1.2.2,f.2.2.2]
theorem wI.w{base h:Heap}{l:List Env}{e:Addr}{cls:Aa}(f:wI base l e cls Value.none h):∃a0,Heap.FlyingW base l e cls a0 h:=by
 let#[f1,f2,f3,oe,vs,T,oT,ts,he,#[hc,_],hd,h1,h2,qI,je,hT,jd,h3]:=f;have z:0<vs.size:=gZ (by decide) (zZ.mp h2).1;exact#[vs[0],f1,f2,f3,oe,vs,T,oT,ts,he,#[hc,Array.getElem?_eq_getElem z],hd,h1,qI,je,hT,jd,h3]
def Ri(base:Heap)(l:List Env)(e:Addr)(cls a0:Aa)(h:Heap):Prop:=Heap.FlyingW base l e cls a0 h/\wI base l e cls Value.none h
theorem wI.b{base h:Heap}{l:List Env}{e:Addr}{cls:Aa}(f:wI base l e cls Value.none h):∃a0,Ri base l e cls a0 h:=by
 let#[a0,q]:=f.w;exact#[a0,q,f]
section
variable{M:Model}{A:Ag}{E:Aa->Ab->Prop}{s:Ab}{base:Heap}{env:Env}{outer:List Env}{L e:Addr}{cls cx fl:Aa}{Q:Unit->Ab->Prop}
theorem entryE{oe:Obj}{vs:Array Aa}{head:Aa}{jD:Bool}(jb:A.frames\(env::outer))(hl:s.heap.FunFrames base (env::outer))(hf:env.frame\L)(he:s.heap.get? e\oe)(zo:base.StaysIn s.heap)(JL:base.get? e=none)(hd:oe.data=Data.fields vs)(lS:oe.dict=none)(h2:vs[2]? = some cx)
  (h:∀h',mj base (env::outer) e oe.cls cx (rawInt L) h'->s.heap.UpToSlots h'->Q () { s with heap:=h' }) :
  wpAny M A (do
   let a <- PySem.frameOf env
   let pl <- entryPlaceOf L jD
   let b <- EntryCells.newEntry head a Value.none (rawInt L) Value.none pl
   setField (Value.ref e) 1 b) Q E s:=by
 have hsz:1<vs.size:=gZ (by decide) (zZ.mp h2).1
 have BV:e∉List.filterMap (λx=>x.frame) (env::outer):=λhm=>by
  let#[_,o,ho,ND]:=Heap.FunFrames.mem hl hm;rw[he] at ho;cases ho;exact ND vs hd
 apply ao (wpAny_frameOf_fun jb hl hf λaU cY=>ao (wpAny_entryPlaceOf λpl fJ=>?_));unfold EntryCells.newEntry newFields;have BB:aU.objs.size=s.heap.objs.size:=cY.1;let fS:=(cY.right.left e BV).trans he;have dX:∀b o,s.heap.get? b\o->b≠aU.objs.size:=λb o q=>dB (by rw[BB];exact bN q)
 have JP:base.get? aU.objs.size=none:=by
  cases q:base.get? aU.objs.size with
  |none=>rfl
  |some o=>exact absurd Z (dX _ o (zo _ o q))
 have dO:∀b o,base.get? b\o->aU.get? b\o:=λb o q=>(cY.right.left b (λhm=>by
  have:=(Heap.FunFrames.mem hl hm).1;rw[q] at this;cases this)).trans (zo b o q)
 obtain⟨ij,vW,JA⟩:∃ij:Array Aa,([head,Value.ref L,Value.none,rawInt ↑L,Value.none]++if pl.isEmpty=true then List.replicate 6 Value.none else pl).toArray=ij/\ij[3]? = some (rawInt ↑L):=#[_,Z,by simp]
 have BA:ij.size<=sizeLine+2:=by
  rw[<- vW];rcases fJ with rfl|⟨a,b,c,d,c9,vB,_,rfl⟩
  ·show 11<=sizeLine+2;decide
  show 11<=sizeLine+2;decide
 apply ao (wb ?_ (by rw[vW];exact BA));rw[vW];have eP:(aU.push { cls:=Value.type "traceback",data:=Data.fields ij }).get? e\oe:=bQ _ fS;have uN:(aU.push { cls:=Value.type "traceback",data:=Data.fields ij }).get? aU.objs.size=some { cls:=Value.type "traceback",data:=Data.fields ij }:=dU aU Z;have je:aU.objs.size≠e:=(dX e oe he).symm;apply wpAny_setField eP hd hsz ?_;let jc:=Obj.data_mapFields hd λx=>x.setIfInBounds 1 (Value.ref aU.objs.size);let gK:=zM (Obj.mapFields λx=>x.setIfInBounds 1 (Value.ref aU.objs.size)) eP (Obj.isFreed_of_fields jc);let pN:=(ji (aU.push { cls:=Value.type "traceback",data:=Data.fields ij }) (Obj.mapFields λx=>x.setIfInBounds 1 (Value.ref aU.objs.size)) je.symm).trans uN
 have uj:∀b o,b≠e->aU.get? b\o->((aU.push { cls:=Value.type "traceback",data:=Data.fields ij }).update e (Obj.mapFields λx=>x.setIfInBounds 1 (Value.ref aU.objs.size))).get? b\o:=λb o n1 q=>
  (ji _ _ n1.symm).trans (bQ _ q)
 have Gx:((Obj.mapFields λx=>x.setIfInBounds 1 (Value.ref aU.objs.size)) oe).cls=oe.cls/\((Obj.mapFields λx=>x.setIfInBounds 1 (Value.ref aU.objs.size)) oe).dict=oe.dict:=by
  let#[c,dt,da,sl]:=oe;have:da=Data.fields vs:=hd;subst this;exact#[Z,Z]
 have ups:∀b o,s.heap.get? b\o->(∀vs,o.data≠Data.fields vs)->∃sl,((aU.push { cls:=Value.type "traceback",data:=Data.fields ij }).update e (Obj.mapFields λx=>x.setIfInBounds 1 (Value.ref aU.objs.size))).get? b=some { cls:=o.cls,dict:=o.dict,data:=o.data,slots:=sl }:=λb o q nf=>by
  let#[sl,q1]:=cY.right.right b o q;apply#[sl,uj b _ (λz=>?_) q1];subst z;rw[he] at q;cases q;exact nf vs hd
 apply h _ #[λb o q=>uj b o (λz=>?_) (dO b o q),JL,Heap.FunFrames.of_keeps (λb o q nf=>?_) hl,#[_,_,aU.objs.size,_,_,gK,#[Gx.1,Gx.2.trans lS],jc,?_,?_,JP,je,pN,Z,JA]] ups
 ·subst z;rw[JL] at q;cases q
 ·let#[sl,q1]:=ups b o q nf;exact#[_,q1,Z]
 ·simp[hsz]
 rw[Array.getElem?_setIfInBounds];simpa using h2
theorem wU{l:List Env}{fr:Option Addr}(f:mj base l e cls cx fl s.heap)
  (hQ:∀h',mj base l e cls cx (fr.elim Value.none λa=>rawInt a) h'->s.heap.UpToSlots h'->Q () { s with heap:=h' }):wpAny M A (setFlight (Value.ref e) fr) Q E s:=by
 let#[f1,f2,f3,oe,vs,T,oT,ts,he,hc,hd,h1,h2,qI,je,hT,jd,h3]:=f;have z3:3<ts.size:=(zZ.mp h3).1;have other:∀b,b≠T->(s.heap.update T (Obj.mapFields λx=>x.setIfInBounds 3 (fr.elim Value.none λa=>rawInt a))).get? b=s.heap.get? b:=λb hb=>ji _ _ hb.symm
 have ip:∀b o,s.heap.get? b\o->(∀vs,o.data≠Data.fields vs)->b≠T:=λb o q nf z=>by
  subst z;rw[hT] at q;cases q;exact nf ts jd
 unfold setFlight;apply ao (wpAny_field he hd h1 ?_);rw[aJ Z2];apply wpAny_setField hT jd z3 ?_;let zr:=Obj.data_mapFields jd λx=>x.setIfInBounds 3 (fr.elim Value.none λa=>rawInt a);let N8:=zM (Obj.mapFields λx=>x.setIfInBounds 3 (fr.elim Value.none λa=>rawInt a)) hT (Obj.isFreed_of_fields zr);apply hQ _ #[λb o q=>(other b (λz=>?_)).trans (f1 b o q),f2,Heap.FunFrames.of_keeps (λb o q nf=>#[o,(other b (ip b o q nf)).trans q,Z]) f3,oe,vs,T,_,_,(other e je.symm).trans he,hc,hd,h1,h2,qI,je,N8,zr,?_] λb o q nf=>#[o.slots,(other b (ip b o q nf)).trans q]
 ·subst z;rw[qI] at q;cases q
 simp[z3]
theorem yZ(jb:A.frames\(env::outer))(hf:env.frame\L)(f:mj base (env::outer) e cls cx Value.none s.heap)
  (hQ:∀h',mj base (env::outer) e cls cx (rawInt L) h'->s.heap.UpToSlots h'->Q () { s with heap:=h' }):wpAny M A (noteFrame (Value.ref e) env) Q E s:=by
 let#[f1,f2,f3,oe,vs,T,oT,ts,he,#[hc,lS],hd,h1,h2,qI,je,hT,jd,h3]:=f;subst hc;unfold noteFrame;rw[hf];dsimp only;apply ao (wpAny_field he hd h1 ?_);rw[aJ Z2];apply ao (wpAny_field hT jd h3 ?_);rw[aC (by simp[rawInt])];apply ao (wpAny_setField hT jd (zZ.mp h3).1 ?_);have other:∀b,b≠T->(s.heap.update T (Obj.mapFields λx=>x.setIfInBounds 3 Value.none)).get? b=s.heap.get? b:=λb hb=>ji _ _ hb.symm
 have ip:∀b o,s.heap.get? b\o->(∀vs,o.data≠Data.fields vs)->b≠T:=λb o q nf z=>by
  subst z;rw[hT] at q;cases q;exact nf ts jd
 apply entryE (base:=base) (s:={ s with heap:=s.heap.update T (Obj.mapFields λx=>x.setIfInBounds 3 Value.none) }) jb (Heap.FunFrames.of_keeps (λb o q nf=>#[o,(other b (ip b o q nf)).trans q,Z]) f3) hf ((other e je.symm).trans he) (λb o q=>(other b (λz=>?_)).trans (f1 b o q)) f2 hd lS h2 λh' g u=>hQ h' g λb o q nf=>u b o ((other b (ip b o q nf)).trans q) nf;subst z;rw[qI] at q;cases q
theorem V6(hf:env.frame\L){l:List Env}(f:mj base l e cls cx (rawInt L) s.heap)(h:Q () s):wpAny M A (noteFrame (Value.ref e) env) Q E s:=by
 let#[f1,f2,f3,oe,vs,T,oT,ts,he,hc,hd,h1,h2,qI,je,hT,jd,h3]:=f;unfold noteFrame;rw[hf];dsimp only;apply ao (wpAny_field he hd h1 ?_);rw[aJ Z2];apply ao (wpAny_field hT jd h3 ?_);rw[aJ Z2];exact aP h
theorem Vp{h:Heap}{vs:ak}(jb:A.frames\(env::outer))(hf:env.frame\L)(zo:base.StaysIn h)(hl:h.FunFrames base (env::outer))(hx:Heap.MadeExcOf h s.heap e cls vs)
  (hQ:∀h',mj base (env::outer) e cls Value.none (rawInt L) h'->s.heap.UpToSlots h'->Q () { s with heap:=h' }):wpAny M A (noteFrame (Value.ref e) env) Q E s:=by
 let#[t,he,htn,ht]:=hx.there
 have fresh:∀b,h.get? b=none->base.get? b=none:=λb hb=>by
  cases hq:base.get? b with
  |none=>rfl
  |some o'=>have:=zo b o' hq;rw[hb] at this;cases this
 unfold noteFrame;rw[hf];dsimp only;apply ao (wpAny_field he Z Z ?_);rw[aC Z2];exact entryE (base:=base) jb (hl.of_keeps λb o hb _=>#[o,hx.keeps b o hb,Z]) hf he (λb o hb=>hx.keeps b o (zo b o hb)) (fresh e hx.new) Z Z Z hQ
end
end L2
namespace L2
open PySem PySem.Spec PyProof.Rows
theorem d9.here{P:Ad}{w:Af}{H:Hp}{h:Heap}{a:Addr}{o:HO}(x:d9 P w H h a o):∃u,h.get? a\u:=by
 cases o with
 |lst xs=>let#[_,_,_,_,e]:=x;exact#[_,e]
 |tup xs=>let#[_,_,_,#[o,e,_],_]:=x;exact#[_,e]
 |dK kvs=>let#[_,_,_,_,o,_,_,e,_]:=x;exact#[_,e]
 |dT kvs=>let#[_,_,_,_,o,_,_,e,_]:=x;exact#[_,e]
 |set S n=>let#[o,_,_,_,e,_]:=x;exact#[_,e]
 |ins C dx fs=>let#[_,_,_,e,_]:=x;exact#[_,e]
 |own y=>exact x
 |xd fs=>let#[_,#[_,_,_,e,_],_]:=x;exact#[_,e]
 |rng lo hi=>let#[_,_,_,e]:=x;exact#[_,e]
 |frz ob u=>let#[e,_]:=x;exact#[_,e]
 |tbl ps=>exact#[_,show h.get? a\_ from x]
 |met f y=>exact#[_,show h.get? a\_ from x]
 |ext φ=>let#[_,e,_]:=x;exact e
def vN(B:Heap)(l:List Env)(H:Hp)(h0 h:Heap):Prop:=
 ∀b o,h.get? b\o->b∉dF l->((H b).isSome=true∨∃o0,h0.get? b\o0)->B.get? b\o
section
variable{P:Ad}{w:Af}{H H':Hp}{B h0 h h1:Heap}{l:List Env}
theorem Iw(au:cO P w H' h)(fr:∀b∈dF l,H' b=none)(i:vN B l H' h0 h)(st:B.StaysIn h1):cO P w H' h1:=λb o e=>
 (au b o e).cQ (λc u hc q=>by
  have hs:∃x,H' c\x:=by
   rcases hc with z|z
   ·exact#[o,z▸e]
   exact#[_,z]
  let#[x,hx]:=hs;exact st c u (i c u q (λm=>by rw[fr c m] at hx;cases hx) (.inl (by rw[hx];rfl)))) (λ_ q=>q) (λ_ _ q=>q)
theorem Hu(un:Un (dF l) [] H H' h0 h)(ff:h.FunFrames B l)(i:vN B l H' h0 h)(st:B.StaysIn h1)(up:h.UpToSlots h1):Un (dF l) [] H H' h0 h1 where
 keep:=λb o q n hb hx=>st b o (i b o (un.keep b o q n hb hx) hb (.inr #[o,q]))
 slot:=λb o q n hb hx=>by
  let#[sl,e]:=un.slot b o q n hb hx;let#[_,o',e',d]:=ff.mem hb;rw[e] at e';cases e';let#[I_,e2]:=up b _ e d;exact#[I_,e2]
 free:=un.free
 there:=λb o q hx=>by
  let#[o',e]:=un.there b o q hx;by_cases hb:b∈dF l
  ·let#[_,o2,e',d]:=ff.mem hb;rw[e] at e';cases e';let#[I_,e2]:=up b _ e d;exact#[_,e2]
  exact#[o',st b o' (i b o' e hb (.inr #[o,q]))]
 fC:=un.fC
 eD:=un.eD
 fi:=un.fi
theorem Ie(au:cO P w H' h)(un:Un (dF l) [] H H' h0 h)(i:vN B l H' h0 h)(st:B.StaysIn h1):vN B l H' h0 h1:=λb o e hb c=>by
 have:∃u,h.get? b\u:=by
  rcases c with z|⟨o0,z⟩
  ·let#[x,hx]:=vH.mp z;exact (au b x hx).here
  exact un.there b o0 z Z2
 let#[u,hu]:=this;let q:=i b u hu hb c;have:=st b u q;rw[e] at this;cases this;exact q
end
def fe(P:Ad)(w:Af):i_:=λl H s E e s'=>
 ∃a cls H' B a0,e=Value.ref a/\s'.os=s.os/\AllBare s'.gens/\Un (dF l) [] H H' s.heap s'.heap/\cO P w H' s'.heap/\Ri B l a cls a0 s'.heap/\vN B l H' s.heap s'.heap/\E cls none H'
section
variable{X:Cx}{pins:List (Addr × Obj)}{σ:St}{H H':Hp}{s s1:Ab}{B h:Heap}{a:Addr}{cls a0:Aa}{E:XK}
theorem KQ(I:Inv X pins σ H s)(un:Un (dF X.stack) [] H H' s.heap h):∀b∈dF X.stack,H' b=none:=λb hb=>by
 let#[_,o,ho,_]:=I.stack.mem hb;exact un.free b o ho (I.hY b hb) Z2
theorem PL(I:Inv X pins σ H s)(hex:X.ex=[])(os:s1.os=s.os)(bare:AllBare s1.gens)(un:Un (dF X.stack) [] H H' s.heap h)(au:cO X.prog X.w H' h)(i:vN B X.stack H' s.heap h)(ff:h.FunFrames B X.stack)(up:h.UpToSlots s1.heap)
  (fl:Ri B X.outer a cls a0 s1.heap) (hE:E cls none H'):fe X.prog X.w X.outer X.iF X.cg E (.ref a) s1:=by
 let Lx:=Hu un ff i fl.1.1 up;let BI:=Iw au (KQ I un) i fl.1.1;have I1:Inv X pins σ H' s1:=I.jf os Lx BI bare (λb z=>absurd z Z2);let bs:=I1.base;rw[hex] at bs;apply#[a,cls,H',B,a0,Z,I1.os,I1.bare,bs,I1.au,fl,λb o e hb c=>?_,hE]
 have nL:b≠X.env.locals:=by
  rcases c with z|⟨o0,z⟩
  ·intro q;rw[q,I1.free] at z;cases z
  exact dB (gZ (bN z) I.ok.above)
 apply Ie au un i fl.1.1 b o e (λhm=>?_) (c.imp id λ⟨o0,z⟩=>I.base.there b o0 z (by rw[hex];simp));rcases bW.mp (I.gh b hm) with z|z
 ·exact nL z
 exact hb z
end
section
variable{P:Ad}{w:Af}{K:af}{mg:Str->Option Aa}{base:Heap}{N:ae}{qual:Str}{scope:Scope}{f:Addr}{cd:Aa}{A:Ag}{outer:List Env}{s:Ab}{H:Hp}{E:XK}
theorem xk:jG (fe P w) (dP (fe P w) P w K mg base N qual scope f cd A outer s H E) E:=by
 intro pins σ H1 s1 e s' I hc;let#[a,cls,H',B,a0,rfl,os,bare,un,au,fl,i,hE]:=hc;show wpAny _ _ (leaving _ _) _ _ _;unfold leaving;apply ao (yZ (base:=B) I.ok.frames Z fl.2 λh1 hd up=>wU (fr:=none) hd λh2 f2 Lu=>?_);let#[a1,fb]:=wI.b (mj.less f2);exact PL (s1:={ s' with heap:=h2 }) I Z os bare un au i fl.1.2.2.1 (up.trans Lu) fb hE
def He(X:Cx)(E:XK):Prop:=∀(pins:List (Addr × Obj)) (σ:St) (H:Hp) (s:Ab) (h':Heap) (e:Addr) (cls:Aa) (vs:ak),Inv X pins σ H s->Heap.MadeExcOf s.heap h' e cls vs->E cls none H->X.xe (.ref e) { s with heap:=h' }
theorem xg:He (dP (fe P w) P w K mg base N qual scope f cd A outer s H E) E:=by
 intro pins σ H1 s1 h' e cls vs I hx hE;let ff:=PySem.W.funFrames_hide (as:=dF (dP (fe P w) P w K mg base N qual scope f cd A outer s H E).stack) I.stack (λenv he b hb=>rY.mpr #[env,he,hb]);show wpAny _ _ (leaving _ _) _ _ _;unfold leaving;apply ao (Vp (base:=PySem.W.hideAll s1.heap (dF (dP (fe P w) P w K mg base N qual scope f cd A outer s H E).stack)) (h:=s1.heap) I.ok.frames Z (λb o q=>PySem.W.of_hideAll _ q) ff hx λh1 hd up=>wU (fr:=none) hd λh2 f2 Lu=>?_);let#[a1,fb]:=wI.b (mj.less f2);exact PL (s1:={ s1 with heap:=h2 }) I Z Z I.bare Un.refl I.au (λb o q hb _=>PySem.W.hideAll_get _ q hb) ff ((Heap.UpToSlots.of_keeps hx.keeps).trans (up.trans Lu)) fb hE
end
section
variable{X:Cx}{x:Str}{C:Addr}{bm:ak}{B newId uF:String}{np bu pos:Pos}{vd:Expr}{t:TA}{E:XK}
theorem ZY{K:af}{h:Heap}{mg:Str->Option Aa}{Ik:ak}(X:K.In h)(hm:mg x\.ref C)(q:PySem.W.excIn K C Ik newId=true):OwnCls x C Ik newId mg h:=by
 apply#[hm,?_];unfold PySem.W.excIn at q;split at q
 ·rename_i dd cd sl ho
  split at q
  ·rename_i C' bm k0 k1 k2 k3 n k5 JG hs
   simp only[wD,beq_iff_eq,Bool.not_eq_true'] at q;let#[#[#[#[#[rfl,rfl],GC],ht],au],JE]:=q;let#[nm,bs,mro,ns,qn,hd,sn,sub,ab,col,del]:=cd;dsimp only at JG GC au JE;subst JG GC
   have hsl:sl=(List.toArray [k0,k1,k2,k3,some (.builtin n),k5]):=by
    let#[l]:=sl;simp only at hs;rw[hs]
   subst hsl;exact#[bm,ns,nm,qn,bs,hd,sn,sub,ab,col,dd,k0,k1,k2,k3,k5,_,X _ _ ho,.of_isNs (PySem.W.isNs_of_in X au),PySem.W.nsMap_none_of_in X au JE,PySem.W.tail_of_in X ht]
  cases q
 cases q
def Ar(cls:Aa)(E:XK)(t:TA):TS:=λ_ σ H=>t σ H λvs H1=>vs.length<=sizeLine/\E cls none H1
theorem zP(hh:X.calm=true)(R:He X E)(hm:X.mg x\.ref C)(qx:PySem.W.excIn X.K C bm newId=true)(FB:ExcBaseFacts B newId uF bm)(hg:Gl X x)(ha:PA X [vd] t)
  (he:starEach [vd] X.env=(false,eval vd X.env)::starEach [] X.env:=by rfl) (fJ:(backTo bu (starEach [vd] X.env)).any (·.1)=false:=by rfl) (hd:(x == ("__debug__":Str))=false:=by decide) :
  PS X (.Raise (some (.Call (.Name x np) [vd] [] bu)) none pos) (Ar (.ref C) E t):=by
 intro pins s σ H D I h;let O:=ZY I.ok.mod.Bv hm qx;let#[tl,N,nm,q,bs,hdct,sn,sub,ab,col,dd,k0,k1,k2,k3,k5,mN,hC,hN,JE,T]:=O.obj
 apply wpAny_Raise_call_subT (C:=C) (nm:=nm) (q:=q) (N:=N) (bs:=bs) (bm:=tl) (hdct:=hdct) (sn:=sn) (sub:=sub) (ab:=ab) (col:=col) (dd:=dd) (k0:=k0) (k1:=k1) (k2:=k2) (k3:=k3) (k5:=k5)
  FB (mN:=mN) (T.hasType FB.hasBase) (I.ok.hd hh) fJ JE (C1 I hg O.bound #[Z,?_] hd)
 let B1:=ha bu pins s σ H _ I h;rw[he] at B1 ⊢;apply Calls.evalArgs_plain (iM B1 (λus fP ⟨vs,H1,I1,r,z,q⟩=>#[Z,by rw[<- r.length];exact z,I1.bk _ _ hC,hN.keeps I1.bk,T.keeps I1.bk,λh' e hm=>R pins σ H1 fP h' e _ _ I1 hm q]) λ_ _ y=>y)
end
section v
theorem a_.RL{x qual:Str}{st:Stmt}{f:Addr}{fd:Ae}{N ps:ae}{k:Nat}{sp:Sp}(F:a_ K x qual st f fd)(S:bq N ps (aL st))(len:∀vs H Q E,sp vs H Q E->vs.length=ps.length)
  (bR:∀(aD:Aa) (A:Ag) (outer:List Env) (s:Ab) (H:Hp) (vs:aj) (Q:VK) (E:XK),aK k (A.deeper (envOfC qual (aL st) s.heap.objs.size f aD))->sp vs H Q E->
   ∃t,ig (dP (fe P w) P w K mg base N qual (aL st) f aD A outer s H E) (eY st) t/\t { nx:=λ_ H'=>Q .non H',rt:=Q } (start N vs) H):!ag (fe P w) (k+1) f fd ps sp:=by
 let#[oc,od,kV,doc,pm,an,aD,ct,iI,rfl,lk,fL]:=F.ex;apply Jr lk fL S len λA outer s H vs Q E hr gn=>?_;let#[t,h,q]:=bR aD A outer s H vs Q E hr gn;exact#[t,h,q]
theorem a_.YF{x qual:Str}{st:Stmt}{f:Addr}{fd:Ae}{N ps:ae}{k:Nat}{sp:Sp}(F:a_ K x qual st f fd)(S:bq N ps (aL st)) (bR:∀(aD:Aa) (A:Ag) (outer:List Env) (s:Ab) (H:Hp) (vs:aj) (Q:VK) (E:XK),aK k (A.deeper (envOfC qual (aL st) s.heap.objs.size f aD))->sp vs H Q E->
   ∃t,ig (dP (fe P w) P w K mg base N qual (aL st) f aD A outer s H E) (eY st) t/\t { nx:=λ_ H'=>Q .non H',rt:=Q } (start N vs) H) (len:∀vs H Q E,sp vs H Q E->vs.length=ps.length:=by intro vs H Q E h;first|(cases h;subst_vars;rfl)|(let#[rfl,_]:=h;rfl)|(let#[_,rfl,_]:=h;rfl)|(let#[_,_,rfl,_]:=h;rfl)|(let#[_,_,_,rfl,_]:=h;rfl)|(let#[_,_,_,_,rfl,_]:=h;rfl)|(let#[_,_,_,_,_,_,_,_,_,rfl,_]:=h;rfl)):!ag (fe P w) (k+1) f fd ps sp:=F.RL S len bR
theorem ag.up{CX:i_}{k:Nat}{f:Addr}{fd:Ae}{ps:ae}{sp:Sp}(F:!ag bc k f fd ps sp):!ag CX k f fd ps sp:=
 #[F.len,λA outer s H args us vs Q E hr he hb hv hs=>codeAny_mono (F.run A outer s H args us vs Q E hr he hb hv hs) λr s' h=>by
  cases r with
  |error e=>exact h.elim
  |ok fl=>cases fl<;>exact h]
end
end L2
namespace L2
open PySem PySem.Spec PySem.Calls PyProof.Rows PySem.W Builtin Builtin.ObjectAttr Builtin.Getset_descriptor
structure lK (K:af) (C:Addr):Prop where
 cl:(clsIn K C).isSome=true
 ga:findIn K (.ref C) "__getattribute__"\some (.builtin "BaseException.__getattribute__")
 ha:findIn K (.ref C) "__getattr__"\none
 ca:findIn K (.ref C) "__class__"\some (.builtin "object.__class__")
 gt:specialIn K (.builtin "object.__class__") "__get__"\some (.builtin "getset_descriptor.__get__")
 tk:takesIn K (.builtin "object.__class__")\true
 mo:mroIn K C (.type "object")\true
 mb:mroIn K C (.type "BaseException")\true
section
variable{prog:Ad}{w:Af}{A:Ag}{E:Aa->Ab->Prop}{s:Ab}{K:af}{x C:Addr}
theorem dL_{R:Result->Ab->Prop}{tp:Aa}(X:K.In s.heap)(L0:Looks (model prog w) s.heap (typeOf (.ref x)) (.ref C))(hm:mroIn K C (.type "object")\true)
  (h:R (.ok (.ret (.ref C))) s):codeAny (model prog w) A (.call (.builtin "getset_descriptor.__get__") #[[.builtin "object.__class__",.ref x,tp],[]]) R s:=by
 let#[hh,g,dr,t,os]:=s;let L1:=looks_mroIn (M:=model prog w) X hm;apply codeAny_call_builtin KF.slot_gs.plain KF.entry_gs (KF.slot_gs.check _ _ _ _ _ _ _ _ KF.type_class (KF.args_gs _ _ _) ?_);unfold Builtin.«getset_descriptor.__get__» descrGet;rw[dga_obj];apply ao (aP ?_);unfold descrGetter descrCheckInstance descrNameAndClass isInstance;simp only[KF.owner_class]
 repeat lk
 apply#[Code.quiet_builtin _ Z0,codeAny_builtin KF.entry_class ?_];unfold Builtin.«object.__class__» shownTypeOf
 repeat lk
 exact h
theorem jz_{M:Model}{h:Heap}(k:lK K C)(X:K.In h):Looks M h (find (.ref x) (.ref C) "__class__") (.bind (.builtin "getset_descriptor.__get__") (.builtin "object.__class__")):=by
 apply (looks_findIn X k.ca).andThen ((show Looks M h (getOf (some (.builtin "object.__class__"))) _ from looks_specialIn X k.gt).andThen ?_);exact (show Looks M h (dataDescriptor? (some _) (some _)) (some (_,_)) from (looks_takesIn X k.tk).andThen .now).andThen (Looks.tag .now)
theorem hC_{tk:Tok}{Q:Fin->Ab->Prop}(k:lK K C)(X:K.In s.heap)(L0:Looks (model prog w) s.heap (typeOf (.ref x)) (.ref C))(hq:Q (.done (.ret (.ref C))) s) :
  wpAny (model prog w) A (Builtin.«object.__getattribute__» #[[.ref x,.str "__class__" tk],[]]) Q E s:=by
 let#[hh,g,dr,t,os]:=s;let L1:=jz_ (M:=model prog w) (x:=x) k X;unfold Builtin.«object.__getattribute__»;apply ao (aP ?_);apply ao (aP ?_);apply ao (L0.at ?_);apply ao (L1.at ?_);show wpAny _ _ (holding [_] (call _ [_,.ref x,.ref C]) >>= ret) _ _ _;exact ao (jK (wpAny_call (dL_ X L0 k.mo (aP hq))))
theorem da_{Q:Option Aa->Ab->Prop}(k:lK K C)(X:K.In s.heap)(L0:∀M,Looks M s.heap (typeOf (.ref x)) (.ref C))(h:Q (some (.ref C)) { s with toks:=s.toks+1 }) :
  wpAny (model prog w) A (getAttr? (.ref x) "__class__") Q E s:=by
 let#[hh,g,d,t,os]:=s;let Rc:=L0 (model prog w);let L1:=looks_findIn (M:=model prog w) X k.ga;let L2:=looks_findIn (M:=model prog w) X k.ha;have LB:Looks (model prog w) hh (isInstance (.ref x) (.type "BaseException")) true:=Rc.andThen (looks_mroIn X k.mb);have hk:builtinKind "BaseException.__getattribute__"\.slot:=by decide +kernel
 have BC:splitId "BaseException.__getattribute__"\("BaseException","__getattribute__"):=by decide +kernel
 unfold getAttr? getAttrBy? getAttrBy;apply ao (wpAny_mkText (ao (wpAny_attempt (jK (ao (Rc.at (ao (L1.at ?_))))))));show wpAny _ _ (getAttrByItsOwn _ _ _ _ _ _) _ _ _;unfold getAttrByItsOwn hookBefore;apply ao (L2.at ?_);apply ao (wpAny_attempt (jK ?_));show wpAny _ _ (boundAndCalled _ _ _) _ _ _;unfold boundAndCalled;apply ao (wpAny_of_eq (PySem.F.attr_ValueError.ga.bind (.ref x)) ?_);apply wpAny_call (codeAny_call_builtin PySem.F.attr_ValueError.ga.plain PySem.F.entry_bexc_ga ?_);simp only[checkBuiltinCall,hk,BC];apply ao (LB.at ?_);let ha:=PySem.F.args_bexc_ga (.ref x) (.str "__class__" t)
 have key:∀{A':Ag} {E':Aa->Ab->Prop} {R:Unit->Ab->Prop},R () #[hh,g,d,t+1,os]->wpAny (model prog w) A' (match Manifest.signature? "BaseException.__getattribute__" with
   |some sig=>Bind.checkArgs "BaseException.__getattribute__" sig { pos:=[Value.ref x]++[Value.str (Str.ofString "__class__") t] }
   |x=>pure ()) R E' #[hh,g,d,t+1,os]:=by
  intro A' E' R hR
  have B1:(match Manifest.signature? "BaseException.__getattribute__" with
   |some sig=>Bind.checkArgs "BaseException.__getattribute__" sig { pos:=[Value.ref x]++[Value.str (Str.ofString "__class__") t] }
   |x=>pure ())=pure ():=ha
  rw[B1];exact aP hR
 rw[aC (by decide)];apply key ?_;apply hC_ (C:=C) k X Rc ?_;exact aP (aP h)
theorem jm_{a:Addr}(k:lK K C):KitX K (.ref a) (.ref C) (λh=>∃o,h.get? a\o/\o.cls=.ref C) where
 ty:=λM h _ ⟨o,h1,h2⟩=>h2▸(Looks.ld h1).andThen .now
 it:=λ_ _ X _=>by
  let#[cdD,xK]:=vH.mp k.cl;unfold clsIn at xK;split at xK
  ·rename_i c' d' cd' L6 ho
   intro A' Q' E' s' kk q;unfold isType loadHead;exact ao (wpAny_loadPart (kk _ _ (X _ _ ho)) (aP q))
  cases xK
 ne:=λh tp dd its n sl X htp=>by
  let#[cdD,xK]:=vH.mp k.cl;apply Bool.eq_false_iff.mpr λq=>?_;have e:C=tp:=Value.ref.inj (beq_iff_eq.mp q);subst e;unfold clsIn at xK;split at xK
  ·rename_i c' d' cd' L6 ho
   let z:=(X _ _ ho).symm.trans htp;cases z
  cases xK
 ca:=λX ⟨o,h1,h2⟩ q=>da_ k X (λM=>h2▸(Looks.ld h1).andThen .now) q
end
section
variable{X:Cx}
def Hl:V->Option Aa
 |.ref C=>some (.ref C)
 |.ty T=>some (.type T)
 |_=>none
theorem jy_{c:V}{u v:Aa}(r:RelV c u)(h:Hl c\v):u=v:=by
 cases c with
 |ref C=>cases h;exact r
 |ty T=>cases h;exact r
 |_=>cases h
inductive yV (K:af) (xs:aj) (H:Hp) (Q:VK):Prop
 |mk:∀x C t b,xs=[x,.ref C]->bp K H x t->PySem.W.kitOne K t (.ref C)\b->Q (.bl b) H->yV K xs H Q
theorem i5_:fW X (.builtin "isinstance") (yV X.K):=by
 intro pins s σ H xs us Q I r h;let#[x,C,t,b,rfl,ty,e,q]:=h;let#[u,w',rfl,ru,gI]:=vals2 r;cases (show w'=Value.ref C from gI);exact US I ru ty e λtk=>#[.bl b,H,I.tok tk,Z,q]
end
end L2
namespace L2
open PySem PySem.Spec PyProof.Rows
abbrev Cx.rq(X:Cx)(a:Addr):Cx:={ X with A:=X.A.mark (some (.ref a)),calm:=false }
section
variable{X:Cx}{pins:List (Addr × Obj)}{σ:St}{H:Hp}{s:Ab}{a:Addr}
theorem Cx.Ok.rq(ok:X.Ok)(a:Addr):(X.rq a).Ok:=
 #[ok.mod,ok.kind,ok.glob,ok.blt,ok.above,ok.inj,ok.has,ok.wa,λz=>absurd z Z2,ok.frames,ok.Dq,ok.DY,ok.bs,ok.lY,ok.nv,ok.nM,ok.dY,ok.qJ]
theorem Inv.rq(I:Inv X pins σ H s)(a:Addr):Inv (X.rq a) pins σ H s:=#[I.ok.rq a,I.os,I.bare,I.base,I.loc,I.cell,I.free,I.bX,I.pin,I.au,I.len]
theorem Inv.xl(ok:X.Ok)(I:Inv (X.rq a) pins σ H s):Inv X pins σ H s:=#[ok,I.os,I.bare,I.base,I.loc,I.cell,I.free,I.bX,I.pin,I.au,I.len]
theorem KA{M:Model}{A:Ag}{E:Aa->Ab->Prop}{i:Nat}{n:Str}{pos:Pos}{Q:Unit->Ab->Prop}(I:Inv X pins σ H s)(hN:X.N.Nodup)(hi:X.N[i]? = some n)(hl:X.env.scope.names.lookup n\.local)
  (h:∀s',Inv X pins (σ.set i none) H s'->Q () s'):wpAny M A (do bindName X.env n .none;unbindBehindTheSuite X.env n pos) Q E s:=by
 let#[m,hn,JH]:=id I.loc;have BY:(X.env.scope.kind == .class || (X.env.scope.kind == .module&&X.env.locals != X.env.globals))=false:=by rw[I.ok.kind];rfl
 have xI:i<σ.length:=by rw[I.len];exact (dj.mp hi).1
 let nX:=I.nX;apply wpAny_nameGoes_keeps hl hn BY λh' v BL hs=>?_;let#[oL,_,_,Gh,_]:=id hn;apply h _ #[I.ok,I.os,I.bare,#[λb o e n hb hx=>?_,λb o e n hb hx=>?_,I.base.free,λb o e hx=>?_,I.base.fC,I.base.eD,I.base.fi],#[_,BL,λj y v' e1 e2 e3=>?_],λy c e=>?_,I.free,I.bX,λp hp=>?_,λb ob e=>?_,by simpa using I.len]
 ·exact (hs.2 b (dB (gZ (bN e) I.ok.above))).trans (I.base.keep b o e n hb hx)
 ·let#[sl,e1]:=I.base.slot b o e n hb hx;exact#[sl,(hs.2 b (dB (gZ (bN e) I.ok.above))).trans e1]
 ·let#[o',e1]:=I.base.there b o e hx;exact#[o',(hs.2 b (dB (gZ (bN e) I.ok.above))).trans e1]
 ·by_cases hj:j=i
  ·subst hj;rw[List.getElem?_set_self xI] at e2;cases e2
  rw[List.getElem?_set_ne (Ne.symm hj)] at e2;let#[u',r',q]:=JH j y v' e1 e2 e3;apply#[u',r',?_];rcases q with⟨k,e⟩|⟨k,c,e,z⟩
  ·apply .inl #[k,?_];have:y≠n:=λe=>hj (Pd hN e1 (e▸hi));simp[this,e]
  exact .inr #[k,c,e,z.sameBut hs (nX y c e)]
 ·let#[w',z]:=I.cell y c e;exact#[w',z.sameBut hs (nX y c e)]
 ·let#[e,n,ne,nf,d]:=I.pin p hp;exact#[(hs.2 p.1 ne).trans e,n,ne,nf,d]
 apply (I.au b ob e).cQ (λc w' hc q=>(hs.2 c ?_).trans q) (λ_ q=>q) λ_ _ q=>q;rintro rfl;rcases hc with z|hc
 ·rw[<- z,I.free] at e;cases e
 rw[I.free] at hc;cases hc
end
section
variable{X:Cx}{st:Stmt}{e c:Expr}{te:XS->TE}{t u:XS->TS}{pos:Pos}{a b:List Stmt}{tc:TT}
end
section
variable{X:Cx}{k:Nat}{f C:Addr}{fd:Ae}{ps:ae}{sp:Sp}{gx:aj}{ds:ak}{ES:XS}{x m:Str}{p pos apos:Pos}{e o:Expr}{es:List Expr}{ta:TE}{t:TA}
end
section
variable{X:Cx}{i:Nat}{x n:Str}{D C:Addr}{np uM pos:Pos}{og:Stmt}{ik body:List Stmt}{tb:XS->TS}{ts:TS}
def Ends.gone(D:Ends)(i:Nat):Ends:={ nx:=λσ H=>D.nx (σ.set i none) H,rt:=D.rt,bk:=λσ H=>D.bk (σ.set i none) H,ct:=λσ H=>D.ct (σ.set i none) H }
end
end L2
namespace L2
open PySem PySem.Spec PyProof.Rows
def Lo(P:Ad)(w:Af)(L:Addr):i_:=λl H s E e s'=>
 ∃a cls H' B,e=Value.ref a/\s'.os=s.os/\AllBare s'.gens/\Un (dF l) [] H H' s.heap s'.heap/\cO P w H' s'.heap/\wI B l a cls (rawInt L) s'.heap/\vN B l H' s.heap s'.heap/\E cls none H'
inductive XQ (X:Cx) (E:XK) (e:Aa) (s':Ab):Prop
 |mk:∀pins σ H s,Inv X pins σ H s->(fe X.prog X.w X.stack H s E e s'∨Lo X.prog X.w X.env.locals X.stack H s E e s'∨∃h' a cls vs,e=Value.ref a/\s'={ s with heap:=h' }/\Heap.MadeExcOf s.heap h' a cls vs/\E cls none H)->XQ X E e s'
section
variable{M:Model}{A:Ag}{E:Aa->Ab->Prop}{s:Ab}
theorem ht_{B:Heap}{env:Env}{l:List Env}{e L:Addr}{cls cx:Aa}(hf:env.frame\L)(hh:mj B l e cls cx (rawInt L) s.heap)
  (hQ:∀h',mj B l e cls cx (rawInt L) h'->s.heap.UpToSlots h'->E (.ref e) { s with heap:=h' }):cameBackBy M A env E (.ref e) s:=by
 unfold cameBackBy;let hh2:=hh;let#[f1,f2,f3,oe,vs,T,oT,ts,he,hc,hd,h1,h2,qI,je,hT,jd,h3]:=hh;apply ao (wpAny_field he hd h1 ?_);rw[aC Z2,hf];exact wU (fr:=some L) hh2 λh' q up=>hQ h' q up
end
section
variable{X:Cx}{E:XK}
theorem N6{pins:List (Addr × Obj)}{σ:St}{H H':Hp}{s s':Ab}{B h1:Heap}{a L:Addr}{cls:Aa}(I:Inv X pins σ H s)(os:s'.os=s.os)(bare:AllBare s'.gens)(un:Un (dF X.stack) [] H H' s.heap s'.heap)(au:cO X.prog X.w H' s'.heap)
  (ff:s'.heap.FunFrames B X.stack) (i:vN B X.stack H' s.heap s'.heap) (hE:E cls none H') (hd:wI B X.stack a cls (rawInt L) h1) (up:s'.heap.UpToSlots h1):Lo X.prog X.w L X.stack H s E (.ref a) { s' with heap:=h1 }:=
 #[a,cls,H',B,Z,os,bare,Hu un ff i hd.1 up,Iw au (KQ I un) i hd.1,hd,Ie au un i hd.1,hE]
theorem Fv(ja:X.stack=X.env::X.outer)(jb:X.env.frame\X.env.locals):PassesOwn (model X.prog X.w) X.A X.env (XQ X E):=by
 intro e s' h;let#[pins,σ,H,s,I,c]:=h
 have back:∀s2,Lo X.prog X.w X.env.locals X.stack H s E e s2->cameBackBy (model X.prog X.w) X.A X.env (XQ X E) e s2:=λs2 hc=>by
  let#[a,cls,H',B,rfl,os,bare,un,au,hd,i,hE]:=hc;exact ht_ jb hd λh' q up=>#[pins,σ,H,s,I,.inr (.inl (N6 I os bare un au hd.2.2.1 i hE q up))]
 unfold notedBy
 have fin:wpAny (model X.prog X.w) X.A (noteFrame e X.env) (λ_ s2=>Lo X.prog X.w X.env.locals X.stack H s E e s2) (cameBackBy (model X.prog X.w) X.A X.env (XQ X E)) s':=by
  rcases c with c|c|⟨h',a,cls,vs,rfl,rfl,hx,hE⟩
  ·let#[a,cls,H',B,a0,rfl,os,bare,un,au,fl,i,hE]:=c;apply yZ (base:=B) (outer:=X.outer) (by rw[I.ok.frames,ja]) jb (by rw[<- ja];exact fl.2) λh4 hd up=>?_;rw[<- ja] at hd;exact N6 I os bare un au fl.1.2.2.1 i hE hd up
  ·let#[a,cls,H',B,rfl,os,bare,un,au,hd,i,hE]:=c;exact V6 jb hd #[a,cls,H',B,Z,os,bare,un,au,hd,i,hE]
  let ff:=PySem.W.funFrames_hide (as:=dF X.stack) I.stack (λenv he b hb=>rY.mpr #[env,he,hb]);have hk:(PySem.W.hideAll s.heap (dF X.stack)).StaysIn s.heap:=λb o q=>PySem.W.of_hideAll _ q;have ff1:Heap.FunFrames h' (PySem.W.hideAll s.heap (dF X.stack)) X.stack:=ff.of_keeps λb o hb _=>#[o,hx.keeps b o hb,Z];apply Vp (s:={ s with heap:=h' }) (base:=PySem.W.hideAll s.heap (dF X.stack)) (outer:=X.outer) (h:=s.heap) (by rw[I.ok.frames,ja]) jb hk (by rw[<- ja];exact ff) hx λh4 nt k4=>?_;rw[<- ja] at nt;have un:Un (dF X.stack) [] H H s.heap h':=Un.kept hx.keeps;have au:cO X.prog X.w H h':=I.au.kept hx.keeps
  have i:vN (PySem.W.hideAll s.heap (dF X.stack)) X.stack H s.heap h':=λb o q hb c=>by
   rcases c with c|⟨o0,z⟩
   ·let#[u,hu]:=vH.mp c;let#[o1,z]:=(I.au b u hu).here;have:=hx.keeps b o1 z;rw[q] at this;cases this;exact PySem.W.hideAll_get _ z hb
   have:=hx.keeps b o0 z;rw[q] at this;cases this;exact PySem.W.hideAll_get _ z hb
  exact N6 (s':={ s with heap:=h' }) I Z I.bare un au ff1 i hE nt k4
 exact iM fin (λ_ s2 q=>back s2 q) λ_ _ z=>z
end
section v
abbrev kK(P:Ad)(w:Af)(K:af)(mg:Str->Option Aa)(base:Heap)(N:ae)(qual:Str)(scope:Scope)(f:Addr)(cd:Aa)(A:Ag)(outer:List Env)(s:Ab)(H:Hp)(E:XK):Cx:=
 (dP (fe P w) P w K mg base N qual scope f cd A outer s H E).gc (XQ (dP (fe P w) P w K mg base N qual scope f cd A outer s H E) E)
section
variable{N:ae}{qual:Str}{scope:Scope}{f:Addr}{cd:Aa}{A:Ag}{outer:List Env}{s:Ab}{H:Hp}{E:XK}
theorem Mj:PassesOwn (model P w) (kK P w K mg base N qual scope f cd A outer s H E).A (kK P w K mg base N qual scope f cd A outer s H E).env (kK P w K mg base N qual scope f cd A outer s H E).xe:=Fv (X:=dP (fe P w) P w K mg base N qual scope f cd A outer s H E) Z Z
theorem xi:jG (fe P w) (kK P w K mg base N qual scope f cd A outer s H E) E:=λpins σ H1 s1 e s' I hc=>#[pins,σ,H1,s1,I.ck,.inl hc]
theorem xf:He (kK P w K mg base N qual scope f cd A outer s H E) E:=λpins σ H1 s1 h' e cls vs I hx hE=>#[pins,σ,H1,s1,I.ck,.inr (.inr #[h',e,cls,vs,Z,Z,hx,hE])]
theorem Br{e:Aa}{s':Ab}(h:XQ (dP (fe P w) P w K mg base N qual scope f cd A outer s H E) E e s'):(dP (fe P w) P w K mg base N qual scope f cd A outer s H E).xe e s':=by
 let#[pins,σ,H1,s1,I,c]:=h;rcases c with c|c|⟨h',a,cls,vs,rfl,rfl,hx,hE⟩
 ·exact xk pins σ H1 s1 e s' I c
 ·let#[a,cls,H',B,rfl,os,bare,un,au,hd,i,hE]:=c;show wpAny _ _ (leaving _ _) _ _ _;unfold leaving;apply ao (V6 Z hd (wU (fr:=none) hd λh1 fl up=>?_));let#[a1,fb]:=wI.b (mj.less fl);exact PL (s1:={ s' with heap:=h1 }) I Z os bare un au i hd.2.2.1 up fb hE
 exact xg pins σ H1 s1 h' a cls vs I hx hE
end
theorem a_.YG{x qual:Str}{st:Stmt}{f:Addr}{fd:Ae}{N ps:ae}{k:Nat}{sp:Sp}(F:a_ K x qual st f fd)(S:bq N ps (aL st))(len:∀vs H Q E,sp vs H Q E->vs.length=ps.length)
  (bR:∀(aD:Aa) (A:Ag) (outer:List Env) (s:Ab) (H:Hp) (vs:aj) (Q:VK) (E:XK),aK k (A.deeper (envOfC qual (aL st) s.heap.objs.size f aD))->sp vs H Q E->
   PassesOwn (model P w) (kK P w K mg base N qual (aL st) f aD A outer s H E).A (kK P w K mg base N qual (aL st) f aD A outer s H E).env (kK P w K mg base N qual (aL st) f aD A outer s H E).xe->
   jG (fe P w) (kK P w K mg base N qual (aL st) f aD A outer s H E) E->He (kK P w K mg base N qual (aL st) f aD A outer s H E) E->
   ∃t,ig (kK P w K mg base N qual (aL st) f aD A outer s H E) (eY st) t/\t { nx:=λ_ H'=>Q .non H',rt:=Q } (start N vs) H):!ag (fe P w) (k+1) f fd ps sp:=
 F.RL S len λaD A outer s H vs Q E hr gn=>by
  let#[t,h,q]:=bR aD A outer s H vs Q E hr gn Mj xi xf;exact#[t,λpins s1 σ H1 D I hw=>iM (h pins s1 σ H1 D (I.gc _) hw) (λ_ _ q=>q.ck) λ_ _ z=>Br z,q]
theorem a_.km{x qual:Str}{st:Stmt}{f:Addr}{fd:Ae}{N ps:ae}{k:Nat}{sp:Sp}(F:a_ K x qual st f fd)(S:bq N ps (aL st)) (bR:∀(aD:Aa) (A:Ag) (outer:List Env) (s:Ab) (H:Hp) (vs:aj) (Q:VK) (E:XK),aK k (A.deeper (envOfC qual (aL st) s.heap.objs.size f aD))->sp vs H Q E->
   PassesOwn (model P w) (kK P w K mg base N qual (aL st) f aD A outer s H E).A (kK P w K mg base N qual (aL st) f aD A outer s H E).env (kK P w K mg base N qual (aL st) f aD A outer s H E).xe->
   jG (fe P w) (kK P w K mg base N qual (aL st) f aD A outer s H E) E->He (kK P w K mg base N qual (aL st) f aD A outer s H E) E->
   ∃t,ig (kK P w K mg base N qual (aL st) f aD A outer s H E) (eY st) t/\t { nx:=λ_ H'=>Q .non H',rt:=Q } (start N vs) H) (len:∀vs H Q E,sp vs H Q E->vs.length=ps.length:=by intro vs H Q E h;first|(cases h;subst_vars;rfl)|(let#[rfl,_]:=h;rfl)|(let#[_,rfl,_]:=h;rfl)|(let#[_,_,rfl,_]:=h;rfl)|(let#[_,_,_,rfl,_]:=h;rfl)|(let#[_,_,_,_,rfl,_]:=h;rfl)|(let#[_,_,_,_,_,_,_,_,_,rfl,_]:=h;rfl)):!ag (fe P w) (k+1) f fd ps sp:=F.YG S len bR
end
end L2
abbrev Cp:PySem.Str:="ways_by_name"
abbrev xX:PySem.Str:="_law_script"
abbrev Cf:PySem.Str:="pieces_by_hand"
abbrev ya:PySem.Str:="checked_stand"
abbrev Ce:PySem.Str:="rising_neighbours"
abbrev Ca:PySem.Str:="neighbours_by_hand"
abbrev we:PySem.Str:="checked_words"
abbrev rN:PySem.Str:="_law_state_here"
abbrev wc:PySem.Str:="strength_by_hand"
abbrev rM:PySem.Str:="heaviest_first"
abbrev rH:PySem.Str:="weight_by_name"
abbrev pZ:PySem.Str:="level_by_hand"
abbrev jj:PySem.Str:="load_by_hand"
abbrev lZ:List PySem.Str:=["self","one","other"]
abbrev jX:List PySem.Str:=["self","thing"]
abbrev l7:List PySem.Str:=["goods","placed"]
abbrev zI:List PySem.Str:=["goods","stand","rule","moments"]
abbrev fu:List PySem.Str:=["thing"]
abbrev jZ:List PySem.Str:=["self","hand"]
abbrev wj:List PySem.Str:=["sight","hand","words"]
abbrev xY:List PySem.Str:=["sight","rule","moment"]
abbrev lE:List PySem.Str:=["sight","one","other","guard","given"]
abbrev zH:List PySem.Str:=["name","weight","ways"]
abbrev gW:List PySem.Str:=["self"]
abbrev rE:List PySem.Str:=["one","other"]
abbrev DV:List PySem.Str:=["_law_name",rN]
abbrev lC:List PySem.Str:=["goods","placed","rule","moment"]
abbrev lB:List PySem.Str:=[rN,"_law_base"]
abbrev DW:List PySem.Str:=["sight","hand","guard"]
abbrev DX:List PySem.Str:=["goods","stand","rule"]
abbrev zG:List PySem.Str:=["self","piece"]
abbrev qh:List PySem.Str:=["goods","stand","rule","most"]
abbrev lA:List PySem.Str:=["self","goods","placed"]
abbrev qg:List PySem.Str:=["self","piece","one","other"]
abbrev lj:List PySem.Str:=["thing","least","most"]
abbrev Cm:List PySem.Str:=["thing","least"]
abbrev D5:List PySem.Str:=["goods","stand"]
abbrev qf:List PySem.Str:=["guard","lead","burden"]
abbrev qe:List PySem.Str:=[xX,"_law_k"]
abbrev qd:List PySem.Str:=["_law_bad","_law_last"]
namespace Ev
open PySem L2
def top(i:Nat):Stmt:=PySem.Challenge.pw_evenpieces_k48_what_runs_refuse.main.body.getD i (.Pass #[0,0,0,0])
abbrev xa:Stmt:=top 13
abbrev mG:Stmt:=top 15
abbrev tO:Stmt:=top 16
abbrev O0:Stmt:=top 17
abbrev tM:Stmt:=top 18
abbrev OY:Stmt:=top 19
abbrev t_:Stmt:=top 20
abbrev tU:Stmt:=top 56
abbrev A2:Stmt:=top 57
abbrev tI:Stmt:=top 58
abbrev tN:Stmt:=top 59
abbrev ju:Stmt:=top 61
def Bm(a b:Str):Bool:=decide (a.cps.toList<b.cps.toList)
def aX(a b:Str):Str × Str:=if Bm a b=true then (a,b) else (b,a)
section v
theorem bE{N p:List Str}{c:Scope}(h:bq N p c:=by exact#[Z,Z,Z,by decide +kernel,Z,by decide +kernel,by decide +kernel]):bq N p c:=h
theorem tm:bq rE rE (aL O0):=bE
def K7:Sp:=λvs H Q _=>∃a b,vs=[.str a,.str b]/\∀t,H t=none->Q (.ref t) (upd H t (.tup [.str (aX a b).1,.str (aX a b).2]))
theorem il_{f:Addr}{fd:Ae}(F:a_ K "lesser_first" "lesser_first" O0 f fd):!ag bc 1 f fd rE K7:=by
 exists F.bH tm;let#[a,b,rfl,k]:=h;apply#[_,aI (bg (j7_ (di hA_ (pv 0) (pv 1)) (g0 %[0,1|0]) (g0 %[1,0|0]))),?_];apply#[_,Z,_,Z,a,b,Z,Z,_,Z,?_];apply aO (λc=>?_) (λc=>?_)
 ·apply#[_,Z,_,Z,zl,λt ht=>?_];have:=k t ht;rwa [show aX a b=(a,b) from aJ c] at this
 apply#[_,Z,_,Z,zl,λt ht=>?_];have:=k t ht;rwa [show aX a b=(b,a) from aC c] at this
theorem wV:bq lj lj (aL mG):=bE
def OB:Sp:=λvs H Q _=>∃i a b:Int,vs=[.int i,.int a,.int b]/\Q (.bl (decide (a<=i)&&decide (i<=b))) H
structure Bi (mg:Str->Option Aa):Prop where
 gm:mg "isinstance"=none
 int:mg "int"=none
 bool:mg "bool"=none
 str:mg "str"=none
 tuple:mg "tuple"=none
 list:mg "list"=none
 dict:mg "dict"=none
 len:mg "len"=none
 all:mg "all"=none
 sorted:mg "sorted"=none
 max:mg "max"=none
 range:mg "range"=none
 any:mg "any"=none
 enum:mg "enumerate"=none
 min:mg "min"=none
 abs:mg "abs"=none
structure bx (P:Ad) (w:Af) (K:af) (mg:Str->Option Aa) (base:Heap) (k:Nat) (x:Str) (ps:ae) (sp:Sp):Prop where
 ex:∃f fd,ag P w K mg base bc k f fd ps sp/\mg x\.ref f/\PySem.W.keepIn K (.ref f)=true/\l8 K fd ps []
theorem bt{n_:Nat}{X:Cx}{k:Nat}{x:Str}{ps:ae}{sp:Sp}{p pos:Pos}{e:Expr}{es:List Expr}{t:TA}(c:bx X.prog X.w X.K X.mg X.base k x ps sp)(hr:aK n_ X.A)(ha:PA X (e::es) t)(hg:Gl X x:=by rfl)(gT:(x == ("__debug__":Str))=false:=by decide)
  (he:starEach (e::es) X.env=(false,eval e X.env)::starEach es X.env:=by rfl) (fJ:(backTo pos (starEach es X.env)).any (·.1)=false:=by rfl) (hk:k<=n_:=by decide):PE X (.Call (.Name x p) (e::es) [] pos) (Cc sp [] E0 t):=by
 let#[f,fd,F,m,kp,b]:=c.ex;exact OS F (hr.mono hk) hg m kp b .nil kl ha gT he fJ
theorem yM:bq fu fu (aL xa):=bE
def sS:Sp:=λvs H Q _=>∃i:Int,vs=[.int i]/\Q (.bl true) H
theorem ZS{f:Addr}{fd:Ae}(F:a_ K "is_whole" "is_whole" xa f fd)(B:Bi mg):!ag bc 1 f fd fu sS:=by
 exists F.bH yM;let#[i,rfl,k]:=h;apply#[_,aI (bg (oj (cb jn (by rfl) B.gm gA %[0,iQ (v:=.ty "int") (by rfl) B.int GY Z|0]) (oi (Sf (cb jn (by rfl) B.gm gA %[0,iQ (v:=.ty "bool") (by rfl) B.bool PyProof.Rows.Boot.«bool» rfl|0]))))),?_];exact#[_,Z,_,_,_,_,Z,.int i,Z,_,Z,bK #[_,Z,_,_,_,_,Z,.int i,Z,_,Z,k]]
theorem jl_{f:Addr}{fd:Ae}(F:a_ K "is_whole_within" "is_whole_within" mG f fd)(cI:!bx 1 "is_whole" fu sS):!ag bc 2 f fd lj OB:=by
 exists F.bH wV;let#[i,a,b,rfl,k]:=h;apply#[_,aI (bg (oj (bt cI hr %[0|0]) (oi (Uh xZ xZ (pv 1) (pv 0) (pv 2))))),?_];apply#[_,Z,i,Z,_,Z,bK ?_];apply#[_,Z,_,Z,_,_,Z,Z,_,Z,?_];apply aO (λc=>?_) (λc=>?_)
 ·apply#[_,Z,_,_,Z,Z,?_];rw[c] at k;exact k
 rw[show decide (a<=i)=false by simpa using c] at k;exact k
def vT(c:Nat):Bool:=decide (97<=c)&&decide (c<=122)
def i6(x:Str):Bool:=decide (1<=x.length)&&decide (x.length<=8)&&x.cps.toList.all vT
theorem AM:bq fu fu (aL tO):=bE
def Kf:Sp:=λvs H Q _=>∃x:Str,vs=[.str x]/\x.length<=100000/\∀H',aa H H'->Q (.bl (i6 x)) H'
theorem _Z{c:Nat}:(!decide ((⟨(List.toArray [c])⟩:Str).cps.toList<("a":Str).cps.toList))=decide (97<=c):=by
 have e:("a":Str).cps.toList=[97]:=by decide +kernel
 rw[e];show (!decide ([c] < [97]))=decide (97<=c);by_cases h:97<=c
 ·have:¬[c] < [97]:=by simp[List.cons_lt_cons_iff];omega
  simp[this,h]
 have:[c] < [97]:=by simp[List.cons_lt_cons_iff];omega
 simp[this,h]
theorem kc_{c:Nat}:(!decide (("z":Str).cps.toList<(⟨(List.toArray [c])⟩:Str).cps.toList))=decide (c<=122):=by
 have e:("z":Str).cps.toList=[122]:=by decide +kernel
 rw[e];show (!decide ([122] < [c]))=decide (c<=122);by_cases h:c<=122
 ·have:¬[122] < [c]:=by simp[List.cons_lt_cons_iff];omega
  simp[this,h]
 have:[122] < [c]:=by simp[List.cons_lt_cons_iff];omega
 simp[this,h]
theorem kU_{f:Addr}{fd:Ae}(F:a_ K "is_name" "is_name" tO f fd)(B:Bi mg){t8:Tok}(m8:mg "MOST_LETTERS"\.int 8 t8):!ag bc 1 f fd fu Kf:=by
 exists F.bH AM;let#[x,rfl,hz,k]:=h;let sz:=cm
 apply#[_,ay (bA (zE (eJ (eB (cb jn (by rfl) B.gm gA %[0,iQ (v:=.ty "str") (by rfl) B.str Ed Z|0])))
   (CJ (eJ (UA xZ xZ aM (cb ei_ (by rfl) B.len kX %[0|0]) (rR (v:=.int 8) (by rfl) m8 #[t8,Z]))))).pt (aI (bg jU)) bB)
  (aI (bg (cb (iA_ Z) (by rfl) B.all PyProof.Rows.Boot.«all» (hZ
   (p9 ["letter"] 1 [] (_h (pv 0)) (λfp s H=>gM (i:=0) (show (["letter"]:ae).Nodup by decide +kernel) Z (Or.inl Z)) (λfp s H=>k7) (λfp s H=>Uh Ve Ve bM (pv 0) bM)) bo)))),?_]
 apply#[_,Z,_,_,_,_,Z,.str x,Z,_,Z,?_];apply aR ?_;apply#[_,Z,x,Z,by omega,_,_,Z,Z,_,Z,?_]
 have fin:(decide (1<=x.length)&&decide (x.length<=8))=false->∀H',aa H H'->Q (.bl false) H':=λe H' sm=>by
  have:=k H' sm;rwa [show i6 x=false by unfold i6;rw[e];rfl] at this
 apply aO (λc=>?_) (λc=>?_)
 ·have c1:1<=x.length:=by
   have:(1:Int)<=(x.length:Int):=⇑c
   omega
  apply#[_,_,Z,Z,_,Z,?_];apply aO (λc2=>?_) (λc2=>?_)
  ·-- too long
   have c3:¬x.length<=8:=by
    have:¬((x.length:Int)<=8):=⇑c2
    omega
   exact fin (by rw[dc c3,Bool.and_false]) H (aa.refl H)
  have c3:x.length<=8:=by
   have:(x.length:Int)<=8:=⇑c2
   omega
  apply#[_,Z,x,Z,λD hD=>?_];apply Ky (own:=1) (fv:=[]) Z fU x.cps.size (λi out H'=>H'=upd H D (.lst out)/\out=((x.cps.toList.take i).map vT).map V.bl) #[Z,by simp] (λout H' ⟨e1,e2⟩=>?_) (λi out H' hi ⟨e1,e2⟩=>?_)
  ·apply#[bj _,D,x.cps.toList.map vT,Z,.of ?_,?_]
   ·rw[e1,az,e2,Ey Z2]
   have:=k H' (by rw[e1];exact aa.new hD);rwa [show i6 x=(x.cps.toList.map vT).all id by unfold i6;rw[cc c1,cc c3,List.all_map];rfl] at this
  apply#[hi,λv H2 y=>?_];let#[eH,c,hc,rfl]:=y;subst eH;apply#[_,Z,Z,λNx hN=>fg ?_]
  have lo:out.length<sizeLine:=by
   rw[e2];have hs:x.length=x.cps.size:=rfl;simp only[aB,fA,vG];omega
  have nx:Nx (upd H2 D (.lst (out++[V.bl (vT c)]))):=hN (out++[V.bl (vT c)]) _ #[by rw[e1,_G],by
   rw[e2,k_];simp[hc]]
  have Wp:H2 D\.lst out:=by rw[e1,az]
  apply#[_,Z,_,_,Z,Z,_,Z,?_];rw[_Z];apply aO (λc2=>?_) (λc2=>?_)
  ·apply#[_,_,Z,Z,out,Wp,lo,?_];rw[kc_];rwa [show vT c=decide (c<=122) by unfold vT;rw[c2];rfl] at nx
  apply#[out,Wp,lo,?_];rwa [show vT c=false by unfold vT;rw[show decide (97<=c)=false by simpa using c2];rfl] at nx
 have c1:¬1<=x.length:=by
  have:¬((1:Int)<=(x.length:Int)):=⇑c
  omega
 exact#[_,Z,bK (fin (by rw[dc c1];rfl) H (aa.refl H))]
end
end Ev
namespace Ev
open PySem L2
def kT(t:Str × Str):ax:=[.inr t.1,.inr t.2]
def pV(t:Str × Str):Prop:=i6 t.1=true/\i6 t.2=true/\t.1≠t.2
theorem K0{x:Str}(h:i6 x=true):x.length<=8:=by
 unfold i6 at h;simp only[wD,decide_eq_true_eq] at h;exact h.1.2
theorem BE{H:Hp}{p:Addr}{t:Str × Str}(h:H p\.tup ((kT t).map kV)):H p\.tup [.str t.1,.str t.2]:=h
section v
theorem AL:bq fu fu (aL tM):=bE
def sQ:Sp:=λvs H Q _=>∃(p:Addr) (a b:Str),vs=[.ref p]/\H p\.tup [.str a,.str b]/\a.length<=100000/\b.length<=100000/\∀H',aa H H'->Q (.bl (i6 a&&i6 b&&!decide (a=b))) H'
theorem _S{f:Addr}{fd:Ae}(F:a_ K "is_pair_of_names" "is_pair_of_names" tM f fd)(B:Bi mg)(cN:!bx 1 "is_name" fu Kf):!ag bc 2 f fd fu sQ:=by
 exists F.bH AL;let#[p,a,b,rfl,hp,la,lb,k]:=h
 apply#[_,ay (bA (zE (eJ (eB (cb jn (by rfl) B.gm gA %[0,iQ (v:=.ty "tuple") (by rfl) B.tuple Hx Z|0])))
   (CJ (di zC (cb qR (by rfl) B.len kX %[0|0]) aM))).pt (aI (bg jU)) bB)
  (aI (bg (oj (bt cN hr %[bP eQ (pv 0) aM|0]) (oj (bt cN hr %[bP eQ (pv 0) aM|0])
   (oi (qP zC (bP eQ (pv 0) aM) (bP eQ (pv 0) aM))))))),?_]
 apply#[_,Z,_,_,_,_,Z,.tup hp,Z,_,Z,aR ?_];apply#[_,Z,p,_,Z,.inr (.of hp),Z,_,Z,?_];apply uE (show V.int ((2:Nat):Int)=V.int 2 from Z) ?_;apply#[_,Z,p,_,_,_,Z,Z,.of hp,Z,a,Z,la,λH1 s1=>#[_,Z,?_]];let JD:=s1 _ _ hp;apply aO (λc=>?_) (λc=>?_)
 ·apply#[_,Z,p,_,_,_,Z,Z,.of JD,Z,b,Z,lb,λH2 s2=>#[_,Z,?_]];let pM:=s2 _ _ JD;let kk:=k H2 (s1.trans s2);apply aO (λc2=>?_) (λc2=>?_)
  ·apply#[_,Z,p,_,_,_,Z,Z,.of pM,Z,_,Z,p,_,_,_,Z,Z,.of pM,Z,Z,?_];rw[c,c2] at kk
   have e:decide (V.str a=V.str b)=decide (a=b):=by
    by_cases z:a=b
    ·simp[z]
    simp[z]
   show Q (.bl (!decide (V.str a=V.str b))) H2;rw[e];exact kk
  rw[c,show i6 b=false by simpa using c2] at kk;exact kk
 let kk:=k H1 s1;rw[show i6 a=false by simpa using c] at kk;exact kk
theorem K8:bq ["ties","found","pair","tie"] ["ties"] (aL OY):=bE
def Ph(K:af):Sp:=λvs H Q _=>∃(l:Addr) (ys:aj) (ts:Xb),vs=[.ref l]/\H l\.lst ys/\bF K H ys (ts.map kT)/\(∀t∈ts,pV t)/\(ts.map λt=>kT (aX t.1 t.2)).Nodup/\ts.length<64 /\
 ∀l' zs H',aa H H'->H l'=none->H' l'\.lst zs->bF K H' zs (a9 (ts.map λt=>kT (aX t.1 t.2)))->Q (.ref l') H'
theorem wG{α β γ:Type}{F:α->γ->Prop}{g:β->γ}{ys:List α}{ts:List β}(t:Paired F ys (ts.map g)){i:Nat}{y:α}(h:ys[i]? = some y):∃x,ts[i]? = some x/\F y (g x):=by
 have hi:i<ys.length:=(dj.mp h).1;let hl:=bS t;rw[aB] at hl;have:=jN t i hi (by rw[aB];omega);rw[List.getElem_map] at this;apply#[ts[i],dE Z1,?_];rw[(dj.mp h).2] at this;exact this
theorem zX{κ:Type}[DecidableEq κ]{kvs:List (κ × V)}{k:κ}(h:k∉kvs.map (·.1)):br kvs k=none:=by
 cases e:br kvs k with
 |none=>rfl
 |some v=>exact absurd (_I e) h
theorem Ex{α β:Type}(g:α->β){ts:List α}{i:Nat}{x:α}(h:ts[i]? = some x):(ts.take (i+1)).map g=(ts.take i).map g++[g x]:=by
 rw[k_,h,eK];rfl
theorem Ij{α β:Type}{g:α->β}{ts:List α}{i:Nat}{x:α}(h:(ts.map g).Nodup)(hx:ts[i]? = some x):g x∉(ts.take i).map g:=by
 intro m;have hi:i<ts.length:=(dj.mp hx).1;let#[y,hy,e]:=bD.mp m;let#[j,hj,e2]:=rZ hy;rw[fA] at hj;rw[List.getElem_take] at e2;rw[vC,vE,List.pairwise_iff_getElem] at h;apply h j i Z1 hi Z1 ?_;rw[e2,e,(dj.mp hx).2]
theorem h7_{f:Addr}{fd:Ae}(F:a_ K "sorted_ties" "sorted_ties" OY f fd)(B:Bi mg)(cP:!bx 2 "is_pair_of_names" fu sQ)(cL:!bx 1 "lesser_first" rE K7):!ag bc 3 f fd ["ties"] (Ph K):=by
 exists F.bH K8;let#[l,ys,ts,rfl,hl,tu,good,nd,bY,k]:=h;let hu:=gz hr;let sz:=cm
 apply#[_,ay (bA (eJ (eB (cb jn (by rfl) B.gm gA %[0,iQ (v:=.ty "list") (by rfl) B.list zU Z|0]))) d0 bB)
  (ay (bw 1 K8.nd jj_)
  (ay (f_ ie Z (fB (pv 0)) (dR 2 K8.nd)
   (ay (bA (eJ (eB (bt cP hr %[2|0]))) d0 bB)
   (ay (bw 3 K8.nd (bt cL hr %[bP eQ (pv 2) aM,bP eQ (pv 2) aM|0]))
   (ay (bA (yb (D7 hu (pv 3) (pv 1))) d0 bB)
   (aI (wu hu (pv 1) (pv 3) jU Z))))))
  (aI (bg (cb (eX_ Z) (by rfl) B.sorted El %[1|0]))))),?_]
 apply#[_,Z,_,_,_,_,Z,.lst hl,Z,_,Z,aR ?_];intro d hd;have s0:aa H (upd H d (.dT [])):=aa.new hd;apply#[_,Z,l,Z,#[_,.of (s0 _ _ hl)],k8 (K:=K) (a:=l) (xs:=ys) (λi σ H2=>∃(v3 v4:aV),σ=[some (.ref l),some (.ref d),v3,v4]/\aa H H2/\H2 d\.dT ((ts.take i).map λt=>(kT (aX t.1 t.2),V.bl true))) #[none,none,Z,s0,az] (λi σ H2 _ ⟨_,_,_,s2,_⟩=>.of (s2 _ _ hl)) ?_ ?_]
 ·rintro i y σ H2 hy ⟨v3,v4,rfl,s2,hd2⟩;let#[t,ht,a,rfl,ha]:=wG tu hy;let#[g1,g2,g3]:=good t (dD ht);let zu:=s2 _ _ (BE ha);apply#[_,Z,a,t.1,t.2,Z,zu,by have:=K0 g1;omega,by have:=K0 g2;omega,λH3 s3=>#[_,Z,?_]];let gU:=s3 _ _ zu;let jS:=s3 _ _ hd2;rw[g1,g2,dc g3];apply aR ?_;apply#[_,Z,a,_,_,_,Z,Z,.of gU,Z,_,Z,a,_,_,_,Z,Z,.of gU,Z,t.1,t.2,Z,λb hb=>?_];have s4:aa H3 (upd H3 b (.tup [.str (aX t.1 t.2).1,.str (aX t.1 t.2).2])):=aa.new hb;let zr:=s4 _ _ jS;have Ti:upd H3 b (.tup [.str (aX t.1 t.2).1,.str (aX t.1 t.2).2]) b\.tup ((kT (aX t.1 t.2)).map kV):=az
  have vU:br ((ts.take i).map λt=>(kT (aX t.1 t.2),V.bl true)) (kT (aX t.1 t.2))=none:=zX (by
   rw[bV];exact Ij (g:=λt=>kT (aX t.1 t.2)) nd ht)
  apply#[_,Z,_,Z,d,_,Z,.t (k:=kT (aX t.1 t.2)) zr Ti,_,Z,?_];rw[vU];apply aR ?_;apply#[_,Z,_,Z,d,_,Z,.t (k:=kT (aX t.1 t.2)) zr Ti (by rw[aB,fA];omega),?_];apply#[_,_,Z,λc o e=>?_,?_]
  ·rw[aF (bU e hd)];exact s4 _ _ (s3 _ _ (s2 _ _ e))
  rw[az,Eo _ vU,Ex _ ht]
 rintro σ H2 ⟨v3,v4,rfl,s2,hd2⟩;let le:=bS tu;rw[aB] at le;rw[le,fX] at hd2;apply#[_,Z,d,_,[true,true],Z,hd2,#[by decide,λk hk=>?_],by rw[aB];exact bY,λl' zs hn tz=>?_]
 ·rw[bV] at hk;let#[t,_,rfl]:=bD.mp hk;rfl
 rw[bV] at tz;exact k l' zs _ (s2.trans (aa.new hn)) (s2.free hn) az (tz.same (aa.new hn))
theorem A0:bq ["ties"] ["ties"] (aL t_):=bE
def sW(K:af):Sp:=λvs H Q _=>∃(l:Addr) (ys:aj) (ts:Xb),vs=[.ref l]/\H l\.lst ys/\bF K H ys (ts.map kT)/\ts.length<=1000 /\
 ∀l' zs H',aa H H'->H l'=none->H' l'\.lst zs->bF K H' zs (ts.map kT)->Q (.ref l') H'
theorem K1{K:af}{H:Hp}{ys:aj}{ks:List ax}{a:Addr}{k:ax}(t:bF K H ys ks)(h:H a\.tup (k.map kV)):bF K H (ys++[.ref a]) (ks++[k]):=Paired.snoc t #[a,Z,h]
theorem j2{H H1:Hp}{D:Addr}{o:HO}(h:aa H H1)(hD:H D=none):aa H (upd H1 D o):=λb u e=>by rw[aF (bU e hD)];exact h b u e
theorem qT{K:af}{H:Hp}{ys:aj}{ks:List ax}{D:Addr}{o:HO}{xs:aj}(t:bF K H ys ks)(hD:H D\.lst xs):bF K (upd H D o) ys ks:=Paired.bC t λy k ⟨a,z,q⟩=>#[a,z,by rw[aF (cj q hD nofun)];exact q]
theorem kY_{f:Addr}{fd:Ae}(F:a_ K "ties_anew" "ties_anew" t_ f fd):!ag bc 1 f fd ["ties"] (sW K):=by
 exists F.bH A0;let#[l,ys,ts,rfl,hl,tu,hz,k]:=h;let sz:=cm
 apply#[_,aI (bg (p9 rE 2 [] (fB (pv 0)) (λfp s H=>KJ (n:=2) (fo (gM (i:=0) (show (rE:ae).Nodup by decide +kernel) Z (Or.inl Z)) (fo (gM (i:=1) (show (rE:ae).Nodup by decide +kernel) Z (Or.inl Z)) oy)))
  (λfp s H=>k7) (λfp s H=>g0 %[0,1|0]))),?_]
 apply#[_,Z,l,Z,#[_,.of hl],λD hD=>?_];let le:=bS tu;rw[aB] at le;apply qa (own:=2) (fv:=[]) (xs:=ys) Z GK (λi out H'=>aa H H'/\H' D\.lst out/\bF K H' out ((ts.take i).map kT)) #[aa.new hD,az,.nil] (λi out H' _ ⟨sm,_,_⟩=>.of (sm _ _ hl)) (λout H' ⟨sm,hd,tz⟩=>?_) (λi x out H' hx ⟨sm,hd,tz⟩=>?_)
 ·rw[le,fX] at tz;exact k D out H' sm hD hd tz
 let#[t,ht,a,rfl,ha]:=wG tu hx;apply#[_,#[a,_,_,Z,.of (sm _ _ (BE ha)),Z],Z,λNx hN=>fg ?_];apply#[_,Z,_,Z,zl,λp hp=>#[out,(aa.new hp) _ _ hd,?_,?_]]
 ·have:=bS tz;rw[aB,fA] at this;omega
 have pM:upd H' p (.tup [.str t.1,.str t.2]) p\.tup ((kT t).map kV):=az;apply hN (out++[.ref p]) _ #[j2 (sm.trans (aa.new hp)) hD,az,?_];rw[Ex _ ht];exact qT (K1 (tz.same (aa.new hp)) pM) ((aa.new hp) _ _ hd)
end
end Ev
namespace Ev
open PySem L2
def kH(h:Str × Int):ax:=[.inr h.1,.inl h.2]
def zx(h:Str × Int):Prop:=i6 h.1=true/\1<=h.2/\h.2<=1000
def Bu:ax->Key × V
 |[k,v]=>(k,kV v)
 |_=>(.inl 0,.non)
def cU(hs:Xa):List (Key × V):=(a9 (hs.map kH)).map Bu
theorem hpH{H:Hp}{p:Addr}{t:Str × Int}(h:H p\.tup ((kH t).map kV)):H p\.tup [.str t.1,.int t.2]:=h
theorem VM:∀(more kvs:List (Key × V)),(kvs.map (·.1)++more.map (·.1)).Nodup->Cv kvs more=kvs++more
 |[],kvs,_=>by
  show kvs=kvs++[];rw[wC]
 |p::more,kvs,h=>by
  show Cv (putK kvs p.1 p.2) more=kvs++p::more
  have hn:br kvs p.1=none:=zX λm=>by
   rw[eV,List.nodup_append] at h;exact h.2.2 p.1 m p.1 eZ Z
  rw[Eo _ hn,VM more (kvs++[(p.1,p.2)])]
  ·simp
  simpa using h
theorem CY{more:List (Key × V)}(h:(more.map (·.1)).Nodup):Cv [] more=more:=by
 rw[VM more [] ⇑h];rfl
theorem Vv(hs:Xa):((cU hs).map (·.1)).Perm (hs.map λh=>Sum.inr h.1):=by
 unfold cU;rw[bV];let p:=(oE (hs.map kH)).map λk=>(Bu k).1;rw[bV] at p;exact p
theorem VU{hs:Xa}(h:(hs.map (·.1)).Nodup):((cU hs).map (·.1)).Nodup:=by
 apply (Vv hs).nodup_iff.mpr ?_;have:(hs.map λh=>(Sum.inr h.1:Key))=(hs.map (·.1)).map Sum.inr:=by rw[bV];rfl
 rw[this,vC,vE];exact h.imp λn e=>n (iC e)
theorem ow{k:Nat}{A:Ag}(hr:aK k A)(n:Nat)(h:n+1<=64:=by decide):A.units+n+1<cLine:=by
 have:=hr.units;omega
section v
theorem AW:bq fu fu (aL tU):=bE
def sT:Sp:=λvs H Q _=>∃(p:Addr) (a:Str) (n:Int),vs=[.ref p]/\H p\.tup [.str a,.int n]/\a.length<=100000/\∀H',aa H H'->Q (.bl (i6 a&&(decide (1<=n)&&decide (n<=1000)))) H'
theorem _O{f:Addr}{fd:Ae}(F:a_ K "is_hand_with_strength" "is_hand_with_strength" tU f fd)(B:Bi mg)(cN:!bx 1 "is_name" fu Kf)(cW:!bx 2 "is_whole_within" lj OB){tk:Tok}(mS:mg "MOST_STRENGTH"\.int 1000 tk) :
  ag P w K mg base bc 3 f fd fu sT:=by
 exists F.bH AW;let#[p,a,n,rfl,hp,la,k]:=h
 apply#[_,ay (bA (zE (eJ (eB (cb jn (by rfl) B.gm gA %[0,iQ (v:=.ty "tuple") (by rfl) B.tuple Hx Z|0])))
   (CJ (di zC (cb qR (by rfl) B.len kX %[0|0]) aM))).pt (aI (bg jU)) bB)
  (aI (bg (oj (bt cN hr %[bP eQ (pv 0) aM|0]) (oi (bt cW hr %[bP eQ (pv 0) aM,aM,rR (v:=.int 1000) (by rfl) mS #[tk,Z]|0]))))),?_]
 apply#[_,Z,_,_,_,_,Z,.tup hp,Z,_,Z,aR ?_];apply#[_,Z,p,_,Z,.inr (.of hp),Z,_,Z,?_];apply uE (show V.int ((2:Nat):Int)=V.int 2 from Z) ?_;apply#[_,Z,p,_,_,_,Z,Z,.of hp,Z,a,Z,la,λH1 s1=>#[_,Z,?_]];let JD:=s1 _ _ hp;let kk:=k H1 s1;apply aO (λc=>?_) (λc=>?_)
 ·apply#[_,Z,p,_,_,_,Z,Z,.of JD,Z,n,1,1000,Z,?_];rw[c] at kk;exact kk
 rw[show i6 a=false by simpa using c] at kk;exact kk
theorem sZ:bq ["hands","found","hand"] ["hands"] (aL A2):=bE
def yG(K:af):Sp:=λvs H Q _=>∃(l:Addr) (ys:aj) (hs:Xa),vs=[.ref l]/\H l\.lst ys/\bF K H ys (hs.map kH)/\(∀h∈hs,zx h)/\(hs.map (·.1)).Nodup/\1<=hs.length/\hs.length<=8 /\
 ∀d H',aa H H'->H d=none->H' d\.dK (cU hs)->Q (.ref d) H'
theorem ZC{f:Addr}{fd:Ae}(F:a_ K "checked_strengths" "checked_strengths" A2 f fd)(B:Bi mg)(cH:!bx 3 "is_hand_with_strength" fu sT){tk:Tok}(mH:mg "MOST_HANDS"\.int 8 tk):!ag bc 4 f fd ["hands"] (yG K):=by
 exists F.bH sZ;let#[l,ys,hs,rfl,hl,tu,good,nd,h1,h8,k]:=h;let hu:=gz hr;let sz:=cm;let le:=bS tu;rw[aB] at le
 apply#[_,ay (bA (zE (eJ (eB (cb jn (by rfl) B.gm gA %[0,iQ (v:=.ty "list") (by rfl) B.list zU Z|0])))
   (CJ (eJ (UA xZ xZ aM (cb qR (by rfl) B.len kX %[0|0]) (rR (v:=.int 8) (by rfl) mH #[tk,Z]))))).pt d0 bB)
  (ay (bw 1 sZ.nd H_)
  (ay (f_ ie Z (fB (pv 0)) (dR 2 sZ.nd)
   (ay (bA (eJ (eB (bt cH hr %[2|0]))) d0 bB)
   (ay (bA (yb (D7 hu (bP eQ (pv 2) aM) (pv 1))) d0 bB)
   (aI (wu hu (pv 1) (bP eQ (pv 2) aM) (bP eQ (pv 2) aM) Z)))))
  (aI (bg (jM (C9 Z) (by rfl) B.dict p7 %[cb (Vw Z) (by rfl) B.sorted El %[CO (pv 1)|0]|0]))))),?_]
 apply#[_,Z,_,_,_,_,Z,.lst hl,Z,_,Z,aR ?_];apply#[_,Z,l,_,Z,.inl (.of hl),_,_,Z,Z,_,Z,?_];rw[cc (show (1:Int)<=(ys.length:Int) by omega)];apply bK #[_,_,Z,Z,_,Z,?_];rw[cc (show (ys.length:Int)<=8 by omega)];apply aR ?_;intro d hd;have s0:aa H (upd H d (.dK [])):=aa.new hd;apply#[_,Z,l,Z,#[_,.of (s0 _ _ hl)],k8 (K:=K) (a:=l) (xs:=ys) (λi σ H2=>∃(v2:aV),σ=[some (.ref l),some (.ref d),v2]/\aa H H2/\H2 d\.dK ((hs.take i).map λh=>(Sum.inr h.1,V.int h.2))) #[none,Z,s0,az] (λi σ H2 _ ⟨_,_,s2,_⟩=>.of (s2 _ _ hl)) ?_ ?_]
 ·rintro i y σ H2 hy ⟨v2,rfl,s2,hd2⟩;let#[t,ht,a,rfl,ha]:=wG tu hy;let#[g1,g2,g3]:=good t (dD ht);let zu:=s2 _ _ (hpH ha);apply#[_,Z,a,t.1,t.2,Z,zu,by have:=K0 g1;omega,λH3 s3=>#[_,Z,?_]];let gU:=s3 _ _ zu;let jS:=s3 _ _ hd2;rw[g1,cc g2,cc g3];apply aR ?_
  have vU:br ((hs.take i).map λh=>((Sum.inr h.1:Key),V.int h.2)) (Sum.inr t.1)=none:=zX (by
   rw[bV];let q:=Ij (g:=λh:Str × Int=>h.1) nd ht;intro m;let#[h,hh,e]:=bD.mp m;exact q (bD.mpr #[h,hh,iC e]))
  apply#[_,Z,a,_,_,_,Z,Z,.of gU,Z,_,Z,d,_,Z,.k (k:=Sum.inr t.1) jS,_,Z,?_];rw[vU];apply aR ?_;apply#[_,Z,a,_,_,_,Z,Z,.of gU,Z,_,Z,_,Z,a,_,_,_,Z,Z,.of gU,Z,d,_,Z,.k (k:=Sum.inr t.1) jS (by rw[aB,fA];omega),?_];apply#[_,Z,λc o e=>?_,?_]
  ·rw[aF (bU e hd)];exact s3 _ _ (s2 _ _ e)
  rw[az,Eo _ vU,Ex _ ht]
 rintro σ H2 ⟨v2,rfl,s2,hd2⟩;rw[le,fX] at hd2;apply#[_,Z,d,_,Z,hd2,λv hv=>?_];have s3:aa H2 (upd H2 v (i5 v d)):=aa.new hv;apply#[v,d,_,hs.map λh=>(Sum.inr h.1,Sum.inl h.2),[true,false],Z,az,s3 _ _ hd2,by rw[bV];rfl,#[by decide,λq hq=>?_],by rw[aB];omega,λl' H4 zs s4 hn tz=>?_]
 ·rw[bV] at hq;let#[h,_,rfl]:=bD.mp hq;rfl
 have ez:((hs.map λh=>((Sum.inr h.1:Key),(Sum.inl h.2:Key))).map λk=>[k.1,k.2])=hs.map kH:=by rw[bV];rfl
 rw[ez] at tz
 have pz:kW K (upd H4 l' (.lst zs)) zs (cU hs):=by
  have shape:∀k∈a9 (hs.map kH),∃a b,k=[a,b]:=λk hk=>by
   let#[h,_,e]:=bD.mp ((oE _).mem_iff.mp hk);exact#[_,_,e.symm]
  have gen:∀(ks:List ax) (zs:aj),(∀k∈ks,∃a b,k=[a,b])->bF K (upd H4 l' (.lst zs)) zs ks->kW K (upd H4 l' (.lst zs)) zs (ks.map Bu):=λks=>by
   intro zs;generalize upd H4 l' (.lst zs)=HH;intro sh t
   induction t with
   |nil=>exact .nil
   |cons h t ih=>
    let#[a,b,rfl]:=sh _ eZ;exact .cons h (ih λk hk=>sh k (dZ _ hk))
  exact gen _ _ shape (tz.same (aa.new hn))
 apply#[l',zs,_,Z,az,pz,?_,λd' ia=>?_]
 ·have:=(Vv hs).length_eq;simp only[aB] at this;omega
 rw[CY (VU nd)];have Fc:aa H (upd H4 l' (.lst zs)):=(s2.trans (s3.trans s4)).trans (aa.new hn);exact k d' _ (Fc.trans (aa.new ia)) (Fc.free ia) az
theorem Kb:bq ["ties","strengths","found","one","other"] ["ties","strengths"] (aL tI):=bE
inductive mq (K:af) (vs:aj) (H:Hp) (Q:VK) (E:XK):Prop
 |mk:∀(l d:Addr) (ys:aj) (ts:Xb) (kvs:List (Key × V)),vs=[.ref l,.ref d]->H l\.lst ys->bF K H ys (ts.map kT)->(∀t∈ts,pV t)->(ts.map λt=>kT (aX t.1 t.2)).Nodup->ts.length<64->H d\.dK kvs->(∀t∈ts,(br kvs (Sum.inr t.1)).isSome=true/\(br kvs (Sum.inr t.2)).isSome=true)->(∀l' zs H',aa H H'->H l'=none->H' l'\.lst zs->bF K H' zs (a9 (ts.map λt=>kT (aX t.1 t.2)))->Q (.ref l') H')->mq K vs H Q E
theorem SW(a b:Str):aX a b=(a,b)∨aX a b=(b,a):=by
 unfold aX;split
 ·exact .inl rfl
 exact .inr rfl
theorem kH_{f:Addr}{fd:Ae}(F:a_ K "checked_ties" "checked_ties" tI f fd)(B:Bi mg)(cS:!bx 3 "sorted_ties" ["ties"] (Ph K)):!ag bc 4 f fd ["ties","strengths"] (mq K):=by
 exists F.bH Kb;let#[l,d,ys,ts,kvs,rfl,hl,tu,good,nd,bY,hd,there,k]:=h;let hu:=gz hr
 apply#[_,ay (bw 2 Kb.nd (bt cS hr %[0|0]))
  (ay (bA (yb (J4 (pv 2))) d0 bB)
  (ay (f_ ie Z (fB (pv 2)) (rQ Z (fo (dR 3 Kb.nd) (fo (dR 4 Kb.nd) oy)))
   (aI (bA (zE (yb (Vc hu (pv 3) (pv 1))) (CJ (yb (Vc hu (pv 4) (pv 1))))).pt d0 bB)))
  (aI (bg (pv 2))))),?_]
 apply#[_,Z,l,ys,ts,Z,hl,tu,good,nd,bY,λl' zs H1 s1 hf jC tz=>?_];apply#[_,Z,_,Z,aR ?_];apply#[_,Z,l',Z,#[_,.of jC],k8 (K:=K) (a:=l') (xs:=zs) (λi σ H2=>∃(v3 v4:aV),σ=[some (.ref l),some (.ref d),some (.ref l'),v3,v4]/\H2=H1) #[none,none,Z,Z] (λi σ H2 _ ⟨_,_,_,e⟩=>by subst e;exact .of jC) ?_ ?_]
 ·rintro i y σ H2 hy ⟨v3,v4,rfl,rfl⟩;let ez:=bS tz;have hi:i<zs.length:=(dj.mp hy).1;let#[a,e,ha]:=jN tz i hi Z1;rw[(dj.mp hy).2] at e;subst e;let#[t,ht,e]:=bD.mp ((oE _).mem_iff.mp (oH (show i<(a9 (ts.map λt=>kT (aX t.1 t.2))).length by omega)));rw[<- e] at ha;let#[t1,t2]:=there t ht
  have both:(br kvs (Sum.inr (aX t.1 t.2).1)).isSome=true/\(br kvs (Sum.inr (aX t.1 t.2).2)).isSome=true:=by
   rcases SW t.1 t.2 with q|q
   ·rw[q];exact#[t1,t2]
   rw[q];exact#[t2,t1]
  let gL:=s1 _ _ hd;apply#[a,_,Z,.of (BE ha),Z,_,_,Z,_,_,Z,Z,?_];apply#[_,Z,_,Z,d,_,Z,.k (k:=Sum.inr (aX t.1 t.2).1) gL,_,Z,?_];rw[both.1];apply aR ?_;apply#[_,Z,_,Z,d,_,Z,.k (k:=Sum.inr (aX t.1 t.2).2) gL,_,Z,?_];rw[both.2];apply aR ?_;exact#[_,_,Z,Z]
 rintro σ H2 ⟨v3,v4,rfl,rfl⟩;exact#[_,Z,k l' zs _ s1 hf jC tz]
def near(ns:ae)(ts:Xb)(n:Str):ae:=ns.filter λo=>decide (aX n o∈ts)
theorem mD:bq ["names","ties","found","hand"] ["names","ties"] (aL tN):=bE
def jF(ns:ae)(as:ai):List (Key × V):=(ns.zip as).map λp=>(Sum.inr p.1,V.ref p.2)
inductive mw (K:af) (vs:aj) (H:Hp) (Q:VK) (E:XK):Prop
 |mk:∀(l1 l2:Addr) (ns:ae) (zs:aj) (ts:Xb),vs=[.ref l1,.ref l2]->H l1\.lst (ns.map V.str)->H l2\.lst zs->bF K H zs (ts.map kT)->ns.Nodup->ns.length<=1000->l1≠l2->(∀d as H',aa H H'->H d=none->as.length=ns.length->H' d\.dK (jF ns as)->(∀(i:Nat) n a,ns[i]? = some n->as[i]? = some a->H a=none/\H' a\.lst ((near ns ts n).map V.str))->Q (.ref d) H')->mw K vs H Q E
theorem OR{K:af}{H:Hp}:∀{ts:Xb} {zs:aj},bF K H zs (ts.map kT)->Paired (r2 K rS rS H) zs ts
 |[],_,.nil=>.nil
 |t::ts,_,.cons ⟨a,e,h⟩ r=>.cons #[a,_,_,e,.of (BE h),Z,Z] (OR r)
theorem kZ{ns:ae}{i:Nat}{x:V}(h:(ns.map V.str)[i]? = some x):∃n,ns[i]? = some n/\x=.str n:=by
 rw[dQ] at h;cases e:ns[i]? with
 |none=>rw[e] at h;cases h
 |some n=>rw[e] at h;exact#[n,Z,(dG h).symm]
theorem Wa{α:Type}(p:α->Bool){l:List α}{i:Nat}{x:α}(h:l[i]? = some x):(l.take (i+1)).filter p=(l.take i).filter p++(if p x then [x] else []):=PySem.take_succ_filter p l i x h
theorem _U{f:Addr}{fd:Ae}(F:a_ K "neighbours_of_all" "neighbours_of_all" tN f fd)(cL:!bx 1 "lesser_first" rE K7):!ag bc 2 f fd ["names","ties"] (mw K):=by
 exists F.bH mD;let#[l1,l2,ns,zs,ts,rfl,jC,lR,tz,nd,h8,qH,k]:=h;let hu:=gz hr;let Np:=hr.units;let sz:=cm
 apply#[_,ay (bw 2 mD.nd H_)
  (ay (f_ ie Z (fB (pv 0)) (dR 3 mD.nd)
   (aI (wu hu (pv 2) (pv 3) (p9 ["other","hand","ties"] 1 [3,1] (fB (pv 0)) (λfp s H=>gM (i:=0) (show (["other","hand","ties"]:ae).Nodup by decide +kernel) Z (Or.inl Z))
    (λfp s H=>kD_ (di (Ml (K:=K) (λK=>Bb K (r2 K rS rS) false) (GU (Hj i0 i0) (ow hr _))) (bt cL hr %[1,0|0]) (pv 2) (by with_unfolding_all rfl))) (λfp s H=>pv 0)) Z)))
  (aI (bg (pv 2)))),?_]
 intro d hd;have s0:aa H (upd H d (.dK [])):=aa.new hd
 apply#[_,Z,l1,Z,#[_,.of (s0 _ _ jC)],k8 (K:=K) (a:=l1) (xs:=ns.map V.str) (λi σ H2=>∃(v3:aV) (as:ai),σ=[some (.ref l1),some (.ref l2),some (.ref d),v3]/\aa H H2/\as.length=i/\H2 d\.dK (jF (ns.take i) as) /\
  ∀(j:Nat) n a,ns[j]? = some n->as[j]? = some a->H a=none/\a≠d/\H2 a\.lst ((near ns ts n).map V.str)) #[none,[],Z,s0,Z,az,λj n a _ e=>by simp at e] (λi σ H2 _ ⟨_,_,_,s2,_⟩=>.of (s2 _ _ jC)) ?_ ?_]
 ·rintro i y σ H2 hy ⟨v3,as,rfl,s2,la,hd2,lists⟩;let#[n,hn,rfl]:=kZ hy;have hi:i<ns.length:=(dj.mp hn).1
  have lk:(jF (ns.take i) as).length=i:=by
   unfold jF;rw[aB,List.length_zip,fA];omega
  apply#[_,Z,l1,Z,#[_,.of (s2 _ _ jC)],λD hD=>?_];apply qa (own:=1) (fv:=[some (.str n),some (.ref l2)]) (xs:=ns.map V.str) Z fU (λj out H'=>aa H2 H'/\H' D\.lst out/\out=((ns.take j).filter λo=>decide (aX n o∈ts)).map V.str) #[aa.new hD,az,Z] (λj out H' _ ⟨sm,_,_⟩=>.of (sm _ _ (s2 _ _ jC))) (λout H' ⟨sm,gr,eo⟩=>?_) (λj x out H' hx ⟨sm,gr,eo⟩=>?_)
  ·rw[aB,fX] at eo
   have vU:br (jF (ns.take i) as) (Sum.inr n)=none:=zX λm=>by
    unfold jF at m;rw[bV] at m;let#[p,hp,e]:=bD.mp m;have e:p.1=n:=iC e;let q:=Ij (g:=id) (by rw[List.map_id];exact nd) hn;rw[List.map_id] at q;exact q (e▸(List.of_mem_zip hp).1)
   have RS:D≠d:=λz=>by subst z;rw[hD] at hd2;cases hd2
   apply#[_,Z,_,Z,d,_,Z,.k (k:=Sum.inr n) (sm _ _ hd2) Z1,?_];apply#[_,as++[D],Z,λc o e=>?_,by rw[fZ,la];rfl,?_,λj n' a BL ha=>?_]
   ·rw[aF (bU e hd)];exact sm _ _ (s2 _ _ e)
   ·rw[az,Eo _ vU];congr 2;unfold jF;rw[k_,hn,List.zip_append (by rw[fA];omega),eK];rfl
   by_cases hj:j<as.length
   ·rw[Ez hj] at ha;let#[q1,q2,q3]:=lists j n' a BL ha;apply#[q1,q2,?_];rw[aF q2];exact sm _ _ q3
   have hj2:j=i:=by
    have:=(dj.mp ha).1;rw[fZ] at this;simp only[List.length_singleton] at this;omega
   subst hj2;rw[De Z1,la,Nat.sub_self] at ha;have ha:D=a:=⇑ha
   subst ha;rw[hn] at BL;cases BL;apply#[s2.free hD,RS,?_];rw[aF RS,gr,eo];rfl
  let#[o,ho,rfl]:=kZ hx;apply#[_,Z,Z,λNx hN=>?_];apply#[_,Z,_,Z,n,o,Z,λt ht=>?_];have s3:aa H' (upd H' t (.tup [.str (aX n o).1,.str (aX n o).2])):=aa.new ht;let Xv:=((tz.same s2).same sm).same s3
  have lo:out.length<sizeLine:=by
   rw[eo,aB];have:=List.length_filter_le (λo=>decide (aX n o∈ts)) (ns.take j);rw[fA] at this;omega
  apply#[_,Z,aX n o,ts,#[t,_,_,Z,.of az,Z,Z],#[l2,zs,Z,.of (s3 _ _ (sm _ _ (s2 _ _ lR))),OR Xv],_,Z,?_];apply aO (λc=>?_) (λc=>?_)
  ·apply#[_,Z,out,s3 _ _ gr,lo,hN _ _ #[j2 (sm.trans s3) hD,az,?_]];have c:decide (aX n o∈ts)=true:=⇑c
   rw[Wa _ ho,aJ c,eK,eo];rfl
  apply hN _ _ #[sm.trans s3,s3 _ _ gr,?_];have c:¬decide (aX n o∈ts)=true:=⇑c
  rw[Wa _ ho,aC c,wC,eo]
 rintro σ H2 ⟨v3,as,rfl,s2,la,hd2,lists⟩;rw[aB] at la hd2;rw[fX] at hd2;exact#[_,Z,k d as _ s2 hd la hd2 λj n a h1 h2=>#[(lists j n a h1 h2).1,(lists j n a h1 h2).2.2]]
end
end Ev
namespace Ev
open PySem L2
abbrev tT:Stmt:=jV ju 0
abbrev xb:Stmt:=jV ju 1
abbrev mX:Stmt:=jV ju 2
abbrev Qo:Stmt:=jV ju 3
abbrev mR:Stmt:=jV ju 4
abbrev tJ:Stmt:=jV ju 5
abbrev mJ:Stmt:=jV ju 6
abbrev tQ:Stmt:=jV ju 7
def GM:ax->Str
 |.inr a::_=>a
 |_=>⟨#[]⟩
def Ly:ax->Str × Str
 |[.inr a,.inr b]=>(a,b)
 |_=>(⟨#[]⟩,⟨#[]⟩)
def aE(hs:Xa):ae:=(a9 (hs.map kH)).map GM
def aZ(ts:Xb):Xb:=(a9 (ts.map λt=>kT (aX t.1 t.2))).map Ly
theorem La(ts:Xb):(aZ ts).map kT=a9 (ts.map λt=>kT (aX t.1 t.2)):=by
 unfold aZ;rw[bV]
 have all:∀k∈a9 (ts.map λt=>kT (aX t.1 t.2)),∃t:Str × Str,k=kT t:=λk hk=>by
  let#[t,_,e]:=bD.mp ((oE _).mem_iff.mp hk);exact#[_,e.symm]
 generalize a9 (ts.map λt=>kT (aX t.1 t.2))=l at all
 induction l with
 |nil=>rfl
 |cons k l ih=>
  let#[t,rfl]:=all k eZ;rw[eV,ih λk hk=>all k (dZ _ hk)];rfl
theorem VJ(hs:Xa):∀k∈a9 (hs.map kH),∃h:Str × Int,h∈hs/\k=kH h:=λk hk=>by
 let#[t,ht,e]:=bD.mp ((oE _).mem_iff.mp hk);exact#[t,ht,e.symm]
theorem Ul(hs:Xa):((cU hs).map λkv=>kV kv.1)=(aE hs).map V.str:=by
 unfold cU aE;rw[bV,bV];apply vF λk hk=>?_;let#[h,_,rfl]:=VJ hs k hk;rfl
theorem Ui(hs:Xa):(cU hs).map (·.1)=(aE hs).map Sum.inr:=by
 unfold cU aE;rw[bV,bV];apply vF λk hk=>?_;let#[h,_,rfl]:=VJ hs k hk;rfl
theorem jm(hs:Xa):(aE hs).Perm (hs.map (·.1)):=by
 unfold aE;let p:=(oE (hs.map kH)).map GM;rw[bV] at p;exact p
theorem UT{κ:Type}[DecidableEq κ]{kvs:List (κ × V)}{k:κ}(h:k∈kvs.map (·.1)):(br kvs k).isSome=true:=by
 rw[<- Hv];let#[p,hp,e]:=bD.mp h;exact List.any_eq_true.mpr #[p,hp,cc e]
theorem Kh{hs:Xa}{n:Str}:(br (cU hs) (Sum.inr n)).isSome=decide (n∈hs.map (·.1)):=by
 by_cases h:n∈hs.map (·.1)
 ·rw[cc h];apply UT ?_;rw[Ui];exact bD.mpr #[n,(jm hs).mem_iff.mpr h,Z]
 rw[dc h,zX]
 ·rfl
 rw[Ui];intro m;let#[x,hx,e]:=bD.mp m;cases e;exact h ((jm hs).mem_iff.mp hx)
theorem MH:¬((wc:Str)="sorted_pairs"):=by decide +kernel
theorem MG:¬((wc:Str)=Ca):=by decide +kernel
theorem Zc:¬(("sorted_pairs":Str)=Ca):=by decide +kernel
def bZ(d1 l2 d3:Addr):List (Str × V):=aA Ca (.ref d3) (aA "sorted_pairs" (.ref l2) (aA wc (.ref d1) []))
theorem JX(d1 l2 d3:Addr):(bZ d1 l2 d3).lookup (wc:Str)\.ref d1:=by
 unfold bZ;rw[e_,aC MG,e_,aC MH,e_,aJ Z]
theorem _o(d1 l2 d3:Addr):(bZ d1 l2 d3).lookup ("sorted_pairs":Str)\.ref l2:=by
 unfold bZ;rw[e_,aC Zc,e_,aJ Z]
theorem Of(d1 l2 d3:Addr):(bZ d1 l2 d3).lookup (Ca:Str)\.ref d3:=by
 unfold bZ;rw[e_,aJ Z]
theorem iP(d1 l2 d3:Addr){m:Str}(h1:¬m=wc)(h2:¬m="sorted_pairs")(h3:¬m=Ca):(bZ d1 l2 d3).lookup m=none:=by
 unfold bZ;rw[e_,aC h3,e_,aC h2,e_,aC h1]
 all_goals rfl
structure ft (K:af) (C:Addr) (H:Hp) (p:Addr) (hs:Xa) (ts:Xb) (fp:ai):Prop where
 ex:∃(dx d1 l2 d3:Addr) (zs:aj) (as:ai),fp=p::d1::l2::d3::as/\H p\.ins C dx (bZ d1 l2 d3)/\H d1\.dK (cU hs)/\H l2\.lst zs/\bF K H zs ((aZ ts).map kT)/\H d3\.dK (jF (aE hs) as)/\as.length=(aE hs).length /\
  ∀(i:Nat) n a,(aE hs)[i]? = some n->as[i]? = some a->H a\.lst ((near (aE hs) (aZ ts) n).map V.str)
theorem ft.keep{K:af}{C:Addr}{H H':Hp}{p:Addr}{hs:Xa}{ts:Xb}{fp:ai}(W:ft K C H p hs ts fp)(k:∀b∈fp,∀o,H b\o->H' b\o)(kt:∀b xs,H b\.tup xs->H' b\.tup xs):ft K C H' p hs ts fp:=by
 let#[dx,d1,l2,d3,zs,as,rfl,h1,h2,h3,h4,h5,h6,h7]:=W.ex;apply#[dx,d1,l2,d3,zs,as,Z,k _ Z2 _ h1,k _ Z2 _ h2,k _ Z2 _ h3,Paired.bC h4 λy q ⟨a,e,z⟩=>#[a,e,kt _ _ z],k _ Z2 _ h5,h6,λi n a e1 e2=>k _ ?_ _ (h7 i n a e1 e2)];have:=dD e2;simp[this]
theorem ft.same{K:af}{C:Addr}{H H':Hp}{p:Addr}{hs:Xa}{ts:Xb}{fp:ai}(W:ft K C H p hs ts fp)(s:aa H H'):ft K C H' p hs ts fp:=W.keep (λb _ o e=>s b o e) λb xs e=>s b _ e
structure Good (hs:Xa) (ts:Xb):Prop where
 au:∀h∈hs,zx h
 zk:(hs.map (·.1)).Nodup
 h1:1<=hs.length
 h8:hs.length<=8
 tok:∀t∈ts,pV t
 XA:(ts.map λt=>kT (aX t.1 t.2)).Nodup
 yF:ts.length<64
 IR:∀t∈ts,t.1∈hs.map (·.1)/\t.2∈hs.map (·.1)
theorem Good.ux{hs:Xa}{ts:Xb}(G:Good hs ts):(aE hs).Nodup:=(jm hs).nodup_iff.mpr G.zk
theorem Good.fQ{hs:Xa}{ts:Xb}(G:Good hs ts):(aE hs).length=hs.length:=by
 rw[(jm hs).length_eq,aB]
theorem Ib(ts:Xb):(aZ ts).length=ts.length:=by
 unfold aZ;rw[aB,(oE _).length_eq,aB]
structure Txt (K:af) (mg:Str->Option Aa) (C:Addr):Prop where
 cl:oN K C
 nS:l_ K C wc
 nP:l_ K C "sorted_pairs"
 nN:l_ K C Ca
section v
theorem mE:bq ["self","hands","ties","strengths","checked"] ["self","hands","ties"] (aL tT):=bE
inductive Kj (K:af) (C:Addr) (vs:aj) (H:Hp) (Q:VK) (E:XK):Prop
 |mk:∀(p dx lh lt:Addr) (ys zs:aj) (hs:Xa) (ts:Xb),vs=[.ref p,.ref lh,.ref lt]->H p\.ins C dx []->H lh\.lst ys->bF K H ys (hs.map kH)->H lt\.lst zs->bF K H zs (ts.map kT)->Good hs ts->(∀fp H',(∀b o,H b\o->b≠p->H' b\o)->ft K C H' p hs ts fp->(∀b∈fp,b=p∨H b=none)->Q .non H')->Kj K C vs H Q E
theorem kT_{f C:Addr}{fd:Ae}(F:a_ K "__init__" "Web.__init__" tT f fd)(T:Txt K mg C)(B:Bi mg)(cS:!bx 4 "checked_strengths" ["hands"] (yG K))(cT:!bx 4 "checked_ties" ["ties","strengths"] (mq K))(cN:!bx 2 "neighbours_of_all" ["names","ties"] (mw K)) :
  ag P w K mg base bc 5 f fd ["self","hands","ties"] (Kj K C):=by
 exists F.bH mE;let#[p,dx,lh,lt,ys,zs,hs,ts,rfl,hp,zm,th,dX,tt,G,k]:=h
 apply#[_,ay (bw 3 mE.nd (bt cS hr %[1|0]))
  (ay (bw 4 mE.nd (bt cT hr %[2,3|0]))
  (ay (wz (pv 0) (pv 3) Z) (ay (wz (pv 0) (pv 4) Z)
  (aI (wz (pv 0) (bt cN hr %[jM (P5 Z) (by rfl) B.list zU %[3|0],4|0]) Z))))),?_]
 apply#[_,Z,lh,ys,hs,Z,zm,th,G.au,G.zk,G.h1,G.h8,λd1 H1 s1 f1 gL=>?_];apply#[_,Z,_,Z,lt,d1,zs,ts,_,Z,s1 _ _ dX,tt.same s1,G.tok,G.XA,G.yF,gL,λt ht=>?_,λl2 ED H2 s2 f2 lR tz=>?_]
 ·rw[Kh,Kh];exact#[cc (G.IR t ht).1,cc (G.IR t ht).2]
 let BX:=s2 _ _ gL;let pM:=s2 _ _ (s1 _ _ hp);have p1:p≠d1:=cj pM BX nofun;have p2:p≠l2:=cj pM lR nofun;apply#[_,Z,_,Z,p,C,dx,[],Z,pM,T.cl,T.nS,by show 0<1000;decide,?_];apply#[_,Z,_,Z,p,C,dx,_,Z,az,T.cl,T.nP,by show 1<1000;decide,?_]
 let H3:Hp:=upd (upd H2 p (.ins C dx (aA wc (.ref d1) []))) p (.ins C dx (aA "sorted_pairs" (.ref l2) (aA wc (.ref d1) [])))
 have h3:∀{b o},H2 b\o->b≠p->H3 b\o:=λe ne=>by
  show upd (upd H2 p _) p _ _=_;rw[aF ne,aF ne];exact e
 have Oc:H3 p\.ins C dx (aA "sorted_pairs" (.ref l2) (aA wc (.ref d1) [])):=az
 have FE:∀{b},H3 b=none->H2 b=none:=λ{b} e=>by
  by_cases z:b=p
  ·subst z;rw[Oc] at e;cases e
  have e:upd (upd H2 p _) p _ b=none:=e;rw[aF z,aF z] at e;exact e
 have Rq:bF K H3 ED ((aZ ts).map kT):=by
  rw[La];exact Paired.bC tz λy q ⟨a,e,z⟩=>#[a,e,h3 z (cj z pM nofun)]
 apply#[_,Z,d1,_,Z,.inl (h3 BX p1.symm),λl1 jC=>?_];rw[Ul];have s4:aa H3 (upd H3 l1 (.lst ((aE hs).map V.str))):=aa.new jC;have ME:l1≠l2:=(bU (H:=H3) (h3 lR p2.symm) jC).symm;apply#[_,Z,l1,l2,aE hs,ED,aZ ts,Z,az,s4 _ _ (h3 lR p2.symm),Rq.same s4,G.ux,by rw[G.fQ];have:=G.h8;omega,ME,λd3 as H5 s5 f5 la jS lists=>?_];let Nw:=s5 _ _ (s4 _ _ Oc);apply#[_,Z,p,C,dx,_,Z,Nw,T.cl,T.nN,by show 2<1000;decide,?_]
 have up:∀{b o},H2 b\o->b≠p->upd H5 p (.ins C dx (bZ d1 l2 d3)) b\o:=λe ne=>by
  rw[aF ne];exact s5 _ _ (s4 _ _ (h3 e ne))
 have pW:∀{b},upd H3 l1 (.lst ((aE hs).map V.str)) b=none->H b=none:=λe=>s1.free (s2.free (FE (s4.free e)));have N3:d3≠p:=(bU (s4 _ _ Oc) f5).symm;apply k (p::d1::l2::d3::as) _ (λb o e ne=>up (s2 _ _ (s1 _ _ e)) ne) #[dx,d1,l2,d3,ED,as,Z,az,up BX p1.symm,up lR p2.symm,?_,?_,la,λi n a e1 e2=>?_] λb hb=>?_
 ·exact Paired.bC (Rq.same (s4.trans s5)) λy q ⟨a,e,z⟩=>#[a,e,by rw[aF (cj z Nw nofun)];exact z]
 ·rw[aF N3];exact jS
 ·let#[q1,q2]:=lists i n a e1 e2;rw[aF (cj q2 Nw nofun)];exact q2
 simp only[bW] at hb;rcases hb with rfl|rfl|rfl|rfl|hb
 ·exact .inl Z
 ·exact .inr f1
 ·exact .inr (s1.free f2)
 ·exact .inr (pW f5)
 let#[i,hi,e]:=rZ hb;have e1:as[i]? = some b:=by rw[dE hi,e]
 have hn:i<(aE hs).length:=by omega
 exact .inr (pW (lists i _ b (dE hn) e1).1)
end
end Ev
namespace Ev
open PySem L2
structure bf (P:Ad) (w:Af) (K:af) (mg:Str->Option Aa) (base:Heap) (C:Addr) (k:Nat) (m:Str) (ps:ae) (sp:Sp):Prop where
 ex:∃f fd,ag P w K mg base bc k f fd ps sp/\Meth K C m f/\l8 K fd ps []
theorem eL{X:Cx}{C:Addr}{k:Nat}{m:Str}{ps:ae}{sp:Sp}{pos apos:Pos}{o e:Expr}{es:List Expr}{ta:TE}{t:TA}{pl:Sem Bool}(c:bf X.prog X.w X.K X.mg X.base C k m ps sp)(cl:oN X.K C)(hr:aK k X.A)(he:PE X o ta)(ha:PA X (e::es) t)
  (ja:starEach (e::es) X.env=(false,eval e X.env)::starEach es X.env:=by rfl) (fJ:(backTo pos (starEach es X.env)).any (·.1)=false:=by rfl)
  (ht:eval (.Call (.Attribute o m apos) (e::es) [] pos) X.env=(do
   let ov <- eval o X.env
   standAt apos.atName
   let (f,first) <- holding [ov] (getMethod ov m pl)
   callWith pos f first (backTo pos (starEach (e::es) X.env)) (backToKw pos (keywordEach [] X.env))):=by rfl) :
  PE X (.Call (.Attribute o m apos) (e::es) [] pos) (oS C m sp [] E0 ta t):=by
 let#[f,fd,F,hm,b]:=c.ex;exact _F he cl hm F hr b .nil kl ha ja fJ ht
theorem wx{X:Cx}{C:Addr}{k:Nat}{m:Str}{ps:ae}{sp:Sp}{pos apos:Pos}{o:Expr}{ta:TE}{pl:Sem Bool}(c:bf X.prog X.w X.K X.mg X.base C k m ps sp)(cl:oN X.K C)(hr:aK k X.A)(he:PE X o ta)
  (ht:eval (.Call (.Attribute o m apos) [] [] pos) X.env=(do
   let ov <- eval o X.env
   standAt apos.atName
   let (f,first) <- holding [ov] (getMethod ov m pl)
   callWith pos f first (backTo pos (starEach [] X.env)) (backToKw pos (keywordEach [] X.env))):=by rfl) :
  PE X (.Call (.Attribute o m apos) [] [] pos) (oS C m sp [] E0 ta dJ):=by
 let#[f,fd,F,hm,b]:=c.ex;exact jn_ he cl hm F hr b .nil kl ht
theorem gh_{hs:Xa}(nd:(hs.map (·.1)).Nodup){x:Str}{n:Int}(h:(x,n)∈hs):br (cU hs) (Sum.inr x)\.int n:=by
 have m:((Sum.inr x:Key),V.int n)∈cU hs:=by
  unfold cU;apply bD.mpr #[kH (x,n),(oE _).mem_iff.mpr (bD.mpr #[_,h,Z]),Z]
 let nk:=VU nd;generalize cU hs=kvs at m nk
 induction kvs with
 |nil=>cases m
 |cons p r ih=>
  let#[n1,n2]:=qU.mp nk;rcases bW.mp m with e|m
  ·rw[<- e];exact CT Z
  rw[CU (λe:p.1=Sum.inr x=>n1 (bD.mpr #[_,m,e.symm]))];exact ih m n2
theorem hY_{ns:ae}{as:ai}(nd:ns.Nodup)(la:as.length=ns.length){i:Nat}{n:Str}(hn:ns[i]? = some n):∃a,as[i]? = some a/\br (jF ns as) (Sum.inr n)\.ref a:=by
 induction ns generalizing as i with
 |nil=>simp at hn
 |cons x ns ih=>
  cases as with
  |nil=>cases la
  |cons b as=>
   let#[n1,n2]:=qU.mp nd;cases i with
   |zero=>
    have e:x=n:=⇑hn
    subst e;exact#[b,Z,CT Z]
   |succ i=>
    have hn:ns[i]? = some n:=⇑hn
    let#[a,h1,h2]:=ih n2 ⇑la hn;apply#[a,by simpa using h1,?_];show br ((Sum.inr x,V.ref b)::jF ns as) (Sum.inr n)=_;rw[CU λe=>n1 (by rw[show x=n from iC e];exact dD hn)];exact h2
section v
theorem yN:bq jX jX (aL xb):=bE
inductive ka (K:af) (C:Addr) (vs:aj) (H:Hp) (Q:VK) (E:XK):Prop
 |mk:∀(p:Addr) (x:Str) (hs:Xa) (ts:Xb) (fp:ai),vs=[.ref p,.str x]->ft K C H p hs ts fp->Q (.bl (decide (x∈hs.map (·.1)))) H->ka K C vs H Q E
theorem ZX{f C:Addr}{fd:Ae}(F:a_ K "has_hand" "Web.has_hand" xb f fd)(T:Txt K mg C)(B:Bi mg):!ag bc 1 f fd jX (ka K C):=by
 exists F.bH yN;let#[p,x,hs,ts,fp,rfl,W,k]:=h;let hu:=gz hr;let#[dx,d1,l2,d3,zs,as,rfl,h1,h2,h3,h4,h5,h6,h7]:=W.ex;apply#[_,aI (bg (oj (cb jn (by rfl) B.gm gA %[1,iQ (v:=.ty "str") (by rfl) B.str Ed Z|0]) (oi (D6 (D7 hu (pv 1) (cZ (pv 0) Z)))))),?_];apply#[_,Z,_,_,_,_,Z,.str x,Z,_,Z,bK ?_];apply#[_,Z,_,Z,p,C,dx,_,_,Z,h1,T.cl,T.nS,JX _ _ _,d1,_,Z,.k (k:=Sum.inr x) h2,?_];rw[Kh];exact k
theorem w9:bq gW gW (aL mX):=bE
inductive Ei (K:af) (C:Addr) (vs:aj) (H:Hp) (Q:VK) (E:XK):Prop
 |mk:∀(p:Addr) (hs:Xa) (ts:Xb) (fp:ai),vs=[.ref p]->ft K C H p hs ts fp->(∀l,H l=none->Q (.ref l) (upd H l (.lst ((aE hs).map V.str))))->Ei K C vs H Q E
theorem iY_{f C:Addr}{fd:Ae}(F:a_ K "hands" "Web.hands" mX f fd)(T:Txt K mg C)(B:Bi mg):!ag bc 1 f fd gW (Ei K C):=by
 exists F.bH w9;let#[p,hs,ts,fp,rfl,W,k]:=h;let#[dx,d1,l2,d3,zs,as,rfl,h1,h2,h3,h4,h5,h6,h7]:=W.ex;apply#[_,aI (bg (jM (P5 Z) (by rfl) B.list zU %[cZ (pv 0) Z|0])),?_];apply#[_,Z,p,C,dx,_,_,Z,h1,T.cl,T.nS,JX _ _ _,d1,_,Z,.inl h2,λl hl=>?_];rw[Ul];exact k l hl
theorem e5':bq jZ jZ (aL Qo):=bE
inductive Ep (K:af) (C:Addr) (vs:aj) (H:Hp) (Q:VK) (E:XK):Prop
 |mk:∀(p:Addr) (x:Str) (n:Int) (hs:Xa) (ts:Xb) (fp:ai),vs=[.ref p,.str x]->ft K C H p hs ts fp->(hs.map (·.1)).Nodup->(x,n)∈hs->Q (.int n) H->Ep K C vs H Q E
theorem eO_{f C:Addr}{fd:Ae}(F:a_ K "strength" "Web.strength" Qo f fd)(T:Txt K mg C)(cH:!bf C 1 "has_hand" jX (ka K C)):!ag bc 2 f fd jZ (Ep K C):=by
 apply F.bH e5' λaD A outer s H vs Q E hr h=>?_;let#[p,x,n,hs,ts,fp,rfl,W,nd,hx,k]:=h;let hu:=gz hr;let#[dx,d1,l2,d3,zs,as,rfl,h1,h2,h3,h4,h5,h6,h7]:=id W.ex;apply#[_,ay (bA (eJ (eB (eL cH T.cl hr (pv 0) %[1|0]))) d0 bB) (aI (bg (mi hu (cZ (pv 0) Z) (pv 1)))),?_];apply#[_,Z,p,dx,_,Z,h1,iP _ _ _ Z0 Z0 Z0,_,Z,p,x,hs,ts,_,Z,W,_,Z,?_];rw[cc (bD.mpr #[_,hx,Z])];apply aR ?_;apply#[_,Z,p,C,dx,_,_,Z,h1,T.cl,T.nS,JX _ _ _,_,Z,d1,_,Z,?_,k];rw[<- gh_ nd hx];exact .k (k:=Sum.inr x) h2
theorem wZ:bq jZ jZ (aL mR):=bE
inductive KG (K:af) (C:Addr) (vs:aj) (H:Hp) (Q:VK) (E:XK):Prop
 |mk:∀(p:Addr) (x:Str) (hs:Xa) (ts:Xb) (fp:ai),vs=[.ref p,.str x]->ft K C H p hs ts fp->(aE hs).Nodup->x∈hs.map (·.1)->(∀l,H l=none->Q (.ref l) (upd H l (.lst ((near (aE hs) (aZ ts) x).map V.str))))->KG K C vs H Q E
theorem Sd{H:Hp}{hs:Xa}{ts:Xb}{as:ai}{x:Str}(nd:(aE hs).Nodup)(hx:x∈hs.map (·.1))(la:as.length=(aE hs).length)
  (h7:∀(i:Nat) n a,(aE hs)[i]? = some n->as[i]? = some a->H a\.lst ((near (aE hs) (aZ ts) n).map V.str)):∃a,br (jF (aE hs) as) (Sum.inr x)\.ref a/\H a\.lst ((near (aE hs) (aZ ts) x).map V.str):=by
 let#[i,hi,e]:=rZ ((jm hs).mem_iff.mpr hx);have hn:(aE hs)[i]? = some x:=by rw[dE hi,e]
 let#[a,h1,h2]:=hY_ nd la hn;exact⟨a,h2,h7 i x a hn h1⟩
theorem jG_{f C:Addr}{fd:Ae}(F:a_ K "neighbours" "Web.neighbours" mR f fd)(T:Txt K mg C)(B:Bi mg)(cH:!bf C 1 "has_hand" jX (ka K C)):!ag bc 2 f fd jZ (KG K C):=by
 exists F.bH wZ;let#[p,x,hs,ts,fp,rfl,W,nd,hx,k]:=h;let hu:=gz hr;let#[dx,d1,l2,d3,zs,as,rfl,h1,h2,h3,h4,h5,h6,h7]:=id W.ex;let#[a,e1,ha]:=Sd nd hx h6 h7;apply#[_,ay (bA (eJ (eB (eL cH T.cl hr (pv 0) %[1|0]))) d0 bB) (aI (bg (jM ev_ (by rfl) B.list zU %[mi hu (cZ (pv 0) Z) (pv 1)|0]))),?_];apply#[_,Z,p,dx,_,Z,h1,iP _ _ _ Z0 Z0 Z0,_,Z,p,x,hs,ts,_,Z,W,_,Z,?_];rw[cc hx];apply aR ?_;apply#[_,Z,p,C,dx,_,_,Z,h1,T.cl,T.nN,Of _ _ _,_,Z,d3,.ref a,Z,?_,a,_,Z,.inl (.of ha),k];rw[<- e1];exact .k (k:=Sum.inr x) h5
theorem AJ:bq lZ lZ (aL tJ):=bE
theorem Hr{H:Hp}:∀ns:ae,Paired (rS H) (ns.map V.str) ns
 |[]=>.nil
 |_::ns=>.cons Z (Hr ns)
theorem wW:bq gW gW (aL mJ):=bE
inductive OW (K:af) (C:Addr) (vs:aj) (H:Hp) (Q:VK) (E:XK):Prop
 |mk:∀(p:Addr) (hs:Xa) (ts:Xb) (fp:ai),vs=[.ref p]->ft K C H p hs ts fp->ts.length<64->(∀l zs H',aa H H'->H l=none->H' l\.lst zs->bF K H' zs ((aZ ts).map kT)->Q (.ref l) H')->OW K C vs H Q E
theorem iT_{f C:Addr}{fd:Ae}(F:a_ K "ties" "Web.ties" mJ f fd)(T:Txt K mg C)(cA:!bx 1 "ties_anew" ["ties"] (sW K)):!ag bc 2 f fd gW (OW K C):=by
 exists F.bH wW;let#[p,hs,ts,fp,rfl,W,bY,k]:=h;let#[dx,d1,l2,d3,zs,as,rfl,h1,h2,h3,h4,h5,h6,h7]:=W.ex;apply#[_,aI (bg (bt cA hr %[cZ (pv 0) Z|0])),?_];exact#[_,Z,p,C,dx,_,_,Z,h1,T.cl,T.nP,_o _ _ _,l2,zs,aZ ts,Z,h3,h4,by rw[Ib];omega,k]
theorem AO:bq gW gW (aL tQ):=bE
def gj(hs:Xa)(ts:Xb):List Int:=(aE hs).map λn=>((near (aE hs) (aZ ts) n).length:Int)
inductive my (K:af) (C:Addr) (vs:aj) (H:Hp) (Q:VK) (E:XK):Prop
 |mk:∀(p:Addr) (hs:Xa) (ts:Xb) (fp:ai),vs=[.ref p]->ft K C H p hs ts fp->0<(aE hs).length->(aE hs).length<=1000->(∀m H',aa H H'->m∈gj hs ts->(∀a∈gj hs ts,a<=m)->Q (.int m) H')->my K C vs H Q E
theorem kG_{f C:Addr}{fd:Ae}(F:a_ K "most_neighbours" "Web.most_neighbours" tQ f fd)(T:Txt K mg C)(B:Bi mg):!ag bc 1 f fd gW (my K C):=by
 exists F.bH AO;let#[p,hs,ts,fp,rfl,W,h0,h8,k]:=h;let sz:=cm;let#[dx,d1,l2,d3,zs,as,rfl,h1,h2,h3,h4,h5,h6,h7]:=W.ex
 apply#[_,aI (bg (cb (iJ_ Z) (by rfl) B.max PyProof.Rows.Boot.«max» %[kC_ (p9 ["row"] 1 [] (kS_ (UK (cZ (pv 0) Z))) (λfp s H=>gM (i:=0) (show (["row"]:ae).Nodup by decide +kernel) Z (Or.inl Z)) (λfp s H=>k7)
  (λfp s H=>cb (Qz (K:=K)) (by rfl) B.len kX %[0|0]))|0])),?_]
 apply#[d3,_,h5,_,Z,p,C,dx,_,_,Z,h1,T.cl,T.nN,Of _ _ _,d3,_,Z,h5,λv hv=>?_];have s1:aa H (upd H v (wo v d3)):=aa.new hv;apply#[v,d3,_,Z,az,s1 _ _ h5,λo D hD=>?_]
 have lk:(jF (aE hs) as).length=(aE hs).length:=by
  unfold jF;rw[aB,List.length_zip];omega
 have Im:∀{b u},H b\u->u≠.dK (jF (aE hs) as)->upd (upd H v (wo v d3)) d3 (.frz o (.dK (jF (aE hs) as))) b\u:=λe ne=>by
  rw[aF (cj e h5 ne)];exact s1 _ _ e
 apply Ky (own:=1) (fv:=[]) Z fU (aE hs).length (λi out H'=>aa (upd (upd H v (wo v d3)) d3 (.frz o (.dK (jF (aE hs) as)))) H'/\H' D\.lst out/\out=((gj hs ts).take i).map V.int) #[aa.new hD,az,Z] (λout H' ⟨sm,gr,eo⟩=>?_) (λi out H' hi ⟨sm,gr,eo⟩=>?_)
 ·let hf:=sm _ _ (show upd (upd H v (wo v d3)) d3 (.frz o (.dK (jF (aE hs) as))) d3\_ from az);have Dd:D≠d3:=cj gr hf nofun;have ll:(gj hs ts).length=(aE hs).length:=by unfold gj;rw[aB]
  rw[<- ll,fX] at eo;apply#[#[hf,by omega],o,hf,D,gj hs ts,Z,.of ?_,by omega,λm hm hle=>k m _ (λb u e=>?_) hm hle]
  ·rw[aF Dd,gr,eo]
  by_cases z:b=d3
  ·subst z;rw[az,<- h5];exact e
  rw[aF z];exact sm _ _ (by rw[aF z];exact s1 _ _ e)
 let hf:=sm _ _ (show upd (upd H v (wo v d3)) d3 (.frz o (.dK (jF (aE hs) as))) d3\_ from az);apply#[#[hf,by omega],λx H2 y=>?_];let#[eH,kk,hk]:=y;subst eH;have hn:(aE hs)[i]? = some (aE hs)[i]:=dE hi;have ha:as[i]? = some (as[i]' Z1):=dE Z1
 have ex:x=.ref (as[i]' Z1):=by
  unfold jF at hk;rw[dQ,dE (by rw[List.length_zip];omega),List.getElem_zip] at hk;exact (Prod.mk.inj (dG hk)).2.symm
 subst ex;let Nt:=h7 i _ _ hn ha;apply#[_,Z,Z,λNx hN=>fg ?_];apply#[_,Z,_,_,Z,.inl (.of (sm _ _ (Im Nt nofun))),out,gr,?_,hN _ _ #[j2 sm hD,az,?_]]
 ·rw[eo,aB,fA];unfold gj;rw[aB];omega
 rw[Ex _ (show (gj hs ts)[i]? = some (((near (aE hs) (aZ ts) (aE hs)[i]).length:Nat):Int) by unfold gj;rw[dQ,hn];rfl),eo,aB]
end
end Ev
namespace L2
open PySem PySem.Spec PyProof.Rows PySem.W
def IK(K:af)(a:Addr):It:=
 #[λi H=>∃xs x,dH K H a xs/\xs[i]? = some x,λi H y H'=>∃t x,y=.ref t/\H t=none/\(∀xs,dH K H a xs->xs[i]? = some x)/\H'=upd H t (.tup [.int i,x]),λi H=>∃xs,dH K H a xs/\xs.length=i]
theorem Inv.jr{X:Cx}{pins:List (Addr × Obj)}{σ:St}{H:Hp}{s:Ab}{h':Heap}{t':Nat}{fp:ai}{T:Addr}{xs:aj}{its:ak}(I:Inv X pins σ H s)(k:∀b o,b∉fp->s.heap.get? b\o->h'.get? b\o)(hf:∀b∈fp,cy X pins H b)
  (hT:s.heap.objs.size<=T) (hz:xs.length<=sizeLine) (r:Vals xs its) (ht:IsTup h' T its.toArray/\∃o,h'.get? T\o/\o.dict=none):Inv X pins σ (upd H T (.tup xs)) { s with heap:=h',toks:=t' }:=by
 have fT:H T=none:=I.au.fresh hT;have nf:∀b u,H b\u->b∉fp:=λb u e hb=>by rw[(hf b hb).1] at e;cases e
 have old:∀{b u},H b\u->upd H T (.tup xs) b\u:=λe=>by rw[aF (bU e fT)];exact e
 apply I.step (g':=s.gens) (d':=s.drawn) (ch:=fp) (λb hb=>?_) (λb o _ _ hc e _=>k b o hc e) (λb o _ _ hc e _=>#[o.slots,k b o hc e]) (λb o _ e n=>?_)
  (λb o hc e=>#[o,k b o hc e]) (λb ys e=>old e) (λb o u e=>old e) (λb ps e=>#[#[],by rw[Array.append_empty];exact old e]) (λm hm=>?_) (λb u e=>?_) I.bare
 ·let#[f0,f1,f2,f3,f4,f5]:=hf b hb;exact#[f3,f1,f4,f5]
 ·rw[aF (λz=>by subst z;exact absurd (bN e) (Nat.not_lt.mpr hT))];exact n
 ·let#[o,es,ep,ho,r]:=hm;exact#[o,es,ep,k _ o (λhb=>(hf _ hb).2.1 Z) ho,r]
 by_cases z:b=T
 ·subst z;rw[az] at e;cases e;exact#[hz,its,r,ht]
 rw[aF z] at e;apply (I.au b u e).cQ (λc v hc q=>k c v ?_ q) (λ_ q=>old q) λ_ _ q=>old q;rcases hc with z|z
 ·rw[z];exact nf b u e
 exact nf c _ z
theorem Inv.js{X:Cx}{pins:List (Addr × Obj)}{σ:St}{H:Hp}{s:Ab}{h':Heap}{t':Nat}{fp:ai}(I:Inv X pins σ H s)(k:∀b o,b∉fp->s.heap.get? b\o->h'.get? b\o)(hf:∀b∈fp,cy X pins H b):Inv X pins σ H { s with heap:=h',toks:=t' }:=by
 have nf:∀b u,H b\u->b∉fp:=λb u e hb=>by rw[(hf b hb).1] at e;cases e
 apply I.step (g':=s.gens) (d':=s.drawn) (ch:=fp) (λb hb=>?_) (λb o _ _ hc e _=>k b o hc e) (λb o _ _ hc e _=>#[o.slots,k b o hc e]) (λb o _ e n=>n)
  (λb o hc e=>#[o,k b o hc e]) (λb ys e=>e) (λb o u e=>e) (λb ps e=>#[#[],by rw[Array.append_empty];exact e]) (λm hm=>?_) (λb u e=>?_) I.bare
 ·let#[f0,f1,f2,f3,f4,f5]:=hf b hb;exact#[f3,f1,f4,f5]
 ·let#[o,es,ep,ho,r]:=hm;exact#[o,es,ep,k _ o (λhb=>(hf _ hb).2.1 Z) ho,r]
 apply (I.au b u e).cQ (λc v hc q=>k c v ?_ q) (λ_ q=>q) λ_ _ q=>q;rcases hc with z|z
 ·rw[z];exact nf b u e
 exact nf c _ z
theorem hb_{P:Ad}{w:Af}{K:af}{elts:List Expr}{k:Nat}{pos:Pos}(a e it:Addr)(h1:e≠it)(h2:a≠e)(h3:a≠it):Turn P w K (.Tuple elts k pos) (IK K a) [e,it] e (λi h=>(∃old,IsEnum h e it i old)/\h.IsListIter it a i) where
 mem:=by simp
 obj:=λi h st b hb=>by
  let#[#[old,q],o,e2,c,d]:=st;rcases bW.mp hb with rfl|hb
  ·exact#[_,q,λv z=>by cases z]
  obtain rfl:b=it:=⇑hb
  exact#[o,e2,λv z=>by rw[d] at z;cases z]
 keep:=λi h h' st kk=>by
  let#[#[old,q],gH]:=st;exact#[#[old,kk e Z2 _ q],gH.at λo q2=>kk it Z2 o q2]
 item:=by
  intro X hP hw hK hc i pins s σ H E I hf st hg;subst hP hw hK;let#[xs,x,hq,hx]:=hg;let#[its,rv,p,hz]:=I.list hq;let#[u,hu,ru]:=rv.get hx;let W:=WalksT.enumerate (prog:=X.prog) (w:=X.w) (A:=X.A) (I.ok.hd hc) e it a h1 h2 h3 its.toArray
  have hi:i<its.toArray.size:=by
   simp only[cn];exact (dj.mp hu).1
  let#[old,he]:=st.1;let hit:=st.2;apply wpAny_pyNext_enum_item he hit p.isList (x:=u) (by rw[List.getElem?_toArray];exact hu) h1 λh' ho BQ JQ hsz hk=>?_;have NX:e<s.heap.objs.size:=bN he;have NR:it<s.heap.objs.size:=by let#[_,x,_]:=hit;exact bN x
  have mid:(∃x,IsEnumOut h' e it ((i:Int)+1) x s.heap.objs.size)/\h'.IsListIter it a (i+1)/\h'.IsList a its.toArray/\s.heap.objs.size≠e/\s.heap.objs.size≠it:=#[#[_,ho],BQ,p.isList.at λo x=>hk a o h2 h3 x,oF NX,oF NR];have kk:∀b o,b∉[e,it]->s.heap.get? b\o->h'.get? b\o:=λb o hb x=>hk b o (λe'=>hb (by simp[e'])) (λe'=>hb (by simp[e'])) x;have Nd:h'.IsTuple s.heap.objs.size (List.toArray [.int i s.toks,u]):=#[_,JQ,Z,_,Z];obtain⟨T,eT⟩:∃T,T=s.heap.objs.size:=#[_,Z];obtain⟨t,et⟩:∃t,t=s.toks:=#[_,Z];obtain⟨tk,Jz⟩:∃tk,tk=s.toks+1:=#[_,Z];rw[<- eT] at Nd mid JQ ⊢;have hT:s.heap.objs.size<=T:=Nat.le_of_eq eT.symm;rw[<- et] at Nd JQ;rw[<- Jz];apply#[_,Z,W.go elts k pos i T { s with heap:=h',toks:=tk } _ _ mid λiL fI MZ=>?_];have nT:T∉[e,it]:=W.apart i T h' mid
  have Nc:iL.IsTuple T (List.toArray [.int i t,u]):=by
   let#[o,q,r]:=Nd;exact#[o,MZ T o nT q,r]
  have I1:Inv X pins σ (upd H T (.tup [.int i,x])) { s with heap:=iL,toks:=tk }:=I.jr (t':=tk) (fp:=[e,it]) (its:=[.int i t,u]) (λb o hb q=>MZ b o hb (kk b o hb q)) hf hT (zl) (.cons #[t,Z] (.cons ru .nil)) #[Nc,_,MZ T _ nT JQ,Z];apply#[.ref T,_,I1,Z,#[T,x,Z,I.au.fresh hT,λys hy=>by rw[I.kq hy hq];exact hx,Z],#[?_,fI.2.1],λb hb=>?_]
  ·let#[old,q]:=fI.1;exact#[old,by simpa using q]
  rw[aF (λz:b=T=>nT (by rw[<- z];exact hb))];exact (hf b hb).1
 done:=by
  intro X hP hw hK hc i pins s σ H E I hf st hg;subst hP hw hK;let#[xs,hq,hx]:=hg;let#[its,rv,p,hz]:=I.list hq;let W:=WalksT.enumerate (prog:=X.prog) (w:=X.w) (A:=X.A) (I.ok.hd hc) e it a h1 h2 h3 its.toArray
  have hn:its.toArray.size=i:=by
   have:=rv.length;simp only[cn];omega
  apply W.done s _ _ (by rw[hn];exact#[st.1,st.2,p.isList]) λh' tk kk=>#[Z,I.js (t':=tk) (fp:=[e,it]) kk hf]
 self:=λA i s Q E st h=>by
  let#[old,q]:=st.1;exact wpAny_pyIter_enum q h
inductive uJ (K:af) (R:It->Hp->Prop) (vs:aj) (H1:Hp):Prop
 |mk:∀a,vs=[.ref a]->(∃xs,dH K H1 a xs)->R (IK K a) H1->uJ K R vs H1
def F7(K:af)(ta:TA):TI:=λσ H R=>ta σ H λvs H1=>uJ K R vs H1
theorem _V{X:Cx}{elts:List Expr}{kk:Nat}{p2:Pos}{a:Expr}{ta:TA}{p pos:Pos}(hg:Gl X "enumerate")(hm:X.mg "enumerate"=none)(ha:PA X [a] ta)(hs:starEach [a] X.env=[(false,eval a X.env)]:=by rfl):PI X (.Tuple elts kk p2) (.Call (.Name "enumerate" p) [a] [] pos) (F7 X.K ta):=by
 intro pins s σ H R I h;apply Call_ (D_ I hg hm boot_enumerate (PyProof.Rows.callWith_type1 (aQ (ha pos pins s σ H _ I h) λus s1 ⟨vs,H1,I1,r1,q1⟩=>?_) hs Z));let#[l,e,#[xs,hq],q]:=q1;subst e;cases r1 with
 |cons r rr=>
  cases rr;cases r;let#[its,rv,pl,hz]:=I1.list hq;have ll:l<s1.heap.objs.size:=by let#[_,e,_]:=pl.isList;exact bN e
  apply call_enumerate_list pl.isList λh' he hi hn kp=>?_;apply wpAny_pyIter_enum he ?_;apply#[s1.heap.objs.size+1,[s1.heap.objs.size+1,s1.heap.objs.size],_,_,H1,Z,I1.kept (t':=s1.toks) kp,hb_ l _ _ (Nat.succ_ne_self _) (dB (Nat.lt_succ_of_lt ll)) (dB ll),#[#[_,he],hi],λb hb=>?_,q]
  have e:s1.heap.objs.size<=b:=by
   rcases bW.mp hb with rfl|hb
   ·exact Nat.le_succ _
   obtain rfl:b=s1.heap.objs.size:=⇑hb
   exact bj _
  exact I1.jE e (I1.au.fresh e)
theorem jE_{K:af}{a:Addr}{xs:aj}{g:TG}{tb:TS}{D:Ends}{σ:St}{H:Hp}(Pv:vM)(h0:Pv 0 σ H)(hl:∀i σ H,i<=xs.length->Pv i σ H->dH K H a xs)
  (hs:∀i x σ H,xs[i]? = some x->Pv i σ H->∀t,H t=none->g (.ref t) σ (upd H t (.tup [.int i,x])) λfO H2=>tb { D with nx:=Pv (i+1),ct:=Pv (i+1),bk:=D.nx } fO H2) (hd:∀σ H,Pv xs.length σ H->D.nx σ H) :
  ∃W:Nat->Nat->St->Hp->Prop,(∃m,W 0 m σ H)/\∀i m σ H,W i m σ H->
   ((IK K a).stop i H/\D.nx σ H)∨((IK K a).go i H/\∃N:St->Hp->Prop,(∀ba H',N ba H'->∃m',m'<m/\W (i+1) m' ba H')/\∀x H',(IK K a).wJ i H x H'->g x σ H' λfO H2=>tb { D with nx:=N,ct:=N,bk:=D.nx } fO H2):=by
 apply#[λi m σ H=>m=xs.length - i/\i<=xs.length/\Pv i σ H,#[xs.length,by simp,hG _,h0],?_];rintro i m σ H ⟨rfl,hi,p⟩;let q:=hl i σ H hi p;by_cases dX:i<xs.length
 ·apply .inr #[#[xs,xs[i],q,by simp[dX]],Pv (i+1),λba H' p'=>#[xs.length - (i+1),by omega,Z,dX,p'],λx H' y=>?_];let#[t,x,rfl,ht,y,rfl]:=y;exact hs i x σ H (y xs q) p t ht
 have e:i=xs.length:=by omega
 subst e;exact .inl #[#[xs,q,Z],hd σ H p]
theorem Nk(a b c:Str):F2 (.str a) [.str b,.str c]=(decide (b=a) || decide (c=a)):=by
 have e:∀x y:Str,iY (.str x) (.str y)=decide (x=y):=λx y=>by
  have:=SM (a:=Sum.inr x) (b:=Sum.inr y) Z;rw[show iY (.str x) (.str y)=iY (kV (Sum.inr x)) (kV (Sum.inr y)) from Z,this];by_cases z:x=y
  ·simp[z]
  simp[z]
 unfold F2;simp only[List.any_cons,List.any_nil,Bool.or_false,e]
end L2
namespace Ev
open PySem L2
abbrev tZ:Stmt:=top 69
abbrev mZ:Stmt:=top 72
abbrev L_:Stmt:=top 21
abbrev KM:Stmt:=top 31
abbrev Ke:Stmt:=top 32
abbrev mT:Stmt:=top 70
abbrev mL:Stmt:=top 71
abbrev m_:Stmt:=top 64
abbrev OH:Stmt:=top 65
abbrev Pq:Stmt:=top 66
abbrev Hd:Stmt:=top 67
abbrev HD:Stmt:=top 24
abbrev Pb:Stmt:=top 25
abbrev L9:Stmt:=top 22
abbrev tP:Stmt:=top 26
abbrev Oz:Stmt:=top 27
abbrev QB:Stmt:=top 60
abbrev Kp:Stmt:=top 14
abbrev iT:Stmt:=top 34
abbrev Ka:Stmt:=top 35
abbrev tX:Stmt:=top 36
abbrev A4:Stmt:=top 37
abbrev A3:Stmt:=top 38
abbrev Pr:Stmt:=top 39
abbrev O3:Stmt:=top 40
abbrev Qr:Stmt:=top 41
abbrev HE:Stmt:=top 42
abbrev O5:Stmt:=top 43
abbrev kg:Stmt:=top 44
abbrev OI:Stmt:=top 46
abbrev Qw:Stmt:=top 47
abbrev Pt:Stmt:=top 45
abbrev OG:Stmt:=top 33
abbrev OE:Stmt:=top 73
abbrev mQ:Stmt:=top 49
abbrev mM:Stmt:=top 50
abbrev OL:Stmt:=top 51
abbrev mP:Stmt:=top 52
abbrev mK:Stmt:=top 28
abbrev dn:Stmt:=top 78
def bb(l:Addr)(H H':Hp):Prop:=∀b o,H b\o->b≠l->H' b\o
theorem bb.refl(l:Addr)(H:Hp):bb l H H:=λ_ _ e _=>e
theorem bb.trans{l:Addr}{H H1 H2:Hp}(h:bb l H H1)(h2:bb l H1 H2):bb l H H2:=λb o e n=>h2 b o (h b o e n) n
theorem bb.of{l:Addr}{H H1:Hp}(h:aa H H1):bb l H H1:=λb o e _=>h b o e
theorem bb.upd{l:Addr}{H:Hp}{o:HO}:bb l H (upd H l o):=λb u e n=>by rw[aF n];exact e
def cB(H:Hp)(l:Addr):Prop:=∃a b c:Int,H l\.lst [.int a,.int b,.int c]
theorem cB.some{H:Hp}{l:Addr}(h:cB H l):∃xs,H l\.lst xs:=by
 let#[a,b,c,e]:=h;exact#[_,e]
theorem cB.same{H H':Hp}{l:Addr}(h:cB H l)(s:aa H H'):cB H' l:=by
 let#[a,b,c,e]:=h;exact#[a,b,c,s _ _ e]
theorem cB.ne{H:Hp}{l a:Addr}(h:cB H l)(e:H a=none):a≠l:=by
 rintro rfl;let#[x,y,z,h]:=h;rw[e] at h;cases h
theorem bb.free{l b:Addr}{H H':Hp}(h:bb l H H')(s:cB H' l)(e:H' b=none):H b=none:=by
 cases z:H b with
 |none=>rfl
 |some o=>
  by_cases q:b=l
  ·subst q;let#[x,y,u,s]:=s;rw[e] at s;cases s
  rw[h b o z q] at e;cases e
theorem qM{α:Type}{xs:List α}{i:Int}(h0:0<=i)(h1:i<xs.length):oC xs i=xs[i.toNat]?:=by
 unfold oC zf;rw[aJ h0,aJ h1];rfl
section v
end
end Ev
namespace Ev
open PySem L2
end Ev
namespace Ev
open PySem L2
section
theorem K_{K:af}{H H':Hp}{l:Addr}{ys:aj}{ks:List ax}(t:bF K H ys ks)(b:bb l H H'){xs:aj}(hl:H l\.lst xs):bF K H' ys ks:=Paired.bC t λy k ⟨a,z,q⟩=>#[a,z,b _ _ q (cj q hl nofun)]
theorem UP{K:af}{H:Hp}{D:Addr}{ns:ae}(h:H D\.lst (ns.map V.str)):rL K rS H (.ref D) ns:=#[D,_,Z,.of h,Hr ns]
end
end Ev
namespace Ev
open PySem L2
def kO(t:Str × Str):ax:=kT (aX t.1 t.2)
structure TI (ns:ae) (k j:Nat) (ts:Xb):Prop where
 at':∀t∈ts,∃(a b:Nat) (x y:Str),b<a/\(a<k∨(a=k/\b<j))/\ns[a]? = some x/\ns[b]? = some y/\(t=(x,y)∨t=(y,x))
 nd:(ts.map kO).Nodup
 len:ts.length<=7 * k+j
theorem JY{a b:Str × Str}(h:kT a=kT b):a=b:=by
 unfold kT at h;let#[h1,h2]:=List.cons.inj h;let#[h2,_]:=List.cons.inj h2;exact Prod.ext (iC h1) (iC h2)
end Ev
namespace Ev
open PySem L2
theorem gP_{a b:Str}(h:Bm a b=true):Bm b a=false:=U1 (a:=Sum.inr a) (b:=Sum.inr b) h
theorem kb_{a b:Str}(h:Bm a b=false)(h2:Bm b a=false):a=b:=iC (Tu (a:=Sum.inr a) (b:=Sum.inr b) h h2)
theorem gB_(a b:Str):aX a b=aX b a:=by
 unfold aX;by_cases h:Bm a b=true
 ·rw[aJ h,aC (by rw[gP_ h];decide)]
 by_cases h2:Bm b a=true
 ·rw[aC h,aJ h2]
 have:=kb_ ⇑h ⇑h2;subst this;rw[aC h]
theorem U5{ts:Xb}{x:Str × Str}:x∈aZ ts ↔ ∃t∈ts,aX t.1 t.2=x:=by
 have e:kT x∈(aZ ts).map kT ↔ x∈aZ ts:=#[λh=>by
  let#[y,hy,e]:=bD.mp h;rw[<- JY e];exact hy,λh=>bD.mpr #[x,h,Z]]
 rw[<- e,La,(oE _).mem_iff,bD];exact#[λ⟨t,ht,q⟩=>#[t,ht,JY q],λ⟨t,ht,q⟩=>#[t,ht,by rw[q]]]
end Ev
namespace L2
open PySem PySem.Spec PyProof.Rows
section
variable{X:Cx}
end
end L2
namespace L2
open PySem PySem.Spec PyProof.Rows PySem.Builtin PySem.Builtin.Str
section
variable{X:Cx}
end
end L2
namespace L2
open PySem PySem.Spec PyProof.Rows PySem.W
section
variable{X:Cx}
end
end L2
namespace Ev
open PySem L2
theorem xJ{α:Type}{p:α->Prop}{xs:List α}{r:Int}{n:Nat}(hn:xs.length=n)(h0:0<=r)(h1:r<(n:Int))(h:∀v∈xs,p v):∃v,oC xs r\v/\p v:=by
 have hl:r.toNat<xs.length:=by omega
 apply#[xs[r.toNat],?_,h _ (oH hl)];rw[qM h0 Z1,dE hl]
section v
theorem AZ:bq qe qe (aL tZ):=bE
def sV(K:af):Sp:=λvs H Q _=>∃(l:Addr) (ns:List Int) (k:Int),vs=[.ref l,.int k]/\0<=k/\dH K H l (ns.map V.int)/\∀n,Q (.int n) H
theorem _K{f:Addr}{fd:Ae}(F:a_ K "_law_cell_at" "_law_cell_at" tZ f fd)(B:Bi mg):!ag bc 1 f fd qe (sV K):=by
 exists F.bH AZ;let#[l,ns,i,rfl,h0,hl,k]:=h;apply#[_,ay (bA (di Zt (pv 1) (cb qR (by rfl) B.len kX %[0|0])) (aI (bg (bP gN (pv 0) (pv 1)))) bB) (aI (bg aM)),?_];apply#[_,Z,_,Z,l,_,Z,.inl hl,_,_,Z,Z,_,Z,?_];apply aO (λc=>?_) (λc=>?_)
 ·have c:i<(ns.map V.int).length:=⇑c
  have e:oC (ns.map V.int) i\.int (ns[i.toNat]'(by rw[aB] at c;omega)):=by
   rw[qM h0 c,dQ,dE (by rw[aB] at c;omega)];rfl
  exact#[_,Z,_,Z,l,_,_,_,Z,Z,hl,e,k _]
 exact k 0
theorem Ox:bq ["_law_number"] ["_law_number"] (aL mT):=bE
def oY:Sp:=λvs H Q _=>∃n:Int,vs=[.int n]/\∀r:Int,Q (.int r) H
theorem small(x:Int):-(2 ^ 64)<x % 2147483647/\x % 2147483647<2 ^ 64:=by
 let a:=z_ x (show (2147483647:Int)≠0 by decide);let b:=Df x (show (0:Int)<2147483647 by decide);omega
theorem sX(x:Int):-(2 ^ 64)<x % 2147483647+1/\x % 2147483647+1<2 ^ 64:=by
 let a:=z_ x (show (2147483647:Int)≠0 by decide);let b:=Df x (show (0:Int)<2147483647 by decide);omega
theorem j2_{f:Addr}{fd:Ae}(F:a_ K "_law_mixed" "_law_mixed" mT f fd):!ag bc 1 f fd ["_law_number"] oY:=by
 exists F.bH Ox;let#[n,rfl,k]:=h;refine' #[_,ay ?s1 (ay ?s2 ?s3),?kk]
 case s1=>exact bw 0 Ox.nd (b_ wA (b_ rP (b_ p0 (b_ wA (pv 0) aM) aM) aM) aM)
 case s2=>exact bw 0 Ox.nd (b_ wA (b_ rP (pv 0) (b_ p0 (b_ zO (pv 0) aM) aM)) aM)
 case s3=>exact aI (bg (b_ wA (b_ rP (b_ p0 (pv 0) aM) (b_ p0 (b_ zO (pv 0) aM) aM)) aM))
 apply#[_,Z,_,_,Z,Z,by show (0:Int)<2147483647;decide,_,_,Z,Z,_,_,Z,Z,.inl (sX n),_,_,Z,Z,by show (0:Int)<2147483647;decide,?_];apply#[_,Z,_,Z,_,_,Z,Z,#[by decide,by decide],_,_,Z,Z,_,_,Z,Z,.inl (small _),_,_,Z,Z,by show (0:Int)<2147483647;decide,?_];exact#[_,Z,_,_,Z,Z,_,Z,_,_,Z,Z,#[by decide,by decide],_,_,Z,Z,_,_,Z,Z,.inl (sX _),_,_,Z,Z,by show (0:Int)<2147483629;decide,k _]
theorem wX:bq ["_law_cell","_law_k"] ["_law_cell","_law_k"] (aL mL):=bE
def oX:Sp:=λvs H Q _=>∃(c:Int) (i:Nat),vs=[.int c,.int i]/\i<100/\∀l H',aa H H'->H l=none->cB H' l->Q (.ref l) H'
theorem jf_{f:Addr}{fd:Ae}(F:a_ K "_law_state" "_law_state" mL f fd):!ag bc 1 f fd ["_law_cell","_law_k"] oX:=by
 exists F.bH wX;let#[c,i,rfl,hi,k]:=h;apply#[_,aI (bg (dC %[b_ zO (pv 0) aM,b_ wA (pv 0) aM,b_ p0 (pv 0) (b_ rP aM (pv 1))|0])),?_];apply#[_,Z,_,_,Z,Z,#[by decide,by decide],_,Z,_,_,Z,Z,by show (0:Int)<2;decide,_,Z,_,Z,_,_,Z,Z,.inl #[by decide,by decide],_,_,Z,Z,zl,λl hl=>?_];exact k l _ (aa.new hl) hl #[_,_,_,az]
theorem pe:bq [rN,"_law_base","_law_found"] lB (aL mZ):=bE
def Ko:Sp:=λvs H Q _=>∃(l:Addr) (b:Int),vs=[.ref l,.int b]/\0<b/\b<1073741824/\cB H l/\∀r H',0<=r->r<b->bb l H H'->cB H' l->Q (.int r) H'
theorem jA_{f:Addr}{fd:Ae}(F:a_ K "_law_digit" "_law_digit" mZ f fd)(cM:!bx 1 "_law_mixed" ["_law_number"] oY):!ag bc 2 f fd lB Ko:=by
 exists F.bH pe;let#[l,b,rfl,h0,h1,#[x,y,z,hl],k]:=h;refine' #[_,ay ?s1 (ay ?s2 ?s3),?kk]
 case s1=>exact bA (Ec (di i4 (bP gN (pv 0) aM) aM) (HV (di DS (bP gN (pv 0) aM) aM))).pt (ay (bw 2 pe.nd (b_ wA (bP gN (pv 0) aM) (pv 1))) (ay (N7 (b_ zO (bP gN (pv 0) aM) (pv 1)) (Sm (pv 0) aM Ub)) (aI (bg (pv 2))))) bB
 case s2=>exact N7 (bt cM hr %[b_ p0 (bP gN (pv 0) aM) aM|0]) (Sm (pv 0) aM Ub)
 case s3=>exact aI (bg (b_ wA (b_ zO (bP gN (pv 0) aM) aM) (pv 1)))
 have other:∀{R:Prop},R->R:=λh=>h;apply#[_,Z,l,_,_,_,Z,Z,.of hl,Z,Z,_,Z,?_];apply aO (λc=>?_) (λc=>?_)
 ·apply#[_,Z,l,_,_,_,Z,Z,.of hl,Z,_,_,Z,Z,_,Z,?_];apply aO (λc2=>?_) (λc2=>?_)
  ·apply#[_,Z,l,_,_,_,Z,Z,.of hl,Z,_,Z,_,_,Z,Z,h0,?_];apply#[_,Z,l,_,_,_,Z,Z,.of hl,Z,_,Z,_,_,Z,Z,#[h0,h1],_,Z,l,_,_,0,Z,Z,hl,Z,?_];exact#[_,Z,k _ _ (z_ _ Z1) (Df _ h0) bb.upd #[_,_,_,az]]
  apply#[_,Z,l,_,_,_,Z,Z,.of hl,Z,_,_,Z,Z,_,Z,λr=>#[_,Z,l,_,_,2,Z,Z,hl,Z,?_]];apply#[_,Z,l,_,_,_,Z,Z,.of az,Z,_,_,Z,Z,#[by decide,by decide],_,Z,_,_,Z,Z,h0,?_];exact k _ _ (z_ _ Z1) (Df _ h0) bb.upd #[_,_,_,az]
 apply#[_,Z,l,_,_,_,Z,Z,.of hl,Z,_,_,Z,Z,_,Z,λr=>#[_,Z,l,_,_,2,Z,Z,hl,Z,?_]];apply#[_,Z,l,_,_,_,Z,Z,.of az,Z,_,_,Z,Z,#[by decide,by decide],_,Z,_,_,Z,Z,h0,?_];exact k _ _ (z_ _ Z1) (Df _ h0) bb.upd #[_,_,_,az]
end
end Ev
namespace Ev
open PySem L2
theorem dW{t u:TS}{D:Ends}{σ:St}{H:Hp}(R:lG)(later:∀σ H,R σ H->u D σ H)(now:∀N:St->Hp->Prop,(∀σ H,R σ H->N σ H)->t { D with nx:=N } σ H):qo t u D σ H:=now (u D) later
theorem setG{i:Nat}{v:V}{σ:St}{H:Hp}{N:lG}(h:N (σ.set i (some v)) H):jL i v σ H N:=h
theorem cB.upd{H:Hp}{l a:Addr}{o:HO}(h:cB H l)(n:a≠l):cB (L2.upd H a o) l:=by
 let#[x,y,z,e]:=h;exact#[x,y,z,by rw[aF n.symm];exact e]
theorem bb.snd{l a:Addr}{H H':Hp}{o:HO}(h:bb l H H')(e:H a=none):bb l H (L2.upd H' a o):=λb u q n=>by
 rw[aF (bU q e)];exact h b u q n
end Ev
local macro_rules|`(tactic|lk)=>`(tactic|(refine Ev.setG ?_;dsimp only))
namespace Ev
open PySem L2
theorem UF(ys:aj)(k:Nat):kL ys none (some (k:Int))=ys.take k:=by
 unfold kL;rw[HT.tS,HT.w_,List.drop_zero,Nat.sub_zero];by_cases h:k<=ys.length
 ·rw[Nat.min_eq_left h]
 rw[Nat.min_eq_right Z1,Ey (bj _),Ey Z1]
end Ev
namespace Ev
open PySem L2
theorem UW{α:Type}{ps:List (Str × α)}(nd:(ps.map (·.1)).Nodup){a b:Str × α}(ha:a∈ps)(hb:b∈ps)(e:a.1=b.1):a=b:=by
 induction ps with
 |nil=>cases ha
 |cons p ps ih=>
  rw[eV,qU] at nd;rcases bW.mp ha with za|ha
  ·rcases bW.mp hb with zb|hb
   ·rw[za,zb]
   rw[za] at e;exact absurd (show p.1∈ps.map (·.1) from bD.mpr #[b,hb,e.symm]) nd.1
  rcases bW.mp hb with zb|hb
  ·rw[zb] at e;exact absurd (show p.1∈ps.map (·.1) from bD.mpr #[a,ha,e]) nd.1
  exact ih nd.2 ha hb
def strOf(hs:Xa)(n:Str):Int:=((hs.find? λh=>decide (h.1=n)).map (·.2)).getD 0
theorem zQ{hs:Xa}{n:Str}(h:n∈hs.map (·.1)):(n,strOf hs n)∈hs:=by
 unfold strOf;let#[x,hx,e]:=bD.mp h;cases q:hs.find? λh=>decide (h.1=n) with
 |none=>
  have:=List.find?_eq_none.mp q x hx;simp[e] at this
 |some y=>
  let m:=List.mem_of_find?_eq_some q;have:=List.find?_some q;have e2:y.1=n:=⇑this
  show (n,y.2)∈hs;rw[<- e2];exact m
theorem iO_{hs:Xa}(nd:(hs.map (·.1)).Nodup){n:Str}{s:Int}(h:(n,s)∈hs):strOf hs n=s:=by
 let m:=zQ (bD.mpr #[_,h,Z]:n∈hs.map (·.1));exact eA Prod.snd (UW nd m h Z)
theorem iR_{a b:Int}(ha:0<=a)(h:0<b):Int.gcd b (a % b)=Int.gcd a b:=by
 let#[m,rfl]:=zY ha;let#[n,rfl]:=zY (Int.le_of_lt h);rw[<- Int.natCast_emod];show Nat.gcd n (m % n)=Nat.gcd m n;rw[Nat.gcd_comm n,<- Nat.gcd_rec,Nat.gcd_comm]
theorem Zo{a b:Int}(hb:0<b)(pS:b<=2000000):0<(Int.gcd a b:Int)/\(Int.gcd a b:Int)<1073741824:=by
 have h1:0<Int.gcd a b:=Int.gcd_pos_of_ne_zero_right a Z1;have h2:(Int.gcd a b:Int) ∣ b:=Int.gcd_dvd_right a b;let h3:=Int.le_of_dvd hb h2;omega
section v
theorem qr:bq ["one","other","rest","divisor","left"] rE (aL L_):=bE
def E3:Sp:=λvs H Q _=>∃a b:Int,vs=[.int a,.int b]/\0<=a/\0<b/\Q (.int (Int.gcd a b)) H
theorem Zj{f:Addr}{fd:Ae}(F:a_ K "greatest_divisor" "greatest_divisor" L_ f fd):!ag bc 1 f fd rE E3:=by
 exists F.bH qr;let#[a,b,rfl,ha,hb,k]:=h;refine' #[_,ay ?s1 (ay ?s2 (ay ?s3 ?s4)),?kk]
 case s1=>exact bw 2 qr.nd (pv 0)
 case s2=>exact bw 3 qr.nd (pv 1)
 case s3=>exact iK_ ie (di zC (pv 2) aM) (ay (bw 4 qr.nd (b_ wA (pv 3) (pv 2))) (ay (bw 3 qr.nd (pv 2)) (aI (bw 2 qr.nd (pv 4)))))
 case s4=>exact aI (bg (pv 3))
 apply#[_,Z,_,Z,?_];apply jp_ (λσ H'=>H'=H/\∃(r d:Int) (v4:aV),σ=[some (.int a),some (.int b),some (.int r),some (.int d),v4]/\0<=r/\0<d/\Int.gcd r d=Int.gcd a b) (λσ _=>match σ with | [_,_,some (.int r),_,_]=>r.toNat|_=>0) #[Z,a,b,none,Z,ha,hb,Z] ?_ ?_
 ·rintro σ H' ⟨rfl,r,d,v4,rfl,hr0,hd,e⟩;apply#[_,Z,Z,_,Z,?_];apply aO (λc=>?_) (λc=>?_)
  ·have kF:0<r:=by
    have:r≠0:=by
     intro z;subst z;simp at c
    omega
   apply#[_,Z,_,Z,_,_,Z,Z,kF,_,Z,_,Z,?_];let h1:=z_ d (Int.ne_of_gt kF);let h2:=Df d kF;apply#[#[Z,_,_,_,Z,h1,kF,?_],?_]
   ·rw[<- e,Int.gcd_comm (d % r) r,iR_ (Int.le_of_lt hd) kF,Int.gcd_comm]
   show (d % r).toNat<r.toNat;omega
  have kF:r=0:=⇑c
  subst kF;apply#[_,Z,?_]
  have e2:(Int.gcd a b:Int)=d:=by
   rw[<- e,Int.gcd_zero_left];omega
  rw[<- e2];exact k
 intro σ H' Q1 Q2 hq h;let#[x,e,h1,c,h2,h3]:=h;exact#[x,e,h1,c,h2,hq _ _ h3]
end
end Ev
namespace L2
open PySem PySem.Spec PyProof.Rows
def Kg(w:Af)(l:List (Str × Tok × Aa)):List Ah:=l.map λx=>#[hashStr w x.1,.str x.1 x.2.1,x.2.2]
def lH(K:af)(w:Af)(d:Addr)(kvs:List (Str × V)):Prop:=
 (d == sysModules)=false/\(kvs.map (·.1)).Nodup/\∃(l:List (Str × Tok × Aa)) (o:Obj) (es:Array Ah) (ep:Nat),K.lookup d\o/\o.ExactDict/\o.data=.dict es ep/\es.toList=Kg w l/\Paired (λ(p:Str × V) (x:Str × Tok × Aa)=>p.1=x.1/\RelV p.2 x.2.2) kvs l
theorem UI{P:Ad}{w:Af}:∀{l:List (Str × Tok × Aa)},Pairs (d_ P w) (Kg w l) (l.map λx=>((Sum.inr x.1:Key),x.2.2))
 |[]=>.nil
 |x::l=>.cons (QW P w x.1 x.2.1) Z (UI (l:=l))
theorem T4{kvs:List (Str × V)}{l:List (Str × Tok × Aa)}(h:Paired (λ(p:Str × V) (x:Str × Tok × Aa)=>p.1=x.1/\RelV p.2 x.2.2) kvs l):kvs.map (·.1)=l.map (·.1):=by
 induction h with
 |nil=>rfl
 |cons a _ ih=>rw[eV,eV,ih,a.1]
theorem lH.of{P:Ad}{K:af}{w:Af}{d:Addr}{kvs:List (Str × V)}{h:Heap}(k:lH K w d kvs)(X:K.In h):∃l:List (Str × Tok × Aa),Paired (λ(p:Str × V) (x:Str × Tok × Aa)=>p.1=x.1/\RelV p.2 x.2.2) kvs l/\h.DictOf (d_ P w) d (l.map λx=>((Sum.inr x.1:Key),x.2.2)):=by
 let#[_,nd,l,o,es,ep,ho,hx,hd,he,hp]:=k;apply#[l,hp,o,es,ep,X _ _ ho,hx,hd,λe m=>?_,?_,?_]
 ·have m:e∈Kg w l:=by
   rw[<- he];simpa using m
  let#[x,_,rfl]:=bD.mp m;exact#[Sum.inr x.1,QW P w x.1 x.2.1,Z]
 ·rw[he];exact UI
 rw[T4 hp] at nd;rw[bV,vC,vE];rw[vC,vE] at nd;exact nd.imp λn e=>n (iC e)
theorem k9_{kvs:List (Str × V)}{l:List (Str × Tok × Aa)}(h:Paired (λ(p:Str × V) (x:Str × Tok × Aa)=>p.1=x.1/\RelV p.2 x.2.2) kvs l)(nd:(kvs.map (·.1)).Nodup){z:Str}{v:V}(m:(z,v)∈kvs):∃u,valueAt (l.map λx=>((Sum.inr x.1:Key),x.2.2)) (Sum.inr z)\u/\RelV v u:=by
 unfold valueAt
 induction h with
 |nil=>cases m
 |@cons p x kvs l a _ ih=>
  rw[eV] at nd ⊢;rw[yg];let#[n1,n2]:=qU.mp nd;by_cases e:x.1=z
  ·rcases bW.mp m with m|m
   ·subst m;apply#[x.2.2,?_,a.2];simp[e]
   exact absurd (by rw[a.1,e];exact bD.mpr #[_,m,Z]) n1
  rcases bW.mp m with m|m
  ·subst m;exact absurd a.1.symm e
  have:=ih n2 m;simp[e];simpa using this
theorem gT_{kvs:List (Str × V)}{l:List (Str × Tok × Aa)}(h:Paired (λ(p:Str × V) (x:Str × Tok × Aa)=>p.1=x.1/\RelV p.2 x.2.2) kvs l)(z:Str):(valueAt (l.map λx=>((Sum.inr x.1:Key),x.2.2)) (Sum.inr z)).isSome=decide (z∈kvs.map (·.1)):=by
 rw[T4 h];unfold valueAt;rw[Option.isSome_map,List.isSome_find?];rw[Bool.eq_iff_iff,List.any_eq_true,decide_eq_true_iff];constructor
 ·rintro⟨kv,hm,e⟩;let#[x,hx,rfl]:=bD.mp hm;have e:(Sum.inr x.1:Key)=Sum.inr z:=⇑e
  exact bD.mpr #[x,hx,iC e]
 intro m;let#[x,hx,e]:=bD.mp m;exact#[_,bD.mpr #[x,hx,Z],by simp[e]]
section
variable{X:Cx}{o i:Expr}{pos:Pos}{td ty:TE}
inductive yA (K:af) (w:Af) (Q:VK) (y:V) (x:V) (H2:Hp):Prop
 |mk:∀d kvs z,x=.ref d->lH K w d kvs->y=.str z->Q (.bl (decide (z∈kvs.map (·.1)))) H2->yA K w Q y x H2
def LI(K:af)(w:Af)(ty td:TE):TE:=λσ H Q=>ty σ H λy H1=>td σ H1 λx H2=>yA K w Q y x H2
theorem Sw(hi:PE X i ty)(ho:PE X o td):PC X .In i o (LI X.K X.w ty td):=by
 intro pins s σ H Q I h;apply aQ (hi pins s σ H _ I h) λiv s1 ⟨y,H1,I1,ry,q1⟩=>aQ (ho pins s1 σ H1 _ I1 q1) λu s2 ⟨x,H2,I2,rx,d,kvs,z,ex,kd,ey,q2⟩=>?_;subst ex;subst ey;obtain rfl:u=Value.ref d:=rx;let#[l,hp,dd]:=kd.of (P:=X.prog) I2.fj;apply wpAny_in_of (v_ (k:=Sum.inr z) ry) kd.1 dd.mapOf ?_;rw[gT_ hp];exact#[.bl _,H2,I2.tok _,Z,q2]
inductive sH (K:af) (w:Af) (Q:VK) (x:V) (y:V) (H2:Hp):Prop
 |mk:∀d kvs z v,x=.ref d->lH K w d kvs->y=.str z->(z,v)∈kvs->Q v H2->sH K w Q x y H2
def EV(K:af)(w:Af)(td ty:TE):TE:=λσ H Q=>td σ H λx H1=>ty σ H1 λy H2=>sH K w Q x y H2
theorem _J(ho:PE X o td)(hi:PE X i ty)(hs:yl i):PE X (.Subscript o i pos) (EV X.K X.w td ty):=by
 intro pins s σ H Q I h;apply Os PySem.F.slot_dict_getitem.lookup hs (aQ (ho pins s σ H _ I h) λu s1 ⟨x,H1,I1,rx,q1⟩=>aQ (hi pins s1 σ H1 _ I1 q1) λiv s2 ⟨y,H2,I2,ry,d,kvs,z,v,ex,kd,ey,hm,q2⟩=>?_);subst ex;subst ey;obtain rfl:u=Value.ref d:=rx;let#[l,hp,dd]:=kd.of (P:=X.prog) I2.fj;let#[w',hw,gI]:=k9_ hp kd.2.1 hm;exact#[dd.mapOf.typeIs,wpAny_getItem_of (v_ (k:=Sum.inr z) ry) dd.mapOf hw #[v,H2,I2.tok _,gI,q2]]
end
end L2
namespace Ev
open PySem L2
abbrev Rl:=Str × Str × Str × Option Str
def rl:List Rl:=[("least one high","least","one",some "high"),("least one fall","least","one",some "fall"),("least one calm","least","one",some "calm"),("least all high","least","all",some "high"),("least all fall","least","all",some "fall"),("least all calm","least","all",some "calm"),("below one high","below","one",some "high"),("below one fall","below","one",some "fall"),("below one calm","below","one",some "calm"),("below all high","below","all",some "high"),("below all fall","below","all",some "fall"),("below all calm","below","all",some "calm"),("shares one","shares","one",none),("shares all","shares","all",none),("turns high","turns","all",some "high"),("turns fall","turns","all",some "fall"),("turns calm","turns","all",some "calm")]
def uk:Option Str->V
 |some x=>.str x
 |none=>.non
def du:ae:=rl.map (·.1)
theorem ih_:du.Nodup:=by decide +kernel
def RF(as:ai):List (Str × V):=List.zipWith (λ(r:Rl) a=>(r.1,V.ref a)) rl as
structure HF (K:af) (w:Af) (mg:Str->Option Aa) (d:Addr) (as:ai):Prop where
 mg:mg "RULES"\.ref d
 len:as.length=17
 kd:lH K w d (RF as)
 tup:Paired (λa (r:Rl)=>∀H,iD K H a [.str r.2.1,.str r.2.2.1,uk r.2.2.2]) as rl
theorem Qn{as:ai}(h:as.length=17):(RF as).map (·.1)=du:=by
 have:∀(rs:List Rl) (as:ai),as.length=rs.length->(List.zipWith (λ(r:Rl) a=>(r.1,V.ref a)) rs as).map (·.1)=rs.map (·.1):=by
  intro rs
  induction rs with
  |nil=>intro as _;rfl
  |cons r rs ih=>
   intro as e;cases as with
   |nil=>cases e
   |cons a as=>
    rw[List.zipWith_cons_cons,eV,eV,ih as ⇑e]
 exact this rl as h
theorem So{K:af}:∀{rs:List Rl} {as:ai},Paired (λa (r:Rl)=>∀H,iD K H a [.str r.2.1,.str r.2.2.1,uk r.2.2.2]) as rs->∀r∈rs,∃a,(r.1,V.ref a)∈List.zipWith (λ(r:Rl) a=>(r.1,V.ref a)) rs as/\∀H,iD K H a [.str r.2.1,.str r.2.2.1,uk r.2.2.2]
 |_,_,.nil,r,h=>by cases h
 |r0::rs,a::as,.cons h t,r,m=>by
  rw[List.zipWith_cons_cons];rcases bW.mp m with rfl|m
  ·exact#[a,eZ,h]
  let#[b,hb,hs]:=So t r m;exact#[b,dZ _ hb,hs]
def nC(ns:ae):Option Str->Bool
 |some x=>decide (x∈ns)
 |none=>false
section v
theorem U_:bq fu fu (aL KM):=bE
def U9:Sp:=λvs H Q _=>∃r∈rl,vs=[.str r.1]/\Q (.bl true) H
theorem h5_{f d:Addr}{as:ai}{fd:Ae}(F:a_ K "is_rule" "is_rule" KM f fd)(B:Bi mg)(R:HF K w mg d as):!ag bc 1 f fd fu U9:=by
 exists F.bH U_;let#[r,eC,rfl,k]:=h;apply#[_,aI (bg (oj (cb jn (by rfl) B.gm gA %[0,iQ (v:=.ty "str") (by rfl) B.str Ed Z|0]) (oi (D6 (Sw (pv 0) (rR (v:=.ref d) (by rfl) R.mg Z)))))),?_];apply#[_,Z,_,_,_,_,Z,.str r.1,Z,_,Z,bK #[_,Z,d,_,r.1,Z,R.kd,Z,?_]];rw[Qn R.len,show decide (r.1∈du)=true from cc (bD.mpr #[r,eC,Z])];exact k
theorem o7:bq ["rule"] ["rule"] (aL Ke):=bE
def HQ(K:af):Sp:=λvs H Q _=>∃r∈rl,vs=[.str r.1]/\∀a,(∀H',iD K H' a [.str r.2.1,.str r.2.2.1,uk r.2.2.2])->Q (.ref a) H
theorem Ux{f d:Addr}{as:ai}{fd:Ae}(F:a_ K we we Ke f fd)(R:HF K w mg d as)(cI:!bx 1 "is_rule" fu U9):!ag bc 2 f fd ["rule"] (HQ K):=by
 exists F.bH o7;let#[r,eC,rfl,k]:=h;apply#[_,ay (bA (eJ (eB (bt cI hr %[0|0]))) (aI jd_) bB) (aI (bg (_J (rR (v:=.ref d) (by rfl) R.mg Z) (pv 0) (λ_ _=>rfl)))),?_];let#[a,ha,hs]:=So R.tup r eC;exact#[_,Z,r,eC,Z,_,Z,aR #[_,Z,d,_,r.1,.ref a,Z,R.kd,Z,ha,k a hs]]
end
end Ev
namespace HT
open PySem PySem.Spec PyProof.Rows
section
variable{prog:Ad}{w:Af}{A:Ag}{E:Aa->Ab->Prop}{s:Ab}
end
end HT
namespace L2
open PySem PySem.Spec PyProof.Rows
section
variable{X:Cx}{e st:Expr}{te ts:TE}{pos p2:Pos}
end
end L2
namespace Ev
open PySem L2
structure oI (ts ws:Xb):Prop where
 good:∀w∈ws,pV w
 nd:(ws.map kO).Nodup
 F1:∀w∈ws,kO w∈ts.map kO
 len:ws.length<=ts.length
def dS(K:af)(H:Hp)(v:V):Option (Xb)->Prop
 |none=>v=.non
 |some ws=>∃a ys,v=.ref a/\H a\.lst ys/\bF K H ys (ws.map kT)
theorem dS.same{K:af}{H H':Hp}{v:V}{o:Option (Xb)}(h:dS K H v o)(s:aa H H'):dS K H' v o:=by
 cases o with
 |none=>exact h
 |some ws=>
  let#[a,ys,e,ha,t]:=h;exact#[a,ys,e,s _ _ ha,t.same s]
abbrev Pc:=Str × Int × Option (Xb)
def vJ(K:af)(H:Hp)(y:V)(p:Pc):Prop:=∃t v,y=.ref t/\H t\.tup [.str p.1,.int p.2.1,v]/\dS K H v p.2.2
abbrev vI(K:af)(H:Hp)(ys:aj)(ps:List Pc):Prop:=Paired (vJ K H) ys ps
structure lI (ts:Xb) (p:Pc):Prop where
 nm:i6 p.1=true
 w1:1<=p.2.1
 w2:p.2.1<=1000000000
 ws:∀ws,p.2.2\ws->oI ts ws
theorem vJ.same{K:af}{H H':Hp}{y:V}{p:Pc}(h:vJ K H y p)(s:aa H H'):vJ K H' y p:=by
 let#[t,v,e,ht,hv]:=h;exact#[t,v,e,s _ _ ht,hv.same s]
end Ev
abbrev aH:=List Ev.Pc
namespace Ev
open PySem L2
theorem qb{α β:Type}{F:α->β->Prop}:∀{ys Rk:List α} {ks uC:List β},Paired F ys ks->Paired F Rk uC->Paired F (ys++Rk) (ks++uC)
 |_,_,_,_,.nil,h=>h
 |_,_,_,_,.cons a t,h=>.cons a (qb t h)
def fH(K:af)(H:Hp)(v:V):Option Str->Prop
 |some x=>v=.str x
 |none=>∃t,bp K H v t/\PySem.W.kitOne K t (.type "str")\false
def j5(hs:Xa)(ts:Xb):Option Str->Option Str->Bool
 |some x,some y=>decide (x∈hs.map (·.1))&&(decide (y∈hs.map (·.1))&&decide (y∈near (aE hs) (aZ ts) x))
 |_,_=>false
theorem PM(hs:Xa)(ts:Xb)(x y:Str):j5 hs ts (some x) (some y)=(decide (x∈hs.map (·.1))&&(decide (y∈hs.map (·.1))&&decide (y∈near (aE hs) (aZ ts) x))):=rfl
section v
inductive Hf (K:af) (C:Addr) (vs:aj) (H:Hp) (Q:VK) (E:XK):Prop
 |mk:∀(p:Addr) (v:V) (x:Option Str) (hs:Xa) (ts:Xb) (fp:ai),vs=[.ref p,v]->ft K C H p hs ts fp->fH K H v x->Q (.bl (nC (hs.map (·.1)) x)) H->Hf K C vs H Q E
theorem kd_{f C:Addr}{fd:Ae}(F:a_ K "has_hand" "Web.has_hand" xb f fd)(T:Txt K mg C)(B:Bi mg):!ag bc 1 f fd jX (Hf K C):=by
 exists F.bH yN;let#[p,v,x,hs,ts,fp,rfl,W,sv,k]:=h;let hu:=gz hr;let#[dx,d1,l2,d3,zs,as,rfl,h1,h2,h3,h4,h5,h6,h7]:=W.ex;apply#[_,aI (bg (oj (cb jn (by rfl) B.gm gA %[1,iQ (v:=.ty "str") (by rfl) B.str Ed Z|0]) (oi (D6 (D7 hu (pv 1) (cZ (pv 0) Z)))))),?_];cases x with
 |some x=>
  cases (show v=.str x from sv);apply#[_,Z,_,_,_,_,Z,.str x,Z,_,Z,bK ?_];apply#[_,Z,_,Z,p,C,dx,_,_,Z,h1,T.cl,T.nS,JX _ _ _,d1,_,Z,.k (k:=Sum.inr x) h2,?_];rw[Kh];exact k
 |none=>
  let#[t,ty,e]:=sv;exact#[_,Z,_,_,_,_,Z,ty,e,_,Z,aR k]
inductive Kr (K:af) (C:Addr) (vs:aj) (H:Hp) (Q:VK) (E:XK):Prop
 |mk:∀(p:Addr) (v u:V) (x y:Option Str) (hs:Xa) (ts:Xb) (fp:ai),vs=[.ref p,v,u]->ft K C H p hs ts fp->(aE hs).Nodup->fH K H v x->fH K H u y->Q (.bl (j5 hs ts x y)) H->Kr K C vs H Q E
theorem ji_{f C:Addr}{fd:Ae}(F:a_ K "are_tied" "Web.are_tied" tJ f fd)(T:Txt K mg C)(cH:!bf C 1 "has_hand" jX (Hf K C)):!ag bc 2 f fd lZ (Kr K C):=by
 exists F.bH AJ;let#[p,v,u,x,y,hs,ts,fp,rfl,W,nd,sv,su,k]:=h;let hu:=gz hr;let#[dx,d1,l2,d3,zs,as,rfl,h1,h2,h3,h4,h5,h6,h7]:=id W.ex;have jB:(bZ d1 l2 d3).lookup ("has_hand":Str)=none:=iP _ _ _ Z0 Z0 Z0;apply#[_,aI (bg (oj (eL cH T.cl hr (pv 0) %[1|0]) (oj (eL cH T.cl hr (pv 0) %[2|0]) (oi (qP (GU i0 (ow hr 0)) (pv 2) (mi hu (cZ (pv 0) Z) (pv 1)) (by with_unfolding_all rfl)))))),?_];apply#[_,Z,p,dx,_,Z,h1,jB,_,Z,p,v,x,hs,ts,_,Z,W,sv,_,Z,?_];cases x with
 |none=>exact aR k
 |some x=>
  cases (show v=.str x from sv);apply aO (λc=>?_) (λc=>?_)
  ·have hx:x∈hs.map (·.1):=ye c;let#[a,e1,ha]:=Sd nd hx h6 h7;apply#[_,Z,p,dx,_,Z,h1,jB,_,Z,p,u,y,hs,ts,_,Z,W,su,_,Z,?_];cases y with
   |none=>exact aR k
   |some y=>
    cases (show u=.str y from su);rw[PM,cc hx,Bool.true_and] at k;apply aO (λc2=>?_) (λc2=>?_)
    ·have hy:y∈hs.map (·.1):=ye c2;rw[cc hy,Bool.true_and] at k;apply#[_,Z,_,Z,p,C,dx,_,_,Z,h1,T.cl,T.nN,Of _ _ _,_,Z,d3,.ref a,Z,?_,y,_,Z,#[a,_,Z,.of ha,Hr _],k];rw[<- e1];exact .k (k:=Sum.inr x) h5
    have hy:¬y∈hs.map (·.1):=λz=>c2 (cc z);rw[dc hy,Bool.false_and] at k;exact k
  have hx:¬x∈hs.map (·.1):=λz=>c (cc z);cases y with
  |none=>exact k
  |some y=>
   rw[PM,dc hx,Bool.false_and] at k;exact k
theorem jB_{hs:Xa}{ts ws:Xb}(G:Good hs ts)(W:oI ts ws){t:Str × Str}(ht:t∈aZ ws):j5 hs ts (some t.1) (some t.2)=true:=by
 let#[x,hx,ex]:=U5.mp ht;let#[u,hu,eu]:=bD.mp (W.F1 x hx);have eo:aX u.1 u.2=t:=(JY eu).trans ex
 have both:t.1∈hs.map (·.1)/\t.2∈hs.map (·.1)/\aX t.1 t.2=t:=by
  let#[g1,g2]:=G.IR u hu;rcases SW u.1 u.2 with e|e
  ·rw[<- eo,e];exact#[g1,g2,e]
  rw[<- eo,e];exact#[g2,g1,(gB_ _ _).trans e]
 let#[m1,m2,m3]:=both;have m4:t.2∈near (aE hs) (aZ ts) t.1:=List.mem_filter.mpr #[(jm hs).mem_iff.mpr m2,cc (by rw[m3];exact U5.mpr #[u,hu,eo])];rw[PM,cc m1,cc m2,cc m4];rfl
theorem Kl:bq ["web","ways","found","one","other"] ["web","ways"] (aL m_):=bE
inductive OD (K:af) (C:Addr) (vs:aj) (H:Hp) (Q:VK) (E:XK):Prop
 |mk:∀(p:Addr) (v:V) (o:Option (Xb)) (hs:Xa) (ts:Xb) (fp:ai),vs=[.ref p,v]->ft K C H p hs ts fp->Good hs ts->dS K H v o->(∀ws,o\ws->oI ts ws)->(∀v' H',aa H H'->dS K H' v' (o.map aZ)->(∀a,v'=.ref a->H a=none)->Q v' H')->OD K C vs H Q E
theorem iD_{f C:Addr}{fd:Ae}(F:a_ K "checked_ways" "checked_ways" m_ f fd)(T:Txt K mg C)(cS:!bx 3 "sorted_ties" ["ties"] (Ph K))(cT:!bf C 2 "are_tied" lZ (Kr K C)):!ag bc 4 f fd ["web","ways"] (OD K C):=by
 exists F.bH Kl;let#[p,v,o,hs,ts,fp,rfl,W,G,wy,gw,k]:=h;let hu:=gz hr;have uL:aK 2 _:=hr.mono (by decide)
 apply#[_,ay (bA (yb (J4 (pv 1))) (aI (bg CC)) bB)
  (ay (bw 2 Kl.nd (bt cS hr %[1|0]))
  (ay (bA (yb (J4 (pv 2))) d0 bB)
  (ay (f_ ie Z (fB (pv 2)) (rQ Z (fo (dR 3 Kl.nd) (fo (dR 4 Kl.nd) oy)))
   (aI (bA (eJ (eB (eL cT T.cl uL (pv 0) %[3,4|0]))) d0 bB)))
  (aI (bg (pv 2)))))),?_]
 cases o with
 |none=>
  cases (show v=.non from wy);exact#[_,Z,_,Z,bK (k .non H (aa.refl H) Z (λa z=>by cases z))]
 |some ws=>
  let#[a,ys,rfl,ha,tu]:=wy;let Wo:=gw ws Z;apply#[_,Z,_,Z,aR ?_];apply#[_,Z,a,ys,ws,Z,ha,tu,Wo.good,Wo.nd,by have:=Wo.len;have:=G.yF;omega,λl' zs H1 s1 hf jC tz=>?_];apply#[_,Z,_,Z,aR ?_];let W1:=W.same s1;let#[dx,d1,l2,d3,jq,as,rfl,h1,h2,h3,h4,h5,h6,h7]:=id W1.ex;have jB:(bZ d1 l2 d3).lookup ("are_tied":Str)=none:=iP _ _ _ Z0 Z0 Z0;rw[<- La] at tz;apply#[_,Z,l',Z,#[_,.of jC],k8 (K:=K) (a:=l') (xs:=zs) (λi σ H2=>∃(v3 v4:aV),σ=[some (.ref p),some (.ref a),some (.ref l'),v3,v4]/\H2=H1) #[none,none,Z,Z] (λi σ H2 _ ⟨_,_,_,e⟩=>by subst e;exact .of jC) ?_ ?_]
  ·rintro i y σ H2 hy ⟨v3,v4,rfl,rfl⟩;let#[t,ht,q,rfl,hq]:=wG tz hy;apply#[q,_,Z,.of (BE hq),Z,_,_,Z,_,_,Z,Z,?_];apply#[_,Z,p,dx,_,Z,h1,jB,_,Z,_,Z,p,_,_,some t.1,some t.2,hs,ts,_,Z,W1,G.ux,Z,Z,_,Z,?_];rw[jB_ G Wo (dD ht)];apply aR ?_;exact#[_,_,Z,Z]
  rintro σ H2 ⟨v3,v4,rfl,rfl⟩;exact#[_,Z,k (.ref l') _ s1 #[l',zs,Z,jC,tz] (λc z=>by cases z;exact hf)]
def Bf(p:Pc):Pc:=(p.1,p.2.1,p.2.2.map aZ)
def rJ(K:af)(H0 H:Hp)(y:V)(p:Pc):Prop:=∃t v,y=.ref t/\H t\.tup [.str p.1,.int p.2.1,v]/\dS K H v p.2.2/\∀a,v=.ref a->H0 a=none
theorem rJ.same{K:af}{H0 H H':Hp}{y:V}{p:Pc}(h:rJ K H0 H y p)(s:aa H H'):rJ K H0 H' y p:=by
 let#[t,v,e,ht,hv,hn]:=h;exact#[t,v,e,s _ _ ht,hv.same s,hn]
theorem dS.up{K:af}{H:Hp}{D:Addr}{u:HO}{v:V}{o:Option (Xb)}(h:dS K H v o)(n1:∀xs,H D≠some (.lst xs))(n2:∀xs,H D≠some (.tup xs)):dS K (upd H D u) v o:=by
 cases o with
 |none=>exact h
 |some ws=>
  let#[a,ys,e,ha,t]:=h;exact#[a,ys,e,by rw[aF (λz:a=D=>n1 ys (z▸ha))];exact ha,Paired.bC t λy k ⟨b,z,q⟩=>#[b,z,by rw[aF (λz:b=D=>n2 _ (z▸q))];exact q]]
theorem rJ.up{K:af}{H0 H:Hp}{D:Addr}{u:HO}{y:V}{p:Pc}(h:rJ K H0 H y p)(n1:∀xs,H D≠some (.lst xs))(n2:∀xs,H D≠some (.tup xs)):rJ K H0 (upd H D u) y p:=by
 let#[t,v,e,ht,hv,hn]:=h;exact#[t,v,e,by rw[aF (λz:t=D=>n2 _ (z▸ht))];exact ht,hv.up n1 n2,hn]
theorem Pw{ps:aH}{cs:aj}(nd:(ps.map (·.1)).Nodup)(hl:cs.length=ps.length):∀{j:Nat} {q:Pc} {c:V},ps[j]? = some q->cs[j]? = some c->br ((ps.zip cs).map λq=>((Sum.inr q.1.1:Key),q.2)) (Sum.inr q.1)\c:=by
 induction ps generalizing cs with
 |nil=>
  intro j q c h;simp at h
 |cons p ps ih=>
  intro j q c h1 h2;cases cs with
  |nil=>cases hl
  |cons b cs=>
   rw[eV] at nd;let#[n1,n2]:=qU.mp nd;cases j with
   |zero=>
    have e1:p=q:=⇑h1
    have e2:b=c:=⇑h2
    subst e1 e2;exact CT Z
   |succ j=>
    have h1:ps[j]? = some q:=⇑h1
    have h2:cs[j]? = some c:=⇑h2
    show br ((Sum.inr p.1,b)::((ps.zip cs).map λq=>((Sum.inr q.1.1:Key),q.2))) (Sum.inr q.1)=_;rw[CU λe=>n1 (by rw[show p.1=q.1 from iC e];exact bD.mpr #[q,dD h1,Z])];exact ih n2 ⇑hl h1 h2
theorem tH:bq ["web","piece"] ["web","piece"] (aL OH):=bE
inductive O9 (K:af) (C:Addr) (vs:aj) (H:Hp) (Q:VK) (E:XK):Prop
 |mk:∀(p:Addr) (y:V) (q:Pc) (hs:Xa) (ts:Xb) (fp:ai),vs=[.ref p,y]->ft K C H p hs ts fp->Good hs ts->vJ K H y q->lI ts q->(∀y' H',aa H H'->rJ K H H' y' (Bf q)->Q y' H')->O9 K C vs H Q E
theorem ha_{f C:Addr}{fd:Ae}(F:a_ K "checked_piece" "checked_piece" OH f fd)(B:Bi mg)(cN:!bx 1 "is_name" fu Kf)(cW:!bx 2 "is_whole_within" lj OB)(cC:!bx 4 "checked_ways" ["web","ways"] (OD K C)){tk:Tok}(mW:mg "MOST_WEIGHT"\.int 1000000000 tk) :
  ag P w K mg base bc 5 f fd ["web","piece"] (O9 K C):=by
 exists F.bH tH;let#[p,y,q,hs,ts,fp,rfl,W,G,#[t,v,rfl,ht,wy],gp,k]:=h
 apply#[_,ay (bA (zE (eJ (eB (cb jn (by rfl) B.gm gA %[1,iQ (v:=.ty "tuple") (by rfl) B.tuple Hx Z|0])))
   (CJ (di zC (cb qR (by rfl) B.len kX %[1|0]) aM))).pt d0 bB)
  (ay (bA (eJ (eB (bt cN hr %[bP eQ (pv 1) aM|0]))) d0 bB)
  (ay (bA (eJ (eB (bt cW hr %[bP eQ (pv 1) aM,aM,rR (v:=.int 1000000000) (by rfl) mW #[tk,Z]|0]))) d0 bB)
  (aI (bg (g0 %[bP eQ (pv 1) aM,bP eQ (pv 1) aM,bt cC hr %[0,bP eQ (pv 1) aM|0]|0]))))),?_]
 apply#[_,Z,_,_,_,_,Z,.tup ht,Z,_,Z,aR ?_];apply#[_,Z,t,_,Z,.inr (.of ht),Z,_,Z,?_];apply uE (show V.int ((3:Nat):Int)=V.int 3 from Z) ?_;apply#[_,Z,t,_,_,_,Z,Z,.of ht,Z,q.1,Z,by have:=K0 gp.nm;omega,λH1 s1=>#[_,Z,?_]];rw[gp.nm];apply aR ?_;let JB:=s1 _ _ ht;apply#[_,Z,t,_,_,_,Z,Z,.of JB,Z,q.2.1,1,1000000000,Z,_,Z,?_];rw[cc gp.w1,cc gp.w2];apply aR ?_;apply#[_,Z,t,_,_,_,Z,Z,.of JB,Z,_,Z,t,_,_,_,Z,Z,.of JB,Z,_,Z,_,Z,t,_,_,_,Z,Z,.of JB,Z,p,v,q.2.2,hs,ts,fp,Z,W.same s1,G,wy.same s1,gp.ws,λv' H2 s2 W0 hf=>?_];apply#[zl,λt' Ga=>?_];exact k (.ref t') _ (s1.trans (s2.trans (aa.new Ga))) #[t',v',Z,az,W0.same (aa.new Ga),λa z=>s1.free (hf a z)]
theorem KZ:bq ["web","pieces","found","piece","checked"] ["web","pieces"] (aL Pq):=bE
structure Qs (ps qs:aH):Prop where
 MC:qs.map (·.1)=jk (ps.map (·.1))
 mem:∀q∈qs,∃p∈ps,q=Bf p
inductive Qu (K:af) (C:Addr) (vs:aj) (H:Hp) (Q:VK) (E:XK):Prop
 |mk:∀(p l:Addr) (ys:aj) (ps:aH) (hs:Xa) (ts:Xb) (fp:ai),vs=[.ref p,.ref l]->ft K C H p hs ts fp->Good hs ts->H l\.lst ys->vI K H ys ps->(∀q∈ps,lI ts q)->(ps.map (·.1)).Nodup->ps.length<64->(∀l' zs qs H',aa H H'->H' l'\.lst zs->Paired (rJ K H H') zs qs->Qs ps qs->Q (.ref l') H')->Qu K C vs H Q E
theorem aN{H:Hp}{a:Addr}{o:HO}(n:H a=none):aa H (upd H a o)/\upd H a o a\o:=⟨aa.new n,az⟩
theorem g1_{f C:Addr}{fd:Ae}(F:a_ K "checked_pieces" "checked_pieces" Pq f fd)(B:Bi mg)(cP:!bx 5 "checked_piece" ["web","piece"] (O9 K C)):!ag bc 6 f fd ["web","pieces"] (Qu K C):=by
 exists F.bH KZ;let#[p,l,ys,ps,hs,ts,fp,rfl,W,G,hl,pc,gp,nd,bY,k]:=h;let hu:=gz hr;let sz:=cm;let le:=bS pc
 apply#[_,ay (bA (eJ (eB (cb jn (by rfl) B.gm gA %[1,iQ (v:=.ty "list") (by rfl) B.list zU Z|0]))) d0 bB)
  (ay (bw 2 KZ.nd H_)
  (ay (f_ ie Z (fB (pv 1)) (dR 3 KZ.nd)
   (ay (bw 4 KZ.nd (bt cP hr %[0,3|0]))
   (ay (bA (yb (D7 hu (bP eQ (pv 4) aM) (pv 2))) d0 bB)
   (aI (wu hu (pv 2) (bP eQ (pv 4) aM) (pv 4) Z)))))
  (aI (bg (p9 ["name","found"] 1 [2] (fB (cb (V9 Z) (by rfl) B.sorted El %[2|0])) (λfp s H=>gM (i:=0) (show (["name","found"]:ae).Nodup by decide +kernel) Z (Or.inl Z)) (λfp s H=>k7)
   (λfp s H=>mi hu (pv 1) (pv 0))))))),?_]
 apply#[_,Z,_,_,_,_,Z,.lst hl,Z,_,Z,aR ?_];intro d hd;have s0:aa H (upd H d (.dK [])):=aa.new hd;apply#[_,Z,l,Z,#[_,.of (s0 _ _ hl)],k8 (K:=K) (a:=l) (xs:=ys) (λi σ H2=>∃(v3 v4:aV) (cs:aj),σ=[some (.ref p),some (.ref l),some (.ref d),v3,v4]/\aa H H2/\Paired (rJ K H H2) cs ((ps.take i).map Bf)/\H2 d\.dK (((ps.take i).zip cs).map λq=>(Sum.inr q.1.1,q.2))) #[none,none,[],Z,s0,.nil,az] (λi σ H2 _ ⟨_,_,_,_,s2,_⟩=>.of (s2 _ _ hl)) ?_ ?_]
 ·rintro i y σ H2 hy ⟨v3,v4,cs,rfl,s2,pn,hd2⟩;have hi:i<ys.length:=(dj.mp hy).1;have hq:ps[i]? = some (ps[i]' Z1):=dE Z1;let py:=jN pc i hi Z1;rw[(dj.mp hy).2] at py;generalize ps[i]' Z1=q at hq py;apply#[_,Z,_,Z,p,y,q,hs,ts,fp,Z,W.same s2,G,py.same s2,gp q (dD hq),λy' H3 s3 pw=>?_];let#[t,v,rfl,ht,wy,hf]:=pw;let jS:=s3 _ _ hd2;let lc:=bS pn;rw[aB,fA] at lc
  have keys:((((ps.take i).zip cs).map λq=>((Sum.inr q.1.1:Key),q.2)).map (·.1))=((ps.take i).map (·.1)).map Sum.inr:=by
   rw[bV];have:((λx:Key × V=>x.1) ∘ λq:Pc × V=>((Sum.inr q.1.1:Key),q.2))=(λp:Pc=>(Sum.inr p.1:Key)) ∘ Prod.fst:=rfl;rw[this,<- bV,List.map_fst_zip (by rw[fA];omega),bV];rfl
  have vU:br (((ps.take i).zip cs).map λq=>((Sum.inr q.1.1:Key),q.2)) (Sum.inr q.1)=none:=zX (by
   rw[keys];intro m;let#[x,hx,e]:=bD.mp m;cases e;exact Ij (g:=λp:Pc=>p.1) nd hq hx)
  apply#[_,Z,t,_,_,_,Z,Z,.of ht,Z,_,Z,d,_,Z,.k (k:=Sum.inr q.1) jS,_,Z,?_];rw[vU];apply aR ?_;apply#[_,Z,_,Z,_,Z,t,_,_,_,Z,Z,.of ht,Z,d,_,Z,.k (k:=Sum.inr q.1) jS (by rw[aB,List.length_zip,fA];omega),?_];let A8:=s2.trans s3;have n1:∀xs,H3 d≠some (.lst xs):=λxs z=>by rw[jS] at z;cases z
  have n2:∀xs,H3 d≠some (.tup xs):=λxs z=>by rw[jS] at z;cases z
  apply#[_,_,cs++[.ref t],Z,λc o e=>?_,?_,?_]
  ·rw[aF (bU e hd)];exact A8 _ _ e
  ·rw[k_,hq,eK];exact qb (Paired.bC pn λy q h=>(h.same s3).up n1 n2) (.cons (rJ.up #[t,v,Z,ht,wy,λa z=>s2.free (hf a z)] n1 n2) .nil)
  rw[az,Eo _ vU,k_,hq,List.zip_append (by rw[fA];omega),eK];rfl
 rintro σ H2 ⟨v3,v4,cs,rfl,s2,pn,hd2⟩;rw[le,fX] at pn hd2;let lc:=bS pn;rw[aB] at lc
 have keys:(((ps.zip cs).map λq=>((Sum.inr q.1.1:Key),q.2)).map (·.1))=(ps.map (·.1)).map Sum.inr:=by
  rw[bV];have:((λx:Key × V=>x.1) ∘ λq:Pc × V=>((Sum.inr q.1.1:Key),q.2))=(λp:Pc=>(Sum.inr p.1:Key)) ∘ Prod.fst:=rfl;rw[this,<- bV,List.map_fst_zip Z1,bV];rfl
 apply#[_,Z,d,_,ps.map (·.1),Z,hd2,keys,by rw[aB];exact bY,λls BM=>?_];let#[s3,xG]:=aN (o:=.lst ((jk (ps.map (·.1))).map V.str)) BM;apply#[ls,Z,#[_,.of xG],λD hD=>?_];generalize upd H2 ls (.lst ((jk (ps.map (·.1))).map V.str))=H3 at s3 xG hD ⊢;have lss:(jk (ps.map (·.1))).length=ps.length:=by rw[(zW _).length_eq,aB]
 apply qa (own:=1) (fv:=[some (.ref d)]) (xs:=(jk (ps.map (·.1))).map V.str) Z fU (λi out H'=>∃qs:aH,aa H3 H'/\H' D\.lst out/\Paired (rJ K H H2) out qs/\qs.map (·.1)=(jk (ps.map (·.1))).take i/\∀q∈qs,∃p∈ps,q=Bf p) #[[],aa.new hD,az,.nil,Z,by simp] (λi out H' _ ⟨_,sm,_⟩=>.of (sm _ _ xG)) (λzs H4 ⟨qs,s4,zv,pq,en,mem⟩=>?_) (λi x out H' hx ⟨qs,sm,gr,pq,en,mem⟩=>?_)
 ·rw[aB,fX] at en;exact k D zs qs H4 (s2.trans (s3.trans s4)) zv (Paired.bC pq λy q h=>h.same (s3.trans s4)) #[en,mem]
 let#[n,hn,rfl]:=kZ hx;have hm:n∈ps.map (·.1):=(zW _).mem_iff.mp (dD hn);let#[q,hq,eq]:=bD.mp hm;let#[j,hj,ej]:=rZ hq;have hqj:ps[j]? = some q:=by rw[dE hj,ej]
 have Td:cs[j]? = some (cs[j]' Z1):=dE Z1;let hv:=Pw nd lc hqj Td;let pj:=jN pn j Z1 (by rw[aB];omega);rw[List.getElem_map,ej] at pj;generalize cs[j]' Z1=c at Td hv pj;rw[eq] at hv;let lo:=bS pq;let lq:=eA List.length en;rw[aB,fA] at lq;have hi:i<(jk (ps.map (·.1))).length:=(dj.mp hn).1;apply#[_,Z,Z,λNx hN=>fg ?_];apply#[_,Z,_,Z,d,c,Z,?_,out,gr,by omega,hN _ _ #[qs++[Bf q],j2 sm hD,az,?_,?_,?_]]
 ·rw[<- hv];exact .k (k:=Sum.inr n) (sm _ _ (s3 _ _ hd2))
 ·exact qb pq (.cons pj .nil)
 ·rw[eK,en,k_,hn,<- eq];rfl
 intro q' hq';rcases gY.mp hq' with hq'|hq'
 ·exact mem q' hq'
 obtain rfl:q'=Bf q:=⇑hq'
 exact#[q,hq,Z]
end
end Ev
namespace Ev
open PySem L2
abbrev mY:Stmt:=jV Hd 0
abbrev tW:Stmt:=jV Hd 1
abbrev Pz:Stmt:=jV Hd 2
abbrev Pn:Stmt:=jV Hd 3
abbrev tV:Stmt:=jV Hd 5
def bJ(p dw dy:Addr):List (Str × V):=aA Cp (.ref dy) (aA rH (.ref dw) (aA "web" (.ref p) []))
theorem g12:¬(("web":Str)=rH):=by decide +kernel
theorem g13:¬(("web":Str)=Cp):=by decide +kernel
theorem g23:¬((rH:Str)=Cp):=by decide +kernel
theorem j1(p dw dy:Addr):(bJ p dw dy).lookup ("web":Str)\.ref p:=by
 unfold bJ;rw[e_,aC g13,e_,aC g12,e_,aJ Z]
theorem OV(p dw dy:Addr):(bJ p dw dy).lookup (rH:Str)\.ref dw:=by
 unfold bJ;rw[e_,aC g23,e_,aJ Z]
theorem _M(p dw dy:Addr):(bJ p dw dy).lookup (Cp:Str)\.ref dy:=by
 unfold bJ;rw[e_,aJ Z]
theorem qS(p dw dy:Addr){m:Str}(h1:¬m="web")(h2:¬m=rH)(h3:¬m=Cp):(bJ p dw dy).lookup m=none:=by
 unfold bJ;rw[e_,aC h3,e_,aC h2,e_,aC h1]
 all_goals rfl
def ml(qs:aH):List (Key × V):=qs.map λq=>(Sum.inr q.1,V.int q.2.1)
def wK(qs:aH)(vs:aj):List (Key × V):=(qs.zip vs).map λx=>(Sum.inr x.1.1,x.2)
theorem TZ(qs:aH):(ml qs).map (·.1)=(qs.map (·.1)).map Sum.inr:=by
 unfold ml;rw[bV,bV];rfl
theorem jg_{qs:aH}{vs:aj}(h:vs.length=qs.length):(wK qs vs).map (·.1)=(qs.map (·.1)).map Sum.inr:=by
 unfold wK;rw[bV];have:((λx:Key × V=>x.1) ∘ λq:Pc × V=>((Sum.inr q.1.1:Key),q.2))=(λp:Pc=>(Sum.inr p.1:Key)) ∘ Prod.fst:=rfl;rw[this,<- bV,List.map_fst_zip Z1,bV];rfl
structure fN (K:af) (CG CW:Addr) (H:Hp) (g p:Addr) (hs:Xa) (ts:Xb) (qs:aH) (fp:ai):Prop where
 ex:∃(dx dw dy:Addr) (vs:aj) (bI:ai),H g\.ins CG dx (bJ p dw dy)/\ft K CW H p hs ts bI/\H dw\.dK (ml qs)/\H dy\.dK (wK qs vs)/\Paired (λv (q:Pc)=>dS K H v q.2.2) vs qs /\
  g∈fp/\dw∈fp/\dy∈fp/\(∀b∈bI,b∈fp)/\∀v∈vs,∀a,v=.ref a->a∈fp
theorem QV{α β:Type}{F G:α->β->Prop}:∀{l:List α} {m:List β},Paired F l m->(∀a∈l,∀b,F a b->G a b)->Paired G l m
 |_,_,.nil,_=>.nil
 |_,_,.cons h t,f=>.cons (f _ eZ _ h) (QV t λa ha=>f a (dZ _ ha))
theorem dS.keep{K:af}{H H':Hp}{v:V}{o:Option (Xb)}(h:dS K H v o)(k:∀a,v=.ref a->∀u,H a\u->H' a\u)(kt:∀b xs,H b\.tup xs->H' b\.tup xs):dS K H' v o:=by
 cases o with
 |none=>exact h
 |some ws=>
  let#[a,ys,e,ha,t]:=h;exact#[a,ys,e,k a e _ ha,Paired.bC t λy q ⟨b,z,hb⟩=>#[b,z,kt _ _ hb]]
theorem fN.keep{K:af}{CG CW:Addr}{H H':Hp}{g p:Addr}{hs:Xa}{ts:Xb}{qs:aH}{fp:ai}(G:fN K CG CW H g p hs ts qs fp)(k:∀b∈fp,∀o,H b\o->H' b\o)(kt:∀b xs,H b\.tup xs->H' b\.tup xs):fN K CG CW H' g p hs ts qs fp:=by
 let#[dx,dw,dy,vs,bI,h1,h2,h3,h4,h5,m1,m2,m3,m4,m5]:=G.ex;exact#[dx,dw,dy,vs,bI,k _ m1 _ h1,h2.keep (λb hb o e=>k b (m4 b hb) o e) kt,k _ m2 _ h3,k _ m3 _ h4,QV h5 λv hv q h=>h.keep (λa z u e=>k a (m5 v hv a z) u e) kt,m1,m2,m3,m4,m5]
theorem fN.same{K:af}{CG CW:Addr}{H H':Hp}{g p:Addr}{hs:Xa}{ts:Xb}{qs:aH}{fp:ai}(G:fN K CG CW H g p hs ts qs fp)(s:aa H H'):fN K CG CW H' g p hs ts qs fp:=G.keep (λb _ o e=>s b o e) λb xs e=>s b _ e
structure c_ (K:af) (CG:Addr):Prop where
 cl:oN K CG
 nW:l_ K CG "web"
 nG:l_ K CG rH
 nY:l_ K CG Cp
structure IM (K:af) (C:Addr):Prop where
 ha:PySem.W.findIn K (.ref C) "__class__"\some (.builtin "object.__class__")
 hn:PySem.W.specialIn K (.builtin "object.__class__") "__get__"\some (.builtin "getset_descriptor.__get__")
 tk:PySem.W.takesIn K (.builtin "object.__class__")\true
 mo:PySem.W.mroIn K C (.type "object")\true
theorem iE_(K:af)(c:Aa):PySem.W.kitOne K c c\true:=by
 unfold PySem.W.kitOne;rw[aJ (beq_self_eq_true c)]
theorem Uq{K:af}{H0 H:Hp}:∀{zs:aj} {qs:aH},Paired (rJ K H0 H) zs qs->∃vs:aj,vs.length=qs.length/\Paired (λz (x:Pc × V)=>∃t,z=.ref t/\H t\.tup [.str x.1.1,.int x.1.2.1,x.2]) zs (qs.zip vs)/\Paired (λv (q:Pc)=>dS K H v q.2.2) vs qs/\∀v∈vs,∀a,v=.ref a->H0 a=none
 |_,_,.nil=>#[[],Z,.nil,.nil,by simp]
 |_,_,.cons ⟨t,v,e,ht,wy,hn⟩ r=>by
  let#[vs,h1,h2,h3,h4]:=Uq r;apply#[v::vs,by simp[h1],.cons #[t,e,ht] h2,.cons wy h3,λu hu=>?_];rcases bW.mp hu with rfl|hu
  ·exact hn
  exact h4 u hu
theorem Ue{K:af}{l D:Addr}{zs:aj}{xs:List (Pc × V)}{H:Hp}{Q:VK}{ql:St}{j:Nat}(sel:Pc × V->V)(hj:∀x:Pc × V,[some (V.str x.1.1),some (V.int x.1.2.1),some x.2][j]? = some (some (sel x)))(xy:ql=[none,none,none])(hl:H l\.lst zs)
  (pz:Paired (λz (x:Pc × V)=>∃t,z=.ref t/\H t\.tup [.str x.1.1,.int x.1.2.1,x.2]) zs xs) (zw:xs.length<=1000) (hD:H D=none)
  (q:∀H' out,aa H H'->H' D\.lst out->kW K H' out (xs.map λx=>(Sum.inr x.1.1,sel x))->Q (.ref D) H') :
  D0 (Dk K l) (iX K 3 (wm (jL 0) (wm (jL 1) (wm (jL 2) xO)))) wM (Ao (gy (gg 0) (gy (gg j) dJ))) ql D H Q:=by
 let sz:=cm;let le:=bS pz;apply qa (own:=3) (fv:=[]) (xs:=zs) xy Og (λi out H'=>aa H H'/\H' D\.lst out/\kW K H' out ((xs.take i).map λx=>(Sum.inr x.1.1,sel x))) #[aa.new hD,az,.nil] (λi out H' _ ⟨sm,_,_⟩=>.of (sm _ _ hl)) (λout H4 ⟨sm,zv,eo⟩=>?_) (λi y out H' hy ⟨sm,gr,eo⟩=>?_)
 ·rw[le,fX] at eo;exact q _ _ sm zv eo
 have hi:i<zs.length:=(dj.mp hy).1;have hx:xs[i]? = some (xs[i]' Z1):=dE Z1;let#[t,et,ht]:=jN pz i hi Z1;rw[(dj.mp hy).2] at et;subst et;generalize xs[i]' Z1=x at hx ht;let lo:=bS eo;rw[aB,fA] at lo;apply#[_,#[t,_,_,_,Z,.of (sm _ _ ht),Z],Z,λNx hN=>fg ?_];apply#[_,Z,_,hj x,zl,λp hp=>?_];let s2:=aa.new (o:=.tup [.str x.1.1,sel x]) hp;apply#[out,s2 _ _ gr,by omega,hN _ _ #[j2 (sm.trans s2) hD,az,?_]];rw[Ex _ hx];have pD:∀{b:Addr} {ys:aj},upd H' p (.tup [.str x.1.1,sel x]) b\.tup ys->b≠D:=λhb=>cj hb (s2 _ _ gr) nofun;apply qb (Paired.bC eo λy kv ⟨b,z,hb⟩=>#[b,z,by rw[aF (pD (s2 _ _ hb))];exact s2 _ _ hb]) (.cons #[p,Z,?_] .nil);have pM:upd H' p (.tup [.str x.1.1,sel x]) p\.tup [.str x.1.1,sel x]:=az;rw[aF (pD pM)];exact pM
section v
theorem pd:bq ["self","web","pieces","checked"] ["self","web","pieces"] (aL mY):=bE
inductive KD (K:af) (CG CW:Addr) (vs:aj) (H:Hp) (Q:VK) (E:XK):Prop
 |mk:∀(g dx p l:Addr) (ys:aj) (ps:aH) (hs:Xa) (ts:Xb) (bI:ai),vs=[.ref g,.ref p,.ref l]->H g\.ins CG dx []->ft K CW H p hs ts bI->g∉bI->Good hs ts->H l\.lst ys->vI K H ys ps->(∀q∈ps,lI ts q)->(ps.map (·.1)).Nodup->ps.length<64->(∀qs fp H',(∀b o,H b\o->b≠g->H' b\o)->fN K CG CW H' g p hs ts qs fp->Qs ps qs->(∀b∈fp,b=g∨b∈bI∨H b=none)->Q .non H')->KD K CG CW vs H Q E
theorem jo_{f CG CW:Addr}{fd:Ae}(F:a_ K "__init__" "Goods.__init__" mY f fd)(T:c_ K CG)(TW:Txt K mg CW)(IW:IM K CW)(B:Bi mg)(MI:mg "Web"\.ref CW)(cP:!bx 6 "checked_pieces" ["web","pieces"] (Qu K CW)):!ag bc 7 f fd ["self","web","pieces"] (KD K CG CW):=by
 exists F.bH pd;let#[g,dx,p,l,ys,ps,hs,ts,bI,rfl,hg,W,gw,G,hl,pc,gp,nd,bY,k]:=h
 apply#[_,ay (bA (eJ (eB (cb i5_ (by rfl) B.gm gA %[1,rR (v:=.ref CW) (by rfl) MI Z|0]))) d0 bB)
  (ay (bw 3 pd.nd (bt cP hr %[1,2|0]))
  (ay (wz (pv 0) (pv 1) Z)
  (ay (wz (pv 0) (jM (C9 Z) (by rfl) B.dict p7 %[p9 zH 3 [] (fB (pv 3)) (λfp s H=>KJ (n:=3) (fo (gM (i:=0) (show (zH:ae).Nodup by decide +kernel) Z (Or.inl Z)) (fo (gM (i:=1) (show (zH:ae).Nodup by decide +kernel) Z (Or.inl Z)) (fo (gM (i:=2) (show (zH:ae).Nodup by decide +kernel) Z (Or.inl Z)) oy)))) (λfp s H=>k7) (λfp s H=>g0 %[0,1|0])|0]) Z)
  (aI (wz (pv 0) (jM (C9 Z) (by rfl) B.dict p7 %[p9 zH 3 [] (fB (pv 3)) (λfp s H=>KJ (n:=3) (fo (gM (i:=0) (show (zH:ae).Nodup by decide +kernel) Z (Or.inl Z)) (fo (gM (i:=1) (show (zH:ae).Nodup by decide +kernel) Z (Or.inl Z)) (fo (gM (i:=2) (show (zH:ae).Nodup by decide +kernel) Z (Or.inl Z)) oy)))) (λfp s H=>k7) (λfp s H=>g0 %[0,2|0])|0]) Z))))),?_]
 let#[eI,d1,l2,d3,jq,as,ef,w1,_]:=id W.ex;apply#[_,Z,_,_,_,_,Z,.ins w1 TW.cl IW.ha IW.hn IW.tk IW.mo,iE_ _ _,_,Z,aR ?_];apply#[_,Z,_,Z,p,l,ys,ps,hs,ts,bI,Z,W,G,hl,pc,gp,nd,bY,λlc zs qs H1 s1 Gq pn Qq=>?_];let#[vs,lv,pz,WZ,EF]:=Uq pn;let Gw:=s1 _ _ hg
 have lq:qs.length=ps.length:=by
  have:=eA List.length Qq.MC;rw[aB,(zW _).length_eq,aB] at this;exact this
 have Yt:(qs.map (·.1)).Nodup:=by
  rw[Qq.MC];exact (zW _).nodup_iff.mpr nd
 apply#[_,Z,_,Z,g,CG,dx,[],Z,Gw,T.cl,T.nW,by show 0<1000;decide,?_];have up1:∀{b o},H1 b\o->b≠g->upd H1 g (.ins CG dx (aA "web" (.ref p) [])) b\o:=λe ne=>by rw[aF ne];exact e
 have NV:upd H1 g (.ins CG dx (aA "web" (.ref p) [])) g\.ins CG dx (aA "web" (.ref p) []):=az
 have DT:∀{b},upd H1 g (.ins CG dx (aA "web" (.ref p) [])) b=none->H1 b=none:=λ{b} e=>by
  by_cases z:b=g
  ·rw[z,az] at e;cases e
  rw[aF z] at e;exact e
 generalize upd H1 g (.ins CG dx (aA "web" (.ref p) []))=H2 at up1 NV DT ⊢;have Jo:lc≠g:=cj Gq Gw nofun;have Yx:Paired (λz (x:Pc × V)=>∃t,z=.ref t/\H2 t\.tup [.str x.1.1,.int x.1.2.1,x.2]) zs (qs.zip vs):=Paired.bC pz λz x ⟨t,e,ht⟩=>#[t,e,up1 ht (cj ht Gw nofun)];have oP:(qs.zip vs).length<=1000:=by rw[List.length_zip];omega
 apply#[_,Z,lc,Z,#[_,.of (up1 Gq Jo)],λD hD=>?_];apply Ue (λx=>.int x.1.2.1) (λx=>rfl) Z (up1 Gq Jo) Yx oP hD λH3 out s3 hD3 YD=>?_;apply#[D,out,_,Z,hD3,YD,by rw[aB];exact oP,λdw NZ=>?_]
 have ekv:((qs.zip vs).map λx:Pc × V=>((Sum.inr x.1.1:Key),V.int x.1.2.1))=ml qs:=by
  unfold ml;have:(λx:Pc × V=>((Sum.inr x.1.1:Key),V.int x.1.2.1))=(λq:Pc=>((Sum.inr q.1:Key),V.int q.2.1)) ∘ Prod.fst:=rfl;rw[this,<- bV,List.map_fst_zip Z1]
 have zc:(qs.map (·.1)).map (Sum.inr:Str->Key) |>.Nodup:=by
  rw[vC,vE];exact Yt.imp λn e=>n (iC e)
 rw[ekv,CY (by rw[TZ];exact zc)];let s4:=aa.new (o:=.dK (ml qs)) NZ;let S_:=s4 _ _ (s3 _ _ NV);apply#[_,Z,g,CG,dx,_,Z,S_,T.cl,T.nG,by show 1<1000;decide,?_];let Je:=s3.trans s4;have GB:upd H3 dw (.dK (ml qs)) dw\.dK (ml qs):=az;have Vs:dw≠g:=(bU (s3 _ _ NV) NZ).symm;have fr4:∀{b},upd H3 dw (.dK (ml qs)) b=none->H2 b=none:=λe=>Je.free e;have dwn:H2 dw=none:=s3.free NZ;generalize upd H3 dw (.dK (ml qs))=H4 at s4 S_ Je GB fr4 ⊢;have vQ:∀{b o},H4 b\o->b≠g->upd H4 g (.ins CG dx (aA rH (.ref dw) (aA "web" (.ref p) []))) b\o:=λe ne=>by rw[aF ne];exact e
 have NU:upd H4 g (.ins CG dx (aA rH (.ref dw) (aA "web" (.ref p) []))) g\.ins CG dx (aA rH (.ref dw) (aA "web" (.ref p) [])):=az
 have pW:∀{b},upd H4 g (.ins CG dx (aA rH (.ref dw) (aA "web" (.ref p) []))) b=none->H4 b=none:=λ{b} e=>by
  by_cases z:b=g
  ·rw[z,az] at e;cases e
  rw[aF z] at e;exact e
 generalize upd H4 g (.ins CG dx (aA rH (.ref dw) (aA "web" (.ref p) [])))=H5 at vQ NU pW ⊢;have wL:∀{b o},H1 b\o->b≠g->H5 b\o:=λe ne=>vQ (Je _ _ (up1 e ne)) ne;have Yw:Paired (λz (x:Pc × V)=>∃t,z=.ref t/\H5 t\.tup [.str x.1.1,.int x.1.2.1,x.2]) zs (qs.zip vs):=Paired.bC pz λz x ⟨t,e,ht⟩=>#[t,e,wL ht (cj ht Gw nofun)];apply#[_,Z,lc,Z,#[_,.of (wL Gq Jo)],λD2 JT=>?_];apply Ue (λx=>x.2) (λx=>rfl) Z (wL Gq Jo) Yw oP JT λH6 gi s6 hD6 YC=>?_;apply#[D2,gi,_,Z,hD6,YC,by rw[aB];exact oP,λdy NY=>?_];rw[show ((qs.zip vs).map λx:Pc × V=>((Sum.inr x.1.1:Key),x.2))=wK qs vs from Z,CY (by rw[jg_ lv];exact zc)];let s7:=aa.new (o:=.dK (wK qs vs)) NY;let Jd:=s6.trans s7;let S9:=Jd _ _ NU;apply#[_,Z,g,CG,dx,_,Z,S9,T.cl,T.nY,by show 2<1000;decide,?_];have Gz:upd H6 dy (.dK (wK qs vs)) dy\.dK (wK qs vs):=az;have dyg:dy≠g:=(bU (s6 _ _ NU) NY).symm;have dyn:H5 dy=none:=s6.free NY;generalize upd H6 dy (.dK (wK qs vs))=H7 at s7 Jd S9 Gz ⊢
 have fin:∀{b o},H1 b\o->b≠g->upd H7 g (.ins CG dx (bJ p dw dy)) b\o:=λe ne=>by
  rw[aF ne];exact Jd _ _ (wL e ne)
 have EG:∀b xs,H1 b\.tup xs->upd H7 g (.ins CG dx (bJ p dw dy)) b\.tup xs:=λb xs e=>fin e (cj e Gw nofun);have nH:∀{b},H1 b=none->H b=none:=λe=>s1.free e;apply k qs (g::dw::dy::(bI++vs.filterMap λv=>match v with | .ref a=>some a|_=>none)) _ (λb o e ne=>fin (s1 _ _ e) ne) #[dx,dw,dy,vs,bI,az,?_,?_,?_,?_,by simp,by simp,by simp,λb hb=>by simp[hb],λv hv a z=>?_] Qq λb hb=>?_
 ·exact W.keep (λb hb o e=>fin (s1 _ _ e) (λz=>gw (z▸hb))) λb xs e=>EG b xs (s1 _ _ e)
 ·rw[aF Vs];exact Jd _ _ (vQ GB Vs)
 ·rw[aF dyg];exact Gz
 ·exact QV WZ λv hv q h=>h.keep (λa z u e=>fin e (λzz=>by
   subst zz;have:=EF v hv _ z;rw[hg] at this;cases this)) λb xs e=>EG b xs e
 ·apply dZ _ (dZ _ (dZ _ (oB _ (rY.mpr #[v,hv,?_]))));rw[z]
 simp only[bW,gY,rY] at hb;rcases hb with rfl|rfl|rfl|hb|⟨v,hv,e⟩
 ·exact .inl Z
 ·exact .inr (.inr (nH (DT dwn)))
 ·exact .inr (.inr (nH (DT (Je.free (pW dyn)))))
 ·exact .inr (.inl hb)
 cases v with
 |ref a=>
  cases e;exact .inr (.inr (EF _ hv _ Z))
 |_=>cases e
end
end Ev
namespace L2
open PySem
end L2
namespace Ev
open PySem L2
theorem f9_{kvs:List (Key × V)}{ns:ae}(h:kvs.map (·.1)=ns.map Sum.inr)(x:Str):(br kvs (Sum.inr x)).isSome=decide (x∈ns):=by
 by_cases hx:x∈ns
 ·rw[cc hx];apply UT ?_;rw[h];exact bD.mpr #[x,hx,Z]
 rw[dc hx,zX]
 ·rfl
 rw[h];intro m;let#[y,hy,e]:=bD.mp m;cases e;exact hx hy
theorem _g{qs:aH}(nd:(qs.map (·.1)).Nodup){q:Pc}(hq:q∈qs):br (ml qs) (Sum.inr q.1)\.int q.2.1:=by
 let#[j,hj,e]:=rZ hq;have:=Pw (ps:=qs) (cs:=qs.map λq=>V.int q.2.1) nd (by rw[aB]) (j:=j) (q:=q) (c:=.int q.2.1) (by rw[dE hj,e]) (by rw[dQ,dE hj,e];rfl)
 have e2:((qs.zip (qs.map λq=>V.int q.2.1)).map λq=>((Sum.inr q.1.1:Key),q.2))=ml qs:=by
  unfold ml;rw[List.zip_map_right,bV]
  have:qs.zip qs=qs.map λq=>(q,q):=by
   clear nd hq this hj e j
   induction qs with
   |nil=>rfl
   |cons a l ih=>rw[List.zip_cons_cons,ih,eV]
  rw[this,bV];rfl
 rwa [e2] at this
theorem ZW{qs:aH}{vs:aj}(nd:(qs.map (·.1)).Nodup){K:af}{H:Hp}(h:Paired (λv (q:Pc)=>dS K H v q.2.2) vs qs){q:Pc}(hq:q∈qs):∃v∈vs,br (wK qs vs) (Sum.inr q.1)\v/\dS K H v q.2.2:=by
 let#[j,hj,e]:=rZ hq;let hl:=bS h;have hv:j<vs.length:=by omega
 let p:=jN h j hv hj;rw[e] at p;exact#[vs[j],oH hv,Pw nd Z1 (by rw[dE hj,e]) (dE hv),p]
def DR(hs:Xa)(ts:Xb)(o:Option (Xb))(x y:Option Str):Bool:=
 j5 hs ts x y&&match o,x,y with
  |none,_,_=>true
  |some ws,some a,some b=>decide (aX a b∈ws)
  |_,_,_=>false
section v
theorem AX:bq jX jX (aL tW):=bE
inductive CB (K:af) (CG CW:Addr) (vs:aj) (H:Hp) (Q:VK) (E:XK):Prop
 |mk:∀(g p:Addr) (v:V) (x:Option Str) (hs:Xa) (ts:Xb) (qs:aH) (fp:ai),vs=[.ref g,v]->fN K CG CW H g p hs ts qs fp->fH K H v x->Q (.bl (nC (qs.map (·.1)) x)) H->CB K CG CW vs H Q E
theorem kL_{f CG CW:Addr}{fd:Ae}(F:a_ K "has_piece" "Goods.has_piece" tW f fd)(T:c_ K CG)(B:Bi mg):!ag bc 1 f fd jX (CB K CG CW):=by
 exists F.bH AX;let#[g,p,v,x,hs,ts,qs,fp,rfl,G,sv,k]:=h;let hu:=gz hr;let#[dx,dw,dy,vs,bI,h1,h2,h3,h4,h5,m1,m2,m3,m4,m5]:=G.ex;apply#[_,aI (bg (oj (cb jn (by rfl) B.gm gA %[1,iQ (v:=.ty "str") (by rfl) B.str Ed Z|0]) (oi (D6 (D7 hu (pv 1) (cZ (pv 0) Z)))))),?_];cases x with
 |some x=>
  cases (show v=.str x from sv);apply#[_,Z,_,_,_,_,Z,.str x,Z,_,Z,bK ?_];apply#[_,Z,_,Z,g,CG,dx,_,_,Z,h1,T.cl,T.nG,OV _ _ _,dw,_,Z,.k (k:=Sum.inr x) h3,?_];rw[f9_ (TZ qs)];exact k
 |none=>
  let#[t,ty,e]:=sv;exact#[_,Z,_,_,_,_,Z,ty,e,_,Z,aR k]
theorem tD:bq gW gW (aL Pz):=bE
inductive K5 (K:af) (CG CW:Addr) (vs:aj) (H:Hp) (Q:VK) (E:XK):Prop
 |mk:∀(g p:Addr) (hs:Xa) (ts:Xb) (qs:aH) (fp:ai),vs=[.ref g]->fN K CG CW H g p hs ts qs fp->(∀l,H l=none->Q (.ref l) (upd H l (.lst ((qs.map (·.1)).map V.str))))->K5 K CG CW vs H Q E
theorem hu_{f CG CW:Addr}{fd:Ae}(F:a_ K "names" "Goods.names" Pz f fd)(T:c_ K CG)(B:Bi mg):!ag bc 1 f fd gW (K5 K CG CW):=by
 exists F.bH tD;let#[g,p,hs,ts,qs,fp,rfl,G,k]:=h;let#[dx,dw,dy,vs,bI,h1,h2,h3,h4,h5,m1,m2,m3,m4,m5]:=G.ex;apply#[_,aI (bg (jM (P5 Z) (by rfl) B.list zU %[cZ (pv 0) Z|0])),?_];apply#[_,Z,g,CG,dx,_,_,Z,h1,T.cl,T.nG,OV _ _ _,dw,_,Z,.inl h3,λl hl=>?_]
 have e:((ml qs).map λkv=>kV kv.1)=(qs.map (·.1)).map V.str:=by
  unfold ml;rw[bV,bV];rfl
 rw[e];exact k l hl
structure Ref (K:af) (mg:Str->Option Aa) (x:Str) (C:Addr):Prop where
 mg:mg x\.ref C
 ex:PySem.W.excIn K C [.type "ValueError",.type "Exception",.type "BaseException",.type "object"] "ValueError.__new__"=true
theorem qt:bq zG zG (aL Pn):=bE
inductive C4 (K:af) (CG CW CP:Addr) (vs:aj) (H:Hp) (Q:VK) (E:XK):Prop
 |mk:∀(g p:Addr) (v:V) (x:Option Str) (hs:Xa) (ts:Xb) (qs:aH) (fp:ai),vs=[.ref g,v]->fN K CG CW H g p hs ts qs fp->(qs.map (·.1)).Nodup->fH K H v x->((∃q∈qs,x\q.1/\Q (.int q.2.1) H)∨False)->C4 K CG CW CP vs H Q E
theorem gg_{f CG CW CP:Addr}{fd:Ae}(F:a_ K "weight" "Goods.weight" Pn f fd)(T:c_ K CG)(cH:!bf CG 1 "has_piece" jX (CB K CG CW)):!ag bc 2 f fd zG (C4 K CG CW CP):=by
 exists F.bH qt;let#[g,p,v,x,hs,ts,qs,fp,rfl,G,nd,sv,k]:=h;let hu:=gz hr;let#[dx,dw,dy,vs,bI,h1,h2,h3,h4,h5,m1,m2,m3,m4,m5]:=id G.ex;have jB:(bJ p dw dy).lookup ("has_piece":Str)=none:=qS _ _ _ Z0 Z0 Z0;apply#[_,ay (bA (eJ (eB (eL cH T.cl hr (pv 0) %[1|0]))) d0 bB) (aI (bg (mi hu (cZ (pv 0) Z) (pv 1)))),?_];apply#[_,Z,g,dx,_,Z,h1,jB,_,Z,g,p,v,x,hs,ts,qs,fp,Z,G,sv,_,Z,?_];rcases k with⟨q,hq,rfl,k⟩|k
 ·cases (show v=.str q.1 from sv);rw[show nC (qs.map (·.1)) (some q.1)=true from cc (bD.mpr #[q,hq,Z])];apply aR ?_;apply#[_,Z,g,CG,dx,_,_,Z,h1,T.cl,T.nG,OV _ _ _,_,Z,dw,_,Z,?_,k];rw[<- _g nd hq];exact .k (k:=Sum.inr q.1) h3
 exact k.elim
theorem tE:bq ["self","piece","one","other","ties"] qg (aL tV):=bE
inductive J_ (K:af) (CG CW CP:Addr) (vs:aj) (H:Hp) (Q:VK) (E:XK):Prop
 |mk:∀(g p:Addr) (v u1 u2:V) (x y1 y2:Option Str) (hs:Xa) (ts:Xb) (qs:aH) (fp:ai),vs=[.ref g,v,u1,u2]->fN K CG CW H g p hs ts qs fp->(qs.map (·.1)).Nodup->(aE hs).Nodup->fH K H v x->((∃q∈qs,x\q.1/\fH K H u1 y1/\fH K H u2 y2/\∀H',aa H H'->Q (.bl (DR hs ts q.2.2 y1 y2)) H')∨False)->J_ K CG CW CP vs H Q E
theorem Z8{f CG CW CP:Addr}{fd:Ae}(F:a_ K "may_go" "Goods.may_go" tV f fd)(T:c_ K CG)(TW:Txt K mg CW)(cH:!bf CG 1 "has_piece" jX (CB K CG CW))(cT:!bf CW 2 "are_tied" lZ (Kr K CW))(cL:!bx 1 "lesser_first" rE K7) :
  ag P w K mg base bc 3 f fd qg (J_ K CG CW CP):=by
 exists F.bH tE;let#[g,p,v,u1,u2,x,y1,y2,hs,ts,qs,fp,rfl,G,nd,ux,sv,k]:=h;let hu:=gz hr;have kF:aK 1 _:=hr.mono (by decide);let#[dx,dw,dy,vs,bI,h1,h2,h3,h4,h5,m1,m2,m3,m4,m5]:=id G.ex;have jB:(bJ p dw dy).lookup ("has_piece":Str)=none:=qS _ _ _ Z0 Z0 Z0;let#[eI,d1,l2,d3,jq,as,ef,w1,_]:=id h2.ex;have gq:(bZ d1 l2 d3).lookup ("are_tied":Str)=none:=iP _ _ _ Z0 Z0 Z0
 apply#[_,ay (bA (eJ (eB (eL cH T.cl kF (pv 0) %[1|0]))) d0 bB)
  (ay (bA (eJ (eB (eL cT TW.cl hr (cZ (pv 0) Z) %[2,3|0]))) (aI (bg jU)) bB)
  (ay (bw 4 tE.nd (mi hu (cZ (pv 0) Z) (pv 1)))
  (aI (bg (RZ (D6 (J4 (pv 4))) (oi (qP (GU (Hj i0 i0) (ow hr _)) (bt cL hr %[2,3|0]) (pv 4) (by with_unfolding_all rfl)))))))),?_]
 apply#[_,Z,g,dx,_,Z,h1,jB,_,Z,g,p,v,x,hs,ts,qs,fp,Z,G,sv,_,Z,?_];rcases k with⟨q,hq,rfl,s1,s2,k⟩|k
 ·cases (show v=.str q.1 from sv);rw[show nC (qs.map (·.1)) (some q.1)=true from cc (bD.mpr #[q,hq,Z])];apply aR ?_;apply#[_,Z,g,CG,dx,_,_,Z,h1,T.cl,T.nW,j1 _ _ _,p,eI,_,Z,w1,gq,_,Z,_,Z,p,u1,u2,y1,y2,hs,ts,bI,Z,h2,ux,s1,s2,_,Z,?_];cases tb:j5 hs ts y1 y2 with
  |false=>
   apply bK ?_;have:=k H (aa.refl H);unfold DR at this;rw[tb,Bool.false_and] at this;exact this
  |true=>
   apply aR ?_;let#[u,SQ,eu,wy]:=ZW nd h5 hq;apply#[_,Z,g,CG,dx,_,_,Z,h1,T.cl,T.nY,_M _ _ _,_,Z,dy,u,Z,?_,?_]
   ·rw[<- eu];exact .k (k:=Sum.inr q.1) h4
   apply#[_,Z,_,Z,?_];unfold DR at k;rw[tb] at k;cases e:q.2.2 with
   |none=>
    rw[e] at wy k;cases (show u=.non from wy);exact bK (k H (aa.refl H))
   |some ws=>
    rw[e] at wy k;let#[a,ys,rfl,ha,tu]:=wy;cases y1 with
    |none=>cases tb
    |some a1=>
     cases y2 with
     |none=>cases tb
     |some a2=>
      cases (show u1=.str a1 from s1);cases (show u2=.str a2 from s2);apply aR #[_,Z,_,Z,a1,a2,Z,λt ht=>?_];have s3:aa H (upd H t (.tup [.str (aX a1 a2).1,.str (aX a1 a2).2])):=aa.new ht;apply#[_,Z,aX a1 a2,ws,#[t,_,_,Z,.of az,Z,Z],#[a,ys,Z,.of (s3 _ _ ha),OR (tu.same s3)],?_];let z:=k _ s3;rw[Bool.true_and] at z;rw[aC gO];show Q (.bl _) _;have z:Q (.bl (decide (aX a1 a2∈ws))) (upd H t (.tup [.str (aX a1 a2).1,.str (aX a1 a2).2])):=z;generalize upd H t (.tup [.str (aX a1 a2).1,.str (aX a1 a2).2])=Hz at z ⊢;by_cases hm:aX a1 a2∈ws
      ·simpa [hm] using z
      simpa [hm] using z
 exact k.elim
end
end Ev
namespace L2
open PySem PySem.Spec PyProof.Rows PySem.W
theorem SZ{P:Ad}{w:Af}{k:Key}{key:Aa}(h:(d_ P w).is k key=true):RelV (kV k) key:=by
 have e2:xW k key=true:=h;rcases r9 e2 with⟨i,t,rfl,rfl⟩|⟨x,t,rfl,rfl⟩
 ·exact#[t,Z]
 exact#[t,Z]
def Itm(d:Addr)(o:Obj)(kvs:List (Key × V)):It:=#[λi H=>H d\.frz o (.dK kvs)/\i<kvs.length,λi H y H'=>∃t k x,y=.ref t/\H t=none/\kvs[i]? = some (k,x)/\H'=upd H t (.tup [kV k,x]),λi H=>H d\.frz o (.dK kvs)/\kvs.length<=i]
theorem gc_{P:Ad}{w:Af}{K:af}{elts:List Expr}{kk:Nat}{pos:Pos}(d it:Addr)(o:Obj)(kvs:List (Key × V)){es:Array Ah}{ep:Nat}(ho:o.data=.dict es ep):Turn P w K (.Tuple elts kk pos) (Itm d o kvs) [it] it (λi h=>∃ok ov,IsItemIter h it d i kvs.length ep ok ov) where
 mem:=by simp
 obj:=λi h st b hb=>by
  obtain rfl:b=it:=⇑hb
  let#[ok,ov,q]:=st;exact#[_,q,λv z=>by cases z]
 keep:=λi h h' st k=>by
  let#[ok,ov,q]:=st;exact#[ok,ov,k it Z2 _ q]
 item:=by
  intro X hP hw hK hc i pins s σ H E I hf st hg;subst hP hw hK;let#[hd,hi]:=hg;let#[vs,rel,dat]:=Le I hd ho;obtain⟨⟨k,x⟩,hx⟩:∃p,kvs[i]? = some p:=#[kvs[i],by simp[hi]];let#[u,hu,ru]:=Nj rel i hx;let#[ok,ov,st]:=st;have Nb:it<s.heap.objs.size:=bN st;rw[rel.length] at st;apply wpAny_pyNext_items_item st dat hu λkey h' hk out ht sz kp=>?_;apply#[_,Z,wpAny_letOwnedTupleGo_items (s:={ s with heap:=h' }) out λh2 gH sb=>?_];have nT:s.heap.objs.size≠it:=oF Nb;have I1:Inv X pins σ (upd H s.heap.objs.size (.tup [kV k,x])) { s with heap:=h2 }:=I.jr (t':=s.toks) (fp:=[it]) (its:=[key,u]) (λb o hb q=>(sb.2 b ⇑hb).trans (kp b o ⇑hb q)) hf (bj _) (zl) (.cons (SZ hk) (.cons ru .nil)) #[#[_,(sb.2 _ nT).trans ht,Z,_,Z],_,(sb.2 _ nT).trans ht,Z];apply#[.ref _,_,I1,Z,#[_,k,x,Z,I.au.fresh (bj _),hx,Z],#[_,_,by rw[rel.length];exact gH],λb hb=>?_];have e:b=it:=⇑hb
  rw[aF (λz=>nT (z.symm.trans e))];exact (hf b hb).1
 done:=by
  intro X hP hw hK hc i pins s σ H E I hf st hg;subst hP hw hK;let#[hd,hi]:=hg;let#[vs,rel,dat]:=Le I hd ho;let#[f0,f1,f2,f3,f4,f5]:=hf it Z2;let#[ok,ov,st]:=st;rw[rel.length] at st hi;exact wpAny_pyNext_items_end (I.ok.hd hc) st dat (by simp;omega) λh' eb=>#[Z,I.turned (t':=s.toks) (λb o hb e=>eb b o hb e) f0 f1 f3 f4 f5]
 self:=λA i s Q E st h=>by
  let#[ok,ov,q]:=st;exact kcp_self q h
inductive pK (R:It->Hp->Prop) (x:V) (H1:Hp):Prop
 |mk:∀v d kvs,x=.ref v->H1 v\i5 v d->H1 d\.dK kvs->(∀o,R (Itm d o kvs) (upd H1 d (.frz o (.dK kvs))))->pK R x H1
def By(tv:TE):TI:=λσ H R=>tv σ H λx H1=>pK R x H1
theorem Ig{X:Cx}{elts:List Expr}{kk:Nat}{p2:Pos}{e:Expr}{tv:TE}(he:PE X e tv):PI X (.Tuple elts kk p2) e (By tv):=by
 intro pins s σ H R I h;apply aQ (he pins s σ H _ I h) λu s1 ⟨x,H1,I1,r1,v,d,kvs,ex,hv,hd,q⟩=>?_;subst ex;cases r1;let#[iv,_,_]:=I1.au v _ hv;let#[o,ho,I2]:=I1.freeze hd;let#[z,_,vs,rel,o',es,ep,h_,c',dt,r]:=zD I1.au hd;rw[ho] at h_;cases h_;apply wpAny_pyIter_items (knd:=d_ X.prog X.w) (kvs:=vs) (ep:=ep) iv #[o,es,ho,c',dt,r] ?_;apply#[s1.heap.objs.size,[s1.heap.objs.size],_,_,_,Z,I2.kept (t':=s1.toks) λb o e=>bQ _ e,gc_ d _ o kvs dt,?_,λb hb=>?_,q o]
 ·rw[rel.length];exact#[.none,.none,dU _ Z]
 obtain rfl:b=s1.heap.objs.size:=⇑hb
 exact I2.jE (bj _) (I2.au.fresh (bj _))
theorem K9{d:Addr}{o:Obj}{kvs:List (Key × V)}{g:TG}{tb:TS}{D:Ends}{σ:St}{H:Hp}(Pv:vM)(h0:Pv 0 σ H)(hl:∀i σ H,i<=kvs.length->Pv i σ H->H d\.frz o (.dK kvs))
  (hs:∀i k x σ H,kvs[i]? = some (k,x)->Pv i σ H->∀t,H t=none->g (.ref t) σ (upd H t (.tup [kV k,x])) λfO H2=>tb { D with nx:=Pv (i+1),ct:=Pv (i+1),bk:=D.nx } fO H2) (hd:∀σ H,Pv kvs.length σ H->D.nx σ H) :
  ∃W:Nat->Nat->St->Hp->Prop,(∃m,W 0 m σ H)/\∀i m σ H,W i m σ H->
   ((Itm d o kvs).stop i H/\D.nx σ H)∨((Itm d o kvs).go i H/\∃N:St->Hp->Prop,(∀ba H',N ba H'->∃m',m'<m/\W (i+1) m' ba H')/\∀x H',(Itm d o kvs).wJ i H x H'->g x σ H' λfO H2=>tb { D with nx:=N,ct:=N,bk:=D.nx } fO H2):=by
 apply#[λi m σ H=>m=kvs.length - i/\i<=kvs.length/\Pv i σ H,#[kvs.length,by simp,hG _,h0],?_];rintro i m σ H ⟨rfl,hi,p⟩;let q:=hl i σ H hi p;by_cases dX:i<kvs.length
 ·apply .inr #[#[q,dX],Pv (i+1),λba H' p'=>#[kvs.length - (i+1),by omega,Z,dX,p'],λx H' y=>?_];let#[t,k,x,rfl,ht,hx,rfl]:=y;exact hs i k x σ H hx p t ht
 have e:i=kvs.length:=by omega
 subst e;exact .inl #[#[q,bj _],hd σ H p]
inductive sy (t:TS) (D:Ends) (σ:St) (H:Hp):Prop
 |mk:∀d kvs,H d\.dK kvs->t { nx:=λoO H1=>∃o,H1 d\.frz o (.dK kvs)/\D.nx oO (upd H1 d (.dK kvs)),rt:=λv H1=>∃o,H1 d\.frz o (.dK kvs)/\D.rt v (upd H1 d (.dK kvs)) } σ H->sy t D σ H
theorem Ov{X:Cx}{st:Stmt}{t:TS}(h:PS X st t):PS X st (sy t):=by
 intro pins s σ H D I q;let#[d,kvs,hd,q]:=q
 have nf:∀o u,X.iF d≠some (.frz o u):=λo u z=>by
  have:=I.base.eD _ _ _ z;rw[hd] at this;cases this
 apply aQ (h pins s σ H _ I q) λf s' p=>?_;cases f with
 |next=>
  let#[oO,H1,I1,o,hf,q1]:=p;exact#[oO,_,I1.iR hf nf,q1]
 |brk=>
  let#[oO,H1,I1,q1]:=p;exact False.elim q1
 |cont=>
  let#[oO,H1,I1,q1]:=p;exact False.elim q1
 |ret u=>
  let#[v,oO,H1,I1,r,o,hf,q1]:=p;exact#[v,oO,_,I1.iR hf nf,r,q1]
theorem VA:∀{ns:List Int} {its:ak},Vals (ns.map V.int) its->∃xs:List (Int × Tok),its.toArray=intItems xs.toArray/\xs.map (·.1)=ns
 |[],_,.nil=>#[[],by unfold intItems;simp,Z]
 |n::ns,_,.cons ⟨t,e⟩ r=>by
  let#[xs,h1,h2]:=VA r;apply#[(n,t)::xs,?_,by simp[h2]];subst e;apply Array.ext' ?_;let h3:=eA Array.toList h1;unfold intItems at h3 ⊢;simp at h3 ⊢;exact h3
theorem V7{xs:List (Int × Tok)}:∀n,n<=xs.length->preSum (numAt xs.toArray) n=((xs.map (·.1)).take n).sum
 |0,_=>by simp[preSum]
 |n+1,h=>by
  let ih:=V7 (xs:=xs) n Z1;show preSum (numAt xs.toArray) n+numAt xs.toArray n=_;rw[ih,k_,List.sum_append];congr 1;unfold numAt;rw[List.getElem?_toArray,dQ,dE Z1];simp
inductive yS (K:af) (xs:aj) (H:Hp) (Q:VK):Prop
 |mk:∀(l:Addr) (ns:List Int),xs=[.ref l]->dH K H l (ns.map V.int)->Q (.int ns.sum) H->yS K xs H Q
theorem io_{X:Cx}(hc:X.calm=true):fW X (.builtin "sum") (yS X.K):=by
 intro pins s σ H xs us Q I r h;let#[l,ns,rfl,hl,q]:=h;let#[u,rfl,ru]:=vals1 r;cases ru;let#[its,rv,p,hz]:=I.list hl;let#[zs,e1,e2]:=VA rv;let il:=p.isList;rw[e1] at il;apply sum_intListG (I.ok.hd hc) il λh' tk t' k=>?_;apply#[.int ns.sum,H,I.kept (t':=tk) k,#[t',?_],q]
 have:preSum (numAt zs.toArray) zs.toArray.size=ns.sum:=by
  rw[cn,V7 _ (bj _),<- e2,Ey Z2]
 rw[this]
end L2
namespace Ev
open PySem L2
structure Fz (d:Addr) (o:Obj) (kvs:List (Key × V)) (H H':Hp):Prop where
 at_:H' d\.frz o (.dK kvs)
 sm:∀b u,b≠d->H b\u->H' b\u
section
variable{d:Addr}{o:Obj}{kvs:List (Key × V)}{H H' H2:Hp}
theorem Fz.start:Fz d o kvs H (upd H d (.frz o (.dK kvs))):=#[az,λb u ne e=>by rw[aF ne];exact e]
theorem Fz.step(f:Fz d o kvs H H')(s:aa H' H2):Fz d o kvs H H2:=#[s _ _ f.at_,λb u ne e=>s _ _ (f.sm b u ne e)]
theorem Fz.iR(f:Fz d o kvs H H')(hd:H d\.dK kvs):aa H (upd H' d (.dK kvs)):=λb u e=>by
 by_cases z:b=d
 ·subst z;rw[hd] at e;cases e;exact az
 rw[aF z];exact f.sm b u z e
theorem Fz.uX{K:af}{CG CW g p:Addr}{hs:Xa}{ts:Xb}{qs:aH}{fp:ai}(f:Fz d o kvs H H')(hd:H d\.dK kvs)(G:fN K CG CW H g p hs ts qs fp)(nd:d∉fp):fN K CG CW H' g p hs ts qs fp:=
 G.keep (λb hb u e=>f.sm b u (λz=>nd (z▸hb)) e) λb xs e=>f.sm b _ (cj e hd nofun) e
end
def bO(ns:ae)(g:Str->V):List (Key × V):=ns.map λn=>(Sum.inr n,g n)
theorem En(ns:ae)(g:Str->V):(bO ns g).map (·.1)=ns.map Sum.inr:=by
 unfold bO;rw[bV];rfl
theorem fY(ns:ae)(g:Str->V):(bO ns g).length=ns.length:=aB _
theorem CZ{ns:ae}{g:Str->V}{n:Str}(h:n∈ns):br (bO ns g) (Sum.inr n)\g n:=by
 induction ns with
 |nil=>cases h
 |cons m ns ih=>
  by_cases e:m=n
  ·subst e;exact CT Z
  have:br (bO (m::ns) g) (Sum.inr n)=br (bO ns g) (Sum.inr n):=CU λz=>e (iC z);rw[this];rcases bW.mp h with z|z
  ·exact absurd z.symm e
  exact ih z
theorem K2{ns:ae}{g k:Str->V}(h:∀n∈ns,g n=k n):bO ns g=bO ns k:=vF λn hn=>by rw[h n hn]
theorem Kw{ns:ae}{g:Str->V}{n:Str}{v:V}(h:n∈ns):putK (bO ns g) (Sum.inr n) v=bO ns λm=>if m=n then v else g m:=by
 unfold putK;rw[aJ]
 ·unfold bO;rw[bV];apply vF λm _=>?_;by_cases e:m=n
  ·subst e;simp
  have:¬((Sum.inr m:Key)=Sum.inr n):=λz=>e (iC z);simp[e]
 apply List.any_eq_true.mpr #[(Sum.inr n,g n),bD.mpr #[n,h,Z],by simp]
theorem Tt{ns:ae}{g:Str->V}{n:Str}{v:V}(h:n∉ns):putK (bO ns g) (Sum.inr n) v=bO (ns++[n]) λm=>if m=n then v else g m:=by
 rw[Eo _ (zX (by
  rw[En];intro m;let#[x,hx,e]:=bD.mp m;exact h (iC e▸hx)))]
 unfold bO;rw[eK];congr 1
 ·apply vF λm hm=>?_;have e:¬m=n:=λz=>h (z▸hm);simp[e]
 simp
theorem GZ{ns:ae}{g:Str->V}{i:Nat}{k:Key}{x:V}(h:(bO ns g)[i]? = some (k,x)):∃n,ns[i]? = some n/\k=Sum.inr n/\x=g n:=by
 unfold bO at h;rw[dQ] at h;cases e:ns[i]? with
 |none=>rw[e] at h;cases h
 |some n=>
  rw[e] at h;let h:=dG h;exact#[n,Z,(eA Prod.fst h).symm,(eA Prod.snd h).symm]
theorem Px{ns:ae}(nd:ns.Nodup){i:Nat}{n:Str}(h:ns[i]? = some n):n∉ns.take i:=by
 let q:=Ij (g:=id) (ts:=ns) (by rw[List.map_id];exact nd) h;rwa [List.map_id] at q
theorem j0{ns:ae}{i:Nat}{n:Str}(h:ns[i]? = some n):ns.take (i+1)=ns.take i++[n]:=by
 rw[k_,h];rfl
abbrev cE(ns:ae)(f:aq):List (Key × V):=bO ns λn=>.str (f n)
def gF(q:Pc):Str × Int:=(q.1,q.2.1)
def ld(f:aq)(ws:Xa)(h:Str):Int:=((ws.filter λx=>decide (f x.1=h)).map (·.2)).sum
theorem _Q(f:aq)(ws:Xa)(x:Str × Int)(h:Str):ld f (ws++[x]) h=if h=f x.1 then ld f ws h+x.2 else ld f ws h:=by
 unfold ld;rw[List.filter_append];by_cases e:f x.1=h
 ·rw[aJ e.symm,eK,List.sum_append];simp[e]
 rw[aC λz=>e z.symm];simp[e]
theorem Ta:∀{l:List Int},(∀x∈l,0<=x)->0<=l.sum
 |[],_=>by simp
 |x::l,h=>by
  rw[List.sum_cons];have:=h x eZ;have:=Ta (l:=l) λy hy=>h y (dZ _ hy);omega
theorem _w{f:aq}{ws:Xa}{h:Str}(p:∀x∈ws,0<=x.2):0<=ld f ws h:=Ta λx hx=>by
 let#[y,hy,rfl]:=bD.mp hx;exact p y (List.mem_filter.mp hy).1
end Ev
namespace Ev
open PySem L2
section v
structure Ow (hs:Xa) (qs:aH) (ns:ae) (f:aq):Prop where
 perm:ns.Perm (qs.map (·.1))
 at_:∀n∈ns,f n∈hs.map (·.1)
theorem vz:bq ["goods","stand","piece","hand","names"] D5 (aL HD):=bE
inductive Pj (K:af) (CG CW:Addr) (vs:aj) (H:Hp) (Q:VK) (E:XK):Prop
 |mk:∀(g p d:Addr) (hs:Xa) (ts:Xb) (qs:aH) (fp:ai) (ns:ae) (f:aq),vs=[.ref g,.ref d]->fN K CG CW H g p hs ts qs fp->d∉fp->H d\.dK (cE ns f)->Ow hs qs ns f->(qs.map (·.1)).Nodup->qs.length<64->(∀d' H',aa H H'->H d'=none->H' d'\.dK (cE (qs.map (·.1)) f)->Q (.ref d') H')->Pj K CG CW vs H Q E
theorem hj_{f CG CW:Addr}{fd:Ae}(F:a_ K ya ya HD f fd)(B:Bi mg)(T:c_ K CG)(TW:Txt K mg CW)(cH:!bf CG 1 "has_piece" jX (CB K CG CW))(cW:!bf CW 1 "has_hand" jX (ka K CW))(cN:!bf CG 1 "names" gW (K5 K CG CW)) :
  ag P w K mg base bc 2 f fd D5 (Pj K CG CW):=by
 exists F.bH vz;let#[g,p,d,hs,ts,qs,fp,ns,f,rfl,G,ic,hd,so,nd,bY,k]:=h;let hu:=gz hr;let sz:=cm;refine' #[_,?r0,?kk]
 case' r0=>refine' ay ?s1 ?r1
 case s1=>exact bA (eJ (eB (cb jn (by rfl) B.gm gA %[1,iQ (v:=.ty "dict") (by rfl) B.dict p7 Z|0]))) d0 bB
 case' r1=>refine' ay ?s2 ?r2
 case' s2=>refine' Ov (f_ ie Z ?i2 ?g2 ?b2)
 case i2=>exact Ig (CO (pv 1))
 case g2=>exact rQ Z (fo (dR 2 vz.nd) (fo (dR 3 vz.nd) oy))
 case b2=>exact ay (bA (eJ (eB (eL cH T.cl hr (pv 0) %[2|0]))) d0 bB) (aI (bA (eJ (eB (eL cW TW.cl hr (cZ (pv 0) Z) %[3|0]))) d0 bB))
 case' r2=>refine' ay ?s3 ?r3
 case s3=>exact bw 4 vz.nd (wx cN T.cl hr (pv 0))
 case' r3=>refine' ay ?s4 (aI ?s5)
 case s4=>exact bA (di zC (cb PF (by rfl) B.len kX %[1|0]) (cb qR (by rfl) B.len kX %[4|0])) d0 bB
 case s5=>exact bg (jM (C9 Z) (by rfl) B.dict p7 %[p9 ["piece","stand"] 1 [1] (fB (pv 4)) (λfp s H=>gM (i:=0) (show (["piece","stand"]:ae).Nodup by decide +kernel) Z (Or.inl Z)) (λfp s H=>k7) (λfp s H=>g0 %[0,mi hu (pv 1) (pv 0)|0])|0])
 have ZO:ns.length=qs.length:=by rw[so.perm.length_eq,aB]
 apply#[_,Z,_,_,_,_,Z,.dK hd,Z,_,Z,aR ?_];apply#[d,_,hd,?_];apply#[_,Z,d,_,Z,hd,λv hv=>?_];let#[s1,iJ]:=aN (o:=i5 v d) hv;let G1:=G.same s1;let gL:=s1 _ _ hd;generalize upd H v (i5 v d)=H1 at s1 iJ G1 gL ⊢;apply#[v,d,_,Z,iJ,gL,λo=>?_];apply K9 (λi σ H'=>∃(v2 v3:aV),σ=[some (.ref g),some (.ref d),v2,v3,none]/\Fz d o (cE ns f) H1 H') #[none,none,Z,Fz.start] (λi σ H' _ ⟨_,_,_,z⟩=>z.at_) ?_ ?_
 ·rintro i ky x σ H2 hx ⟨v2,v3,rfl,fz⟩ t ht;let#[n,hn,rfl,rfl]:=GZ hx;let nm:=dD hn;let s2:=aa.new (o:=.tup [.str n,.str (f n)]) ht;let lW:=fz.step s2;have e2:upd H2 t (.tup [.str n,.str (f n)]) t\.tup [.str n,.str (f n)]:=az;show iX _ _ _ _ _ (upd H2 t (.tup [.str n,.str (f n)])) _;generalize upd H2 t (.tup [.str n,.str (f n)])=H3 at s2 lW e2 ⊢;apply#[t,_,Z,.of e2,Z,_,_,Z,_,_,Z,Z,?_];let G3:=lW.uX gL G1 ic;let#[dx,dw,dy,vs,bI,h1,h2,h3,h4,h5,m1,m2,m3,m4,m5]:=id G3.ex;let#[eI,d1,l2,d3,jq,as,ef,w1,_]:=id h2.ex;have jB:(bJ p dw dy).lookup ("has_piece":Str)=none:=qS _ _ _ Z0 Z0 Z0;have gq:(bZ d1 l2 d3).lookup ("has_hand":Str)=none:=iP _ _ _ Z0 Z0 Z0;apply#[_,Z,g,dx,_,Z,h1,jB,_,Z,g,p,.str n,some n,hs,ts,qs,fp,Z,G3,Z,_,Z,?_];rw[show nC (qs.map (·.1)) (some n)=true from cc (so.perm.mem_iff.mp nm)];apply aR ?_;apply#[_,Z,g,CG,dx,_,_,Z,h1,T.cl,T.nW,j1 _ _ _,p,eI,_,Z,w1,gq,_,Z,p,f n,hs,ts,bI,Z,h2,_,Z,?_];rw[cc (so.at_ n nm)];exact aR #[_,_,Z,lW]
 rintro σ H2 ⟨v2,v3,rfl,fz⟩;apply#[o,fz.at_,?_];let s2:=s1.trans (fz.iR gL);have hd2:upd H2 d (.dK (cE ns f)) d\.dK (cE ns f):=az;generalize upd H2 d (.dK (cE ns f))=H3 at s2 hd2 ⊢;let G3:=G.same s2;let#[dx,dw,dy,vs,bI,h1,h2,h3,h4,h5,m1,m2,m3,m4,m5]:=id G3.ex;apply#[_,Z,g,dx,_,Z,h1,qS _ _ _ Z0 Z0 Z0,g,p,hs,ts,qs,fp,Z,G3,λln vX=>?_];let#[s3,e3]:=aN (o:=.lst ((qs.map (·.1)).map V.str)) vX;let jS:=s3 _ _ hd2;generalize upd H3 ln (.lst ((qs.map (·.1)).map V.str))=H4 at s3 e3 jS ⊢;apply#[_,Z,d,_,Z,jS,_,Z,ln,_,Z,.inl (.of e3),Z,_,Z,?_];rw[fY,aB,aB,ZO];simp only[bne_self_eq_false,decide_true,yi];apply aR ?_;let Fi:=s2.trans s3;apply#[_,Z,ln,Z,#[_,.of e3],λD hD=>?_];apply qa (own:=1) (fv:=[some (.ref d)]) (xs:=(qs.map (·.1)).map V.str) Z fU (λi out H'=>aa H4 H'/\H' D\.lst out/\kW K H' out (cE ((qs.map (·.1)).take i) f)) #[aa.new hD,az,.nil] (λi out H' _ ⟨sm,_,_⟩=>.of (sm _ _ e3)) (λout H5 ⟨sm,xN,pa⟩=>?_) (λi y out H' hy ⟨sm,gr,pa⟩=>?_)
 ·rw[aB,fX] at pa;apply#[D,out,_,Z,xN,pa,by rw[fY,aB];omega,λd' ia=>?_]
  have zc:((cE (qs.map (·.1)) f).map (·.1)).Nodup:=by
   rw[En,vC,vE];exact nd.imp λn e=>n (iC e)
  rw[CY zc];exact k d' _ ((Fi.trans sm).trans (aa.new ia)) (Fi.free (sm.free ia)) az
 let#[n,hn,rfl]:=kZ hy;have hi:i<(qs.map (·.1)).length:=(dj.mp hn).1;rw[aB] at hi;have nm:n∈ns:=so.perm.mem_iff.mpr (dD hn);apply#[_,Z,Z,λNx hN=>fg ?_];apply#[_,Z,_,Z,_,Z,d,.str (f n),Z,?_,zl,λt ht=>?_]
 ·rw[<- CZ (g:=λn=>V.str (f n)) nm];exact .k (k:=Sum.inr n) (sm _ _ jS)
 let s5:=aa.new (o:=.tup [.str n,.str (f n)]) ht;let lo:=bS pa;rw[fY,fA,aB] at lo;apply#[out,s5 _ _ gr,by omega,hN _ _ #[j2 (sm.trans s5) hD,az,?_]];have F_:upd H' t (.tup [.str n,.str (f n)]) t\.tup [.str n,.str (f n)]:=az;have pD:∀{b:Addr} {ys:aj},upd H' t (.tup [.str n,.str (f n)]) b\.tup ys->b≠D:=λhb=>cj hb (s5 _ _ gr) nofun;rw[j0 hn];show kW K _ _ (((qs.map (·.1)).take i++[n]).map _);rw[eK];exact qb (Paired.bC pa λy kv ⟨b,z,hb⟩=>#[b,z,by rw[aF (pD (s5 _ _ hb))];exact s5 _ _ hb]) (.cons #[t,Z,by rw[aF (pD F_)];exact F_] .nil)
end
end Ev
namespace Ev
open PySem L2
theorem ft.has{K:af}{C:Addr}{H:Hp}{p:Addr}{hs:Xa}{ts:Xb}{fp:ai}(W:ft K C H p hs ts fp){b:Addr}(hb:b∈fp):∃o,H b\o:=by
 let#[dx,d1,l2,d3,zs,as,rfl,h1,h2,h3,h4,h5,h6,h7]:=W.ex;simp only[bW] at hb;rcases hb with rfl|rfl|rfl|rfl|hb
 ·exact#[_,h1]
 ·exact#[_,h2]
 ·exact#[_,h3]
 ·exact#[_,h5]
 let#[i,hi,e]:=rZ hb;exact#[_,h7 i ((aE hs)[i]' Z1) b (dE Z1) (by rw[<- e];exact dE hi)]
section
variable{d d2:Addr}{o:Obj}{kvs:List (Key × V)}{H H' H1:Hp}{u:HO}
theorem Fz.AD(s:aa H H1):Fz d o kvs H (upd H1 d (.frz o (.dK kvs))):=#[az,λb u ne e=>by rw[aF ne];exact s _ _ e]
theorem Fz.put(f:Fz d o kvs H H')(hn:H d2=none)(ne:d2≠d):Fz d o kvs H (upd H' d2 u):=#[by rw[aF ne.symm];exact f.at_,λb u nb e=>by rw[aF (bU e hn)];exact f.sm b u nb e]
end
section v
theorem KW:bq ["goods","placed","hand","found","piece"] l7 (aL Pb):=bE
structure vA (K:af) (CG CW:Addr) (H:Hp) (g p d:Addr) (hs:Xa) (ts:Xb) (qs:aH) (fp:ai) (f:aq):Prop where
 G:fN K CG CW H g p hs ts qs fp
 Gd:Good hs ts
 ic:d∉fp
 hd:H d\.dK (cE (qs.map (·.1)) f)
 at_:∀n∈qs.map (·.1),f n∈hs.map (·.1)
 nd:(qs.map (·.1)).Nodup
 bY:qs.length<64
abbrev xx(hs:Xa)(qs:aH)(f:aq):List (Key × V):=bO (aE hs) λh=>.int (ld f (qs.map gF) h)
inductive Ir (K:af) (CG CW:Addr) (vs:aj) (H:Hp) (Q:VK) (E:XK):Prop
 |mk:∀(g p d:Addr) (hs:Xa) (ts:Xb) (qs:aH) (fp:ai) (f:aq),vs=[.ref g,.ref d]->vA K CG CW H g p d hs ts qs fp f->(∀d' H',aa H H'->H d'=none->H' d'\.dK (xx hs qs f)->Q (.ref d') H')->Ir K CG CW vs H Q E
theorem gl_{f CG CW CP:Addr}{fd:Ae}(F:a_ K "loads_at" "loads_at" Pb f fd)(B:Bi mg)(T:c_ K CG)(TW:Txt K mg CW)(cH:!bf CW 1 "hands" gW (Ei K CW))(cW:!bf CG 2 "weight" zG (C4 K CG CW CP)) :
  ag P w K mg base bc 3 f fd l7 (Ir K CG CW):=by
 exists F.bH KW;let#[g,p,d,hs,ts,qs,fp,f,rfl,Pl,k]:=h;let hu:=gz hr;let sz:=cm;have kF:aK 1 _:=hr.mono (by decide);refine' #[_,?r0,?kk]
 case' r0=>refine' ay ?s1 ?r1
 case s1=>exact bw 3 KW.nd (jM (C9 Z) (by rfl) B.dict p7 %[p9 ["hand"] 1 [] (fB (wx cH TW.cl kF (cZ (pv 0) Z))) (λfp s H=>gM (i:=0) (show (["hand"]:ae).Nodup by decide +kernel) Z (Or.inl Z)) (λfp s H=>k7) (λfp s H=>g0 %[0,aM|0])|0])
 case' r1=>refine' ay ?s2 ?r2
 case' s2=>refine' Ov (f_ ie Z ?i2 ?g2 (aI ?b2))
 case i2=>exact Ig (CO (pv 1))
 case g2=>exact rQ Z (fo (dR 4 KW.nd) (fo (dR 2 KW.nd) oy))
 case b2=>exact wu hu (pv 3) (pv 2) (b_ p0 (mi hu (pv 3) (pv 2)) (eL cW T.cl hr (pv 0) %[4|0])) Z
 case r2=>exact aI (bg (pv 3))
 let nl:=Pl.Gd.fQ;let h8:=Pl.Gd.h8;let#[dx,dw,dy,vs,bI,h1,h2,h3,h4,h5,m1,m2,m3,m4,m5]:=id Pl.G.ex;let#[eI,d1,l2,d3,jq,as,ef,w1,_]:=id h2.ex;have gq:(bZ d1 l2 d3).lookup ("hands":Str)=none:=iP _ _ _ Z0 Z0 Z0;apply#[_,Z,g,CG,dx,_,_,Z,h1,T.cl,T.nW,j1 _ _ _,p,eI,_,Z,w1,gq,p,hs,ts,bI,Z,h2,λlh zm=>?_];let#[s1,e1]:=aN (o:=.lst ((aE hs).map V.str)) zm;generalize upd H lh (.lst ((aE hs).map V.str))=H1 at s1 e1 ⊢;apply#[lh,Z,#[_,.of e1],λD hD=>?_];apply qa (own:=1) (fv:=[]) (xs:=(aE hs).map V.str) Z fU (λi out H'=>aa H1 H'/\H' D\.lst out/\kW K H' out (bO ((aE hs).take i) λ_=>.int 0)) #[aa.new hD,az,.nil] (λi out H' _ ⟨sm,_,_⟩=>.of (sm _ _ e1)) (λout H5 ⟨sm,xN,pa⟩=>?_) (λi y out H' hy ⟨sm,gr,pa⟩=>?_);rotate_left 1
 ·let#[n,hn,rfl]:=kZ hy;have hi:i<(aE hs).length:=(dj.mp hn).1;apply#[_,Z,Z,λNx hN=>fg ?_];apply#[_,Z,zl,λt ht=>?_];let s5:=aa.new (o:=.tup [.str n,.int 0]) ht;let lo:=bS pa;rw[fY,fA] at lo;apply#[out,s5 _ _ gr,by omega,hN _ _ #[j2 (sm.trans s5) hD,az,?_]];have F_:upd H' t (.tup [.str n,.int 0]) t\.tup [.str n,.int 0]:=az;have pD:∀{b:Addr} {ys:aj},upd H' t (.tup [.str n,.int 0]) b\.tup ys->b≠D:=λhb=>cj hb (s5 _ _ gr) nofun;rw[j0 hn];show kW K _ _ (((aE hs).take i++[n]).map _);rw[eK];exact qb (Paired.bC pa λy kv ⟨b,z,hb⟩=>#[b,z,by rw[aF (pD (s5 _ _ hb))];exact s5 _ _ hb]) (.cons #[t,Z,by rw[aF (pD F_)];exact F_] .nil)
 rw[aB,fX] at pa;apply#[D,out,_,Z,xN,pa,by rw[fY];omega,λd2 hd2=>?_]
 have zc:((bO (aE hs) λ_=>V.int 0).map (·.1)).Nodup:=by
  rw[En,vC,vE];exact Pl.Gd.ux.imp λn e=>n (iC e)
 rw[CY zc];let s2:=(s1.trans sm).trans (aa.new (o:=.dK (bO (aE hs) λ_=>V.int 0)) hd2);have e2:upd H5 d2 (.dK (bO (aE hs) λ_=>V.int 0)) d2\.dK (bO (aE hs) λ_=>V.int 0):=az;have n2:H d2=none:=s1.free (sm.free hd2);show qo _ _ _ _ (upd H5 d2 (.dK (bO (aE hs) λ_=>V.int 0)));generalize upd H5 d2 (.dK (bO (aE hs) λ_=>V.int 0))=H6 at s2 e2 ⊢;have PH:d2≠d:=(bU Pl.hd n2).symm;apply#[d,_,s2 _ _ Pl.hd,?_];apply#[_,Z,d,_,Z,s2 _ _ Pl.hd,λv hv=>?_];let#[s3,iJ]:=aN (o:=i5 v d) hv;let e3:=s3 _ _ e2;let iU:=s2.trans s3;generalize upd H6 v (i5 v d)=H7 at s3 iJ e3 iU ⊢;apply#[v,d,_,Z,iJ,iU _ _ Pl.hd,λo=>?_];apply K9 (λi σ H'=>∃(v2 v4:aV),σ=[some (.ref g),some (.ref d),v2,some (.ref d2),v4]/\Fz d o (cE (qs.map (·.1)) f) H H'/\H' d2\.dK (bO (aE hs) λh=>.int (ld f ((qs.take i).map gF) h))) #[none,none,Z,Fz.AD iU,by rw[aF PH];exact e3] (λi σ H' _ ⟨_,_,_,z,_⟩=>z.at_) ?_ ?_
 ·rintro i ky x σ H8 hx ⟨v2,v4,rfl,fz,e8⟩ t ht;let#[n,hn,rfl,rfl]:=GZ hx
  have hi:i<qs.length:=by
   have:=(dj.mp hn).1;rwa [aB] at this
  have hq:qs[i]? = some (qs[i]'hi):=dE hi
  have en:n=(qs[i]'hi).1:=by
   rw[dQ,hq] at hn;exact (dG hn).symm
  have fm:f n∈aE hs:=(jm hs).mem_iff.mpr (Pl.at_ n (dD hn));generalize qs[i]'hi=q at hq en;let s8:=aa.new (o:=.tup [.str n,.str (f n)]) ht;let lW:=fz.step s8;let e9:=s8 _ _ e8;have et:upd H8 t (.tup [.str n,.str (f n)]) t\.tup [.str n,.str (f n)]:=az;show iX _ _ _ _ _ (upd H8 t (.tup [.str n,.str (f n)])) _;generalize upd H8 t (.tup [.str n,.str (f n)])=H9 at s8 lW e9 et ⊢;apply#[t,_,Z,.of et,Z,_,_,Z,_,_,Z,Z,?_];let G9:=lW.uX Pl.hd Pl.G Pl.ic;let#[dx,dw,dy,vs,bI,h1,h2,h3,h4,h5,m1,m2,m3,m4,m5]:=id G9.ex;have jB:(bJ p dw dy).lookup ("weight":Str)=none:=qS _ _ _ Z0 Z0 Z0;apply#[_,Z,_,Z,d2,.int (ld f ((qs.take i).map gF) (f n)),Z,?_,_,Z,g,dx,_,Z,h1,jB,_,Z,g,p,.str n,some n,hs,ts,qs,fp,Z,G9,Pl.nd,Z,.inl #[q,dD hq,eA some en,?_]]
  ·rw[<- CZ (g:=λh=>V.int (ld f ((qs.take i).map gF) h)) fm];exact .k (k:=Sum.inr (f n)) e9
  apply#[_,_,Z,Z,_,Z,_,Z,d2,_,Z,.k (k:=Sum.inr (f n)) e9 (by rw[fY];omega),?_];apply#[_,_,Z,lW.put n2 PH,?_];rw[az,Kw fm];congr 2;apply K2 λm _=>?_
  have e5:(qs.take (i+1)).map gF=(qs.take i).map gF++[gF q]:=by
   rw[k_,hq,eK];rfl
  rw[e5,_Q];show (if m=f n then V.int (ld f ((qs.take i).map gF) (f n)+q.2.1) else V.int (ld f ((qs.take i).map gF) m))=V.int (if m=f q.1 then _ else _);rw[<- en];by_cases z:m=f n
  ·rw[aJ z,aJ z,z];rfl
  rw[aC z,aC z]
 rintro σ H8 ⟨v2,v4,rfl,fz,e8⟩;apply#[o,fz.at_,?_];rw[fY,aB,fX] at e8;exact#[_,Z,k d2 _ (fz.iR Pl.hd) n2 (by rw[aF PH];exact e8)]
end
end Ev
namespace L2
open PySem PySem.Spec PyProof.Rows PySem.W
theorem fV_{d:Addr}{o:Obj}{kvs:List (Key × V)}{g:TG}{tc:TT}{te:TE}{own:Nat}{fv:List aV}{dec:V->Hp->List aV->Prop}{D:Addr}{H:Hp}{Q:VK}{ql:St}(xy:ql=List.replicate own none++fv)(G:EB g own fv dec)(Pv:Nat->aj->Hp->Prop)
  (h0:Pv 0 [] (upd H D (.lst []))) (hl:∀i out H',i<=kvs.length->Pv i out H'->H' d\.frz o (.dK kvs)) (hd:∀out H',Pv kvs.length out H'->Q (.ref D) H')
  (Gv:∀i k x out H',kvs[i]? = some (k,x)->Pv i out H'->∀t,H' t=none->∃o3,dec (.ref t) (upd H' t (.tup [kV k,x])) o3/\o3.length=own/\∀Nx:Hp->Prop,(∀nu H2,Pv (i+1) nu H2->Nx H2)->
   tc (o3++fv) (upd H' t (.tup [kV k,x])) λb H4=>if b=true then te (o3++fv) H4 λy H5=>∃gi,H5 D\.lst gi/\gi.length<sizeLine/\Nx (upd H5 D (.lst (gi++[y]))) else Nx H4) :
  D0 (Itm d o kvs) g tc te ql D H Q:=by
 apply Ky xy G kvs.length Pv h0 (λout H' p=>#[#[hl _ _ _ (bj _) p,bj _],hd out H' p]) λi out H' hi p=>?_;let q:=hl i out H' (Nat.le_of_lt hi) p;apply#[#[q,hi],λx H2 y=>?_];let#[t,k,v,rfl,ht,hx,rfl]:=y;exact Gv i k v out H' hx p t ht
section
variable{X:Cx}
inductive uh (xs:aj) (H:Hp) (Q:VK):Prop
 |mk:∀a kvs,xs=[.ref a]->Rd H a (.dK kvs)->(∀p,H p=none->Q (.ref p) (upd H p (.dK kvs)))->uh xs H Q
theorem P6:fW X (.type "dict") uh:=by
 intro pins s σ H xs us Q I r h;let#[a,kvs,rfl,hd,q]:=h;let#[u,rfl,ru]:=vals1 r;cases ru;exact iG_ I hd λp s' hp I'=>#[.ref p,_,I',Z,q p hp]
inductive ue (K:af) (x:V) (y:V) (H:Hp) (Q:VK):Prop
 |mk:∀a b xs,x=.ref a->y=.ref b->dH K H a xs->dH K H b []->Q (.bl (!xs.isEmpty)) H->ue K x y H Q
theorem Uw(hu:X.A.units+0+1<cLine):eW X (compareOp .NotEq) (ue X.K):=by
 intro pins s σ H x y v u Q I rx ry h;let#[a,b,xs,rfl,rfl,t,t',hq]:=h;cases xs with
 |nil=>exact Su i0 hu pins s σ H (.ref a) (.ref b) v u Q I rx ry #[[],[],#[a,[],Z,t,.nil],#[b,[],Z,t',.nil],hq]
 |cons z zs=>
  cases rx;cases ry;let#[us,r,pl,_]:=I.list t;let#[vs,r',ui,_]:=I.list t';let l1:=r.length;let l2:=r'.length;exact Ln.iq pl.isList ui.isList (by simp only[cn,bne_iff_ne];simp at l1 l2;omega) Z1 #[.bl true,H,I,Z,hq]
end
end L2
namespace Ev
open PySem L2
theorem SD{A:Ag}{s:Ab}{ns:ae}{f g:aq}{vb:List (Key × Aa)}(rb:KV (cE ns g) vb):∀(ms:ae) (va:List (Key × Aa)),KV (cE ms f) va->(∀m∈ms,m∈ns)->PySem.W.KeqHits A s vb va (ms.all λn=>decide (f n=g n))
 |[],va,r,_=>by
  cases r;exact .nil
 |m::ms,va,r,h=>by
  cases r with
  |@cons _ q _ Xg h1 r=>
   let hm:=h m eZ;let#[y,hy,ry]:=eF.some_of (v:=.str (g m)) (o:=valueAt vb (Sum.inr m)) (by rw[<- CZ (g:=λn=>V.str (g n)) hm];exact rb.val _);let#[k,v]:=q;let#[e1,e2]:=h1;have e1:(Sum.inr m:Key)=k:=e1;subst e1;let#[t,rfl]:=(show ∃t,v=Value.str (f m) t from e2);let#[u,rfl]:=(show ∃t,y=Value.str (g m) t from ry);let q:=SeqAt.EqAt.str_str (A:=A) (s:=s) (f m) t (g m) u;rw[show (f m == g m)=decide (f m=g m) by by_cases z:f m=g m<;>simp[z]] at q
   exact .hit hy q (SD rb ms Xg r λx hx=>h x (dZ _ hx))
def nA(a n:Int):Int:=a / (Int.gcd a n:Int) * n
theorem kQ_{a n:Int}(ha:0<a)(hn:0<n):nA a n=(Int.lcm a n:Int):=by
 let#[p,rfl]:=zY (Int.le_of_lt ha);let#[q,rfl]:=zY (Int.le_of_lt hn);show ((p:Int) / ((Nat.gcd p q:Nat):Int)) * (q:Int)=((Nat.lcm p q:Nat):Int);rw[<- Int.natCast_ediv,<- Int.natCast_mul,Nat.div_mul_right_comm (Nat.gcd_dvd_left p q)];rfl
def ny(ns:List Int):Int:=ns.foldl nA 1
theorem Uc:∀(ns:List Int) (a:Int),0<a->(∀n∈ns,0<n)->0<ns.foldl nA a/\∀x:Int,0<=x->(ns.foldl nA a ∣ x ↔ a ∣ x/\∀n∈ns,n ∣ x)
 |[],a,ha,_=>#[ha,λx _=>by simp]
 |n::ns,a,ha,h=>by
  let hn:=h n eZ;let e:=kQ_ ha hn
  have p:0<nA a n:=by
   rw[e];have:=Nat.lcm_pos (m:=a.natAbs) (n:=n.natAbs) Z1 Z1;have:0<Int.lcm a n:=this;omega
  let#[h1,h2]:=Uc ns (nA a n) p λm hm=>h m (dZ _ hm);apply#[h1,λx hx=>(h2 x hx).trans ?_];let#[z,rfl]:=zY hx;rw[e,Int.natCast_dvd_natCast,Int.lcm_dvd_iff];constructor
  ·rintro⟨⟨q1,q2⟩,q3⟩
   exact#[q1,λm hm=>by
    rcases bW.mp hm with rfl|hm
    ·exact q2
    exact q3 m hm]
  rintro⟨q1,q2⟩;exact#[#[q1,q2 n eZ],λm hm=>q2 m (dZ _ hm)]
theorem iw_{ns:List Int}(h:∀n∈ns,0<n):0<ny ns:=(Uc ns 1 (by decide) h).1
theorem kK_(f:aq)(x:Str × Int)(ws:Xa)(h:Str):ld f (x::ws) h=(if f x.1=h then x.2 else 0)+ld f ws h:=by
 unfold ld;by_cases e:f x.1=h
 ·simp[e]
 simp[e]
def sumF(ns:ae)(L c:Str->Int):Int:=(ns.map λh=>L h * (L h * c h)).sum
end Ev
namespace Ev
open PySem L2
theorem R7{f:aq}{h:Str}:∀{ws:Xa},(∀x∈ws,0<=x.2/\x.2<=1000000000)->ld f ws h<=1000000000 * ws.length
 |[],_=>by
  unfold ld;simp
 |x::ws,p=>by
  let h1:=p x eZ;let h2:=R7 (f:=f) (h:=h) (ws:=ws) λy hy=>p y (dZ _ hy);rw[kK_,j3];by_cases z:f x.1=h
  ·rw[aJ z];omega
  rw[aC z];omega
def pJ(hs:Xa):Int:=ny ((aE hs).map (strOf hs))
theorem JW{hs:Xa}{ts:Xb}(G:Good hs ts){n:Str}(h:n∈aE hs):1<=strOf hs n/\strOf hs n<=1000:=(G.au _ (zQ ((jm hs).mem_iff.mp h))).2
section v
theorem w4:bq ["numbers","found","number"] ["numbers"] (aL L9):=bE
def E2(K:af):Sp:=λvs H Q _=>∃(l:Addr) (ns:List Int),vs=[.ref l]/\dH K H l (ns.map V.int)/\(∀n∈ns,1<=n/\n<=1000)/\Q (.int (ny ns)) H
theorem j1_{ns:List Int}{i:Nat}{n:Int}(h:ns[i]? = some n):ny (ns.take (i+1))=nA (ny (ns.take i)) n:=by
 unfold ny;rw[k_,h,List.foldl_append];rfl
theorem f5_{ns:List Int}{i:Nat}{y:V}(h:(ns.map V.int)[i]? = some y):∃n,ns[i]? = some n/\y=.int n:=by
 rw[dQ] at h;cases e:ns[i]? with
 |none=>rw[e] at h;cases h
 |some n=>rw[e] at h;exact#[n,Z,(dG h).symm]
theorem _e{f:Addr}{fd:Ae}(F:a_ K "least_multiple" "least_multiple" L9 f fd)(cG:!bx 1 "greatest_divisor" rE E3):!ag bc 2 f fd ["numbers"] (E2 K):=by
 exists F.bH w4;let#[l,ns,rfl,hl,b,k]:=h;refine' #[_,ay ?s1 (ay ?s2 (aI ?s3)),?kk]
 case s1=>exact bw 1 w4.nd aM
 case s2=>exact f_ ie Z (fB (pv 0)) (dR 2 w4.nd) (aI (bw 1 w4.nd (b_ rP (b_ zO (pv 1) (bt cG hr %[1,2|0])) (pv 2))))
 case s3=>exact bg (pv 1)
 apply#[_,Z,l,Z,#[_,hl],k8 (K:=K) (a:=l) (xs:=ns.map V.int) (λi σ H'=>H'=H/\∃(v2:aV),σ=[some (.ref l),some (.int (ny (ns.take i))),v2]) #[Z,none,Z] (λi σ H' _ ⟨e,_⟩=>by rw[e];exact hl) ?_ ?_]
 ·rintro i y σ H' hy ⟨rfl,v2,rfl⟩;let#[n,hn,rfl]:=f5_ hy;let bn:=b n (dD hn)
  let p:=iw_ (ns:=ns.take i) λm hm=>by
   have:=b m (List.take_subset _ _ hm);omega
  apply#[_,Z,_,Z,_,Z,_,_,Z,Int.le_of_lt p,by omega,_,_,Z,Z,Zo Z1 (Int.le_trans bn.2 (by decide)),_,Z,_,_,Z,Z,.inr #[by omega,by omega],Z,some (.int n),?_];rw[j1_ hn];rfl
 rintro σ H' ⟨rfl,v2,rfl⟩;apply#[_,Z,?_];rw[aB,fX];exact k
theorem AN:bq ["web"] ["web"] (aL tP):=bE
inductive mx (K:af) (C:Addr) (vs:aj) (H:Hp) (Q:VK) (E:XK):Prop
 |mk:∀(p:Addr) (hs:Xa) (ts:Xb) (fp:ai),vs=[.ref p]->ft K C H p hs ts fp->Good hs ts->(∀H',aa H H'->Q (.int (pJ hs)) H')->mx K C vs H Q E
theorem _x{f CW:Addr}{fd:Ae}(F:a_ K "multiple_of_strengths" "multiple_of_strengths" tP f fd)(TW:Txt K mg CW)(cL:!bx 2 "least_multiple" ["numbers"] (E2 K))(cH:!bf CW 1 "hands" gW (Ei K CW))(cS:!bf CW 2 "strength" jZ (Ep K CW)):!ag bc 3 f fd ["web"] (mx K CW):=by
 exists F.bH AN;let#[p,hs,ts,fp,rfl,W,G,k]:=h;let sz:=cm;let nl:=G.fQ;let h8:=G.h8;refine' #[_,aI (bg (bt cL hr %[p9 ["hand","web"] 1 [0] (fB (wx cH TW.cl (hr.mono (by decide)) (pv 0))) (λfp s H=>gM (i:=0) (show (["hand","web"]:ae).Nodup by decide +kernel) Z (Or.inl Z)) (λfp s H=>k7) (λfp s H=>?e1)|0])),?kk]
 case e1=>exact eL cS TW.cl hr (pv 1) %[0|0]
 let#[eI,d1,l2,d3,jq,as,ef,w1,_]:=id W.ex;apply#[_,Z,p,eI,_,Z,w1,iP _ _ _ Z0 Z0 Z0,p,hs,ts,fp,Z,W,λlh zm=>?_];let#[s1,e1]:=aN (o:=.lst ((aE hs).map V.str)) zm;generalize upd H lh (.lst ((aE hs).map V.str))=H1 at s1 e1 ⊢;apply#[lh,Z,#[_,.of e1],λD hD=>?_];apply qa (own:=1) (fv:=[some (.ref p)]) (xs:=(aE hs).map V.str) Z fU (λi out H'=>aa H1 H'/\H' D\.lst out/\out=(((aE hs).take i).map (strOf hs)).map V.int) #[aa.new hD,az,Z] (λi out H' _ ⟨sm,_,_⟩=>.of (sm _ _ e1)) (λout H5 ⟨sm,xN,eo⟩=>?_) (λi y out H' hy ⟨sm,gr,eo⟩=>?_)
 ·rw[aB,fX] at eo;rw[eo] at xN;apply#[D,_,Z,.of xN,λn hn=>?_,k H5 (s1.trans sm)];let#[m,hm,rfl]:=bD.mp hn;exact JW G hm
 let#[n,hn,rfl]:=kZ hy;have hi:i<(aE hs).length:=(dj.mp hn).1;apply#[_,Z,Z,λNx hN=>fg ?_];let W':=(W.same s1).same sm;let#[eI,d1,l2,d3,jq,as,ef,w1,_]:=id W'.ex;apply#[_,Z,p,eI,_,Z,w1,iP _ _ _ Z0 Z0 Z0,_,Z,p,n,strOf hs n,hs,ts,fp,Z,W',G.zk,zQ ((jm hs).mem_iff.mp (dD hn)),?_];apply#[out,gr,by rw[eo,aB,aB,fA];omega,hN _ _ #[j2 sm hD,az,?_]];rw[j0 hn,eK,eK,eo];rfl
theorem Hs:bq ["goods","placed","multiple","found","hand","load"] l7 (aL Oz):=bE
def vV(hs:Xa)(qs:aH)(f:aq)(h:Str):Int:=ld f (qs.map gF) h * (pJ hs / strOf hs h)
inductive K6 (K:af) (CG CW:Addr) (vs:aj) (H:Hp) (Q:VK) (E:XK):Prop
 |mk:∀(g p d:Addr) (hs:Xa) (ts:Xb) (qs:aH) (fp:ai) (f:aq),vs=[.ref g,.ref d]->vA K CG CW H g p d hs ts qs fp f->(∀q∈qs,0<=q.2.1/\q.2.1<=1000000000)->(∀d' H',aa H H'->H d'=none->H' d'\.dK (bO (aE hs) λh=>.int (vV hs qs f h))->Q (.ref d') H')->K6 K CG CW vs H Q E
theorem Ju{qs:aH}(wp:∀q∈qs,0<=q.2.1/\q.2.1<=1000000000)(bY:qs.length<64)(f:aq)(h:Str):0<=ld f (qs.map gF) h/\ld f (qs.map gF) h<=64000000000:=by
 have p:∀x∈qs.map gF,0<=x.2/\x.2<=1000000000:=λx hx=>by
  let#[q,hq,rfl]:=bD.mp hx;exact wp q hq
 let h1:=R7 (f:=f) (h:=h) p;rw[aB] at h1;exact#[_w λx hx=>(p x hx).1,by omega]
theorem i3_{f CG CW:Addr}{fd:Ae}(F:a_ K "levels_at" "levels_at" Oz f fd)(T:c_ K CG)(TW:Txt K mg CW)(cL:!bx 3 "loads_at" l7 (Ir K CG CW))(cM:!bx 3 "multiple_of_strengths" ["web"] (mx K CW))(cS:!bf CW 2 "strength" jZ (Ep K CW)) :
  ag P w K mg base bc 4 f fd l7 (K6 K CG CW):=by
 exists F.bH Hs;let#[g,p,d,hs,ts,qs,fp,f,rfl,Pl,wp,k]:=h;let hu:=gz hr;let sz:=cm;have uL:aK 2 _:=hr.mono (by decide);refine' #[_,?r0,?kk]
 case' r0=>refine' ay ?s0 (ay ?s1 (ay ?s2 ?r2))
 case s0=>exact bw 2 Hs.nd (bt cM hr %[cZ (pv 0) Z|0])
 case s1=>exact bw 3 Hs.nd H_
 case' s2=>refine' f_ ie Z ?i2 ?g2 (aI ?b2)
 case i2=>exact Ig (CO (bt cL hr %[0,1|0]))
 case g2=>exact rQ Z (fo (dR 4 Hs.nd) (fo (dR 5 Hs.nd) oy))
 case b2=>exact wu hu (pv 3) (pv 4) (b_ rP (pv 5) (b_ zO (pv 2) (eL cS TW.cl uL (cZ (pv 0) Z) %[4|0]))) Z
 case r2=>exact aI (bg (pv 3))
 let nl:=Pl.Gd.fQ;let h8:=Pl.Gd.h8;let#[dx,dw,dy,vs,bI,h1,h2,_]:=id Pl.G.ex;apply#[_,Z,g,CG,dx,_,_,Z,h1,T.cl,T.nW,j1 _ _ _,p,hs,ts,bI,Z,h2,Pl.Gd,λH0 s0=>?_];intro d2 hd2;let s1:=s0.trans (aa.new (o:=.dK []) hd2);have e1:upd H0 d2 (.dK []) d2\.dK []:=az;have n2:H d2=none:=s0.free hd2;show qo _ _ _ _ (upd H0 d2 (.dK []));generalize upd H0 d2 (.dK [])=H1 at s1 e1 ⊢;have Rb:vA K CG CW H1 g p d hs ts qs fp f:=#[Pl.G.same s1,Pl.Gd,Pl.ic,s1 _ _ Pl.hd,Pl.at_,Pl.nd,Pl.bY];apply#[_,Z,_,Z,g,p,d,hs,ts,qs,fp,f,Z,Rb,λdl H2 s2 JN e2=>?_];apply#[dl,_,Z,e2,λv hv=>?_];let#[s3,iJ]:=aN (o:=i5 v dl) hv;let e3:=s3 _ _ e2;let ua:=s2.trans s3;generalize upd H2 v (i5 v dl)=H3 at s3 iJ e3 ua ⊢;have Dw:H dl=none:=s1.free JN;have VT:d2≠dl:=bU e1 JN;apply#[v,dl,_,Z,iJ,e3,λo=>?_];apply K9 (λi σ H'=>∃(v4 v5:aV),σ=[some (.ref g),some (.ref d),some (.int (pJ hs)),some (.ref d2),v4,v5]/\aa H H'/\H' dl\.frz o (.dK (xx hs qs f))/\H' d2\.dK (bO ((aE hs).take i) λh=>.int (vV hs qs f h))) #[none,none,Z,j2 (s1.trans ua) Dw,az,by rw[aF VT];exact ua _ _ e1] (λi σ H' _ ⟨_,_,_,_,z,_⟩=>z) ?_ ?_
 ·rintro i ky x σ H8 hx ⟨v4,v5,rfl,s8,f8,e8⟩ t ht;let#[n,hn,rfl,rfl]:=GZ hx;have hi:i<(aE hs).length:=(dj.mp hn).1;have nm:n∈hs.map (·.1):=(jm hs).mem_iff.mp (dD hn);let sm:=zQ nm;let sg:=JW Pl.Gd (dD hn);let lo:=Ju wp Pl.bY f n;let ss:=aa.new (o:=.tup [.str n,.int (ld f (qs.map gF) n)]) ht;let s9:=s8.trans ss;let e9:=ss _ _ e8;let f9:=ss _ _ f8;have et:upd H8 t (.tup [.str n,.int (ld f (qs.map gF) n)]) t\.tup [.str n,.int (ld f (qs.map gF) n)]:=az;show iX _ _ _ _ _ (upd H8 t (.tup [.str n,.int (ld f (qs.map gF) n)])) _;generalize upd H8 t (.tup [.str n,.int (ld f (qs.map gF) n)])=H9 at ss s9 e9 f9 et ⊢;apply#[t,_,Z,.of et,Z,_,_,Z,_,_,Z,Z,?_];let G9:=Pl.G.same s9;let#[dx,dw,dy,vs,bI,h1,h2,h3,h4,h5,m1,m2,m3,m4,m5]:=id G9.ex;let#[eI,d1,l2,d3,jq,as,ef,w1,_]:=id h2.ex;have gq:(bZ d1 l2 d3).lookup ("strength":Str)=none:=iP _ _ _ Z0 Z0 Z0;apply#[_,Z,_,Z,_,Z,g,CG,dx,_,_,Z,h1,T.cl,T.nW,j1 _ _ _,p,eI,_,Z,w1,gq,_,Z,p,n,strOf hs n,hs,ts,bI,Z,h2,Pl.Gd.zk,sm,?_];apply#[_,_,Z,Z,#[by omega,by omega],_,_,Z,Z,.inl #[by omega,by omega],_,Z,_,Z,d2,_,Z,.k (k:=Sum.inr n) e9 (by rw[fY,fA];omega),?_];apply#[_,_,Z,j2 s9 n2,by rw[aF VT.symm];exact f9,?_];rw[az,j0 hn,Tt (Px Pl.Gd.ux hn)];congr 2;apply K2 λm _=>?_;by_cases z:m=n
  ·subst z;simp[vV]
  simp[z]
 rintro σ H8 ⟨v4,v5,rfl,s8,f8,e8⟩;rw[fY,fX] at e8;exact#[_,Z,k d2 H8 s8 n2 e8]
end
end Ev
namespace L2
open PySem PySem.Spec PySem.Calls PyProof.Rows PySem.W
section
variable{M:Model}{A:Ag}{E:Aa->Ab->Prop}{s:Ab}{base:Heap}{env:Env}{outer:List Env}{L e:Addr}{cls a0:Aa}{Q:Unit->Ab->Prop}
def qc(h base:Heap)(e:Addr)(cls a0:Aa)(dd:Option Addr):Prop:=∃oe vs T oT ts,h.get? e\oe/\(oe.cls=cls/\vs[0]? = some a0)/\oe.data=Data.fields vs/\vs[1]? = some (Value.ref T)/\base.get? T=none/\T≠e/\h.get? T\oT/\oT.data=Data.fields ts/\ts[3]? = some Value.none/\oe.dict=dd
def qN(base:Heap)(l:List Env)(e:Addr)(cls a0:Aa)(dd:Option Addr)(h:Heap):Prop:=base.StaysIn h/\base.get? e=none/\h.FunFrames base l/\qc h base e cls a0 dd
theorem qz{oe:Obj}{vs:Array Aa}{head:Aa}{jD:Bool}(jb:A.frames\(env::outer))(hl:s.heap.FunFrames base (env::outer))(hf:env.frame\L)(he:s.heap.get? e\oe)(zo:base.StaysIn s.heap)(JL:base.get? e=none)(hd:oe.data=Data.fields vs)(hsz:1<vs.size)(h0:vs[0]? = some a0)
  (h:∀h',base.StaysIn h'->h'.FunFrames base (env::outer)->qc h' base e oe.cls a0 oe.dict->s.heap.UpToSlots h'->Q () { s with heap:=h' }) :
  wpAny M A (do
   let a <- PySem.frameOf env
   let pl <- entryPlaceOf L jD
   let b <- EntryCells.newEntry head a Value.none (rawInt L) Value.none pl
   setField (Value.ref e) 1 b) (λ_ s'=>wpAny M A (setFlight (Value.ref e) none) Q E s') E s:=by
 have BV:e∉List.filterMap (λx=>x.frame) (env::outer):=λhm=>by
  let#[_,o,ho,ND]:=Heap.FunFrames.mem hl hm;rw[he] at ho;cases ho;exact ND vs hd
 apply ao (wpAny_frameOf_fun jb hl hf λaU cY=>ao (wpAny_entryPlaceOf λpl fJ=>?_));unfold EntryCells.newEntry newFields;have BB:aU.objs.size=s.heap.objs.size:=cY.1;let fS:=(cY.right.left e BV).trans he;have dX:∀b o,s.heap.get? b\o->b≠aU.objs.size:=λb o q=>dB (by rw[BB];exact bN q)
 have JP:base.get? aU.objs.size=none:=by
  cases q:base.get? aU.objs.size with
  |none=>rfl
  |some o=>exact absurd Z (dX _ o (zo _ o q))
 have dO:∀b o,base.get? b\o->aU.get? b\o:=λb o q=>(cY.right.left b (λhm=>by
  have:=(Heap.FunFrames.mem hl hm).1;rw[q] at this;cases this)).trans (zo b o q)
 obtain⟨ij,vW,JA⟩:∃ij:Array Aa,([head,Value.ref L,Value.none,rawInt ↑L,Value.none]++if pl.isEmpty=true then List.replicate 6 Value.none else pl).toArray=ij/\3<ij.size:=#[_,Z,by simp]
 have BA:ij.size<=sizeLine+2:=by
  rw[<- vW];rcases fJ with rfl|⟨a,b,c,d,c9,vB,_,rfl⟩
  ·show 11<=sizeLine+2;decide
  show 11<=sizeLine+2;decide
 apply ao (wb ?_ (by rw[vW];exact BA));rw[vW];have eP:(aU.push { cls:=Value.type "traceback",data:=Data.fields ij }).get? e\oe:=bQ _ fS;have uN:(aU.push { cls:=Value.type "traceback",data:=Data.fields ij }).get? aU.objs.size=some { cls:=Value.type "traceback",data:=Data.fields ij }:=dU aU Z;have je:aU.objs.size≠e:=(dX e oe he).symm;apply wpAny_setField eP hd hsz ?_;let jc:=Obj.data_mapFields hd λx=>x.setIfInBounds 1 (Value.ref aU.objs.size);let gK:=zM (Obj.mapFields λx=>x.setIfInBounds 1 (Value.ref aU.objs.size)) eP (Obj.isFreed_of_fields jc);let pN:=(ji (aU.push { cls:=Value.type "traceback",data:=Data.fields ij }) (Obj.mapFields λx=>x.setIfInBounds 1 (Value.ref aU.objs.size)) je.symm).trans uN;unfold setFlight;apply ao (wpAny_field (x:=.ref aU.objs.size) gK jc (by simp[hsz]) ?_);rw[aJ Z2];apply wpAny_setField pN Z JA ?_;let zq:=Obj.data_mapFields (o:={ cls:=Value.type "traceback",data:=Data.fields ij }) Z λx=>x.setIfInBounds 3 Value.none;let Gi:=zM (Obj.mapFields λx=>x.setIfInBounds 3 Value.none) pN (Obj.isFreed_of_fields zq);let kG:=(ji ((aU.push { cls:=Value.type "traceback",data:=Data.fields ij }).update e (Obj.mapFields λx=>x.setIfInBounds 1 (Value.ref aU.objs.size))) (Obj.mapFields λx=>x.setIfInBounds 3 Value.none) je).trans gK
 have uj:∀b o,b≠e->b≠aU.objs.size->aU.get? b\o->(((aU.push { cls:=Value.type "traceback",data:=Data.fields ij }).update e (Obj.mapFields λx=>x.setIfInBounds 1 (Value.ref aU.objs.size))).update aU.objs.size (Obj.mapFields λx=>x.setIfInBounds 3 Value.none)).get? b\o:=λb o n1 n2 q=>
  (ji _ _ n2.symm).trans ((ji _ _ n1.symm).trans (bQ _ q))
 have Gx:((Obj.mapFields λx=>x.setIfInBounds 1 (Value.ref aU.objs.size)) oe).cls=oe.cls/\((Obj.mapFields λx=>x.setIfInBounds 1 (Value.ref aU.objs.size)) oe).dict=oe.dict:=by
  let#[c,dt,da,sl]:=oe;have:da=Data.fields vs:=hd;subst this;exact#[Z,Z]
 have ups:∀b o,s.heap.get? b\o->(∀vs,o.data≠Data.fields vs)->∃sl,(((aU.push { cls:=Value.type "traceback",data:=Data.fields ij }).update e (Obj.mapFields λx=>x.setIfInBounds 1 (Value.ref aU.objs.size))).update aU.objs.size (Obj.mapFields λx=>x.setIfInBounds 3 Value.none)).get? b=some { cls:=o.cls,dict:=o.dict,data:=o.data,slots:=sl }:=λb o q nf=>by
  let#[sl,q1]:=cY.right.right b o q;apply#[sl,uj b _ (λz=>?_) (dX b o q) q1];subst z;rw[he] at q;cases q;exact nf vs hd
 apply h _ (λb o q=>uj b o (λz=>?_) (λz=>?_) (dO b o q)) (Heap.FunFrames.of_keeps (λb o q nf=>?_) hl) #[_,_,aU.objs.size,_,_,kG,#[Gx.1,?_],jc,?_,JP,je,Gi,zq,?_,Gx.2] ups
 ·subst z;rw[JL] at q;cases q
 ·subst z;rw[JP] at q;cases q
 ·let#[sl,q1]:=ups b o q nf;exact#[_,q1,Z]
 ·rw[Array.getElem?_setIfInBounds];simpa using h0
 ·simp[hsz]
 simp[JA]
theorem qN.obj{dd:Option Addr}{l:List Env}{h:Heap}(f:qN base l e cls a0 dd h):∃oe vs,h.get? e\oe/\oe.cls=cls/\oe.data=Data.fields vs/\oe.dict=dd:=by
 let#[f1,f2,f3,oe,vs,T,oT,ts,h1,h2,h3,h4,h5,h6,h7,h8,h9,h10]:=f;exact#[oe,vs,h1,h2.1,h3,h10]
theorem qN.less{dd:Option Addr}{h:Heap}(f:qN base (env::outer) e cls a0 dd h):qN base outer e cls a0 dd h:=#[f.1,f.2.1,f.2.2.1.2.2,f.2.2.2]
theorem VZ{dd:Option Addr}(jb:A.frames\(env::outer))(hf:env.frame\L)(uR:qN base (env::outer) e cls a0 dd s.heap)
  (hQ:∀h',qN base (env::outer) e cls a0 dd h'->s.heap.UpToSlots h'->Q () { s with heap:=h' }):wpAny M A (noteFrame (Value.ref e) env) (λ_ fP=>wpAny M A (setFlight (Value.ref e) none) Q E fP) E s:=by
 let#[f1,f2,f3,oe,vs,T,oT,ts,he,#[hc,h0],hd,h1,qI,je,hT,jd,h3,lS]:=uR;unfold noteFrame;rw[hf];dsimp only;apply ao (wpAny_field he hd h1 ?_);rw[aJ Z2];apply ao (wpAny_field hT jd h3 ?_);rw[aC (by simp[rawInt])];apply ao (wpAny_setField hT jd (zZ.mp h3).1 ?_);have other:∀b,b≠T->(s.heap.update T (Obj.mapFields λx=>x.setIfInBounds 3 Value.none)).get? b=s.heap.get? b:=λb hb=>ji _ _ hb.symm
 have ip:∀b o,s.heap.get? b\o->(∀vs,o.data≠Data.fields vs)->b≠T:=λb o q nf z=>by
  subst z;rw[hT] at q;cases q;exact nf ts jd
 apply qz (base:=base) (s:={ s with heap:=s.heap.update T (Obj.mapFields λx=>x.setIfInBounds 3 Value.none) }) jb (Heap.FunFrames.of_keeps (λb o q nf=>#[o,(other b (ip b o q nf)).trans q,Z]) f3) hf ((other e je.symm).trans he) (λb o q=>(other b (λz=>?_)).trans (f1 b o q)) f2 hd (zZ.mp h1).1 h0 λh' g1 g2 g3 g4=>?_
 ·subst z;rw[qI] at q;cases q
 apply hQ h' #[g1,f2,g2,?_] λb o q nf=>g4 b o ((other b (ip b o q nf)).trans q) nf;rw[hc,lS] at g3;exact g3
theorem fW_{dd:Option Addr}(jb:A.frames\(env::outer))(hf:env.frame\L)(uR:qN base (env::outer) e cls a0 dd s.heap)
  (hQ:∀h',qN base outer e cls a0 dd h'->s.heap.UpToSlots h'->Q () { s with heap:=h' }):wpAny M A (leaving env (Value.ref e)) Q E s:=by
 unfold leaving;exact ao (VZ jb hf uR λh' f u=>hQ h' f.less u)
theorem eo_{dd:Option Addr}{l:List Env}(uR:qN base l e cls a0 dd s.heap)(hQ:∀h',qN base l e cls a0 dd h'->s.heap.UpToSlots h'->Q () { s with heap:=h' }):wpAny M A (setFlight (Value.ref e) none) Q E s:=by
 let#[f1,f2,f3,oe,vs,T,oT,ts,he,#[hc,h0],hd,h1,qI,je,hT,jd,h3,lS]:=uR;unfold setFlight;apply ao (wpAny_field he hd h1 ?_);rw[aJ Z2];apply wpAny_setField hT jd (zZ.mp h3).1 ?_;have other:∀b,b≠T->(s.heap.update T (Obj.mapFields λx=>x.setIfInBounds 3 Value.none)).get? b=s.heap.get? b:=λb hb=>ji _ _ hb.symm
 have ip:∀b o,s.heap.get? b\o->(∀vs,o.data≠Data.fields vs)->b≠T:=λb o q nf z=>by
  subst z;rw[hT] at q;cases q;exact nf ts jd
 let zr:=Obj.data_mapFields jd λx=>x.setIfInBounds 3 Value.none;let N8:=zM (Obj.mapFields λx=>x.setIfInBounds 3 Value.none) hT (Obj.isFreed_of_fields zr);apply hQ _ #[λb o q=>(other b (λz=>?_)).trans (f1 b o q),f2,Heap.FunFrames.of_keeps (λb o q nf=>#[o,(other b (ip b o q nf)).trans q,Z]) f3,oe,vs,T,_,_,(other e je.symm).trans he,#[hc,h0],hd,h1,qI,je,N8,zr,?_,lS] λb o q nf=>#[o.slots,(other b (ip b o q nf)).trans q]
 ·subst z;rw[qI] at q;cases q
 have:=(zZ.mp h3).1;simp[this]
end
end L2
namespace L2
open PySem PySem.Spec PySem.Calls PyProof.Rows PySem.W
section
variable{prog:Ad}{w:Af}{A:Ag}{E:Aa->Ab->Prop}{h:Heap}{g:Array GenState}{d:Drawn}{t:Nat}{os:OsState}{nm q:Str}{C N f:Addr}{bs bm Ik:ak}{hdct:Bool}{sn:ae}{sub:ak}{ab:Bool}{col:Option Bool}{dd:Option Addr}{k0 k1 k2 k3 k5:Option Aa}{B newId uF:String}{K:af}{rest:ak}
end
end L2
namespace L2
open PySem PySem.Spec PySem.Calls PyProof.Rows PySem.W Builtin Builtin.ObjectAttr
def B9(C CE:Addr):ak:=[.ref C,.ref CE,.type "ValueError",.type "Exception",.type "BaseException",.type "object"]
section
variable{prog:Ad}{w:Af}{A:Ag}{E:Aa->Ab->Prop}{s:Ab}{K:af}{x C CE:Addr}{ox:Obj}{od:Option Obj}{name:Str}{tk:Tok}{v:Aa}{cd:ClassData}
end
end L2
namespace L2
open PySem PySem.Spec PySem.Calls PyProof.Rows PySem.W
section
variable{M:Model}{A:Ag}{E:Aa->Ab->Prop}{s:Ab}{env:Env}{nm q:Str}{C N:Addr}{bs bm:ak}{hdct:Bool}{sn:ae}{sub:ak}{ab:Bool}{col:Option Bool}{dd:Option Addr}{k0 k1 k2 k3 k5:Option Aa}{newId:String}
end
end L2
namespace L2
open PySem PySem.Spec PySem.Calls PyProof.Rows PySem.W
def B_(K:af)(C:Addr)(Ik:ak)(newId:String):Bool:=
 match K.lookup C with
 |some ⟨.type "type",_,.cls cd,sl⟩=>
  match cd.mro,sl.toList with
  |.ref C'::bm,[_,_,_,_,some (.builtin n),_]=>C' == C&&n == newId&&!cd.hasDel&&tailIn K Ik bm&&nsOkIn K cd.ns
  |_,_=>false
 |_=>false
def PZ(K:af)(C CE:Addr):Bool:=
 match clsIn K C with
 |some cd=>cd.mro == B9 C CE&&cd.hasDict
 |none=>false
structure ExO (K:af) (C CE:Addr):Prop where
 kx:lK K C
 ex:B_ K C bmV "ValueError.__new__"=true
 es:findIn K (.ref C) "__setattr__"\some (.builtin "object.__setattr__")
 cl:PZ K C CE=true
structure ExF (K:af) (C:Addr) (f:Str):Prop where
 tk:takerIn K C f\none
 fd:findIn K (.ref C) f\none
structure ExB (K:af) (CE:Addr):Prop where
 sp:specialIn K (.ref CE) "__getattribute__"\some (.builtin "type.__getattribute__")
 rd:readsIn K CE (.type "type")=true
 fc:findCls K (.ref CE) (.type "type") "__init__"\.val (.builtin "ValueError.__init__")
def zy(e C:Addr)(dd:Option Addr):HO:=.ext λh=>∃o vs,h.get? e\o/\o.cls=.ref C/\o.dict=dd/\o.data=.fields vs
section
variable{P:Ad}{w:Af}{H:Hp}{h:Heap}{e C a0 d:Addr}{dd:Option Addr}{fs:List (Str × V)}
theorem _v{o:Obj}{vs:Array Aa}(h1:h.get? e\o)(h2:o.cls=.ref C)(h3:o.dict=dd)(h4:o.data=.fields vs):d9 P w H h e (zy e C dd):=#[#[o,vs,h1,h2,h3,h4],#[o,h1],λ_ _ ⟨u,vs,q,r⟩ k=>#[u,vs,k u q,r]]
end
section
variable{X:Cx}{C CE:Addr}{x f:Str}{p apos pos pos':Pos}{o e value:Expr}{es:List Expr}{ta tv:TE}{t:TA}
end
end L2
namespace L2
open PySem PySem.Spec PySem.Calls PyProof.Rows PySem.W
def lM(P:Ad)(w:Af):i_:=λl H s E e s'=>
 ∃a cls H' B a0 dd,e=Value.ref a/\s'.os=s.os/\AllBare s'.gens/\Un (dF l) [] H H' s.heap s'.heap/\cO P w H' s'.heap/\qN B l a cls a0 dd s'.heap/\vN B l H' s.heap s'.heap/\E cls dd H'
section
variable{X:Cx}{pins:List (Addr × Obj)}{σ:St}{H H':Hp}{s s1:Ab}{B h:Heap}{a:Addr}{cls a0:Aa}{dd:Option Addr}{E:XK}
theorem gz_(I:Inv X pins σ H s)(hex:X.ex=[])(os:s1.os=s.os)(bare:AllBare s1.gens)(un:Un (dF X.stack) [] H H' s.heap h)(au:cO X.prog X.w H' h)(i:vN B X.stack H' s.heap h)(ff:h.FunFrames B X.stack)(up:h.UpToSlots s1.heap)
  (fl:qN B X.outer a cls a0 dd s1.heap) (hE:E cls dd H'):lM X.prog X.w X.outer X.iF X.cg E (.ref a) s1:=by
 let Lx:=Hu un ff i fl.1 up;let BI:=Iw au (KQ I un) i fl.1;have I1:Inv X pins σ H' s1:=I.jf os Lx BI bare (λb z=>absurd z Z2);let bs:=I1.base;rw[hex] at bs;apply#[a,cls,H',B,a0,dd,Z,I1.os,I1.bare,bs,I1.au,fl,λb o e hb c=>?_,hE]
 have nL:b≠X.env.locals:=by
  rcases c with z|⟨o0,z⟩
  ·intro q;rw[q,I1.free] at z;cases z
  exact dB (gZ (bN z) I.ok.above)
 apply Ie au un i fl.1 b o e (λhm=>?_) (c.imp id λ⟨o0,z⟩=>I.base.there b o0 z (by rw[hex];simp));rcases bW.mp (I.gh b hm) with z|z
 ·exact nL z
 exact hb z
end
section
variable{P:Ad}{w:Af}{K:af}{mg:Str->Option Aa}{base:Heap}{N:ae}{qual:Str}{scope:Scope}{f:Addr}{cd:Aa}{A:Ag}{outer:List Env}{s:Ab}{H:Hp}{E:XK}
end
section
variable{X:Cx}{x:Str}{C f:Addr}{fd:Ae}{ps:ae}{sp:Sp}{k:Nat}{np bu pos:Pos}{e:Expr}{es:List Expr}{t:TA}{E:XK}
end
end L2
namespace L2
open PySem PySem.Spec PySem.Calls PyProof.Rows PySem.W
section
variable{X:Cx}{i:Nat}{x n:Str}{D C:Addr}{np uM pos:Pos}{og:Stmt}{ik body:List Stmt}{tb:XK->TS}{ts:TS}{rest:List ExceptHandler}
def XE(X:Cx)(i:Nat)(C:Addr)(ts:TS)(R:Ends):XK:=λcls dd H'=>cls=.ref C/\∀(σ:St) (a:Addr),σ.length=X.N.length->H' a=none->ts (R.gone i) (σ.set i (some (.ref a))) (upd H' a (zy a C dd))
theorem g8_{pins:List (Addr × Obj)}{σ:St}{H:Hp}{s s':Ab}{e:Aa}{R:Ends}(hN:X.N.Nodup)(hi:X.N[i]? = some n)(hl:X.env.scope.names.lookup n\.local)(ja:X.stack=X.env::X.outer)(jb:X.env.frame\X.env.locals)
  (hg:Gl X x) (hm:X.mg x\.ref D) (hx:PySem.W.exmOne X.K (.ref C) (.ref D)\true) (hs:∀a,ig (X.rq a).uo (og::ik) ts) (I:Inv X pins σ H s)
  (hc:lM X.prog X.w X.stack H s (XE X i C ts R) e s') (hd:(x == ("__debug__":Str))=false:=by decide) :
  wpAny (model X.prog X.w) X.A (noteFrame e X.env) (λ_ fP=>wpAny (model X.prog X.w) X.A (setFlight e none) (λ_ wQ=>
   wpAny (model X.prog X.w) X.A (handleBy e X.env (.ExceptHandler (some (.Name x np)) (some n) (og::ik) uM::rest)) (SP X pins R) X.xe wQ) X.xe fP) X.xe s':=by
 let#[a,cls,H',B,a0,dd,rfl,os,bare,un,au,fl,i',rfl,hE]:=hc;let fr:=KQ I un;let ff:=fl.2.2.1;apply VZ (base:=B) (by rw[I.ok.frames,ja]) jb (by rw[<- ja];exact fl) λqF B4 Lr=>?_;rw[<- ja] at B4;let Lv:=Hu un ff i' B4.1 Lr;let BG:=Iw au fr i' B4.1;let Nf:=Ie au un i' B4.1;have I5:Inv X pins σ H' { s' with heap:=qF }:=I.jf (s':={ s' with heap:=qF }) os Lv BG bare (λb z=>absurd z Z2);let J5:=I5.rq a;let#[oe,vs5,JM,hce,_]:=B4.obj;apply wpAny_handleBy_cons (codeAny_handlers_test (C1 (X:=X.rq a) J5 hg hm ?_ hd)) (by intro q;cases q);apply (PySem.W.exm_one (K:=X.K) J5.fj (by subst_eqs;exact hce▸(PySem.W.Looks.ld JM).andThen .now) hx).at ?_;apply codeAny_handlers_suite_as ?_;apply eo_ (base:=B) (by exact B4) λgS DU Xl=>?_;let ff5:=B4.2.2.1;let yr:=Hu Lv ff5 Nf DU.1 Xl;let Ge:=Iw BG fr Nf DU.1;let SC:=Ie BG Lv Nf DU.1;have I6:Inv X pins σ H' { s' with heap:=gS }:=I.jf (s':={ s' with heap:=gS }) os yr Ge bare (λb z=>absurd z Z2);let#[ox,vs,Jv,GD,vY,N2]:=DU.obj
 have RQ:a∉dF X.stack:=λhm=>by
  let#[_,o,ho,d]:=DU.2.2.1.mem hm;have ho:gS.get? a\o:=ho;rw[Jv] at ho;cases ho;exact d _ vY
 have nB:B.get? a=none:=DU.2.1
 have nH:H' a=none:=by
  cases q:H' a with
  |none=>rfl
  |some u=>
   let z:=SC a ox Jv RQ (.inl (by rw[q];rfl));rw[nB] at z;cases z
 have nS:s.heap.get? a=none:=by
  cases q:s.heap.get? a with
  |none=>rfl
  |some u=>
   let z:=SC a ox Jv RQ (.inr #[u,q]);rw[nB] at z;cases z
 have Fy:∀c,H' c≠none->c≠a:=λc z q=>z (q▸nH)
 have Xn:Un (dF X.stack) [] H (upd H' a (zy a C dd)) s.heap gS:=
  #[yr.keep,yr.slot,λb o q m z=>by
   rw[aF (λy=>by rw[y,nS] at q;cases q)];exact yr.free b o q m z,yr.there,λb xs q=>by
   have:=yr.fC b xs q;rw[aF (Fy b (by rw[this];simp))];exact this,λb o u q=>by
   have:=yr.eD b o u q;rw[aF (Fy b (by rw[this];simp))];exact this,λb p q=>by
   let#[more,this]:=yr.fi b p q;exact#[more,by rw[aF (Fy b (by rw[this];simp))];exact this]]
 have Nz:cO X.prog X.w (upd H' a (zy a C dd)) gS:=λb u q=>by
  by_cases hb:b=a
  ·subst hb;rw[az] at q;cases q;exact _v Jv GD N2 vY
  rw[aF hb] at q;exact (Ge b u q).cQ (λ_ _ _ z=>z) (λc z=>by rw[aF (Fy c (by rw[z];simp))];exact z) λc xs z=>by rw[aF (Fy c (by rw[z];simp))];exact z
 have I7:Inv X pins σ (upd H' a (zy a C dd)) { s' with heap:=gS }:=I.jf (s':={ s' with heap:=gS }) os Xn Nz bare (λb z=>absurd z Z2);apply Pe (X:=X.rq a) (v:=.ref a) (I7.rq a) hN hi (.inl hl) Z (λs8 I8=>?_) (.inr hl);apply iM (hs a pins s8 _ _ _ (I8.gc _) (hE σ a I.len nH)) (λf s9 q=>?_) λ_ _ z=>False.elim z;let q:=q.ck;show wpAny _ _ _ _ _ _;cases f with
 |next=>
  let#[ba,H9,I9,q]:=q;exact KA (X:=X) (I9.xl I.ok) hN hi hl λA9 ym=>#[_,_,ym,q]
 |brk=>
  let#[ba,H9,I9,q]:=q;exact KA (X:=X) (I9.xl I.ok) hN hi hl λA9 ym=>#[_,_,ym,q]
 |cont=>
  let#[ba,H9,I9,q]:=q;exact KA (X:=X) (I9.xl I.ok) hN hi hl λA9 ym=>#[_,_,ym,q]
 |ret u=>
  let#[v,ba,H9,I9,r,q]:=q;exact KA (X:=X) (I9.xl I.ok) hN hi hl λA9 ym=>#[v,_,_,ym,r,q]
abbrev Cx.C_(X:Cx)(W:Aa->Ab->Prop)(pn:List (Addr × Obj)):Cx:={ X with xe:=W,pn:=pn }
theorem Cx.Ok.C_(ok:X.Ok)(W:Aa->Ab->Prop)(pn:List (Addr × Obj)):(X.C_ W pn).Ok:=
 #[ok.mod,ok.kind,ok.glob,ok.blt,ok.above,ok.inj,ok.has,ok.wa,ok.hd,ok.frames,ok.Dq,ok.DY,ok.bs,ok.lY,ok.nv,ok.nM,ok.dY,ok.qJ]
theorem Inv.LA{pins:List (Addr × Obj)}{σ:St}{H:Hp}{s:Ab}(I:Inv X pins σ H s)(W:Aa->Ab->Prop):Inv (X.C_ W (X.pn++pins)) [] σ H s:=#[I.ok.C_ W _,I.os,I.bare,I.base,I.loc,I.cell,I.free,I.bX,λp hp=>I.pin p ⇑hp,I.au,I.len]
theorem Inv.um{pins p2:List (Addr × Obj)}{σ:St}{H:Hp}{s:Ab}{W:Aa->Ab->Prop}(ok:X.Ok)(I:Inv (X.C_ W (X.pn++pins)) p2 σ H s):Inv X pins σ H s:=#[ok,I.os,I.bare,I.base,I.loc,I.cell,I.free,I.bX,λp hp=>I.pin p (List.mem_append_left _ hp),I.au,I.len]
end
end L2
namespace L2
open PySem PySem.Spec PySem.Calls PyProof.Rows PySem.W
section
variable{P:Ad}{w:Af}{K:af}{mg:Str->Option Aa}{base:Heap}{N:ae}{qual:Str}{scope:Scope}{f:Addr}{cd:Aa}{A:Ag}{outer:List Env}{s:Ab}{H:Hp}{E:XK}
end
section
variable{X:Cx}{i:Nat}{x x2 n:Str}{D C D2 C2:Addr}{np uM np2 SS pos:Pos}{og c₀:Stmt}{ik LS body:List Stmt}{tb:XK->TS}{ts ts2:TS}
end
section
variable{X:Cx}
inductive rF (K:af) (xs:aj) (H:Hp) (Q:VK):Prop
 |mk:∀a C dd c cv b,xs=[.ref a,c]->Hl c\cv->H a\zy a C dd->lK K C->PySem.W.kitOne K (.ref C) cv\b->Q (.bl b) H->rF K xs H Q
theorem Iu:fW X (.builtin "isinstance") (rF X.K):=by
 intro pins s σ H xs us Q I r h;let#[a,C,dd,c,cv,b,rfl,hc,ha,k,e,q]:=h;let#[u,w',rfl,ru,gI]:=vals2 r;cases (show u=Value.ref a from ru);cases jy_ gI hc;let#[o,vs,h1,h2,_]:=(I.au a _ ha).1;exact qL (jm_ k) I.fj ⟨o,h1,h2⟩ e nofun λtk=>#[.bl b,H,I.tok tk,Z,q]
end
end L2
namespace L2
open PySem PySem.Spec PySem.Calls PyProof.Rows PySem.W
section
variable{X:Cx}{i:Nat}{x n:Str}{D:Addr}{ok:Addr->Prop}{np uM pos:Pos}{og:Stmt}{ik body:List Stmt}{tb:XK->TS}{ts:TS}
def Q6(X:Cx)(i:Nat)(ok:Addr->Prop)(ts:TS)(R:Ends):XK:=λcls dd H'=>∃C,ok C/\XE X i C ts R cls dd H'
def Ap(X:Cx)(i:Nat)(ok:Addr->Prop)(tb:XK->TS)(ts:TS):TS:=λD σ H=>tb (Q6 X i ok ts D) D σ H
theorem j4_(hN:X.N.Nodup)(hi:X.N[i]? = some n)(hl:X.env.scope.names.lookup n\.local)(ja:X.stack=X.env::X.outer)(jb:X.env.frame\X.env.locals)
  (hg:Gl X x) (hm:X.mg x\.ref D) (hx:∀C,ok C->PySem.W.exmOne X.K (.ref C) (.ref D)\true) (hb:∀(E:XK) (W:Aa->Ab->Prop) (pn:List (Addr × Obj)),jG (lM X.prog X.w) (X.C_ W pn) E->ig (X.C_ W pn) body (tb E)) (hs:∀a,ig (X.rq a).uo (og::ik) ts) (hd:(x == ("__debug__":Str))=false:=by decide) :
  PS X (.Try body [.ExceptHandler (some (.Name x np)) (some n) (og::ik) uM] [] [] pos) (Ap X i ok tb ts):=by
 intro pins s σ H R I h;let pT:=hb (Q6 X i ok ts R) (λe s'=>∃σ H s,Inv X pins σ H s/\lM X.prog X.w X.stack H s (Q6 X i ok ts R) e s') (X.pn++pins) (λp2 fO H2 s2 e s' I2 hc=>#[fO,H2,s2,I2.um I.ok,hc]);apply wpAny_Try_except (iM (pT [] s σ H R (I.LA _) h) (λf s1 q=>?_) λe s1 ⟨ba,H',s0,I0,hc⟩=>?_)
 ·cases f with
  |next=>
   let#[ba,H',I',q]:=q;exact wpAny_execs_nil #[ba,H',I'.um I.ok,q]
  |ret v=>
   let#[v',ba,H',I',r,q]:=q;exact#[v',ba,H',I'.um I.ok,r,q]
  |brk=>
   let#[ba,H',I',q]:=q;exact#[ba,H',I'.um I.ok,q]
  |cont=>
   let#[ba,H',I',q]:=q;exact#[ba,H',I'.um I.ok,q]
 let#[a,cls,H2,B,a0,dd,h1,h2,h3,h4,h5,h6,h7,C,Mn,hE]:=hc;exact g8_ hN hi hl ja jb hg hm (hx C Mn) hs I0 #[a,cls,H2,B,a0,dd,h1,h2,h3,h4,h5,h6,h7,hE] hd
end
end L2
namespace L2
open PySem PySem.Spec PySem.Calls PyProof.Rows PySem.W
theorem ag.Al{P:Ad}{w:Af}{K:af}{mg:Str->Option Aa}{base:Heap}{k:Nat}{f:Addr}{fd:Ae}{ps:ae}{sp:Sp}(F:!ag (fe P w) k f fd ps sp):!ag (lM P w) k f fd ps (λvs H Q E=>sp vs H Q (λcls _ H'=>∀dd,E cls dd H')):=by
 apply#[λvs H Q E h=>F.len vs H Q _ h,λA outer s H args us vs Q E h1 h2 h3 h4 h=>codeAny_mono (F.run A outer s H args us vs Q _ h1 h2 h3 h4 h) λr s' q=>?_];cases r with
 |ok fl=>cases fl<;>exact q
 |error e=>
  let#[a,cls,H',B,a0,e1,os,bare,un,au,#[fl,_],i,hE]:=q;let#[f1,f2,f3,oe,yq,T,oT,ts,g1,g2,g3,g4,g5,g6,g7,g8,g9]:=fl;exact#[a,cls,H',B,a0,oe.dict,e1,os,bare,un,au,#[f1,f2,f3,oe,yq,T,oT,ts,g1,g2,g3,g4,g5,g6,g7,g8,g9,Z],i,hE _]
end L2
namespace L2
open PySem PySem.Spec PyProof.Rows
section
variable{X:Cx}
end
section
variable{X:Cx}{k:Nat}{ps:ae}{x:Str}{p pos:Pos}{e:Expr}{es:List Expr}{tn:TE}{t:TA}
end
end L2
namespace L2
open PySem PySem.Spec PyProof.Rows PySem.W
structure zS (ps bh:ae) (scope:Scope):Prop where
 nd:(ps++bh).Nodup
 kind:scope.kind=.function
 co:scope.isCoroutine=false
 gen:scope.isGenerator=false
 par:∀p∈ps,scope.names.lookup p\.local
 fv:∀x∈bh,scope.names.lookup x\.free
 all:∀x,scope.names.lookup x\.free->x∈bh
 uw:∀x∈scope.names,x.2≠.cell
def D3(CX:i_)(P:Ad)(w:Af)(K:af)(mg:Str->Option Aa)(base:Heap)(N:ae)(qual:Str)(scope:Scope)(f:Addr)(cd:Aa)(cl:List (Str × Addr))(A:Ag)(outer:List Env)(s:Ab)(H:Hp)(E:XK):Cx where
 prog:=P
 w:=w
 K:=K
 mg:=mg
 base:=base
 A:=A.deeper (envX qual scope s.heap.objs.size f cd cl)
 N:=N
 cg:=s
 iF:=H
 env:=envX qual scope s.heap.objs.size f cd cl
 outer:=outer
 stack:=envX qual scope s.heap.objs.size f cd cl::outer
 ex:=[]
 calm:=true
 fn:=λ_=>false
 pn:=[]
 xe:=λe s'=>wpAny (model P w) (A.deeper (envX qual scope s.heap.objs.size f cd cl)) (leaving (envX qual scope s.heap.objs.size f cd cl) e) (λ_ rg=>CX outer H s E e rg) (λe' rg=>CX outer H s E e' rg) s'
theorem Vh{x:Str}{u:Aa}:∀{l:List (Str × Aa)},(l.map (·.1)).Nodup->(x,u)∈l->l.lookup x\u
 |(y,v)::l,nd,h=>by
  let n:=qU.mp nd;rcases bW.mp h with e|h
  ·cases e;simp[List.lookup]
  have ne:x≠y:=λz=>n.1 (by rw[<- z];exact bD.mpr #[_,h,Z]);have:(x == y)=false:=⇑ne
  rw[qV,this];exact Vh n.2 h
theorem TF:∀(ps:ae) (us:ak),((ps.zip us).map (·.1)).Sublist ps
 |[],_=>by simp
 |_::_,[]=>by simp
 |p::ps,u::us=>by
  simp only[List.zip_cons_cons,eV];exact (TF ps us).cons₂ p
theorem dc_{ps:ae}{us:ak}{i:Nat}{x:Str}{u:Aa}(nd:ps.Nodup)(h1:ps[i]? = some x)(h2:us[i]? = some u):(ps.zip us).reverse.lookup x\u:=by
 apply Vh ?_ (List.mem_reverse.mpr (dD (i:=i) ?_))
 ·rw[List.map_reverse];apply (List.reverse_perm _).nodup_iff.mpr (nd.sublist ?_);exact TF ps us
 rw[List.getElem?_zip_eq_some];exact#[h1,h2]
structure Em (bh:ae) (cl:List (Str × Addr)) (gs:aj) (h:Heap):Prop where
 inj:∀x y c,cl.lookup x\c->cl.lookup y\c->x=y
 has:∀x∈bh,∃c,cl.lookup x\c
 all:∀x c,cl.lookup x\c->∃v,h.IsCell c v
 is:∀(i:Nat) x v,bh[i]? = some x->gs[i]? = some v->∃c u,cl.lookup x\c/\RelV v u/\h.IsCell c (some u)
theorem IsCell.keeps{h h':Heap}{c:Addr}{v:Option Aa}(x:h.IsCell c v)(k:∀o,h.get? c\o->h'.get? c\o):h'.IsCell c v:=let #[o,e,d]:=x;#[o,k o e,d]
theorem Z5{CX:i_}{P:Ad}{w:Af}{K:af}{mg:Str->Option Aa}{base:Heap}{ps bh:ae}{qual:Str}{scope:Scope}{f:Addr}{cd:Aa}{cl:List (Str × Addr)}{A:Ag}{outer:List Env}{s:Ab}{H:Hp}{E:XK}{us:ak}{vs gs:aj}{h1:Heap}{tk:Nat}
  (S:zS ps bh scope) (hd:A.handled=none) (e0:hX P w K mg base A outer s H) (hl:vs.length=ps.length) (hg:gs.length=bh.length) (r:Vals vs us) (C:Em bh cl gs s.heap) (fc:∀x c,cl.lookup x\c->H c=none)
  (ns:h1.Ns s.heap.objs.size λx=>(ps.zip us).reverse.lookup x) (k:∀b o,s.heap.get? b\o->h1.get? b\o) :
  Inv (D3 CX P w K mg base (ps++bh) qual scope f cd cl A outer s H E) [] (vs.map some++gs.map some) H { s with heap:=h1,toks:=tk }:=by
 have xq:∀b:Addr,b∉(D3 CX P w K mg base (ps++bh) qual scope f cd cl A outer s H E).ex:=λb z=>absurd (show b∈([]:ai) from z) Z2
 apply#[#[e0.mod,S.kind,Z,Z,bj _,C.inj,λy hy=>?_,λy c h=>(by cases h),λ_=>hd,Around.frames_deeper e0.frames,.inr #[Z,Z],λb z=>absurd z (xq b),e0.bs,e0.lY,λb _ _=>xq b,λb z=>absurd z (xq b),e0.dY,e0.qJ],
  rfl,e0.bare,Un.kept k,#[_,ns,λi y v jT h2 h3=>?_],λy c h=>?_,e0.au.fresh (bj _),fc,λp hp=>absurd (show p∈([]:List (Addr × Obj)) from hp) Z2,e0.au.kept k,?_]
 ·have hy:scope.names.lookup y\.cell∨scope.names.lookup y\.free:=hy;rcases hy with hy|hy
  ·exact absurd Z (S.uw _ (jW hy))
  exact C.has y (S.all y hy)
 ·have jT:(ps++bh)[i]? = some y:=jT;by_cases hi:i<ps.length
  ·rw[Ez hi] at jT;rw[Ez (by simpa [hl] using hi),dQ] at h2;let#[v',hv,e]:=Option.map_eq_some_iff.mp h2;cases e;let#[u,hu,rv]:=r.get hv;apply#[u,rv,.inl #[S.par y (dD jT),?_]];have Jm:ps.Nodup:=(List.nodup_append.mp S.nd).1;show (ps.zip us).reverse.lookup y\u;exact dc_ Jm jT hu
  rw[De Z1] at jT;rw[De (by simp[hl];omega),dQ,aB,hl] at h2;let#[v',hv,e]:=Option.map_eq_some_iff.mp h2;cases e;let#[c,u,e1,rv,ce]:=C.is _ _ _ jT hv;exact#[u,rv,.inr #[.inr (S.fv y (dD jT)),c,e1,IsCell.keeps ce λo e=>k _ _ e]]
 ·let#[v,ce]:=C.all y c h;exact#[v,IsCell.keeps ce λo e=>k _ _ e]
 show _=(ps++bh).length;rw[fZ,fZ,aB,aB,hl,hg]
theorem Z6{CX:i_}{P:Ad}{w:Af}{K:af}{mg:Str->Option Aa}{base:Heap}{k:Nat}{ps bh:ae}{qual:Str}{params:Ai}{body:PySem.Expr}{scope:Scope}{f c':Addr}{pm iB:Aa}{cl:List (Str × Addr)}{A:Ag}{outer:List Env}{s:Ab}{H:Hp}{Q:VK}{E:XK}{us:ak}{vs gs:aj}{t:TE}
  (S:zS ps bh scope) (hr:aK (k+1) A) (e0:hX P w K mg base A outer s H) (hf:s.heap.get? f\kla_obj "<lambda>" qual params body scope cl pm c' iB) (fL:s.heap.CodeRec (.ref c') qual)
  (hb:bindArgs (kla_fn "<lambda>" qual params body scope cl pm (.ref c') iB) #[us,[]]=pure (ps.zip us)) (hl:vs.length=ps.length) (hg:gs.length=bh.length) (r:Vals vs us) (C:Em bh cl gs s.heap) (fc:∀x c,cl.lookup x\c->H c=none)
  (ht:aK k (A.deeper (envX qual scope s.heap.objs.size f (.ref c') cl))->PE (D3 CX P w K mg base (ps++bh) qual scope f (.ref c') cl A outer s H E) body t) (hq:t (vs.map some++gs.map some) H Q) :
  codeAny (model P w) A (.call (.ref f) #[us,[]]) (CR CX outer P w H s Q E) s:=by
 have lim:s.heap.NoLimit:=e0.mod.nolimit.keeps λb o e=>(e0.bs b o e).1;apply kla_callFunE hr.depth hf Z S.co S.gen Z fL ?_;rw[hb];apply aP (wpAny_newFunctionEnv S.uw (λx hx=>?_) (λh1 ns sb=>?_) S.kind)
 ·exact S.par x.1 (List.of_mem_zip hx).1
 have k1:∀b o,s.heap.get? b\o->h1.get? b\o:=λb o e=>sb.extBut b o (dB (bN e)) (bQ _ e);apply#[lim.keeps k1,?_];show codeAny _ _ (.expr body (envX qual scope s.heap.objs.size f (.ref c') cl)) _ _;let I:=Z5 (CX:=CX) (qual:=qual) (f:=f) (cd:=.ref c') (E:=E) (tk:=s.toks+(ps.zip us).length) S hr.hd e0 hl hg r C fc ns k1;apply kla_codeExpr (iM (ht (hr.deeper _) [] _ _ H _ I hq) (λv s' hs=>?_) λe s' hs=>hs);let#[x,H',J,rv,q]:=hs;exact#[x,H',J.os,J.bare,J.base,J.au,rv,q]
end L2
namespace L2
open PySem PySem.Spec PyProof.Rows PySem.W
def iA(f:Addr)(qual:Str)(params:Ai)(body:PySem.Expr)(scope:Scope)(cl:List (Str × Addr))(c':Addr):HO:=.ext λh=>∃pm iB,h.get? f\kla_obj "<lambda>" qual params body scope cl pm c' iB
def vx(c':Addr)(qual:Str):HO:=.ext λh=>∃o vs t,h.get? c'\o/\o.data=.fields vs/\vs[1]? = some (.str qual t)
inductive yz (P:Addr) (qual:Str) (params:Ai) (body:PySem.Expr) (scope:Scope) (pos:Pos) (cl:List (Str × Addr)) (H:Hp) (Q:VK):Prop
 |mk:∀ps,H P\.tbl ps->TriplesOk ps.toList->((codeAmong pos ps.toList=none/\∀c' f,H c'=none->H f=none->c'≠f->Q (.ref f) (upd (upd (upd H P (.tbl (ps++(List.toArray [rawInt pos.line,rawInt pos.col,.ref c'])))) c' (vx c' qual)) f (iA f qual params body scope cl c')))∨∃c',codeAmong pos ps.toList\.ref c'/\∀f,H f=none->Q (.ref f) (upd H f (iA f qual params body scope cl c')))->yz P qual params body scope pos cl H Q
def As(P:Addr)(qual:Str)(params:Ai)(body:PySem.Expr)(scope:Scope)(pos:Pos)(cl:List (Str × Addr)):TE:=λ_ H Q=>yz P qual params body scope pos cl H Q
theorem G0{X:Cx}{params:Ai}{body:PySem.Expr}{scope:Scope}{pos:Pos}{cl:List (Str × Addr)}{c P:Addr}(N0:defaultsOf params X.env=([],[]))(pQ:closureFor scope X.env=pure cl)(zt:X.env.code=.ref c)(C:CodeHd X.base c P)(lU:X.base.BuiltinsAt X.mg P) :
  PE X (.Lambda params body scope pos) (As P (X.env.qual++"<lambda>") params body scope pos cl):=by
 intro pins s σ H Q I h;let#[ps,hP,ht,h]:=h;have Tp:s.heap.get? P\tabObj ps:=I.au P _ hP
 have S8:H mainGlobals=none:=by
  let#[o,_,_,e,_]:=I.mod.glob;exact (I.bs _ _ e).2
 apply kla_eval N0 ?_;rcases h with⟨hn,q⟩|⟨c',hf,q⟩
 ·apply kla_makeFunction pQ I.ok.glob (I.mod.glob.keeps I.bk) zt (C.keeps I.bk) Tp ht hn (λz=>by rw[z,hP] at S8;cases S8) (lU.keeps I.bk) λc' iB h' tk hx NS dX Nu vW=>?_;have fz:s.heap.objs.size<=h'.objs.size:=oG NS (Nat.le_of_lt dX);have nc:H c'=none:=I.au.fresh NS;have nf:H h'.objs.size=none:=I.au.fresh fz;have cf:c'≠h'.objs.size:=dB dX;have Pc:P≠c':=bU hP nc;have Pf:P≠h'.objs.size:=bU hP nf
  have old:∀{b u},H b\u->b≠P->upd (upd (upd H P (.tbl (ps++(List.toArray [rawInt pos.line,rawInt pos.col,.ref c'])))) c' (vx c' (X.env.qual++"<lambda>"))) h'.objs.size (iA h'.objs.size (X.env.qual++"<lambda>") params body scope cl c') b\u:=λ{b u} e n=>by
   rw[aF (bU e nf),aF (bU e nc),aF n];exact e
  have uq:∀{b u},H b\u->(∀ps,u≠.tbl ps)->b≠P:=λ{b u} e n z=>by
   rw[z,hP] at e;cases e;exact n _ Z
  have kp:∀b o,b≠P->s.heap.get? b\o->(h'.push (kla_obj "<lambda>" (X.env.qual++"<lambda>") params body scope cl ((X.mg "__name__").getD .none) c' iB)).get? b\o:=λb o n e=>bQ _ (hx b o n e);apply#[.ref h'.objs.size,_,I.un (t':=tk) #[λb o e n _ _=>kp b o (λz=>by rw[z,hP] at n;cases n) e,λb o e n _ _=>#[o.slots,kp b o (λz=>by rw[z,hP] at n;cases n) e],λb o e n _=>?_,λb o e _=>?_,λb xs e=>old e (uq e Z2),λb o u e=>old e (uq e Z2),λb qs e=>?_] (λb u e=>?_),Z,q c' h'.objs.size nc nf cf]
  ·let lt:=bN e;rw[aF (dB (gZ lt fz)),aF (dB (gZ lt NS)),aF (λz=>by rw[z,hP] at n;cases n)];exact n
  ·by_cases z:b=P
   ·subst z;exact#[_,bQ _ vW]
   exact#[o,kp b o z e]
  ·by_cases z:b=P
   ·subst z;rw[hP] at e;cases e;exact#[_,by rw[aF Pf,aF Pc,az]]
   exact#[#[],by rw[Array.append_empty];exact old e z]
  by_cases z1:b=h'.objs.size
  ·subst z1;rw[az] at e;cases e;exact#[#[_,_,dU _ Z],#[_,dU _ Z],λh1 h2 ⟨pm,cv,e1⟩ k=>#[pm,cv,k _ e1]]
  rw[aF z1] at e;by_cases z2:b=c'
  ·subst z2;rw[az] at e;cases e;let#[c2,oc,vs,t,ec,Gg,hd,hv]:=Nu;cases ec;exact#[#[oc,vs,t,bQ _ Gg,hd,hv],#[_,bQ _ Gg],λh1 h2 ⟨o,vs,t,e1,r⟩ k=>#[o,vs,t,k _ e1,r]]
  rw[aF z2] at e;by_cases z3:b=P
  ·subst z3;rw[az] at e;cases e;exact bQ _ vW
  rw[aF z3] at e;apply (I.au b u e).cQ (λd v hd e1=>kp d v ?_ e1) (λd e1=>old e1 (uq e1 Z2)) λd xs e1=>old e1 (uq e1 Z2);rcases hd with rfl|hd
  ·exact z3
  exact uq hd Z2
 apply kla_makeFunctionHit pQ I.ok.glob (I.mod.glob.keeps I.bk) zt (C.keeps I.bk) Tp ht hf (lU.keeps I.bk) λiB h' tk hk hsz=>?_;have nf:H h'.objs.size=none:=I.au.fresh hsz;apply#[.ref h'.objs.size,_,I.laid (t':=tk) (λb o e=>bQ _ (hk b o e)) hsz ?_,Z,q _ nf];exact#[#[_,_,dU _ Z],#[_,dU _ Z],λh1 h2 ⟨pm,cv,e1⟩ k=>#[pm,cv,k _ e1]]
end L2
namespace L2
open PySem PySem.Spec PyProof.Rows PySem.W
theorem xj{P:Ad}{w:Af}{K:af}{mg:Str->Option Aa}{base:Heap}{N:ae}{qual:Str}{scope:Scope}{f:Addr}{cd:Aa}{cl:List (Str × Addr)}{A:Ag}{outer:List Env}{s:Ab}{H:Hp}{E:XK}:jG (lM P w) (D3 (lM P w) P w K mg base N qual scope f cd cl A outer s H E) E:=by
 intro pins σ H1 s1 e s' I hc;let#[a,cls,H',B,a0,dd,rfl,os,bare,un,au,fl,i,hE]:=hc;apply fW_ (base:=B) I.ok.frames Z fl λh1 fl1 up=>?_;exact gz_ (s1:={ s' with heap:=h1 }) I Z os bare un au i fl.2.2.1 up fl1 hE
def kQ(c:Addr)(o:Obj):HO:=.ext λh=>h.get? c\o
def lend(cs:List (Addr × Obj))(H:Hp):Hp:=λb=>match cs.lookup b with
 |some o=>some (kQ b o)
 |none=>H b
def gP(cs:List (Addr × Obj))(H:Hp):Hp:=λb=>match cs.lookup b with
 |some _=>none
 |none=>H b
section
variable{cs:List (Addr × Obj)}{H H':Hp}{b:Addr}{o:Obj}{u:HO}
theorem HJ(h:cs.lookup b\o):lend cs H b\kQ b o:=by unfold lend;rw[h]
theorem jO(h:cs.lookup b=none):lend cs H b=H b:=by unfold lend;rw[h]
theorem Cy(h:cs.lookup b\o):gP cs H b=none:=by unfold gP;rw[h]
theorem mh(h:cs.lookup b=none):gP cs H b=H b:=by unfold gP;rw[h]
theorem CH(n:∀c o,cs.lookup c\o->H c=none)(e:H b\u):cs.lookup b=none:=by
 cases q:cs.lookup b with
 |none=>rfl
 |some o=>
  rw[n b o q] at e;cases e
theorem je_(n:∀c o,cs.lookup c\o->H c=none):gP cs (lend cs H)=H:=funext λb=>by
 cases q:cs.lookup b with
 |none=>rw[mh q,jO q]
 |some o=>rw[Cy q,n b o q]
variable{P:Ad}{w:Af}{h:Heap}
theorem T8(ok:cO P w H h)(n:∀c o,cs.lookup c\o->H c=none)(at_:∀c o,cs.lookup c\o->h.get? c\o):cO P w (lend cs H) h:=λb u e=>by
 have old:∀{d v},H d\v->lend cs H d\v:=λe=>by rw[jO (CH n e)];exact e
 cases q:cs.lookup b with
 |some o=>
  rw[HJ q] at e;cases e;exact#[at_ b o q,#[_,at_ b o q],λh1 h2 e k=>k _ e]
 |none=>
  rw[jO q] at e;exact (ok b u e).cQ (λc v _ z=>z) (λc z=>old z) λc xs z=>old z
theorem SH(ok:cO P w H h)(n:∀c o,cs.lookup c\o->H c\kQ c o):cO P w (gP cs H) h:=λb u e=>by
 have y_:∀{d v},H d\v->(∀φ,v≠.ext φ)->gP cs H d\v:=λ{d v} e ne=>by
  cases q:cs.lookup d with
  |none=>rw[mh q];exact e
  |some o=>
   rw[n d o q] at e;cases e;exact absurd Z (ne _)
 cases q:cs.lookup b with
 |some o=>
  rw[Cy q] at e;cases e
 |none=>
  rw[mh q] at e;exact (ok b u e).cQ (λc v _ z=>z) (λc z=>y_ z Z2) λc xs z=>y_ z Z2
end
section
variable{X:Cx}{pins:List (Addr × Obj)}{σ:St}{H:Hp}{s s':Ab}{cs:List (Addr × Obj)}
def C3(X:Cx)(s:Ab)(cs:List (Addr × Obj)):Prop:=∀c o,cs.lookup c\o->(∃x,X.env.cells.lookup x\c/\X.fn x=true)/\s.heap.get? c\o
theorem C3.gJ(O:C3 X s cs)(I:Inv X pins σ H s):∀c o,cs.lookup c\o->H c=none:=λc o e=>by
 let#[#[x,hx,_],_]:=O c o e;exact I.bX x c hx
theorem C3.qy(O:C3 X s cs)(I:Inv X pins σ H s):∀b∈dF X.stack,cs.lookup b=none:=λb hb=>by
 cases q:cs.lookup b with
 |none=>rfl
 |some o=>
  exfalso;let#[#[x,hx,hf],_]:=O b o q;rcases bW.mp (I.gh b hb) with z|z
  ·exact I.nX x b hx z
  let#[_,o',h_,_]:=I.ok.dY.mem z;exact absurd (bN h_) (Nat.not_lt.mpr (I.ok.wa x b hf hx))
theorem Inv.xw(I:Inv X pins σ H s)(O:C3 X s cs):hX X.prog X.w X.K X.mg X.base X.A X.stack s (lend cs H):=by
 let e0:=I.vf;apply#[e0.frames,e0.mod,λb o e=>#[(e0.bs b o e).1,?_],e0.lY,e0.dY,λb hb=>?_,T8 I.au (O.gJ I) λc o e=>(O c o e).2,e0.bare]
 ·cases q:cs.lookup b with
  |none=>rw[jO q];exact (e0.bs b o e).2
  |some o'=>
   exfalso;let#[#[x,hx,hf],_]:=O b o' q;exact absurd (bN e) (Nat.not_lt.mpr (oG I.ok.lY (I.ok.wa x b hf hx)))
 rw[jO (O.qy I b hb)];exact e0.qJ b hb
theorem Inv.uA{Q:VK}{u:Aa}(I:Inv X pins σ H s)(O:C3 X s cs)(h:CE X.stack X.prog X.w (lend cs H) s (λv H2=>(∀c o,cs.lookup c\o->H2 c\kQ c o)/\Q v (gP cs H2)) u s'):EP X pins σ Q u s':=by
 let#[v,H',os,bare,un,au,r,hc,q]:=h;let n:=O.gJ I;apply I.after #[v,gP cs H',os,bare,#[λb o e hb hf hx=>?_,λb o e hb hf hx=>?_,λb o e hb hx=>?_,un.there,λb xs e=>?_,λb o u e=>?_,λb ps e=>?_],SH au hc,r,q]
 ·cases q:cs.lookup b with
  |none=>exact un.keep b o e (by rw[jO q];exact hb) hf hx
  |some o'=>
   let#[_,e2]:=O b o' q;rw[e] at e2;cases e2;exact (au b _ (hc b o q)).1
 ·exact un.slot b o e (by rw[jO (O.qy I b hf)];exact hb) hf hx
 ·cases q:cs.lookup b with
  |none=>rw[mh q];exact un.free b o e (by rw[jO q];exact hb) hx
  |some o'=>exact Cy q
 ·let q:=CH n e;rw[mh q];exact un.fC b xs (by rw[jO q];exact e)
 ·let q:=CH n e;rw[mh q];exact un.eD b o u (by rw[jO q];exact e)
 let q:=CH n e;rw[mh q];exact un.fi b ps (by rw[jO q];exact e)
def i8(H:Hp)(cs:List (Addr × Obj)):Prop:=∀c o,cs.lookup c\o->H c\kQ c o
theorem i8.qy(L:i8 H cs)(I:Inv X pins σ H s):∀b∈dF X.stack,cs.lookup b=none:=λb hb=>by
 cases q:cs.lookup b with
 |none=>rfl
 |some o=>
  have:=I.hY b hb;rw[L b o q] at this;cases this
theorem Inv.Aj(I:Inv X pins σ H s)(L:i8 H cs):hX X.prog X.w X.K X.mg X.base X.A X.stack s (gP cs H):=by
 let e0:=I.vf
 have un:∀b,H b=none->gP cs H b=none:=λb e=>by
  cases q:cs.lookup b with
  |none=>rw[mh q];exact e
  |some o=>exact Cy q
 exact#[e0.frames,e0.mod,λb o e=>#[(e0.bs b o e).1,un b (e0.bs b o e).2],e0.lY,e0.dY,λb hb=>un b (e0.qJ b hb),SH I.au L,e0.bare]
def jQ(cs:List (Addr × Obj))(H:Hp):Prop:=∀c o,cs.lookup c\o->H c=none
theorem Sh{H':Hp}(I:Inv X pins σ H s)(L:i8 H cs)(un:Un (dF X.stack) [] (gP cs H) H' s.heap s'.heap)(au:cO X.prog X.w H' s'.heap):Un (dF X.stack) [] H (lend cs H') s.heap s'.heap/\cO X.prog X.w (lend cs H') s'.heap/\jQ cs H':=by
 have iK:∀{b},H b=none->cs.lookup b=none:=λ{b} e=>by
  cases q:cs.lookup b with
  |none=>rfl
  |some o=>rw[L b o q] at e;cases e
 have y_:∀{d v},H d\v->(∀φ,v≠.ext φ)->cs.lookup d=none:=λ{d v} e ne=>by
  cases q:cs.lookup d with
  |none=>rfl
  |some o=>
   rw[L d o q] at e;cases e;exact absurd Z (ne _)
 have Y0:∀{b},b∈dF X.stack->cs.lookup b=none:=λhb=>L.qy I _ hb
 have at_:∀c o,cs.lookup c\o->s'.heap.get? c\o:=λc o q=>by
  have e:s.heap.get? c\o:=(I.au c _ (L c o q)).1;exact un.keep c o e (Cy q) (λz=>by rw[Y0 z] at q;cases q) Z2
 have nn:∀c o,cs.lookup c\o->H' c=none:=λc o q=>by
  have e:s.heap.get? c\o:=(I.au c _ (L c o q)).1;exact un.free c o e (Cy q) Z2
 apply#[#[λb o e hb hf hx=>un.keep b o e (by rw[mh (iK hb)];exact hb) hf hx,λb o e hb hf hx=>un.slot b o e (by rw[mh (iK hb)];exact hb) hf hx,λb o e hb hx=>?_,un.there,λb xs e=>?_,λb o u e=>?_,λb ps e=>?_],T8 au nn at_,nn]
 ·rw[jO (iK hb)];exact un.free b o e (by rw[mh (iK hb)];exact hb) hx
 ·let q:=y_ e Z2;rw[jO q];exact un.fC b xs (by rw[mh q];exact e)
 ·let q:=y_ e Z2;rw[jO q];exact un.eD b o u (by rw[mh q];exact e)
 let q:=y_ e Z2;rw[jO q];exact un.fi b ps (by rw[mh q];exact e)
def vw(P:Ad)(w:Af)(K:af)(mg:Str->Option Aa)(base:Heap)(k:Nat)(qual:Str)(params:Ai)(body:PySem.Expr)(scope:Scope)(ps bh:ae)(sp:aj->aj->Hp->VK->XK->Prop):Prop:=
 ∀(A:Ag) (outer:List Env) (s:Ab) (H:Hp) (f c':Addr) (pm iB:Aa) (cl:List (Str × Addr)) (us:ak) (vs gs:aj) (Q:VK) (E:XK),aK k A->hX P w K mg base A outer s H->s.heap.get? f\kla_obj "<lambda>" qual params body scope cl pm c' iB->s.heap.CodeRec (.ref c') qual->
  vs.length=ps.length->gs.length=bh.length->Vals vs us->Em bh cl gs s.heap->(∀x c,cl.lookup x\c->H c=none)->sp vs gs H Q E->codeAny (model P w) A (.call (.ref f) #[us,[]]) (CR (lM P w) outer P w H s Q E) s
theorem ku{P:Ad}{w:Af}{K:af}{mg:Str->Option Aa}{base:Heap}{k:Nat}{qual:Str}{params:Ai}{body:PySem.Expr}{scope:Scope}{ps bh:ae}{sp:aj->aj->Hp->VK->XK->Prop}(S:zS ps bh scope)
  (hb:∀pm c' iB cl us,us.length=ps.length->bindArgs (kla_fn "<lambda>" qual params body scope cl pm (.ref c') iB) #[us,[]]=pure (ps.zip us))
  (bR:∀(A:Ag) (outer:List Env) (s:Ab) (H:Hp) (f:Addr) (cd:Aa) (cl:List (Str × Addr)) (vs gs:aj) (Q:VK) (E:XK),aK k (A.deeper (envX qual scope s.heap.objs.size f cd cl))->sp vs gs H Q E->jG (lM P w) (D3 (lM P w) P w K mg base (ps++bh) qual scope f cd cl A outer s H E) E->
   ∃t,PE (D3 (lM P w) P w K mg base (ps++bh) qual scope f cd cl A outer s H E) body t/\t (vs.map some++gs.map some) H Q):vw P w K mg base (k+1) qual params body scope ps bh sp:=by
 intro A outer s H f c' pm iB cl us vs gs Q E hr e0 hf fL hl hg r C fc gn;let#[t,ht,hq]:=bR A outer s H f (.ref c') cl vs gs Q E (hr.deeper _) gn xj;exact Z6 S hr e0 hf fL (hb pm c' iB cl us (by rw[<- r.length];exact hl)) hl hg r C fc (λ_=>ht) hq
theorem _N{k:Nat}{qual:Str}{params:Ai}{body:PySem.Expr}{scope:Scope}{ps bh:ae}{sp:aj->aj->Hp->VK->XK->Prop}{f c':Addr}{cl:List (Str × Addr)}{us:ak}{vs gs:aj}{Q:VK}{E:XK}(F:vw X.prog X.w X.K X.mg X.base k qual params body scope ps bh sp)(hr:aK k X.A)(hx:jG (lM X.prog X.w) X E)
  (I:Inv X pins σ H s) (hf:H f\iA f qual params body scope cl c') (hc:H c'\vx c' qual) (L:i8 H cs) (hl:vs.length=ps.length) (hg:gs.length=bh.length) (r:Vals vs us) (C:Em bh cl gs s.heap) (fc:∀x c,cl.lookup x\c->(cs.lookup c).isSome=true)
  (h:sp vs gs (gP cs H) (λv H2=>jQ cs H2->Q v (lend cs H2)) (λcls dd H2=>jQ cs H2->E cls dd (lend cs H2))):wpAny (model X.prog X.w) X.A (call (.ref f) us) (EP X pins σ Q) X.xe s:=by
 let#[#[pm,iB,ef],_]:=I.au f _ hf;let#[#[oc,yq,t,ec,d1,d2],_]:=I.au c' _ hc;apply wpAny_call (codeAny_mono (F X.A X.stack s (gP cs H) f c' pm iB cl us vs gs _ _ hr (I.Aj L) ef #[c',oc,yq,t,Z,ec,d1,d2] hl hg r C (λx c e=>?_) h) λr s' hq=>?_)
 ·let#[o,q]:=vH.mp (fc x c e);exact Cy q
 cases r with
 |error e=>
  let#[a,cls,H',B,a0,dd,rfl,os,bare,un,au,fl,i,hE]:=hq;let#[Lw,BH,nc]:=Sh I L un au;apply hx pins σ H s _ s' I #[a,cls,lend cs H',B,a0,dd,Z,os,bare,Lw,BH,fl,λb o e hb hc=>i b o e hb ?_,hE nc];rcases hc with z|z
  ·cases q:cs.lookup b with
   |none=>rw[jO q] at z;exact .inl z
   |some o'=>exact .inr #[_,(I.au b _ (L b o' q)).1]
  ·exact .inr z
 |ok fl=>
  cases fl with
  |ret u=>
   let#[v,H',os,bare,un,au,r,q]:=hq;let#[Lw,BH,nc]:=Sh I L un au;exact I.after #[v,lend cs H',os,bare,Lw,BH,r,q nc]
  |next=>exact False.elim hq
  |brk=>exact False.elim hq
  |cont=>exact False.elim hq
end
end L2
namespace L2
open PySem PySem.Spec PyProof.Rows PySem.W
structure C8 (bh:ae) (cl:List (Str × Addr)) (cs:List (Addr × Obj)) (gs:aj):Prop where
 len:gs.length=bh.length
 inj:∀x y c,cl.lookup x\c->cl.lookup y\c->x=y
 has:∀x∈bh,∃c,cl.lookup x\c
 all:∀x c,cl.lookup x\c->∃o v,cs.lookup c\o/\o.data=.cell v
 is:∀(i:Nat) x v,bh[i]? = some x->gs[i]? = some v->∃c o u,cl.lookup x\c/\cs.lookup c\o/\o.data=.cell (some u)/\RelV v u
theorem C8.are{bh:ae}{cl:List (Str × Addr)}{cs:List (Addr × Obj)}{gs:aj}{h:Heap}(C:C8 bh cl cs gs)(at_:∀c o,cs.lookup c\o->h.get? c\o):Em bh cl gs h:=#[C.inj,C.has,λx c e=>by
 let#[o,v,h1,h2]:=C.all x c e;exact#[v,o,at_ c o h1,h2],λi x v h1 h2=>by
 let#[c,o,u,e1,e2,e3,e4]:=C.is i x v h1 h2;exact#[c,u,e1,e4,o,at_ c o e2,e3]]
section
variable{X:Cx}{k:Nat}{x:Str}{p pos:Pos}{tn:TE}{qual:Str}{params:Ai}{body:PySem.Expr}{scope:Scope}{bh ps:ae}{RB:aj->aj->Hp->VK->XK->Prop}{E:XK}
inductive oQ (qual:Str) (params:Ai) (body:PySem.Expr) (scope:Scope) (bh:ae) (sp:aj->aj->Hp->VK->XK->Prop) (E:XK) (Q:VK) (x:V) (H1:Hp):Prop
 |mk:∀f c' cl cs gs,x=.ref f->H1 f\iA f qual params body scope cl c'->H1 c'\vx c' qual->i8 H1 cs->C8 bh cl cs gs->sp [] gs (gP cs H1) (λv H2=>jQ cs H2->Q v (lend cs H2)) (λcls dd H2=>jQ cs H2->E cls dd (lend cs H2))->oQ qual params body scope bh sp E Q x H1
def sx(qual:Str)(params:Ai)(body:PySem.Expr)(scope:Scope)(bh:ae)(sp:aj->aj->Hp->VK->XK->Prop)(E:XK)(tn:TE):TE:=λσ H Q=>tn σ H λx H1=>oQ qual params body scope bh sp E Q x H1
theorem jq_(F:vw X.prog X.w X.K X.mg X.base k qual params body scope [] bh RB)(hr:aK k X.A)(hx:jG (lM X.prog X.w) X E)(hn:PE X (.Name x p) tn):PE X (.Call (.Name x p) [] [] pos) (sx qual params body scope bh RB E tn):=by
 intro pins s σ H Q I h;apply wpAny_Call_Name_kw (aQ (hn pins s σ H _ I h) λu s1 ⟨v,H1,I1,r,f,c',cl,cs,gs,ev,hf,hc,L,C,q⟩=>?_);subst ev;cases (show u=Value.ref f from r);let#[#[pm,iB,ef],_]:=I1.au f _ hf;apply Calls.callWith_function (evalArgs_nil3 #[#[ef,Z],?_])
 exact _N F hr hx I1 hf hc L Z C.len .nil (C.are λc o e=>(I1.au c _ (L c o e)).1) (λx c e=>by
  let#[o,v,h1,_]:=C.all x c e;rw[h1];rfl) q
end
def nU(h:Heap)(cl:List (Str × Addr)):List (Addr × Obj):=cl.filterMap λp=>(h.get? p.2).map λo=>(p.2,o)
theorem PB{h:Heap}{c:Addr}{o:Obj}:∀{cl:List (Str × Addr)},(nU h cl).lookup c\o->h.get? c\o/\∃x,(x,c)∈cl
 |(x,d)::cl,e=>by
  unfold nU at e;rw[List.filterMap_cons] at e;cases q:h.get? d with
  |none=>
   rw[q] at e;let#[h1,y,h2]:=PB (cl:=cl) e;exact#[h1,y,dZ _ h2]
  |some u=>
   rw[q] at e;simp only[Option.map_some] at e;rw[qV] at e;by_cases z:c=d
   ·subst z;simp at e;subst e;exact#[q,x,eZ]
   have:(c == d)=false:=⇑z
   rw[this] at e;let#[h1,y,h2]:=PB (cl:=cl) e;exact#[h1,y,dZ _ h2]
theorem Pm{h:Heap}{c:Addr}{o:Obj}{x:Str}(e:h.get? c\o):∀{cl:List (Str × Addr)},(x,c)∈cl->(nU h cl).lookup c\o
 |(y,d)::cl,m=>by
  unfold nU;rw[List.filterMap_cons];by_cases z:c=d
  ·subst z;rw[e];simp
  have m':(x,c)∈cl:=by
   rcases bW.mp m with q|q
   ·cases q;exact absurd Z z
   exact q
  let ih:=Pm e m';cases q:h.get? d with
  |none=>exact ih
  |some u=>
   simp only[Option.map_some];rw[qV,show (c == d)=false by simpa using z];exact ih
section
variable{X:Cx}{k:Nat}{x:Str}{p pos:Pos}{e:PySem.Expr}{es:List PySem.Expr}{ta:TA}{bh ps:ae}{sp:Sp}{f:Addr}{fd:Ae}{cl:List (Str × Addr)}{is:List Nat}
def Kc(bh:ae)(cl:List (Str × Addr))(is:List Nat)(sp:Sp)(t:TA):TE:=λσ H Q=>t σ H λvs H1=>∃gs:aj,is.map (λi=>σ[i]?)=gs.map (λv=>some (some v)) /\
 ∀cs,C8 bh cl cs gs->(∀c o,cs.lookup c\o->H1 c=none)->sp vs (lend cs H1) (λv H2=>i8 H2 cs/\Q v (gP cs H2)) E0
theorem j8_(F:ag X.prog X.w X.K X.mg X.base bc k f fd ps sp)(hr:aK k X.A)(hg:Gl X x)(hm:X.mg x\.ref f)(hk:PySem.W.keepIn X.K (.ref f)=true)(hb:l8 X.K fd ps [])(ha:PA X (e::es) ta)
  (iK:∀q∈cl,X.env.cells.lookup q.1\q.2) (BR:∀q∈cl,X.fn q.1=true) (pQ:∀x∈bh,∃c,cl.lookup x\c) (xH:∀x∈bh,X.env.scope.names.lookup x\.cell) (SV:∀x c,cl.lookup x\c->x∈bh) (hN:is.map (λi=>X.N[i]?)=bh.map some)
  (gT:(x == ("__debug__":Str))=false:=by decide) (he:starEach (e::es) X.env=(false,eval e X.env)::starEach es X.env:=by rfl) (fJ:(backTo pos (starEach es X.env)).any (·.1)=false:=by rfl) :
  PE X (.Call (.Name x p) (e::es) [] pos) (Kc bh cl is sp ta):=by
 intro pins s σ H Q I h;apply wpAny_Call_Name_kw (C1 I hg hm ?_ gT);apply PySem.W.callWith_K (h₀:=X.base) I.ok.mod.Bv hk (aQ (ha pos pins s σ H _ I h) λus s1 ⟨vs,H1,I1,r,gs,uQ,q⟩=>#[I1.fj,?_]) he fJ;have lk:∀{x c},cl.lookup x\c->(x,c)∈cl:=λe=>jW e
 have O:C3 X s1 (nU s1.heap cl):=λc o e=>by
  let#[h1,y,h2]:=PB e;exact#[#[y,iK _ h2,BR _ h2],h1]
 have len:gs.length=bh.length:=by
  let a:=eA List.length uQ;let b:=eA List.length hN;simp only[aB] at a b;omega
 have C:C8 bh cl (nU s1.heap cl) gs:=by
  apply#[len,λa b c h1 h2=>I1.ok.inj a b c (iK _ (lk h1)) (iK _ (lk h2)),pQ,λa c h1=>?_,λj a v h1 h2=>?_]
  ·let#[v,o,e1,e2]:=I1.cell a c (iK _ (lk h1));exact#[o,v,Pm e1 (lk h1),e2]
  let#[c,hc]:=pQ a (dD h1);have e1:(is.map λi=>X.N[i]?)[j]? = some (some a):=by rw[hN,dQ,h1];rfl
  have e2:(is.map λi=>σ[i]?)[j]? = some (some (some v)):=by rw[uQ,dQ,h2];rfl
  rw[dQ] at e1 e2;let#[i,hi,e1]:=Option.map_eq_some_iff.mp e1;rw[hi] at e2;have e2:σ[i]? = some (some v):=dG e2;let#[m,_,hl]:=I1.loc;let kd:=xH a (dD h1);let#[u,ru,lo]:=hl i a v e1 e2 (.inr (.inl kd));rcases lo with⟨z,_⟩|⟨_,c2,e3,o,e4,e5⟩
  ·have z:X.env.scope.names.lookup a\.local:=z;rw[kd] at z;cases z
  rw[iK _ (lk hc)] at e3;cases e3;exact#[c,o,u,hc,Pm e4 (lk hc),e5,ru]
 let gn:=q _ C (O.gJ I1)
 apply wpAny_call (codeAny_mono (F.run X.A X.stack s1 (lend (nU s1.heap cl) H1) #[us,[]] us vs _ E0 hr (I1.xw O) (by
  have:=hb s1 us I1.fj (by rw[wC,<- r.length];exact F.len _ _ _ _ gn);rw[wC] at this;exact this) r gn) λr s' hq=>?_)
 cases r with
 |error e=>exact hq.elim
 |ok fl=>
  cases fl with
  |ret u=>exact I1.uA O hq
  |next=>exact False.elim hq
  |brk=>exact False.elim hq
  |cont=>exact False.elim hq
end
end L2
namespace L2
open PySem PySem.Spec PyProof.Rows PySem.W
theorem gE_{P:Ad}{w:Af}{K:af}{mg mb:Str->Option Aa}{CX:i_}{k:Nat}{fa a:Addr}{ts:ai}{fd:Ae}{x:Str}{sp:Sp}{aY:Ab}{vs:ak}{ns:List Int}
  (hT:∀T∈ts,K.lookup T=none) (eT:∀T∈ts,aY.heap.get? T\tabObj #[]) (GE:∀T∈ts,isCodeTable aY.heap T)
  (KX:K.In aY.heap) (xB:aY.heap.Ns mainGlobals mg) (hb:aY.heap.Ns builtinsNs mb) (hbb:∀x:Str,x≠"__name__"->mb x=bootBuiltins x) (NK:aY.heap.NoLimit) (hg:aY.gens=#[])
  (ha:aY.heap.get? a=some { cls:=.type "list",data:=.seq vs.toArray }) (hi:IntsAre vs ns) (hl:ns.length<=sizeLine) (hr:aK k callerA)
  (lU:∃bm ob,mg "__builtins__"\.ref bm/\bm≠builtinsNs/\aY.heap.get? bm\ob/\ob.cls=.type "module"/\ob.dict\builtinsNs/\ob.data=.plain)
  (F:∀base:Heap,K.In base->base.Ns mainGlobals mg->(∀T∈ts,base.BuiltinsAt mg T)->!ag CX k fa fd [x] sp) (GG:∀(s:Ab) (u:Aa),BindsTo s fd #[[u],[]] [(x,u)])
  (gn:∀H:Hp,(∀T∈ts,H T\.tbl #[])->dH K H a (ns.map V.int)->sp [.ref a] H (λv _=>v=.bl true) λ_ _ _=>False)
  (Ob:∀H e s',CX [] H aY (λ_ _ _=>False) e s'->False) :
  codeAny (model P w) callerA (.call (.ref fa) #[[.ref a],[]]) (λr s'=>r=.ok (.ret (.bool true))/\OldK aY.heap s'.heap/\s'.os=aY.os/\AllBare s'.gens) aY:=by
 let rv:=Vf hi;let MR:=hi.length
 have aT:∀{b},b∈ts->b≠a:=λ{b} hb z=>by
  have:=eT b hb;rw[z,ha] at this;cases this
 have core:∀H:Hp,(∀b,H b=none∨(b∈ts/\H b\.tbl #[])∨(b∉ts/\∃o xs,H b\.frz o (.lst xs)))->(∀T∈ts,H T\.tbl #[])->dH K H a (ns.map V.int)->cO P w H aY.heap->(∀b,H b≠none->b=a∨b∈ts)->(H a≠none->K.lookup a=none)->
   codeAny (model P w) callerA (.call (.ref fa) #[[.ref a],[]]) (λr s'=>r=.ok (.ret (.bool true))/\OldK aY.heap s'.heap/\s'.os=aY.os/\AllBare s'.gens) aY:=by
  intro H hO hHT hS au hA hK;have jJ:∀{b:Addr} {o:Obj},aY.heap.get? b\o->H b=none->(iW aY.heap H).get? b\o:=λe n=>jF_ e n
  have xq:∀{b:Addr} {o:Obj} {es:Array Ah} {ep:Nat},aY.heap.get? b\o->o.data=.dict es ep->H b=none:=λ{b o es ep} e d=>by
   cases q:H b with
   |none=>rfl
   |some u=>
    rcases hA b (by rw[q];simp) with e'|e'
    ·subst e';rw[ha] at e;cases e;have d':Data.seq vs.toArray _=Data.dict es ep:=d;cases d'
    rw[eT b e'] at e;cases e;cases d
  have Jj:∀{b:Addr} {m:Str->Option Aa},aY.heap.Ns b m->(iW aY.heap H).Ns b m:=λ{b m} ⟨o,es,ep,e,d,r⟩=>#[o,es,ep,jJ e (xq e d),d,r]
  have Ts:K.In (iW aY.heap H):=λb o e=>jJ (KX b o e) (by
   cases q:H b with
   |none=>rfl
   |some u=>
    rcases hA b (by rw[q];simp) with e'|e'
    ·subst e';rw[hK (by rw[q];simp)] at e;cases e
    rw[hT b e'] at e;cases e)
  have hB:∀T∈ts,(iW aY.heap H).BuiltinsAt mg T:=λT hTs=>by
   let#[bm,ob,h1,h2,h3,h4,h5,h6]:=lU
   have n1:bm≠mainGlobals:=λz=>by
    let#[o,es,ep,e,d,_]:=xB;rw[z,e] at h3;cases h3;rw[d] at h6;cases h6
   have n2:∀{b},b∈ts->bm≠b:=λ{b} hb z=>by
    rw[z,eT b hb] at h3;cases h3;cases h6
   apply#[bm,ob,h1,h2,n1,n2 hTs,jJ h3 ?_,h4,h5,h6];cases q:H bm with
   |none=>rfl
   |some u=>
    rcases hA bm (by rw[q];simp) with e'|e'
    ·subst e';rw[ha] at h3;cases h3;cases h6
    exact absurd Z (n2 e')
  have hM:Mod K mg (iW aY.heap H):=#[Ts,Jj xB,#[mb,Jj hb,hbb],let #[mc,h1,h2]:=NK;#[mc,Jj h1,h2]];have e0:hX P w K mg (iW aY.heap H) callerA [] aY H:=#[Z,hM,λb o e=>_y e,Nat.le_of_eq (hm_ _ _),trivial,λb hb=>absurd (show b∈([]:ai) from hb) Z2,au,.of_eq hg];apply codeAny_mono ((F _ Ts (Jj xB) hB).run callerA [] aY H #[[.ref a],[]] [.ref a] [.ref a] _ _ hr e0 (GG aY (.ref a)) (.cons Z .nil) (gn H hHT hS)) λr s' h=>?_;cases r with
  |error e=>exact (Ob H e s' h).elim
  |ok fl=>
   cases fl with
   |next=>exact False.elim h
   |brk=>exact False.elim h
   |cont=>exact False.elim h
   |ret u=>
    let#[v,H',os,bare,un,Gf,r',q]:=h;have q':v=.bl true:=q;subst q';obtain rfl:u=Value.bool true:=r'
    have main:∀b o,aY.heap.get? b\o->s'.heap.get? b\o∨(b∈ts/\o=tabObj #[]/\∃more,s'.heap.get? b\tabObj (#[]++more)):=λb o e=>by
     cases q:H b with
     |none=>exact .inl (un.keep b o e q (by intro z;exact absurd (show b∈([]:ai) from z) Z2) Z2)
     |some u=>
      rcases hO b with z|⟨zT,z⟩|⟨_,ob,xs,z⟩
      ·rw[q] at z;cases z
      ·rw[eT b zT] at e;cases e;let#[more,z]:=un.fi b _ z;exact .inr #[zT,Z,more,Gf b _ z]
      let z2:=un.eD b ob _ z;let#[e1,_]:=au b _ z;let#[e2,_]:=Gf b _ z2;rw[e] at e1;cases e1;exact .inl e2
    apply#[Z,#[λb o e=>?_,λb o e=>?_],os,bare]
    ·rcases main b o e with z|⟨zT,rfl,more,z⟩
     ·exact .inl z
     exact .inr (.inl #[GE b zT,Z,_,_,Z,z])
    rcases main b o e with z|⟨_,_,more,z⟩
    ·exact#[_,z]
    exact#[_,z]
 cases hk:K.lookup a with
 |some o=>
  let e:=KX a o hk;rw[ha] at e;cases e;apply core (λb=>if b∈ts then some (.tbl #[]) else none) (λb=>?_) (λT h=>aJ h) (.inr #[_,vs.toArray,_,hk,Z,Z,Z,by rw[cn,MR];exact hl,by simpa using rv]) (λb u z=>?_) (λb z=>?_) λz=>absurd (aC λq=>aT q Z) z
  ·by_cases hb:b∈ts
   ·exact .inr (.inl #[hb,aJ hb])
   exact .inl (aC hb)
  ·by_cases hb:b∈ts
   ·let z':=(aJ hb).symm.trans z;cases z';exact eT b hb
   let z':=(aC hb).symm.trans z;cases z'
  ·by_cases hb:b∈ts
   ·exact .inr hb
   ·exact absurd (aC hb) z
 |none=>
  have T2:∀{b:Addr},b∈ts->(λb=>if b∈ts then some (.tbl #[]) else if b=a then some (HO.frz { cls:=.type "list",data:=.seq vs.toArray } (.lst (ns.map V.int))) else none) b\.tbl #[]:=λ{b} hb=>aJ hb;apply core (λb=>if b∈ts then some (.tbl #[]) else if b=a then some (.frz { cls:=.type "list",data:=.seq vs.toArray } (.lst (ns.map V.int))) else none) (λb=>?_) (λT h=>aJ h) (.inl (.inr #[{ cls:=.type "list",data:=.seq vs.toArray },(aC λq=>aT q Z).trans (aJ Z)])) (λb u z=>?_) (λb z=>?_) λ_=>hk
  ·by_cases pS:b∈ts
   ·exact .inr (.inl #[pS,aJ pS])
   by_cases hb:b=a
   ·exact .inr (.inr #[pS,_,_,(aC pS).trans (aJ hb)])
   exact .inl ((aC pS).trans (aC hb))
  ·by_cases pS:b∈ts
   ·let z':=(aJ pS).symm.trans z;cases z';exact eT b pS
   by_cases hb:b=a
   ·let z':=((aC pS).trans (aJ hb)).symm.trans z;cases z';subst hb;exact#[ha,by rw[aB];exact hl,vs,_,rv,ha]
   let z':=((aC pS).trans (aC hb)).symm.trans z;cases z'
  by_cases pS:b∈ts
  ·exact .inr pS
  by_cases hb:b=a
  ·exact .inl hb
  exact absurd ((aC pS).trans (aC hb)) z
theorem gy_{K:af}{T:Addr}(h:T∉K.map (·.1)):K.lookup T=none:=by
 induction K with
 |nil=>rfl
 |cons p K ih=>
  let#[b,o]:=p;simp only[eV,bW,not_or] at h;rw[qV,show (T == b)=false by simpa using h.1];exact ih h.2
theorem se{l:PySem.W.OpenLaw}{n k:Nat}{q:Ad}{loose:ae}{XP:(Str->Option Aa)->Heap->Prop}{d:DefRec}{K:Params->af}{as ts:ai}{J9:∀P:Params,as=(K P).map (·.1)}{CX:Af->i_}{sp:Af->Sp}{x:Str}
  (hn:l.most\n) (JF:n<=sizeLine) (uU:d.params.defaults=[]) (hr:aK k callerA)
  (BA:(ts.all λT=>!as.contains T)=true)
  (F:∀(w:Af) (mg:Str->Option Aa) (fa:Addr) (h:Heap),(K w.params).In h->h.Ns mainGlobals mg->mg d.name\.ref fa->
   ∃fd:Ae,(∀(s:Ab) (u:Aa),BindsTo s fd #[[u],[]] [(x,u)])/\(∀T∈ts,isCodeTable h T) /\
    ∀base:Heap,(K w.params).In base->base.Ns mainGlobals mg->(∀T∈ts,base.BuiltinsAt mg T)->ag l.prog w (K w.params) mg base (CX w) k fa fd [x] (sp w))
  (gn:∀(w:Af) (H:Hp) (a:Addr) (ns:List Int),ns.length<=n->(∀T∈ts,H T\.tbl #[])->dH (K w.params) H a (ns.map V.int)->sp w [.ref a] H (λv _=>v=.bl true) λ_ _ _=>False)
  (Ob:∀(w:Af) (H:Hp) (s:Ab) (e:Aa) (s':Ab),CX w [] H s (λ_ _ _=>False) e s'->False) :
  PySem.W.WalkO q loose XP (kmHook K as J9 ts).says l.row.toRowW d [] (λf vs=>PySem.call f vs):=by
 apply WA.kY hn uU λw cg aY mg mb fa o pm cd doc a vs ns G Y ho hd fL hmg BJ hints hlen hg=>?_;have KX:(K w.params).In aY.heap:=km_in_of Y;have eT:∀T∈ts,aY.heap.get? T\tabObj #[]:=Y.2;let#[fd,hb,GE,hF]:=F w mg fa _ KX G.T.g hmg;apply gE_ (λT h=>gy_ ?_) eT GE KX G.T.g G.T.b G.T.builtins G.T.nolimit hg BJ hints (oG hlen JF) hr G.T.bmain hF hb (λH hO hS=>gn w H a ns hlen hO hS) λH e s'=>Ob w H aY e s';have:=List.all_eq_true.mp BA T h;rw[<- J9 w.params];simpa using this
end L2
namespace L2
open PySem PySem.Spec PyProof.Rows
section
variable{X:Cx}
end
open PySem.W in
def oA:List (Pos × Addr)->ak
 |[]=>[]
 |(p,c)::es=>rawInt p.line::rawInt p.col::.ref c::oA es
def bL(H:Hp)(T:Addr)(qual:Str):Prop:=∃es:List (Pos × Addr),H T\.tbl (oA es).toArray/\∀e∈es,H e.2\vx e.2 qual
theorem bL.same{H H':Hp}{T:Addr}{qual:Str}(s:aa H H')(h:bL H T qual):bL H' T qual:=by
 let#[es,a,b]:=h;exact#[es,s _ _ a,λe he=>s _ _ (b e he)]
theorem Ut:∀es:List (Pos × Addr),TriplesOk (oA es)
 |[]=>trivial
 |(p,c)::es=>by
  have:=Ut es;simp[oA,TriplesOk,rawInt,this]
theorem Vk:∀(es:List (Pos × Addr)) (p:Pos) (c:Addr),oA (es++[(p,c)])=oA es++[rawInt p.line,rawInt p.col,.ref c]
 |[],p,c=>rfl
 |(p',c')::es,p,c=>by
  show rawInt p'.line::rawInt p'.col::.ref c'::oA (es++[(p,c)])=_;rw[Vk es p c];rfl
theorem Wb(pos:Pos):∀es:List (Pos × Addr),codeAmong pos (oA es)=none∨∃e∈es,codeAmong pos (oA es)\.ref e.2
 |[]=>.inl Z
 |(p,c)::es=>by
  by_cases h:codeAmong pos (oA ((p,c)::es))\.ref c
  ·exact .inr #[(p,c),eZ,h]
  have e:codeAmong pos (oA ((p,c)::es))=codeAmong pos (oA es):=by
   show codeAmong pos (rawInt p.line::rawInt p.col::.ref c::oA es)=_;have h:¬codeAmong pos (rawInt p.line::rawInt p.col::.ref c::oA es)=some (.ref c):=h;simp only[codeAmong,rawInt] at h ⊢;split at h
   ·exact absurd Z h
   rename_i q
   rw[aC q]
  rcases Wb pos es with q|⟨x,hx,q⟩
  ·exact .inl (e.trans q)
  exact .inr #[x,dZ _ hx,e.trans q]
end L2
namespace L2
open PySem PySem.Spec PyProof.Rows PySem.W qk
section
variable{X:Cx}{pins:List (Addr × Obj)}{σ:St}{H:Hp}{s:Ab}
theorem Inv.Ak{h':Heap}{t':Nat}{fp:ai}{T:Addr}{ys:aj}{its:ak}{n:Nat}(I:Inv X pins σ H s)(k:∀b o,b∉fp->s.heap.get? b\o->h'.get? b\o)(hf:∀b∈fp,cy X pins H b)
  (hT:T∈fp) (hz:ys.length<=sizeLine) (r:Vals ys its) (ht:h'.get? T=some { cls:=.type "list",data:=.seq its.toArray n }):Inv X pins σ (upd H T (.lst ys)) { s with heap:=h',toks:=t' }:=by
 have fT:H T=none:=(hf T hT).1;have nf:∀b u,H b\u->b∉fp:=λb u e hb=>by rw[(hf b hb).1] at e;cases e
 have old:∀{b u},H b\u->upd H T (.lst ys) b\u:=λe=>by rw[aF (bU e fT)];exact e
 apply I.step (g':=s.gens) (d':=s.drawn) (ch:=fp) (λb hb=>?_) (λb o _ _ hc e _=>k b o hc e) (λb o _ _ hc e _=>#[o.slots,k b o hc e]) (λb o hc e n=>?_)
  (λb o hc e=>#[o,k b o hc e]) (λb ys e=>old e) (λb o u e=>old e) (λb ps e=>#[#[],by rw[Array.append_empty];exact old e]) (λm hm=>?_) (λb u e=>?_) I.bare
 ·let#[f0,f1,f2,f3,f4,f5]:=hf b hb;exact#[f3,f1,f4,f5]
 ·rw[aF (λz=>hc (by rw[z];exact hT))];exact n
 ·let#[o,es,ep,ho,r]:=hm;exact#[o,es,ep,k _ o (λhb=>(hf _ hb).2.1 Z) ho,r]
 by_cases z:b=T
 ·subst z;rw[az] at e;cases e;exact#[hz,its,n,r,ht]
 rw[aF z] at e;apply (I.au b u e).cQ (λc v hc q=>k c v ?_ q) (λ_ q=>old q) λ_ _ q=>old q;rcases hc with z|z
 ·rw[z];exact nf b u e
 exact nf c _ z
theorem cy.at{H':Hp}{b:Addr}(f:cy X pins H b)(n:H' b=none):cy X pins H' b:=#[n,f.2]
def qi(X:Cx)(σ:St)(B:Ag)(fv:Aa)(H0:Hp)(kf:V->ax)(xs:aj):Prop:=
 ∀(pins:List (Addr × Obj)) (H:Hp) (s:Ab) (x:V) (u:Aa),Inv X pins σ H s->aa H0 H->x∈xs->RelV x u->
  wpAny (model X.prog X.w) B (call fv [u]) (EP X pins σ λv H'=>aa H H'/\∃t,v=.ref t/\H' t\.tup ((kf x).map kV)) (λ_ _=>False) s
theorem kZ_{B:Ag}{fv:Aa}{a kS:Addr}{e1:Nat}{H0:Hp}{kf:V->ax}{all:aj}{Q:PUnit->Ab->Prop}{E:Aa->Ab->Prop}{body:Aa->PUnit->Sem (ForInStep PUnit)}(qH:a≠kS)(kU:qi X σ B fv H0 kf all)
  (hb:∀(u:Aa) (s:Ab) (Qb:ForInStep PUnit->Ab->Prop),wpAny (model X.prog X.w) B (call fv [u]) (λk s'=>wpAny (model X.prog X.w) B (Builtin.List.listUpdate (.ref kS) (·.push k)) (λ_ rg=>Qb (.yield ⟨⟩) rg) E s') (λ_ _=>False) s->wpAny (model X.prog X.w) B (body u ⟨⟩) Qb E s) :
  ∀(xs:aj) (us:ak) (ks:aj) (kvs:ak) (kk:List ax) (H:Hp) (s:Ab) (c:Nat),Vals xs us->(∀x∈xs,x∈all)->Inv X pins σ H s->aa H0 H->cy X pins H a->cy X pins H kS->s.heap.get? a\seqObj "list" #[] e1->s.heap.get? kS\seqObj "list" kvs.toArray c->
   Vals ks kvs->bF X.K H ks kk->kvs.length+us.length<64->
   (∀H' s' fE c',Inv X pins σ H' s'->aa H0 H'->cy X pins H' a->cy X pins H' kS->s'.heap.get? a\seqObj "list" #[] e1->s'.heap.get? kS\seqObj "list" fE.toArray c'->fE.length=kvs.length+us.length->(∃uC,Vals uC fE/\bF X.K H' uC (kk++xs.map kf))->Q ⟨⟩ s')->
   wpAny (model X.prog X.w) B (forIn us PUnit.unit body) Q E s:=by
 intro xs
 induction xs with
 |nil=>
  intro us ks kvs kk H s c rv _ I sm fa fk ha hk r t _ q;cases rv;rw[List.forIn_nil];exact aP (q H s kvs c I sm fa fk ha hk Z2 #[ks,r,by simpa using t])
 |cons x xs ih=>
  intro us ks kvs kk H s c rv hx I sm fa fk ha hk r t hz q
  obtain⟨u,us,rfl,ru,rr⟩:∃u Rn,us=u::Rn/\RelV x u/\Vals xs Rn:=by
   cases rv with
   |cons h t=>exact#[_,_,Z,h,t]
  rw[List.forIn_cons];rw[j3] at hz;apply ao (hb u s _ ?_)
  have hf:∀b∈[a,kS],cy X pins H b:=λb hb=>by
   rcases bW.mp hb with rfl|hb
   ·exact fa
   obtain rfl:b=kS:=⇑hb
   exact fk
  let I1:=I.pinned (fp:=[a,kS]) hf (λb hb=>by
   rcases bW.mp hb with rfl|hb
   ·exact#[_,ha,λv z=>by cases z]
   obtain rfl:b=kS:=⇑hb
   exact#[_,hk,λv z=>by cases z])
  apply iM (kU _ H s x u I1 sm (hx x eZ) ru) (λk s1 ⟨v,H1,J,rv,Jf,tk,ev,etk⟩=>?_) λ_ _ z=>z
  have pa:(a,seqObj "list" #[] e1)∈yc [a,kS] s.heap:=by
   unfold yc;exact rY.mpr #[a,by simp,by rw[ha];rfl]
  have pk:(kS,seqObj "list" kvs.toArray c)∈yc [a,kS] s.heap:=by
   unfold yc;exact rY.mpr #[kS,by simp,by rw[hk];rfl]
  let#[N5,Zb,_]:=J.pin _ (oB _ (oB _ pa));let#[JJ,Y6,_]:=J.pin _ (oB _ (oB _ pk));have N5:s1.heap.get? a\seqObj "list" #[] e1:=N5;have JJ:s1.heap.get? kS\seqObj "list" kvs.toArray c:=JJ;let J0:=J.eM;let fa1:=fa.at (H':=H1) Zb;let Ug:=fk.at (H':=H1) Y6;have MW:kvs.length<64:=by omega
  apply listUpdate_at JJ Z ?_ (by rw[cn,cm];omega) (oG (Nat.le_of_eq (Array.size_push ..)) (by rw[cn,cm];omega));have uj:∀b o,b∉[kS]->s1.heap.get? b\o->(s1.heap.update kS (Obj.mapSeq (·.push k))).get? b\o:=λb o hb e=>(ji _ _ (λz=>hb (by simp[z]))).trans e;have ea:kvs.toArray.push k=(kvs++[k]).toArray:=by simp
  obtain⟨c2,DI⟩:∃c2,(s1.heap.update kS (Obj.mapSeq (·.push k))).get? kS\seqObj "list" (kvs++[k]).toArray c2:=#[_,by rw[<- ea];exact get?_update_seq JJ (·.push k)]
  have I2:Inv X pins σ H1 { s1 with heap:=s1.heap.update kS (Obj.mapSeq (·.push k)) }:=J0.js (t':=s1.toks) (fp:=[kS]) uj (λb hb=>by
   obtain rfl:b=kS:=⇑hb
   exact Ug)
  subst ev;apply ih us (ks++[.ref tk]) (kvs++[k]) (kk++[kf x]) H1 _ c2 rr (λy hy=>hx y (dZ _ hy)) I2 (sm.trans Jf) fa1 Ug ?_ DI (r.append (.cons rv .nil)) ?_ (by rw[fZ,List.length_singleton];omega) λH' s' fE c' a1 a2 a3 a4 a5 a6 a7 a8=>?_
  ·exact uj a _ ⇑qH N5
  ·exact Paired.snoc (t.same Jf) #[tk,Z,etk]
  apply q H' s' fE c' a1 a2 a3 a4 a5 a6 (by rw[a7,fZ,List.length_singleton,j3];omega) ?_;let#[uC,b1,b2]:=a8;exact#[uC,b1,by simpa using b2]
end
section
variable{X:Cx}{pins:List (Addr × Obj)}{σ:St}{H:Hp}{s:Ab}{B:Ag}
theorem kV_{xs zs:aj}{kf:V->ax}{p:Array Nat}(g:Good xs.length p)(up:Up (λi j=>bG ((xs.map kf).getD i []) ((xs.map kf).getD j [])) p xs.length)(ez:zs=p.toList.map λi=>xs.getD i .non):zs.Perm xs/\zs.map kf=a9 (xs.map kf):=by
 have gk:Good (xs.map kf).length p:=by rw[aB];exact g
 let asc:=OQ (ks:=xs.map kf) (λi j _ _=>rfl) gk (by rw[aB];exact up)
 have perm:(p.toList.map λi=>(xs.map kf).getD i []).Perm (xs.map kf):=by
  have:=Il gk λi=>(xs.map kf).getD i [];rwa [IA] at this
 let es:=Qt perm asc;apply#[?_,?_]
 ·have:=Il (n:=xs.length) g λi=>xs.getD i .non;rw[IA] at this;rw[ez];exact this
 rw[<- es,ez,bV];apply vF λi hi=>?_;have m:i∈(List.range xs.length).toArray:=g.mem_iff.mp ⇑hi;have m:i<xs.length:=⇑m
 show kf (xs.getD i .non)=(xs.map kf).getD i [];simp[List.getD,m]
theorem if_{f a:Addr}{xs:aj}{us:ak}{n:Nat}{P:PySem.Fin->Ab->Prop}{E:Aa->Ab->Prop}{kf:V->ax}{sh:List Bool}(I:Inv X pins σ H s)(fa:cy X pins H a)(ho:s.heap.get? a\seqObj "list" us.toArray n)(r:Vals xs us)(bY:us.length<64)(al:Cd (xs.map kf) sh)(kU:qi X σ B (.ref f) H kf xs)
  (h:∀zs H' s',Inv X pins σ (upd H' a (.lst zs)) s'->aa H H'->H' a=none->zs.Perm xs->zs.map kf=a9 (xs.map kf)->P (.done (.ret .none)) s'):wpAny (model X.prog X.w) B (ksk_tree a (.ref f) false) P E s:=by
 let lx:=r.length;obtain⟨e1,DD⟩:∃e1,(s.heap.update a (Obj.mapSeq λ_=>(#[]:Array Aa))).get? a\seqObj "list" #[] e1:=#[_,get?_update_seq ho λ_=>#[]];have uj:∀b o,b∉[a]->s.heap.get? b\o->(s.heap.update a (Obj.mapSeq λ_=>(#[]:Array Aa))).get? b\o:=λb o hb e=>(ji _ _ (λz=>hb (by simp[z]))).trans e
 have I1:Inv X pins σ H { s with heap:=s.heap.update a (Obj.mapSeq λ_=>(#[]:Array Aa)) }:=I.js (t':=s.toks) (fp:=[a]) uj (λb hb=>by
  obtain rfl:b=a:=⇑hb
  exact fa)
 unfold ksk_tree;apply ao (listItems_at ho Z ?_);apply ao (listUpdate_at ho Z ?_ (by rw[cn,cm];omega) (hG _));apply ao (seqEpoch_at DD Z ?_);apply ao (wpAny_newTuple ?_ (by show us.length<=_;rw[cm];omega));apply ao (wpAny_newList ?_ (hG _));apply jK ?_;have I2:Inv X pins σ H { s with heap:=(s.heap.update a (Obj.mapSeq λ_=>(#[]:Array Aa))).push (seqObj "tuple" us.toArray 0) }:=I1.kept (t':=s.toks) λb u e=>bQ _ e;have I3:Inv X pins σ H { s with heap:=((s.heap.update a (Obj.mapSeq λ_=>(#[]:Array Aa))).push (seqObj "tuple" us.toArray 0)).push (seqObj "list" #[] 0) }:=I2.kept (t':=s.toks) λb u e=>bQ _ e;have fk:cy X pins H ((s.heap.update a (Obj.mapSeq λ_=>(#[]:Array Aa))).push (seqObj "tuple" us.toArray 0)).objs.size:=I2.jE (bj _) (I2.au.fresh (bj _));have gU:(((s.heap.update a (Obj.mapSeq λ_=>(#[]:Array Aa))).push (seqObj "tuple" us.toArray 0)).push (seqObj "list" #[] 0)).get? a\seqObj "list" #[] e1:=bQ _ (bQ _ DD);have NN:(((s.heap.update a (Obj.mapSeq λ_=>(#[]:Array Aa))).push (seqObj "tuple" us.toArray 0)).push (seqObj "list" #[] 0)).get? ((s.heap.update a (Obj.mapSeq λ_=>(#[]:Array Aa))).push (seqObj "tuple" us.toArray 0)).objs.size\seqObj "list" #[] 0:=dU _ Z;have qH:a≠((s.heap.update a (Obj.mapSeq λ_=>(#[]:Array Aa))).push (seqObj "tuple" us.toArray 0)).objs.size:=dB (bN (bQ (seqObj "tuple" us.toArray 0) DD));show wpAny (model X.prog X.w) B (ksk_rest a (.ref f) false us.toArray e1 (.ref ((s.heap.update a (Obj.mapSeq λ_=>(#[]:Array Aa))).push (seqObj "tuple" us.toArray 0)).objs.size)) P E { s with heap:=((s.heap.update a (Obj.mapSeq λ_=>(#[]:Array Aa))).push (seqObj "tuple" us.toArray 0)).push (seqObj "list" #[] 0) };generalize ((s.heap.update a (Obj.mapSeq λ_=>(#[]:Array Aa))).push (seqObj "tuple" us.toArray 0)).objs.size=kS at fk NN qH ⊢;generalize ((s.heap.update a (Obj.mapSeq λ_=>(#[]:Array Aa))).push (seqObj "tuple" us.toArray 0)).push (seqObj "list" #[] 0)=h3 at I3 gU NN ⊢;clear I2 I1 uj;unfold ksk_rest;apply ao (wpAny_rule ?_);rw[List.forIn_toArray];apply ao (kZ_ (pins:=pins) (E:=E) (e1:=e1) qH kU (λu s4 Qb hq=>?_) xs us [] [] [] H _ 0 r (λx hx=>hx) I3 (aa.refl H) fa fk gU NN .nil .nil ⇑bY λH5 s5 kvs c5 I5 X4 Uk fk5 ha5 JI lk ⟨ks,rk,tk⟩=>?_)
 ·apply ao (wpAny_attempt (iM hq (λk rg hk=>?_) λ_ _ hF=>hF.elim));exact ao (iM hk (λ_ s6 h6=>aP h6) λ_ _ z=>z)
 rw[List.nil_append] at tk;rw[rX,Nat.zero_add] at lk;apply ao (listItems_at JI Z ?_)
 have tail:∀(p:Array Nat) (st:SortSt),Good xs.length p->Up (λi j=>bG ((xs.map kf).getD i []) ((xs.map kf).getD j [])) p xs.length->(arrOf st).map (·.2)=(oz p us).toArray->failedOf st=none->wpAny (model X.prog X.w) B (ksk_tail a false e1 (.ref kS) st) P E s5:=λp st g up Ny uR=>by
  have gu:Good us.length p:=by rw[<- lx];exact g
  have hz:(oz p us).length=us.length:=by
   unfold oz;rw[aB,vG];exact gu.size
  let s1:=Heap.SameBut.update s5.heap kS (Obj.mapSeq λ_=>(#[]:Array Aa));have DK:(s5.heap.update kS (Obj.mapSeq λ_=>(#[]:Array Aa))).get? a\seqObj "list" #[] e1:=(ji _ _ (Ne.symm qH)).trans ha5;unfold ksk_tail;dsimp only;rw[Ny];apply ao (listUpdate_at JI Z ?_ (by rw[cn,cm];omega) (hG _));apply ao (wpAny_letGo ?_);apply ao (seqEpoch_at DK Z ?_);simp only[me,if_false];apply ao (listUpdate_at DK Z ?_ (hG _) (by rw[cn,hz,cm];omega));rw[uR];simp only[bne_self_eq_false,me,if_false]
  have zl:(p.toList.map λi=>xs.getD i .non).length<=sizeLine:=by
   rw[aB,vG,g.size,cm];omega
  let#[pz,ek]:=kV_ (zs:=p.toList.map λi=>xs.getD i .non) g up Z;apply aP (h _ H5 _ (I5.Ak (t':=s5.toks) (fp:=[a,kS]) (T:=a) (λb o hb e=>?_) (λb hb=>?_) Z2 zl (Pp r gu) (get?_update_seq DK _)) X4 Uk.1 pz ek)
  ·have n1:b≠a:=λz=>hb (by simp[z]);have n2:b≠kS:=λz=>hb (by simp[z]);exact (ji _ _ (Ne.symm n1)).trans ((ji _ _ (Ne.symm n2)).trans e)
  rcases bW.mp hb with rfl|hb
  ·exact Uk
  obtain rfl:b=kS:=⇑hb
  exact fk5
 unfold ksk_end;dsimp only;simp only[me,if_false];by_cases h2:us.toArray.size<2
 ·rw[aJ h2,aJ h2];apply ao (aP ?_);rw[StateT.run_pure];apply ao (aP (tail (List.range xs.length).toArray _ (Array.Perm.refl _) (λi j pO hj=>?_) ?_ Z))
  ·have e:i=j:=by
    simp only[cn] at h2;omega
   subst e;exact Pu _
  show ((kvs.toArray.zip us.toArray).map λx:Keyed=>x.2)=_;rw[show xs.length=us.length from lx,V8];apply Array.ext' ?_;simp[List.map_snd_zip,lk]
 rw[aC h2,aC h2]
 have iL:2<=us.length:=by
  simp only[cn] at h2;omega
 let#[κ,hk,hc]:=Vb (A:=B) (s':=s5) I5 rk tk al Z1 (λ_ _ e=>e);apply ao (iM (hk (λk s'=>k=κ/\s'=s5) #[Z,Z]) (λk s7 Gs=>?_) λ_ _ x=>x.elim);let#[rfl,rfl]:=Gs;have O:Ord (λi j=>bG ((xs.map kf).getD i []) ((xs.map kf).getD j [])):=Pg _
 apply ao (iM (kat_run (ks:=kvs) (vs:=us) (G:=λp s'=>s'=s7/\Good us.length p/\Up (λi j=>bG ((xs.map kf).getD i []) ((xs.map kf).getD j [])) p us.length)
  (Q:=λfI s'=>∃p:Array Nat,arrOf fI=p.map (kas_item (kvs.toArray.zip us.toArray))/\failedOf fI=none/\s'=s7/\Good us.length p/\Up (λi j=>bG ((xs.map kf).getD i []) ((xs.map kf).getD j [])) p us.length)
  lk iL bY (λp fI s' _ q1 q2 q3=>#[p,q1,q2,q3]) (Ok.wp (n:=us.length) (λi j C hi hj=>hc i j C Z1 Z1) (λp q=>#[Z,q]) (TL O Z1))) ?_ λ_ _ x=>x)
 rintro⟨⟨⟩,fI⟩ s' ⟨p,N4,hf,rA,g,u⟩;subst rA;rw[<- lx] at g u;exact tail p fI g u (kat_snds lk N4) hf
end
end L2
namespace L2
open PySem PySem.Spec PyProof.Rows PySem.W qk
section
variable{X:Cx}{pins:List (Addr × Obj)}{σ:St}{H:Hp}{s:Ab}
theorem Inv.vj{bh:ae}{cl:List (Str × Addr)}{is:List Nat}{gs:aj}(I:Inv X pins σ H s)(iK:∀q∈cl,X.env.cells.lookup q.1\q.2)(pQ:∀x∈bh,∃c,cl.lookup x\c)(xH:∀x∈bh,X.env.scope.names.lookup x\.cell)(hN:is.map (λi=>X.N[i]?)=bh.map some)
  (uQ:is.map (λi=>σ[i]?)=gs.map (λv=>some (some v))):gs.length=bh.length/\Em bh cl gs s.heap/\∀x c,cl.lookup x\c->H c=none:=by
 have lk:∀{x c},cl.lookup x\c->(x,c)∈cl:=λe=>jW e;apply#[?_,#[λa b c h1 h2=>I.ok.inj a b c (iK _ (lk h1)) (iK _ (lk h2)),pQ,λa c h1=>I.cell a c (iK _ (lk h1)),λj a v h1 h2=>?_],λx c e=>I.bX x c (iK _ (lk e))]
 ·let a:=eA List.length uQ;let b:=eA List.length hN;simp only[aB] at a b;omega
 let#[c,hc]:=pQ a (dD h1);have e1:(is.map λi=>X.N[i]?)[j]? = some (some a):=by rw[hN,dQ,h1];rfl
 have e2:(is.map λi=>σ[i]?)[j]? = some (some (some v)):=by rw[uQ,dQ,h2];rfl
 rw[dQ] at e1 e2;let#[i,hi,e1]:=Option.map_eq_some_iff.mp e1;rw[hi] at e2;have e2:σ[i]? = some (some v):=dG e2;let#[m,_,hl]:=I.loc;let kd:=xH a (dD h1);let#[u,ru,lo]:=hl i a v e1 e2 (.inr (.inl kd));rcases lo with⟨z,_⟩|⟨_,c2,e3,o,e4,e5⟩
 ·have z:X.env.scope.names.lookup a\.local:=z;rw[kd] at z;cases z
 rw[iK _ (lk hc)] at e3;cases e3;exact#[c,u,hc,ru,o,e4,e5]
theorem kf_{B:Ag}{k:Nat}{qual:Str}{params:Ai}{body:PySem.Expr}{scope:Scope}{p:Str}{bh:ae}{sp:aj->aj->Hp->VK->XK->Prop}{f c':Addr}{cl:List (Str × Addr)}{is:List Nat}{gs xs:aj}{kf:V->ax}{H0:Hp}(F:vw X.prog X.w X.K X.mg X.base k qual params body scope [p] bh sp)(hr:aK k B)(hB:B.frames=X.A.frames)
  (hf:H0 f\iA f qual params body scope cl c') (hc:H0 c'\vx c' qual) (iK:∀q∈cl,X.env.cells.lookup q.1\q.2) (pQ:∀x∈bh,∃c,cl.lookup x\c) (xH:∀x∈bh,X.env.scope.names.lookup x\.cell) (hN:is.map (λi=>X.N[i]?)=bh.map some) (uQ:is.map (λi=>σ[i]?)=gs.map (λv=>some (some v)))
  (gn:∀H x,aa H0 H->x∈xs->sp [x] gs H (λv H'=>aa H H'/\∃t,v=.ref t/\H' t\.tup ((kf x).map kV)) (λ_ _ _=>False)):qi X σ B (.ref f) H0 kf xs:=by
 intro pins H s x u I sm hx ru;let#[#[pm,iB,ef],_]:=I.au f _ (sm _ _ hf);let#[#[oc,yq,t,ec,d1,d2],_]:=I.au c' _ (sm _ _ hc);let#[hg,C,fc]:=I.vj iK pQ xH hN uQ;let e0:=I.vf;apply wpAny_call (codeAny_mono (F B X.stack s H f c' pm iB cl [u] [x] gs _ _ hr #[hB.trans e0.frames,e0.mod,e0.bs,e0.lY,e0.dY,e0.qJ,e0.au,e0.bare] ef #[c',oc,yq,t,Z,ec,d1,d2] Z hg (.cons ru .nil) C fc (gn H x sm hx)) λr s' hq=>?_);cases r with
 |error e=>
  let#[a,cls,H',B,a0,dd,rfl,os,bare,un,au,fl,i,hE]:=hq;exact hE.elim
 |ok fl=>
  cases fl with
  |ret u=>exact I.after hq
  |next=>exact False.elim hq
  |brk=>exact False.elim hq
  |cont=>exact False.elim hq
theorem sortedK{f:Addr}{x:Aa}{xs:aj}{kf:V->ax}{sh:List Bool}{Q:VK}{E:Aa->Ab->Prop}(I:Inv X pins σ H s)(bY:xs.length<64)(al:Cd (xs.map kf) sh)(kU:qi X σ X.A.in1.in1 (.ref f) H kf xs)
  (nJ:∀R:ak->Ab->Prop,(∀vs s1,Inv X pins σ H s1->Vals xs vs->R vs s1)->wpAny (model X.prog X.w) X.A.in1 (collect x) R E s)
  (q:∀l zs H',aa H H'->H' l=none->H l=none->zs.Perm xs->zs.map kf=a9 (xs.map kf)->Q (.ref l) (upd H' l (.lst zs))):wpAny (model X.prog X.w) X.A (call (.builtin "sorted") [x] [(Str.ofString "key",.ref f)]) (EP X pins σ Q) E s:=by
 apply call_function_entry_kw kind_sorted plain_sorted entry_sorted (ksk_s1 _ _) ?_;unfold Builtin.«sorted»;apply ao (m:=checkCount "sorted" 1 1 _) (aP ?_);apply ao (nJ _ λvs s1 I1 r=>?_);let lv:=r.length;apply ao (wpAny_newList ?_ (by rw[cm];omega));have Gh:(s1.heap.push (seqObj "list" vs.toArray 0)).get? s1.heap.objs.size\seqObj "list" vs.toArray 0:=dU _ Z;have I2:Inv X pins σ H { s1 with heap:=s1.heap.push (seqObj "list" vs.toArray 0) }:=I1.kept (t':=s1.toks) λb u e=>bQ _ e;have fa:cy X pins H s1.heap.objs.size:=I1.jE (bj _) (I1.au.fresh (bj _));have nl:H s1.heap.objs.size=none:=I1.au.fresh (bj _);apply ao (jK (wpAny_call_entry_kw slot_list_sort #[_,Gh,Z] entry_list_sort ?body (ksk_l1 _ _)))
 case body=>
  show wpAny (model X.prog X.w) X.A.in1.in1 (Builtin.«list.sort» #[[.ref s1.heap.objs.size],[(Str.ofString "key",.ref f)]]) _ _ _;rw[ksk_t1];apply if_ (s:={ s1 with heap:=s1.heap.push (seqObj "list" vs.toArray 0) }) I2 fa Gh r Z1 al kU λzs H' s' I' sm na pz ek=>?_;exact#[_,Z,aP #[_,Z,.ref _,_,I',Z,q _ zs H' sm na nl pz ek]]
end
def Q9(K:af)(H:Hp)(x:V)(xs:aj):Prop:=(∃l,x=.ref l/\dH K H l xs)∨∃d kvs,x=.ref d/\H d\.dK kvs/\xs=kvs.map λkv=>kV kv.1
inductive oR (K:af) (qual:Str) (params:Ai) (body:PySem.Expr) (scope:Scope) (cl:List (Str × Addr)) (is:List Nat) (sp:aj->aj->Hp->VK->XK->Prop) (t:TA) (σ:St) (H:Hp) (Q:VK) (vs:aj) (ws:aj) (H2:Hp):Prop
 |mk:∀x f c' xs kf sh gs,vs=[x]->ws=[.ref f]->H2 f\iA f qual params body scope cl c'->H2 c'\vx c' qual->Q9 K H2 x xs->xs.length<64->Cd (xs.map kf) sh->is.map (λi=>σ[i]?)=gs.map (λv=>some (some v))->(∀H x,aa H2 H->x∈xs->sp [x] gs H (λv H'=>aa H H'/\∃t,v=.ref t/\H' t\.tup ((kf x).map kV)) (λ_ _ _=>False))->(∀l zs H',aa H2 H'->H' l=none->H2 l=none->zs.Perm xs->zs.map kf=a9 (xs.map kf)->Q (.ref l) (upd H' l (.lst zs)))->oR K qual params body scope cl is sp t σ H Q vs ws H2
def Aq(K:af)(qual:Str)(params:Ai)(body:PySem.Expr)(scope:Scope)(cl:List (Str × Addr))(is:List Nat)(sp:aj->aj->Hp->VK->XK->Prop)(t tk:TA):TE:=λσ H Q=>t σ H λvs H1=>tk σ H1 λws H2=>oR K qual params body scope cl is sp t σ H Q vs ws H2
theorem Uv{X:Cx}{e:PySem.Expr}{t tk:TA}{p pos kp uz:Pos}{k:Nat}{params:Ai}{body:PySem.Expr}{scope:Scope}{px:Str}{bh:ae}{qual:Str}{sp:aj->aj->Hp->VK->XK->Prop}{cl:List (Str × Addr)}{is:List Nat}(hc:X.calm=true)(hg:Gl X "sorted")(hm:X.mg "sorted"=none)(ha:PA X [e] t)(hkw:PK X [#[some "key",.Lambda params body scope uz,kp]] tk)
  (F:vw X.prog X.w X.K X.mg X.base k qual params body scope [px] bh sp) (hr:aK (k+2) X.A) (iK:∀q∈cl,X.env.cells.lookup q.1\q.2) (pQ:∀x∈bh,∃c,cl.lookup x\c) (xH:∀x∈bh,X.env.scope.names.lookup x\.cell) (hN:is.map (λi=>X.N[i]?)=bh.map some)
  (he:starEach [e] X.env=[(false,eval e X.env)]:=by rfl) (kI:(backToKw pos (keywordEach [#[some "key",.Lambda params body scope uz,kp]] X.env)).all (·.1.isSome)=true:=by rfl) (Gs:(backToKw pos (keywordEach [#[some "key",.Lambda params body scope uz,kp]] X.env)).filterMap (·.1)=[Str.ofString "key"]:=by rfl)
  (hkn:(backToKw pos (keywordEach [#[some "key",.Lambda params body scope uz,kp]] X.env)).any (·.1.isNone)=false:=by rfl):PE X (.Call (.Name "sorted" p) [e] [#[some "key",.Lambda params body scope uz,kp]] pos) (Aq X.K qual params body scope cl is sp t tk):=by
 intro pins s σ H Q I h;apply wpAny_Call_Name_kw (D_ I hg hm El ?_);let hA:=ha pos pins s σ H _ I h;rw[he] at hA ⊢;apply callWith_builtin_kwB (first:=[]) Z hkn (evalArgs_kwB kI (aQ hA λus s1 ⟨vs,H1,I1,r1,q1⟩=>?_));apply aQ (hkw pos pins s1 σ H1 _ I1 q1) λws s2 ⟨zs,H2,I2,rz,x,f,c',xs,kf,sh,gs,ev,ez,hf,fL,src,bY,al,uQ,gn,q⟩=>?_;subst ev ez;let#[u,rfl,ru]:=Vals.one r1;let#[fv,rfl,rf]:=Vals.one rz;cases rf;rw[Gs];have hd:X.A.in1.handled=none:=I.ok.hd hc;apply sortedK I2 bY al (kf_ F hr.in1.in1 Z hf fL iK pQ xH hN uQ gn) (λR hR=>?_) q;rcases src with⟨l,rfl,hl⟩|⟨d,kvs,rfl,hd2,rfl⟩
 ·cases ru;exact iC_ I2 hl Z1 hR
 cases ru;exact Ss hd I2 (.inl hd2) hR
end L2
namespace L2
open PySem PySem.Spec PyProof.Rows
structure lJ (K:af) (x qual:Str) (st:Stmt) (f c:Addr) (fd:Ae):Prop where
 ex:∃(oc:Aa) (od:Option Addr) (kV doc pm:Aa) (an:Option Addr) (ct:Aa) (iI:Array (Option Aa)),
  fd=PySem.W.fnOf x qual (gX st) (eY st) (aL st) .none kV doc pm an (.ref c) ct/\K.lookup f=some #[oc,od,.func fd,iI]/\PySem.W.codeIn K (.ref c) qual=true
 kp:PySem.W.keepIn K (.ref f)=true
theorem lJ.fn{K:af}{x qual:Str}{st:Stmt}{f c:Addr}{fd:Ae}(F:lJ K x qual st f c fd):a_ K x qual st f fd:=by
 let#[oc,od,kV,doc,pm,an,ct,iI,e,l,h]:=F.ex;exact#[#[oc,od,kV,doc,pm,an,.ref c,ct,iI,e,l,h],F.kp]
theorem lJ.ok{P:Ad}{w:Af}{K:af}{mg:Str->Option Aa}{base:Heap}{x qual:Str}{st:Stmt}{f c:Addr}{fd:Ae}{N ps:ae}{k:Nat}{sp:Sp}(F:lJ K x qual st f c fd)(S:bq N ps (aL st))(len:∀vs H Q E,sp vs H Q E->vs.length=ps.length)
  (bR:∀(A:Ag) (outer:List Env) (s:Ab) (H:Hp) (vs:aj) (Q:VK) (E:XK),aK k (A.deeper (envOfC qual (aL st) s.heap.objs.size f (.ref c)))->sp vs H Q E->
   ∃t,ig (dP bc P w K mg base N qual (aL st) f (.ref c) A outer s H E).uo (eY st) t/\t { nx:=λ_ H'=>Q .non H',rt:=Q } (start N vs) H):!ag bc (k+1) f fd ps sp:=by
 let#[oc,od,kV,doc,pm,an,ct,iI,rfl,lk,fL]:=F.ex;apply Jr lk fL S len λA outer s H vs Q E hr gn=>?_;let#[t,h,q]:=bR A outer s H vs Q E hr gn;exact#[t,h.uo,q]
end L2
namespace Ev
open PySem L2
def NT(H G:Hp):Prop:=∀b o,H b\o->(∀vs,o≠.tbl vs)->G b\o
theorem NT.of{H G:Hp}(s:aa H G):NT H G:=λb o e _=>s b o e
theorem NT.refl(H:Hp):NT H H:=NT.of (aa.refl H)
theorem NT.trans{H G J:Hp}(s:NT H G)(t:NT G J):NT H J:=λb o e n=>t b o (s b o e n) n
theorem bb.nt{T:Addr}{H G:Hp}{vs:Array Aa}(b:bb T H G)(hT:H T\.tbl vs):NT H G:=λc o e n=>b c o e (λz=>by
 rw[z,hT] at e;exact n _ (dG e).symm)
theorem NT.tup{H G:Hp}(s:NT H G){a:Addr}{xs:aj}(h:H a\.tup xs):G a\.tup xs:=s _ _ h nofun
theorem NT.lst{H G:Hp}(s:NT H G){a:Addr}{xs:aj}(h:H a\.lst xs):G a\.lst xs:=s _ _ h nofun
theorem NT.dK{H G:Hp}(s:NT H G){a:Addr}{xs:List (Key × V)}(h:H a\.dK xs):G a\.dK xs:=s _ _ h nofun
theorem NT.ins{H G:Hp}(s:NT H G){a C dx:Addr}{fs:List (Str × V)}(h:H a\.ins C dx fs):G a\.ins C dx fs:=s _ _ h nofun
section
variable{K:af}{H G:Hp}{v:V}
theorem bF.nt{ys:aj}{ks:List ax}(h:bF K H ys ks)(s:NT H G):bF K G ys ks:=Paired.bC h λy k ⟨a,z,q⟩=>#[a,z,s.tup q]
theorem ft.nt{C p:Addr}{hs:Xa}{ts:Xb}{fp:ai}(W:ft K C H p hs ts fp)(s:NT H G):ft K C G p hs ts fp:=by
 let#[dx,d1,l2,d3,zs,as,rfl,h1,h2,h3,h4,h5,h6,h7]:=W.ex;exact#[dx,d1,l2,d3,zs,as,Z,s _ _ h1 nofun,s.dK h2,s.lst h3,bF.nt h4 s,s.dK h5,h6,λi n a e1 e2=>s.lst (h7 i n a e1 e2)]
theorem dS.nt{o:Option (Xb)}(h:dS K H v o)(s:NT H G):dS K G v o:=by
 cases o with
 |none=>exact h
 |some ws=>
  let#[a,ys,e,ha,t]:=h;exact#[a,ys,e,s.lst ha,bF.nt t s]
theorem fN.nt{CG CW g p:Addr}{hs:Xa}{ts:Xb}{qs:aH}{fp:ai}(h:fN K CG CW H g p hs ts qs fp)(s:NT H G):fN K CG CW G g p hs ts qs fp:=by
 let#[dx,dw,dy,vs,bI,h1,h2,h3,h4,h5,r]:=h.ex;exact#[dx,dw,dy,vs,bI,s _ _ h1 nofun,h2.nt s,s.dK h3,s.dK h4,Paired.bC h5 λv q h=>h.nt s,r]
theorem cB.nt{l:Addr}(h:cB H l)(s:NT H G):cB G l:=by
 let#[a,b,c,e]:=h;exact#[a,b,c,s.lst e]
end
theorem N9{H:Hp}{T:Addr}{qual q':Str}{a a':Ai}{b b':Expr}{sc A1:Scope}{ps:Pos}{cl:List (Str × Addr)}{σ:St}{Q:VK}(h:bL H T qual)(e1:q'=qual)(e2:a'=a)(e3:b'=b)(e4:A1=sc)(q:∀f c' H1,bb T H H1->bL H1 T qual->H1 f\iA f qual a b sc cl c'->H1 c'\vx c' qual->Q (.ref f) H1):As T q' a' b' A1 ps cl σ H Q:=by
 subst e1 e2 e3 e4;let#[es,h,BU]:=h;apply#[_,h,Ut es,?_];rcases Wb ps es with e|⟨e,he,q1⟩
 ·apply .inl #[e,λc' f n1 n2 n3=>?_];have FK:T≠c':=bU h n1;have FJ:T≠f:=bU h n2
  have B:bb T H (upd (upd (upd H T (.tbl ((oA es).toArray++(List.toArray [rawInt ps.line,rawInt ps.col,.ref c'])))) c' (vx c' q')) f (iA f q' a' b' A1 cl c')):=λb o e n=>by
   rw[aF (bU e n2),aF (bU e n1),aF n];exact e
  apply q f c' _ B #[es++[(ps,c')],?_,λx hx=>?_] az ?_
  ·rw[aF FJ,aF FK,az,Vk];simp
  ·rcases gY.mp hx with hx|hx
   ·exact B _ _ (BU x hx) (λz=>by have:=BU x hx;rw[z,h] at this;cases this)
   rw[List.mem_singleton.mp hx];show upd _ f _ c'=_;rw[aF n3,az]
  rw[aF n3,az]
 apply .inr #[e.2,q1,λf hf=>?_];let s:=aa.new (o:=iA f q' a' b' A1 cl e.2) hf;exact q f e.2 _ (bb.of s) #[es,s _ _ h,λx hx=>s _ _ (BU x hx)] az (s _ _ (BU e he))
theorem g_{H:Hp}{T:Addr}{qual:Str}(h:bL H T qual):∃vs,H T\.tbl vs:=by
 let#[es,e,_]:=h;exact#[_,e]
theorem bL.but{H G:Hp}{T T':Addr}{q:Str}(h:bL H T q)(b:bb T' H G)(hT:∃vs,H T'\.tbl vs)(ne:T≠T'):bL G T q:=by
 let#[es,e,a]:=h;let#[vs,hT]:=hT;exact#[es,b _ _ e ne,λx hx=>b _ _ (a x hx) (λz=>by have:=a x hx;rw[z,hT] at this;cases this)]
def cX:Expr->Scope
 |.Lambda _ _ s _=>s
 |_=>aL dn
def kz:Expr->Expr
 |.Lambda _ b _ _=>b
 |e=>e
def kA:Expr->Ai
 |.Lambda a _ _ _=>a
 |_=>gX dn
def Sb:Expr->Expr
 |.Call _ _ (k::_) _=>k.value
 |e=>e
def qw(l:List Stmt)(i:Nat):Stmt:=l.getD i (.Pass #[0,0,0,0])
def Om:Stmt->Expr
 |.For _ i _ _ _=>i
 |_=>.Constant .none 0 #[0,0,0,0]
def Mh:Stmt->Expr
 |.Return (some e) _=>e
 |_=>.Constant .none 0 #[0,0,0,0]
end Ev
namespace Ev
open PySem L2
theorem FF{σ:St}{H:Hp}{k:aj->Hp->Prop}(h:k [] H):dJ σ H k:=h
theorem zK{te:TE}{t:TA}{σ:St}{H:Hp}{k:aj->Hp->Prop}(h:te σ H λx H1=>t σ H1 λxs H2=>k (x::xs) H2):gy te t σ H k:=h
abbrev vP(qs:aH)(n:Str):Int:=strOf (qs.map gF) n
def kN(qs:aH)(n:Str):ax:=[.inl (-(vP qs n)),.inr n]
def ke:ax->Str
 |[_,.inr n]=>n
 |_=>⟨#[]⟩
def nD(qs:aH):ae:=(a9 ((qs.map (·.1)).map (kN qs))).map ke
def FT(qs:aH):V->ax
 |.str n=>kN qs n
 |_=>[]
theorem UE{zs:aj}{ns:ae}(p:zs.Perm (ns.map V.str)):∃ms:ae,zs=ms.map V.str/\ms.Perm ns:=by
 have all:∀z∈zs,∃n,z=V.str n:=λz hz=>by
  let#[n,_,e]:=bD.mp (p.mem_iff.mp hz);exact#[n,e.symm]
 have mk:∀l:aj,(∀z∈l,∃n,z=V.str n)->∃ms:ae,l=ms.map V.str:=λl=>by
  induction l with
  |nil=>intro _;exact#[[],Z]
  |cons a r ih=>
   intro h;let#[n,rfl]:=h a eZ;let#[ms,rfl]:=ih λz hz=>h z (dZ _ hz);exact#[n::ms,Z]
 let#[ms,rfl]:=mk zs all;apply#[ms,Z,?_];have:=p.map (λv:V=>match v with | .str n=>n|_=>(⟨#[]⟩:Str));rw[bV,bV] at this;simpa [Function.comp_def] using this
theorem Zm{qs:aH}{zs:aj}(p:zs.Perm ((qs.map (·.1)).map V.str))(e:zs.map (FT qs)=a9 (((qs.map (·.1)).map V.str).map (FT qs))):zs=(nD qs).map V.str:=by
 let#[ms,rfl,_]:=UE p;have e1:(ms.map V.str).map (FT qs)=ms.map (kN qs):=by rw[bV];rfl
 have e2:((qs.map (·.1)).map V.str).map (FT qs)=(qs.map (·.1)).map (kN qs):=by
  rw[bV];rfl
 rw[e1,e2] at e
 have em:(ms.map (kN qs)).map ke=ms:=by
  rw[bV];exact List.map_id' ms
 unfold nD;rw[<- e,em]
theorem KR(qs:aH):(nD qs).Perm (qs.map (·.1)):=by
 unfold nD;let p:=(oE ((qs.map (·.1)).map (kN qs))).map ke
 have e:((qs.map (·.1)).map (kN qs)).map ke=qs.map (·.1):=by
  generalize qs.map (·.1)=ns;rw[bV];exact List.map_id' _
 rw[e] at p;exact p
def fF(qs:aH)(f:aq)(h:Str):ae:=(nD qs).filter λn=>decide (f n=h)
abbrev yW:Str:="heaviest_first.<locals>.<lambda>"
def qC:Expr:=Sb (Om (qw (eY iT) 1))
abbrev B2:ae:=["goods"]
theorem GN:∀y∈(cX qC).names,y.2=.free->y.1∈B2:=by decide +kernel
theorem AQ:zS ["name"] B2 (cX qC):=#[by decide +kernel,Z,Z,Z,by decide +kernel,by decide +kernel,λx h=>GN (x,.free) (jW h) Z,by decide +kernel]
section v
inductive o4 (K:af) (CG CW:Addr) (vs:aj) (gs:aj) (H:Hp) (Q:VK):Prop
 |mk:∀(g p:Addr) (q:Pc) (hs:Xa) (ts:Xb) (qs:aH) (fp:ai),vs=[.str q.1]->gs=[.ref g]->fN K CG CW H g p hs ts qs fp->(qs.map (·.1)).Nodup->q∈qs->0<=q.2.1->q.2.1<=1000000000->(∀t,H t=none->Q (.ref t) (upd H t (.tup [.int (-q.2.1),.str q.1])))->o4 K CG CW vs gs H Q
def AG(K:af)(CG CW:Addr):aj->aj->Hp->VK->XK->Prop:=λvs gs H Q _=>o4 K CG CW vs gs H Q
theorem _H{CG CW CP:Addr}(T:c_ K CG)(cW:!bf CG 2 "weight" zG (C4 K CG CW CP)):vw P w K mg base 3 yW (kA qC) (kz qC) (cX qC) ["name"] B2 (AG K CG CW):=by
 apply ku AQ (λpm c' iB cl us hl=>?_) (λA outer s H f cd cl vs gs Q E hr h hp=>?_)
 ·match us,hl with
  |[_],_=>rfl
 let#[g,p,q,hs,ts,qs,fp,rfl,rfl,G,nd,hq,w0,w1,k]:=h;let#[dx,dw,dy,vs,bI,h1,h2,_]:=id G.ex;apply#[_,g0 %[MX NW (eL cW T.cl hr (pv 1) %[0|0]),0|0],?_];have jB:(bJ p dw dy).lookup ("weight":Str)=none:=qS _ _ _ Z0 Z0 Z0;apply#[_,Z,g,dx,_,Z,h1,jB,_,Z,g,p,.str q.1,some q.1,hs,ts,qs,fp,Z,G,nd,Z,.inl #[q,hq,Z,?_]];exact#[_,Z,_,Z,zl,λt ht=>k t ht]
def Hm(L:Addr):List (Str × Addr):=[("goods",L+1)]
theorem P0{L f:Addr}{cd:Aa}:closureFor (cX qC) (PyProof.Rows.envOfC rM (aL iT) L f cd)=pure (Hm L):=by rfl
theorem P8{L f:Addr}{cd:Aa}:∀q∈Hm L,(PyProof.Rows.envOfC rM (aL iT) L f cd).cells.lookup q.1\q.2:=by
 intro q hq;simp only[Hm,bW,vD,or_false] at hq;rcases hq with rfl;rfl
theorem MU{L:Addr}:∀x∈B2,∃c,(Hm L).lookup x\c:=by
 intro x hx;simp only[B2,bW,vD,or_false] at hx;rcases hx with rfl;exact#[_,Z]
theorem MO:∀x∈B2,(aL iT).names.lookup x\.cell:=by decide +kernel
theorem tw:bq ["goods","placed","found","piece"] l7 (aL iT):=bE
def Di(H:Hp)(ns:ae)(ad:Str->Addr)(g:Str->ae):Prop:=(∀h∈ns,H (ad h)\.lst ((g h).map V.str))/\∀h∈ns,∀h'∈ns,ad h=ad h'->h=h'
inductive o6 (K:af) (CG CW T:Addr) (vs:aj) (H:Hp) (Q:VK) (E:XK):Prop
 |mk:∀(g p d:Addr) (hs:Xa) (ts:Xb) (qs:aH) (fp:ai) (f:aq),vs=[.ref g,.ref d]->vA K CG CW H g p d hs ts qs fp f->(∀q∈qs,0<=q.2.1/\q.2.1<=1000000000)->bL H T yW->(∀d' ad H',bb T H H'->bL H' T yW->H d'=none->H' d'\.dK (bO (aE hs) λh=>.ref (ad h))->Di H' (aE hs) ad (fF qs f)->(∀h∈aE hs,H (ad h)=none)->Q (.ref d') H')->o6 K CG CW T vs H Q E
theorem bL.putL{H:Hp}{T a:Addr}{q:Str}{xs:aj}{o:HO}(h:bL H T q)(ha:H a\.lst xs):bL (upd H a o) T q:=by
 let#[es,e,c]:=h;apply⟨es,by rw[aF (cj e ha nofun)];exact e,λx hx=>?_⟩;rw[aF (λz=>by have:=c x hx;rw[z,ha] at this;cases this)];exact c x hx
theorem Co{H:Hp}{d:Addr}{ns:ae}{g:Str->V}{n:Str}(h:H d\.dK (bO ns g))(m:n∈ns):gC H d (.str n) (some (g n)):=by
 have:=gC.k (k:=Sum.inr n) h;rw[CZ m] at this;exact this
theorem M3{qs:aH}(nd:(qs.map (·.1)).Nodup){q:Pc}(h:q∈qs):vP qs q.1=q.2.1:=by
 apply iO_ ?_ (bD.mpr ⟨q,h,rfl⟩);rw[bV];exact nd
theorem _i{f0 c0 CG CW CP T:Addr}{fd:Ae}(F:lJ K rM rM iT f0 c0 fd)(B:Bi mg)(TG:c_ K CG)(TW:Txt K mg CW)(hC:PySem.W.CodeHd base c0 T)(lU:base.BuiltinsAt mg T)(cH:!bf CW 1 "hands" gW (Ei K CW))(cW:!bf CG 2 "weight" zG (C4 K CG CW CP)) :
  ag P w K mg base bc 6 f0 fd l7 (o6 K CG CW T):=by
 apply F.ok tw (λvs H Q E h=>?_) (λA outer s H vs Q E hr h=>?_)
 ·let#[g,p,d,hs,ts,qs,fp,f,rfl,_]:=h;rfl
 let#[g,p,d,hs,ts,qs,fp,f,rfl,Pl,wq,tab,k]:=h;let hu:=gz hr;let sz:=cm;have kF:aK 1 _:=hr.mono (by decide);refine' ⟨_,ay ?s1 (ay ?s2 (aI ?s3)),?kk⟩
 case' s1=>refine' bw 2 tw.nd (jM (C9 Z) (by rfl) B.dict p7 %[p9 ["hand"] 1 [] (fB (wx cH TW.cl kF (cZ (pv 0) Z))) (λfp s H=>gM (i:=0) (show (["hand"]:ae).Nodup by decide +kernel) Z (Or.inl Z)) (λfp s H=>k7) (λfp s H=>?e1)|0])
 case e1=>exact g0 %[0,dC bo|0]
 case' s2=>refine' f_ ie Z (fB ?l2) (dR 3 tw.nd) (aI ?b2)
 case l2=>exact Uv (px:="name") (bh:=B2) (cl:=Hm s.heap.objs.size) (is:=[0]) (k:=3) Z (by rfl) B.sorted %[1|0] (TK (G0 (P:=T) (c:=c0) Z P0 Z hC lU) Sv) (_H TG cW) hr P8 MU MO Z
 case b2=>exact p_ (vk oo Ct Cu zR (mi hu (pv 2) (mi hu (pv 1) (pv 3))) %[3|0])
 case s3=>exact bg (pv 2)
 let nd:=Pl.Gd.ux;have n8:(aE hs).length<=8:=by have:=Pl.Gd.fQ;have:=Pl.Gd.h8;omega
 let#[dx,dw,dy,vs,bI,h1,h2,h3,h4,h5,m1,m2,m3,m4,m5]:=id Pl.G.ex;let#[eI,d1,l2,d3,jq,as,ef,w1,_]:=id h2.ex;have gq:(bZ d1 l2 d3).lookup ("hands":Str)=none:=iP _ _ _ Z0 Z0 Z0;apply#[_,Z,g,CG,dx,_,_,Z,h1,TG.cl,TG.nW,j1 _ _ _,p,eI,_,Z,w1,gq,p,hs,ts,bI,Z,h2,λlh nh=>?_];let#[s1,e1]:=aN (o:=.lst ((aE hs).map V.str)) nh;generalize upd H lh (.lst ((aE hs).map V.str))=H1 at s1 e1 ⊢;apply#[lh,Z,#[_,.of e1],λD hD=>?_];apply qa (own:=1) (fv:=[]) (xs:=(aE hs).map V.str) Z fU (λi out H'=>∃ad:Str->Addr,aa H1 H'/\H' D\.lst out/\kW K H' out (bO ((aE hs).take i) λh=>.ref (ad h))/\Di H' ((aE hs).take i) ad (λ_=>[])/\∀h∈(aE hs).take i,H1 (ad h)=none/\ad h≠D) #[λ_=>D,aa.new hD,az,.nil,#[by simp,by simp],by simp] (λi out H' _ ⟨_,sm,_⟩=>.of (sm _ _ e1)) (λout H2 ⟨ad,s2,JT,pa,ls,fr⟩=>?_) (λi x out H' hx ⟨ad,sm,hd,pa,ls,fr⟩=>?_);rotate_left
 ·let#[n,hn,rfl]:=kZ hx;have nn:n∉(aE hs).take i:=Px nd hn;apply#[_,Z,Z,λNx hN=>fg ?_];apply#[_,Z,zl,λl nl=>?_];let#[s3,e3]:=aN (o:=.lst []) nl;generalize upd H' l (.lst [])=H3 at s3 e3 ⊢;apply#[zl,λt nt=>?_];let#[s4,e4]:=aN (o:=.tup [.str n,.ref l]) nt;generalize upd H3 t (.tup [.str n,.ref l])=H4 at s4 e4 ⊢;let q_:=s3.trans s4;let zv:=q_ _ _ hd;have lD:l≠D:=λz=>by rw[z,hd] at nl;cases nl
  have Wr:∀h∈(aE hs).take i,ad h≠l:=λh hh z=>by
   have:=ls.1 h hh;rw[z,nl] at this;cases this
  let lo:=bS pa;rw[fY,fA] at lo
  have pD:∀{b:Addr} {zs:aj},H4 b\.tup zs->b≠D:=λhb z=>by
   rw[z,zv] at hb;cases hb
  have ne:∀h∈(aE hs).take i,h≠n:=λh hh z=>nn (z▸hh);apply#[out,zv,by omega,hN (out++[.ref t]) _ #[λm=>if m=n then l else ad m,j2 (sm.trans q_) hD,az,?_,#[λh hh=>?_,λh hh h' S7 z=>?_],λh hh=>?_]]
  ·have e:bO ((aE hs).take (i+1)) (λh=>.ref (if h=n then l else ad h))=bO ((aE hs).take i) (λh=>.ref (ad h))++[(Sum.inr n,.ref l)]:=by
    rw[j0 hn];unfold bO;rw[eK,eV,List.map_nil];dsimp only;rw[aJ Z];congr 1;exact vF λm hm=>by rw[aC (ne m hm)]
   rw[e];exact qb (Paired.bC pa λy kv ⟨b,z,hb⟩=>#[b,z,by rw[aF (pD (q_ _ _ hb))];exact q_ _ _ hb]) (.cons #[t,Z,by rw[aF (pD e4)];exact e4] .nil)
  ·rw[j0 hn] at hh;rcases gY.mp hh with hh|hh
   ·dsimp only;rw[aC (ne h hh),aF (fr h hh).2];exact q_ _ _ (ls.1 h hh)
   obtain rfl:h=n:=⇑hh
   dsimp only;rw[aJ Z,aF lD];exact s4 _ _ e3
  ·rw[j0 hn] at hh S7;dsimp only at z;rcases gY.mp hh with a1|a1<;>rcases gY.mp S7 with a2|a2
   ·rw[aC (ne h a1),aC (ne h' a2)] at z;exact ls.2 h a1 h' a2 z
   ·have a2:h'=n:=⇑a2
    rw[aC (ne h a1),aJ a2] at z;exact absurd z (Wr h a1)
   ·have a1:h=n:=⇑a1
    rw[aC (ne h' a2),aJ a1] at z;exact absurd z.symm (Wr h' a2)
   rw[show h=n by simpa using a1,show h'=n by simpa using a2]
  rw[j0 hn] at hh;dsimp only;rcases gY.mp hh with hh|hh
  ·rw[aC (ne h hh)];exact fr h hh
  obtain rfl:h=n:=⇑hh
  rw[aJ Z];exact#[sm.free nl,lD]
 rw[aB,fX] at pa ls fr;apply#[D,out,_,Z,JT,pa,by rw[fY];omega,λdf Bk=>?_]
 have zc:((bO (aE hs) λh=>V.ref (ad h)).map (·.1)).Nodup:=by
  rw[En,vC,vE];exact nd.imp λn e=>n (iC e)
 rw[CY zc];let#[s3,e3]:=aN (o:=.dK (bO (aE hs) λh=>V.ref (ad h))) Bk;lk;generalize upd H2 df (.dK (bO (aE hs) λh=>V.ref (ad h)))=H3 at s3 e3 ⊢;let iU:=(s1.trans s2).trans s3;have iV:H df=none:=(s1.trans s2).free Bk;have T_:∀h∈aE hs,H (ad h)=none:=λh hh=>s1.free (fr h hh).1;have R6:∀h∈aE hs,H3 (ad h)\.lst []:=λh hh=>s3 _ _ (ls.1 h hh);let inj:=ls.2;clear s1 s2 s3 e1 pa ls fr JT nh hD Bk;apply#[_,Z,FF (zK ?_)];apply N9 (tab.same iU) Z Z Z Z λfl c' H4 b4 dg uR DJ=>?_;let#[tv,hT]:=g_ tab
 have neT:∀{b:Addr} {o:HO},H3 b\o->(∀vs,o≠.tbl vs)->b≠T:=λ{b o} e n z=>by
  rw[z,iU _ _ hT] at e;exact n _ (dG e).symm
 have Be:NT H H4:=λb o e n=>b4 _ _ (iU _ _ e) (neT (iU _ _ e) n);have R5:∀h∈aE hs,H4 (ad h)\.lst []:=λh hh=>b4 _ _ (R6 h hh) (neT (R6 h hh) nofun);let e4:=b4 _ _ e3 (neT e3 nofun);have Lj:bb T H H4:=λb o e n=>b4 _ _ (iU _ _ e) n;apply#[.ref d,fl,c',(qs.map (·.1)).map V.str,FT qs,[false,true],[.ref g],Z,Z,uR,DJ,.inr #[d,_,Z,Be.dK Pl.hd,?_],by rw[aB,aB];exact Pl.bY,#[by decide,λk hk=>?_],Z,λH' x sm hx=>?_,λl zs H5 s5 nl Dv pz ek=>?_]
 ·show _=((qs.map (·.1)).map _).map _;generalize qs.map (·.1)=ns';rw[bV];rfl
 ·let#[v,hv,rfl]:=bD.mp hk;let#[n,_,rfl]:=bD.mp hv;rfl
 ·let#[n,hn,rfl]:=bD.mp hx;let#[q,hq,rfl]:=bD.mp hn;apply#[g,p,q,hs,ts,qs,fp,Z,Z,(Pl.G.nt Be).same sm,Pl.nd,hq,(wq q hq).1,(wq q hq).2,λt nt=>#[aa.new nt,t,Z,?_]];rw[az];show _\HO.tup [.int (-(vP qs q.1)),.str q.1];rw[M3 Pl.nd hq]
 rw[Zm pz ek];have hl:upd H5 l (.lst ((nD qs).map V.str)) l\.lst ((nD qs).map V.str):=az;have s6:aa H4 (upd H5 l (.lst ((nD qs).map V.str))):=s5.trans (aa.new nl)
 have ZP:∀h∈aE hs,ad h≠l:=λh hh z=>by
  have:=R5 h hh;rw[z,Dv] at this;cases this
 generalize upd H5 l (.lst ((nD qs).map V.str))=H6 at hl s6 ⊢
 have R9:(nD qs).length<64:=by
  rw[(KR qs).length_eq,aB];exact Pl.bY
 have dT:d≠T:=λz=>by
  have:=Pl.hd;rw[z,hT] at this;cases this
 apply#[l,Z,#[_,.of hl],k8 (K:=K) (a:=l) (xs:=(nD qs).map V.str) (λi σ H'=>∃v3:aV,σ=[some (.ref g),some (.ref d),some (.ref df),v3]/\bb T H H'/\bL H' T yW/\H' df\.dK (bO (aE hs) λh=>V.ref (ad h))/\H' l\.lst ((nD qs).map V.str)/\Di H' (aE hs) ad (λh=>((nD qs).take i).filter λn=>decide (f n=h))) #[none,Z,λb o e n=>s6 _ _ (Lj b o e n),dg.same s6,s6 _ _ e4,hl,λh hh=>s6 _ _ (R5 h hh),inj] (λi σ H' _ ⟨_,_,_,_,_,z,_⟩=>.of z) ?_ ?_]
 ·rintro i x σ H' hx ⟨v3,rfl,bT,j7,uU,JH,ls⟩;let#[n,hn,rfl]:=kZ hx;have nm:n∈qs.map (·.1):=(KR qs).mem_iff.mp (dD hn);have fm:f n∈aE hs:=(jm hs).mem_iff.mpr (Pl.at_ n nm);let ia:=bT _ _ Pl.hd dT;let la:=ls.1 (f n) fm;lk;apply#[_,Z,_,Z,_,Z,d,_,Z,Co ia nm,df,_,Z,Co uU fm,.inl #[Z,_,.of la],_,Z,ad (f n),_,_,Z,Z,la,?_,?_]
  ·rw[aB];have:=List.length_filter_le (λn'=>decide (f n'=f n)) ((nD qs).take i);rw[fA] at this;dsimp only;omega
  apply#[_,Z,λb o e ne=>?_,bL.putL j7 la,?_,?_,λh hh=>?_,inj]
  ·rw[aF (bU e (T_ _ fm))];exact bT b o e ne
  ·rw[aF (cj uU la nofun)];exact uU
  ·rw[aF (ZP _ fm).symm];exact JH
  by_cases z:h=f n
  ·subst z;dsimp only;rw[az,j0 hn,List.filter_append,List.filter_cons_of_pos Z2,List.filter_nil,eK];rfl
  dsimp only;rw[aF (λy=>z (inj h hh _ fm y)),j0 hn,List.filter_append,List.filter_cons_of_neg ⇑(λy=>z y.symm),List.filter_nil,wC];exact ls.1 h hh
 rintro σ H' ⟨v3,rfl,bT,j7,uU,JH,ls⟩;rw[aB,fX] at ls;exact#[_,Z,k df ad H' bT j7 iV uU ls T_]
end
end Ev
namespace Ev
open PySem L2
abbrev mO:Stmt:=jV Ka 0
abbrev tR:Stmt:=jV Ka 1
abbrev mU:Stmt:=jV Ka 2
abbrev wk:Stmt:=jV Ka 3
def dM(g dl dv dp:Addr):List (Str × V):=aA Cf (.ref dp) (aA pZ (.ref dv) (aA jj (.ref dl) (aA "wares" (.ref g) [])))
theorem gR(g dl dv dp:Addr):(dM g dl dv dp).lookup ("wares":Str)\.ref g:=by
 unfold dM;rw[e_,e_,e_,e_,aC Z0,aC Z0,aC Z0,aJ Z]
theorem E7(g dl dv dp:Addr):(dM g dl dv dp).lookup (jj:Str)\.ref dl:=by
 unfold dM;rw[e_,e_,e_,aC Z0,aC Z0,aJ Z]
theorem L8(g dl dv dp:Addr):(dM g dl dv dp).lookup (pZ:Str)\.ref dv:=by
 unfold dM;rw[e_,e_,aC Z0,aJ Z]
theorem E6(g dl dv dp:Addr):(dM g dl dv dp).lookup (Cf:Str)\.ref dp:=by
 unfold dM;rw[e_,aJ Z]
theorem DM(g dl dv dp:Addr){m:Str}(h1:¬m="wares")(h2:¬m=jj)(h3:¬m=pZ)(h4:¬m=Cf):(dM g dl dv dp).lookup m=none:=by
 unfold dM;rw[e_,e_,e_,e_,aC h4,aC h3,aC h2,aC h1];rfl
structure gB (K:af) (CS:Addr):Prop where
 cl:oN K CS
 nW:l_ K CS "wares"
 nL:l_ K CS jj
 nV:l_ K CS pZ
 nP:l_ K CS Cf
structure Wd (hs:Xa) (ts:Xb) (qs:aH) (f:aq):Prop where
 Gd:Good hs ts
 nd:(qs.map (·.1)).Nodup
 bY:qs.length<64
 at_:∀n∈qs.map (·.1),f n∈hs.map (·.1)
 wq:∀q∈qs,0<=q.2.1/\q.2.1<=1000000000
structure jg (K:af) (CS CG CW:Addr) (H:Hp) (v g p:Addr) (hs:Xa) (ts:Xb) (qs:aH) (fp:ai) (f:aq):Prop where
 ex:∃(dx dl dv dp:Addr) (ad:Str->Addr),H v\.ins CS dx (dM g dl dv dp)/\fN K CG CW H g p hs ts qs fp/\H dl\.dK (xx hs qs f)/\H dv\.dK (bO (aE hs) λh=>.int (vV hs qs f h))/\H dp\.dK (bO (aE hs) λh=>.ref (ad h))/\∀h∈aE hs,H (ad h)\.lst ((fF qs f h).map V.str)
theorem jg.nt{K:af}{CS CG CW:Addr}{H G:Hp}{v g p:Addr}{hs:Xa}{ts:Xb}{qs:aH}{fp:ai}{f:aq}(S:jg K CS CG CW H v g p hs ts qs fp f)(s:NT H G):jg K CS CG CW G v g p hs ts qs fp f:=by
 let#[dx,dl,dv,dp,ad,h1,h2,h3,h4,h5,h6]:=S.ex;exact#[dx,dl,dv,dp,ad,s.ins h1,h2.nt s,s.dK h3,s.dK h4,s.dK h5,λh hh=>s.lst (h6 h hh)]
theorem jg.same{K:af}{CS CG CW:Addr}{H G:Hp}{v g p:Addr}{hs:Xa}{ts:Xb}{qs:aH}{fp:ai}{f:aq}(S:jg K CS CG CW H v g p hs ts qs fp f)(s:aa H G):jg K CS CG CW G v g p hs ts qs fp f:=S.nt (NT.of s)
abbrev lo(qs:aH)(f:aq)(h:Str):Int:=ld f (qs.map gF) h
def pY(hs:Xa)(qs:aH)(f:aq)(a b:Str):Int:=lo qs f a * strOf hs b - lo qs f b * strOf hs a
def md(hs:Xa)(a b:Str):Int:=strOf hs a+strOf hs b
section v
theorem wY:bq lA lA (aL mO):=bE
inductive KN (K:af) (CS CG CW T:Addr) (vs:aj) (H:Hp) (Q:VK) (E:XK):Prop
 |mk:∀(v dx g p d:Addr) (hs:Xa) (ts:Xb) (qs:aH) (fp:ai) (f:aq),vs=[.ref v,.ref g,.ref d]->H v\.ins CS dx []->v∉fp->vA K CG CW H g p d hs ts qs fp f->Wd hs ts qs f->bL H T yW->(∀H',(∀b o,H b\o->b≠v->b≠T->H' b\o)->bL H' T yW->jg K CS CG CW H' v g p hs ts qs fp f->Q .non H')->KN K CS CG CW T vs H Q E
theorem ja_{f0 CS CG CW T:Addr}{fd:Ae}(F:a_ K "__init__" "Sight.__init__" mO f0 fd)(TS:gB K CS)(HN:!bx 3 "loads_at" l7 (Ir K CG CW))(K4:!bx 4 "levels_at" l7 (K6 K CG CW))(QD:!bx 6 rM l7 (o6 K CG CW T)) :
  ag P w K mg base bc 7 f0 fd lA (KN K CS CG CW T):=by
 exists F.bH wY;let#[v,dx,g,p,d,hs,ts,qs,fp,f,rfl,hv,Dn,Pl,W,tab,k]:=h;refine' #[_,ay ?s1 (ay ?s2 (ay ?s3 (aI ?s4))),?kk]
 case s1=>exact wz (pv 0) (pv 1) Z
 case s2=>exact wz (pv 0) (bt HN hr %[1,2|0]) Z
 case s3=>exact wz (pv 0) (bt K4 hr %[1,2|0]) Z
 case s4=>exact wz (pv 0) (bt QD hr %[1,2|0]) Z
 have dv:d≠v:=cj Pl.hd hv nofun;have uD:∀{G:Hp},(∀b o,H b\o->b≠v->G b\o)->vA K CG CW G g p d hs ts qs fp f:=λ{G} up=>#[Pl.G.keep (λb hb o e=>up b o e (λz=>Dn (z▸hb))) (λb xs e=>up b _ e (cj e hv nofun)),Pl.Gd,Pl.ic,up _ _ Pl.hd dv,Pl.at_,Pl.nd,Pl.bY];apply#[_,Z,_,Z,v,CS,dx,_,Z,hv,TS.cl,TS.nW,by show 0<1000;decide,?_];have up1:∀b o,H b\o->b≠v->upd H v (.ins CS dx (aA "wares" (.ref g) [])) b\o:=λb o e n=>by rw[aF n];exact e
 have iJ:upd H v (.ins CS dx (aA "wares" (.ref g) [])) v\.ins CS dx (aA "wares" (.ref g) []):=az;have DT:∀{b},upd H v (.ins CS dx (aA "wares" (.ref g) [])) b=none->b≠v:=λ{b} e z=>by rw[z,az] at e;cases e
 generalize upd H v (.ins CS dx (aA "wares" (.ref g) []))=H1 at up1 iJ DT ⊢;apply#[_,Z,_,Z,g,p,d,hs,ts,qs,fp,f,Z,uD up1,λdl H2 s2 nl hl=>?_];let hv2:=s2 _ _ iJ;have lv:dl≠v:=DT nl;apply#[_,Z,v,CS,dx,_,Z,hv2,TS.cl,TS.nL,by show 1<1000;decide,?_];have Ls:∀b o,H b\o->b≠v->upd H2 v (.ins CS dx (aA jj (.ref dl) (aA "wares" (.ref g) []))) b\o:=λb o e n=>by rw[aF n];exact s2 _ _ (up1 b o e n)
 have SO:upd H2 v (.ins CS dx (aA jj (.ref dl) (aA "wares" (.ref g) []))) v\.ins CS dx (aA jj (.ref dl) (aA "wares" (.ref g) [])):=az;have GS:∀{b},upd H2 v (.ins CS dx (aA jj (.ref dl) (aA "wares" (.ref g) []))) b=none->b≠v:=λ{b} e z=>by rw[z,az] at e;cases e
 have xG:upd H2 v (.ins CS dx (aA jj (.ref dl) (aA "wares" (.ref g) []))) dl\.dK (xx hs qs f):=by rw[aF lv];exact hl
 generalize upd H2 v (.ins CS dx (aA jj (.ref dl) (aA "wares" (.ref g) [])))=H3 at Ls SO GS xG ⊢;apply#[_,Z,_,Z,g,p,d,hs,ts,qs,fp,f,Z,uD Ls,W.wq,λde H4 s4 ne he=>?_];let hv4:=s4 _ _ SO;have ev:de≠v:=GS ne;apply#[_,Z,v,CS,dx,_,Z,hv4,TS.cl,TS.nV,by show 2<1000;decide,?_];have vQ:∀b o,H b\o->b≠v->upd H4 v (.ins CS dx (aA pZ (.ref de) (aA jj (.ref dl) (aA "wares" (.ref g) [])))) b\o:=λb o e n=>by rw[aF n];exact s4 _ _ (Ls b o e n)
 have SN:upd H4 v (.ins CS dx (aA pZ (.ref de) (aA jj (.ref dl) (aA "wares" (.ref g) [])))) v\.ins CS dx (aA pZ (.ref de) (aA jj (.ref dl) (aA "wares" (.ref g) []))):=az;have pW:∀{b},upd H4 v (.ins CS dx (aA pZ (.ref de) (aA jj (.ref dl) (aA "wares" (.ref g) [])))) b=none->b≠v:=λ{b} e z=>by rw[z,az] at e;cases e
 have SU:upd H4 v (.ins CS dx (aA pZ (.ref de) (aA jj (.ref dl) (aA "wares" (.ref g) [])))) dl\.dK (xx hs qs f):=by rw[aF lv];exact s4 _ _ xG
 have JM:upd H4 v (.ins CS dx (aA pZ (.ref de) (aA jj (.ref dl) (aA "wares" (.ref g) [])))) de\.dK (bO (aE hs) λh=>.int (vV hs qs f h)):=by rw[aF ev];exact he
 generalize upd H4 v (.ins CS dx (aA pZ (.ref de) (aA jj (.ref dl) (aA "wares" (.ref g) []))))=H5 at vQ SN pW SU JM ⊢;let#[es,hT,Tc]:=id tab;have Tv:T≠v:=cj hT hv nofun;have sj:bL H5 T yW:=#[es,vQ _ _ hT Tv,λe he=>vQ _ _ (Tc e he) (λz=>by have:=Tc e he;rw[z,hv] at this;cases this)];let Wv:=uD vQ;apply#[_,Z,_,Z,g,p,d,hs,ts,qs,fp,f,Z,Wv,W.wq,sj,λdp ad H6 b6 An np hp ls fra=>?_];have Ds:NT H5 H6:=b6.nt (vQ _ _ hT Tv);let Jw:=Ds.ins SN;have Yy:dp≠v:=pW np;have av:∀h∈aE hs,ad h≠v:=λh hh=>pW (fra h hh);apply#[_,Z,v,CS,dx,_,Z,Jw,TS.cl,TS.nP,by show 3<1000;decide,?_];apply k _ (λb o e n1 n2=>?_) ?_ #[dx,dl,de,dp,ad,az,(Wv.G.nt Ds).keep (λb hb o e=>?_) (λb xs e=>?_),?_,?_,?_,λh hh=>?_]
 ·rw[aF n1];exact b6 _ _ (vQ b o e n1) n2
 ·let#[es,e1,e2]:=An;exact#[es,by rw[aF (cj e1 Jw nofun)];exact e1,λe he=>by rw[aF (λz=>by have:=e2 e he;rw[z,Jw] at this;cases this)];exact e2 e he]
 ·rw[aF (λz:b=v=>Dn (z▸hb))];exact e
 ·rw[aF (cj e Jw nofun)];exact e
 ·rw[aF lv];exact Ds.dK SU
 ·rw[aF ev];exact Ds.dK JM
 ·rw[aF Yy];exact hp
 rw[aF (av h hh)];exact ls.1 h hh
theorem tq:bq ["self","one","other","web"] lZ (aL tR):=bE
inductive Ee (K:af) (CS CG CW:Addr) (vs:aj) (H:Hp) (Q:VK) (E:XK):Prop
 |mk:∀(v g p:Addr) (a b:Str) (hs:Xa) (ts:Xb) (qs:aH) (fp:ai) (f:aq),vs=[.ref v,.str a,.str b]->jg K CS CG CW H v g p hs ts qs fp f->Wd hs ts qs f->a∈aE hs->b∈aE hs->Q (.int (pY hs qs f a b)) H->Ee K CS CG CW vs H Q E
theorem _E{f0 CS CG CW:Addr}{fd:Ae}(F:a_ K "lead" "Sight.lead" tR f0 fd)(TS:gB K CS)(TG:c_ K CG)(TW:Txt K mg CW)(cS:!bf CW 2 "strength" jZ (Ep K CW)):!ag bc 3 f0 fd lZ (Ee K CS CG CW):=by
 exists F.bH tq;let#[v,g,p,a,b,hs,ts,qs,fp,f,rfl,S,W,ha,hb,k]:=h;let hu:=gz hr;refine' #[_,ay ?s1 (aI ?s2),?kk]
 case s1=>exact bw 3 tq.nd (cZ (cZ (pv 0) Z) Z)
 case s2=>exact bg (b_ J6 (b_ rP (mi hu (cZ (pv 0) Z) (pv 1)) (eL cS TW.cl hr (pv 3) %[2|0])) (b_ rP (mi hu (cZ (pv 0) Z) (pv 2)) (eL cS TW.cl hr (pv 3) %[1|0])))
 let#[dx,dl,dv,dp,ad,h1,G,h3,h4,h5,h6]:=S.ex;let#[iZ,dw,dy,vs,bI,g1,g2,_]:=id G.ex;let#[eI,d1,l2,d3,jq,as,ef,w1,_]:=id g2.ex;have gq:(bZ d1 l2 d3).lookup ("strength":Str)=none:=iP _ _ _ Z0 Z0 Z0;let la:=Ju W.wq W.bY f a;let lb:=Ju W.wq W.bY f b;apply#[_,Z,v,CS,dx,_,_,Z,h1,TS.cl,TS.nW,gR _ _ _ _,g,CG,iZ,_,_,Z,g1,TG.cl,TG.nW,j1 _ _ _,?_];lk;apply#[_,Z,v,CS,dx,_,_,Z,h1,TS.cl,TS.nL,E7 _ _ _ _,_,Z,dl,_,Z,Co h3 ha,_,Z,p,eI,_,Z,w1,gq,_,Z,p,b,strOf hs b,hs,ts,bI,Z,g2,W.Gd.zk,zQ ((jm hs).mem_iff.mp hb),?_];apply#[_,_,Z,Z,.inl #[by omega,by omega],?_];apply#[_,Z,v,CS,dx,_,_,Z,h1,TS.cl,TS.nL,E7 _ _ _ _,_,Z,dl,_,Z,Co h3 hb,_,Z,p,eI,_,Z,w1,gq,_,Z,p,a,strOf hs a,hs,ts,bI,Z,g2,W.Gd.zk,zQ ((jm hs).mem_iff.mp ha),?_];exact#[_,_,Z,Z,.inl #[by omega,by omega],_,_,Z,Z,k]
theorem w6:bq lZ lZ (aL mU):=bE
inductive KC (K:af) (CS CG CW:Addr) (vs:aj) (H:Hp) (Q:VK) (E:XK):Prop
 |mk:∀(v g p:Addr) (a b:Str) (hs:Xa) (ts:Xb) (qs:aH) (fp:ai) (f:aq),vs=[.ref v,.str a,.str b]->jg K CS CG CW H v g p hs ts qs fp f->Wd hs ts qs f->a∈aE hs->b∈aE hs->Q (.int (md hs a b)) H->KC K CS CG CW vs H Q E
theorem jk_{f0 CS CG CW:Addr}{fd:Ae}(F:a_ K "joint_strength" "Sight.joint_strength" mU f0 fd)(TS:gB K CS)(TG:c_ K CG)(TW:Txt K mg CW)(cS:!bf CW 2 "strength" jZ (Ep K CW)):!ag bc 3 f0 fd lZ (KC K CS CG CW):=by
 exists F.bH w6;let#[v,g,p,a,b,hs,ts,qs,fp,f,rfl,S,W,ha,hb,k]:=h;refine' #[_,aI ?s2,?kk]
 case s2=>exact bg (b_ p0 (eL cS TW.cl hr (cZ (cZ (pv 0) Z) Z) %[1|0]) (eL cS TW.cl hr (cZ (cZ (pv 0) Z) Z) %[2|0]))
 let#[dx,dl,dv,dp,ad,h1,G,h3,h4,h5,h6]:=S.ex;let#[iZ,dw,dy,vs,bI,g1,g2,_]:=id G.ex;let#[eI,d1,l2,d3,jq,as,ef,w1,_]:=id g2.ex;have gq:(bZ d1 l2 d3).lookup ("strength":Str)=none:=iP _ _ _ Z0 Z0 Z0;apply#[_,Z,v,CS,dx,_,_,Z,h1,TS.cl,TS.nW,gR _ _ _ _,g,CG,iZ,_,_,Z,g1,TG.cl,TG.nW,j1 _ _ _,p,eI,_,Z,w1,gq,_,Z,p,a,strOf hs a,hs,ts,bI,Z,g2,W.Gd.zk,zQ ((jm hs).mem_iff.mp ha),?_];apply#[_,Z,v,CS,dx,_,_,Z,h1,TS.cl,TS.nW,gR _ _ _ _,g,CG,iZ,_,_,Z,g1,TG.cl,TG.nW,j1 _ _ _,p,eI,_,Z,w1,gq,_,Z,p,b,strOf hs b,hs,ts,bI,Z,g2,W.Gd.zk,zQ ((jm hs).mem_iff.mp hb),?_];exact#[_,_,Z,Z,k]
end
end Ev
namespace Ev
open PySem L2
theorem rW(a b:Str):decide (V.str a=V.str b)=decide (a=b):=by
 by_cases z:a=b
 ·simp[z]
 have:¬(V.str a=V.str b):=λe=>z (V.str.inj e);simp[z,this]
abbrev nb(hs:Xa)(ts:Xb)(h:Str):ae:=near (aE hs) (aZ ts) h
def kR(hs:Xa)(qs:aH)(f:aq)(n:Str):ax:=[.inl (vV hs qs f n),.inr n]
def dz(hs:Xa)(ts:Xb)(qs:aH)(f:aq)(h:Str):ae:=(a9 ((nb hs ts h).map (kR hs qs f))).map ke
def FU(hs:Xa)(qs:aH)(f:aq):V->ax
 |.str n=>kR hs qs f n
 |_=>[]
theorem _q{hs:Xa}{ts:Xb}{qs:aH}{f:aq}{h:Str}{zs:aj}(p:zs.Perm ((nb hs ts h).map V.str))(e:zs.map (FU hs qs f)=a9 (((nb hs ts h).map V.str).map (FU hs qs f))):zs=(dz hs ts qs f h).map V.str:=by
 let#[ms,rfl,_]:=UE p;have e1:(ms.map V.str).map (FU hs qs f)=ms.map (kR hs qs f):=by rw[bV];rfl
 have e2:((nb hs ts h).map V.str).map (FU hs qs f)=(nb hs ts h).map (kR hs qs f):=by
  rw[bV];rfl
 rw[e1,e2] at e
 have em:(ms.map (kR hs qs f)).map ke=ms:=by
  rw[bV];exact List.map_id' ms
 unfold dz;rw[<- e,em]
theorem KY(hs:Xa)(ts:Xb)(qs:aH)(f:aq)(h:Str):(dz hs ts qs f h).Perm (nb hs ts h):=by
 unfold dz;let p:=(oE ((nb hs ts h).map (kR hs qs f))).map ke
 have e:((nb hs ts h).map (kR hs qs f)).map ke=nb hs ts h:=by
  rw[bV];exact List.map_id' _
 rw[e] at p;exact p
theorem DQ{hs:Xa}{ts:Xb}{h n:Str}(m:n∈nb hs ts h):n∈aE hs:=(List.mem_filter.mp m).1
theorem D8(hs:Xa)(ts:Xb)(h:Str):(nb hs ts h).length<=(aE hs).length:=List.length_filter_le ..
abbrev kj:Str:="Sight.rising_neighbours.<locals>.<lambda>"
def qD:Expr:=Sb (Mh (qw (eY wk) 0))
abbrev B3:ae:=gW
theorem GO:∀y∈(cX qD).names,y.2=.free->y.1∈B3:=by decide +kernel
theorem AR:zS ["other"] B3 (cX qD):=#[by decide +kernel,Z,Z,Z,by decide +kernel,by decide +kernel,λx h=>GO (x,.free) (jW h) Z,by decide +kernel]
section v
inductive o5 (K:af) (CS CG CW:Addr) (vs:aj) (gs:aj) (H:Hp) (Q:VK):Prop
 |mk:∀(v g p:Addr) (n:Str) (hs:Xa) (ts:Xb) (qs:aH) (fp:ai) (f:aq),vs=[.str n]->gs=[.ref v]->jg K CS CG CW H v g p hs ts qs fp f->n∈aE hs->(∀t,H t=none->Q (.ref t) (upd H t (.tup [.int (vV hs qs f n),.str n])))->o5 K CS CG CW vs gs H Q
def AH(K:af)(CS CG CW:Addr):aj->aj->Hp->VK->XK->Prop:=λvs gs H Q _=>o5 K CS CG CW vs gs H Q
theorem kO_{CS CG CW:Addr}(TS:gB K CS):vw P w K mg base 1 kj (kA qD) (kz qD) (cX qD) ["other"] B3 (AH K CS CG CW):=by
 apply ku AR (λpm c' iB cl us hl=>?_) (λA outer s H f0 cd cl vs gs Q E hr h hp=>?_)
 ·match us,hl with
  |[_],_=>rfl
 let#[v,g,p,n,hs,ts,qs,fp,f,rfl,rfl,S,hn,k]:=h;let hu:=gz hr;let#[dx,dl,dv,dp,ad,h1,G,h3,h4,h5,h6]:=S.ex;apply#[_,g0 %[mi hu (cZ (pv 1) Z) (pv 0),0|0],?_];exact#[_,Z,v,CS,dx,_,_,Z,h1,TS.cl,TS.nV,L8 _ _ _ _,_,Z,dv,_,Z,Co h4 hn,_,Z,zl,λt ht=>k t ht]
def Ho(L:Addr):List (Str × Addr):=[("self",L+1)]
theorem P1{L f:Addr}{cd:Aa}:closureFor (cX qD) (PyProof.Rows.envOfC "Sight.rising_neighbours" (aL wk) L f cd)=pure (Ho L):=by rfl
theorem P9{L f:Addr}{cd:Aa}:∀q∈Ho L,(PyProof.Rows.envOfC "Sight.rising_neighbours" (aL wk) L f cd).cells.lookup q.1\q.2:=by
 intro q hq;simp only[Ho,bW,vD,or_false] at hq;rcases hq with rfl;rfl
theorem MV{L:Addr}:∀x∈B3,∃c,(Ho L).lookup x\c:=by
 intro x hx;simp only[B3,bW,vD,or_false] at hx;rcases hx with rfl;exact#[_,Z]
theorem MP:∀x∈B3,(aL wk).names.lookup x\.cell:=by decide +kernel
theorem AK:bq jZ jZ (aL wk):=bE
inductive Ha (K:af) (CS CG CW T:Addr) (vs:aj) (H:Hp) (Q:VK) (E:XK):Prop
 |mk:∀(v g p:Addr) (h:Str) (hs:Xa) (ts:Xb) (qs:aH) (fp:ai) (f:aq),vs=[.ref v,.str h]->jg K CS CG CW H v g p hs ts qs fp f->Wd hs ts qs f->h∈aE hs->bL H T kj->(∀l H',bb T H H'->bL H' T kj->H l=none->H' l\.lst ((dz hs ts qs f h).map V.str)->Q (.ref l) H')->Ha K CS CG CW T vs H Q E
theorem k7_{f0 c0 CS CG CW T:Addr}{fd:Ae}(F:lJ K Ce "Sight.rising_neighbours" wk f0 c0 fd)(B:Bi mg)(TS:gB K CS)(TG:c_ K CG)(TW:Txt K mg CW)(hC:PySem.W.CodeHd base c0 T)(lU:base.BuiltinsAt mg T)(cN:!bf CW 2 "neighbours" jZ (KG K CW)) :
  ag P w K mg base bc 4 f0 fd jZ (Ha K CS CG CW T):=by
 apply F.ok AK (λvs H Q E h=>?_) (λA outer s H vs Q E hr h=>?_)
 ·let#[v,g,p,h,hs,ts,qs,fp,f,rfl,_]:=h;rfl
 let#[v,g,p,h,hs,ts,qs,fp,f,rfl,S,W,hh,tab,k]:=h;have uL:aK 2 _:=hr.mono (by decide);refine' ⟨_,aI (bg ?l2),?kk⟩
 case l2=>exact Uv (px:="other") (bh:=B3) (cl:=Ho s.heap.objs.size) (is:=[0]) (k:=1) Z (by rfl) B.sorted %[eL cN TW.cl uL (cZ (cZ (pv 0) Z) Z) %[1|0]|0] (TK (G0 (P:=T) (c:=c0) Z P1 Z hC lU) Sv) (kO_ (CG:=CG) (CW:=CW) TS) hr P9 MV MP Z
 let#[dx,dl,dv,dp,ad,h1,G,h3,h4,h5,h6]:=S.ex;let#[iZ,dw,dy,vs,bI,g1,g2,_]:=id G.ex;let#[eI,d1,l2,d3,jq,as,ef,w1,_]:=id g2.ex;have gq:(bZ d1 l2 d3).lookup ("neighbours":Str)=none:=iP _ _ _ Z0 Z0 Z0;apply#[_,Z,v,CS,dx,_,_,Z,h1,TS.cl,TS.nW,gR _ _ _ _,g,CG,iZ,_,_,Z,g1,TG.cl,TG.nW,j1 _ _ _,p,eI,_,Z,w1,gq,_,Z,p,h,hs,ts,bI,Z,g2,W.Gd.ux,(jm hs).mem_iff.mp hh,λln nn=>?_];let#[s1,e1]:=aN (o:=.lst ((nb hs ts h).map V.str)) nn;show dJ _ (upd H ln (.lst ((nb hs ts h).map V.str))) _;generalize upd H ln (.lst ((nb hs ts h).map V.str))=H1 at s1 e1 ⊢;apply FF (zK ?_);apply N9 (tab.same s1) Z Z Z Z λfl c' H4 b4 dg uR DJ=>?_;let#[tv,hT]:=g_ tab;have Be:NT H1 H4:=b4.nt (s1 _ _ hT);let S4:=(S.same s1).nt Be;have n8:(nb hs ts h).length<=8:=by have:=D8 hs ts h;have:=W.Gd.fQ;have:=W.Gd.h8;omega
 apply#[.ref ln,fl,c',(nb hs ts h).map V.str,FU hs qs f,[false,true],[.ref v],Z,Z,uR,DJ,.inl #[ln,Z,.of (Be.lst e1)],by rw[aB];omega,#[by decide,λk hk=>?_],Z,λH' x sm hx=>?_,λl zs H5 s5 nl Dv pz ek=>?_]
 ·let#[v,hv,rfl]:=bD.mp hk;let#[n,_,rfl]:=bD.mp hv;rfl
 ·let#[n,hn,rfl]:=bD.mp hx;apply#[v,g,p,n,hs,ts,qs,fp,f,Z,Z,S4.same sm,DQ hn,λt nt=>#[aa.new nt,t,Z,?_]];rw[az];rfl
 rw[_q pz ek];have s6:aa H4 (upd H5 l (.lst ((dz hs ts qs f h).map V.str))):=s5.trans (aa.new nl);apply k l _ (λb o e n=>s6 _ _ (b4 _ _ (s1 _ _ e) n)) (dg.same s6) ?_ az;cases z:H l with
 |none=>rfl
 |some o=>
  by_cases y:l=T
  ·let#[es,e,_]:=dg;rw[y,e] at Dv;cases Dv
  rw[b4 _ _ (s1 _ _ z) y] at Dv;cases Dv
theorem AY:bq qf qf (aL tX):=bE
def xP(g:Str)(a b:Int):Bool:=if g="high" then decide (0<a) else if g="fall" then decide (b<2 * a) else decide (b<=a)
def sU:Sp:=λvs H Q _=>∃(g:Str) (a b:Int),vs=[.str g,.int a,.int b]/\Q (.bl (xP g a b)) H
theorem kW_{f0:Addr}{fd:Ae}(F:a_ K "fits" "fits" tX f0 fd):!ag bc 1 f0 fd qf sU:=by
 exists F.bH AY;let#[g,a,b,rfl,k]:=h;refine' #[_,ay ?s1 (ay ?s2 (aI ?s3)),?kk]
 case s1=>exact bA (di i4 (pv 0) bM) (aI (bg (qP DS (pv 1) aM))) bB
 case s2=>exact bA (di i4 (pv 0) bM) (aI (bg (qP DS (b_ rP aM (pv 1)) (pv 2)))) bB
 case s3=>exact bg (qP Z9 (pv 1) (pv 2))
 unfold xP at k;apply#[_,Z,Z,_,Z,?_];rw[rW];apply aO (λc=>?_) (λc=>?_)
 ·have c:g="high":=ye c;rw[aJ c] at k;exact#[_,Z,_,_,Z,Z,k]
 have c:¬g="high":=λz=>c (cc z);rw[aC c] at k;apply#[_,Z,Z,_,Z,?_];rw[rW];apply aO (λc=>?_) (λc=>?_)
 ·have c:g="fall":=ye c;rw[aJ c] at k;exact#[_,Z,_,_,Z,Z,.inl #[by decide,by decide],_,Z,_,_,Z,Z,k]
 have c:¬g="fall":=λz=>c (cc z);rw[aC c] at k;exact#[_,Z,_,Z,_,_,Z,Z,k]
end
end Ev
namespace Ev
open PySem L2
abbrev Mv:=Str × Str × Str
def kM(m:Mv):ax:=[.inr m.1,.inr m.2.1,.inr m.2.2]
def Lq(qs:aH)(n:Str):Option (Xb):=match qs.find? λq=>decide (q.1=n) with
 |some q=>q.2.2
 |none=>none
theorem R_{qs:aH}(nd:(qs.map (·.1)).Nodup){q:Pc}(h:q∈qs):Lq qs q.1=q.2.2:=by
 unfold Lq;cases e:qs.find? λp=>decide (p.1=q.1) with
 |none=>
  have:=List.find?_eq_none.mp e q h;simp at this
 |some p=>
  let a:=List.mem_of_find?_eq_some e;let b:=List.find?_some e;have b:p.1=q.1:=ye b;rw[UW nd a h b]
def qB(hs:Xa)(ts:Xb)(qs:aH)(n a b:Str):Bool:=DR hs ts (Lq qs n) (some a) (some b)
def xC(hs:Xa)(ts:Xb)(qs:aH)(f:aq)(gd:Str)(gv:ae)(a b n:Str):Bool:=!decide (n∈gv)&&(xP gd (pY hs qs f a b) (vP qs n * md hs a b)&&qB hs ts qs n a b)
def nF(hs:Xa)(ts:Xb)(qs:aH)(f:aq)(gd:Str)(gv:ae)(a b:Str):List Mv:=match (fF qs f a).find? (xC hs ts qs f gd gv a b) with
 |some n=>[(n,a,b)]
 |none=>[]
theorem Tq{α:Type}{p:α->Bool}:∀{l:List α} {i:Nat} {x:α},l[i]? = some x->p x=true->(∀y∈l.take i,p y=false)->l.find? p\x
 |a::l,0,x,h,hp,_=>by
  cases h;rw[List.find?_cons_of_pos hp]
 |a::l,i+1,x,h,hp,hn=>by
  have na:¬p a=true:=by rw[hn a Z2];decide
  rw[List.find?_cons_of_neg na];exact Tq ⇑h hp λy hy=>hn y (by simp[hy])
 |[],i,x,h,_,_=>by simp at h
theorem KI{qs:aH}{f:aq}{h n:Str}(m:n∈fF qs f h):n∈qs.map (·.1)/\f n=h:=by
 let#[a,b]:=List.mem_filter.mp m;exact#[(KR qs).mem_iff.mp a,ye b]
section v
theorem o_:bq ["sight","one","other","guard","given","lead","joint","piece"] lE (aL A4):=bE
inductive j_ (K:af) (CS CG CW:Addr) (vs:aj) (H:Hp) (Q:VK) (E:XK):Prop
 |mk:∀(v g p lg:Addr) (a b gd:Str) (gv:ae) (hs:Xa) (ts:Xb) (qs:aH) (fp:ai) (f:aq),vs=[.ref v,.str a,.str b,.str gd,.ref lg]->jg K CS CG CW H v g p hs ts qs fp f->Wd hs ts qs f->a∈aE hs->b∈aE hs->H lg\.lst (gv.map V.str)->(∀l ys H',aa H H'->H l=none->H' l\.lst ys->bF K H' ys ((nF hs ts qs f gd gv a b).map kM)->Q (.ref l) H')->j_ K CS CG CW vs H Q E
theorem ZQ{f0 CS CG CW CP:Addr}{fd:Ae}(F:a_ K "heaviest_move" "heaviest_move" A4 f0 fd)(TS:gB K CS)(TG:c_ K CG)(cL:!bf CS 3 "lead" lZ (Ee K CS CG CW))(cJ:!bf CS 3 "joint_strength" lZ (KC K CS CG CW))(cF:!bx 1 "fits" qf sU)(cW:!bf CG 2 "weight" zG (C4 K CG CW CP))(cM:!bf CG 3 "may_go" qg (J_ K CG CW CP)) :
  ag P w K mg base bc 4 f0 fd lE (j_ K CS CG CW):=by
 exists F.bH o_;let#[v,g,p,lg,a,b,gd,gv,hs,ts,qs,fp,f,rfl,S,W,ha,hb,hg,k]:=h;let hu:=gz hr;let sz:=cm;have uL:aK 2 _:=hr.mono (by decide);refine' #[_,?r0,?kk]
 case' r0=>refine' ay ?s1 ?r1
 case' r1=>refine' ay ?s2 ?r2
 case' r2=>refine' ay ?s3 (aI ?s4)
 case s1=>exact bw 5 o_.nd (eL cL TS.cl hr (pv 0) %[1,2|0])
 case s2=>exact bw 6 o_.nd (eL cJ TS.cl hr (pv 0) %[1,2|0])
 case' s3=>refine' f_ ie Z (fB (mi hu (cZ (pv 0) Z) (pv 1))) (dR 7 o_.nd) (aI ?b3)
 case' b3=>refine' bA (PW.pt (Ec ?c1 (HV ?c2))) (aI ?b4) bB
 case c1=>exact di (QG i0 (ow hr 0)) (pv 7) (pv 4) (by with_unfolding_all rfl)
 case c2=>exact eB (bt cF hr %[3,5,b_ rP (eL cW TG.cl uL (cZ (pv 0) Z) %[7|0]) (pv 6)|0])
 case b4=>exact bA (eB (eL cM TG.cl hr (cZ (pv 0) Z) %[7,1,2|0])) (aI (bg (dC %[g0 %[7,1,2|0]|0]))) bB
 case s4=>exact bg (dC bo)
 let#[dx,dl,dv,dp,ad,h1,G,h3,h4,h5,h6]:=S.ex;have no:∀{m:Str},¬m="wares"->¬m=jj->¬m=pZ->¬m=Cf->(dM g dl dv dp).lookup m=none:=λa b c d=>DM _ _ _ _ a b c d;apply#[_,Z,v,dx,_,Z,h1,no Z0 Z0 Z0 Z0,_,Z,_,Z,v,g,p,a,b,hs,ts,qs,fp,f,Z,S,W,ha,hb,?_];lk;apply#[_,Z,v,dx,_,Z,h1,no Z0 Z0 Z0 Z0,_,Z,_,Z,v,g,p,a,b,hs,ts,qs,fp,f,Z,S,W,ha,hb,?_];lk;let hl:=h6 a ha;apply#[_,Z,v,CS,dx,_,_,Z,h1,TS.cl,TS.nP,E6 _ _ _ _,_,Z,dp,_,Z,Co h5 ha,ad a,Z,#[_,.of hl],k8 (K:=K) (a:=ad a) (xs:=(fF qs f a).map V.str) (λi σ H'=>∃v7:aV,σ=[some (.ref v),some (.str a),some (.str b),some (.str gd),some (.ref lg),some (.int (pY hs qs f a b)),some (.int (md hs a b)),v7]/\aa H H'/\∀n∈(fF qs f a).take i,xC hs ts qs f gd gv a b n=false) #[none,Z,aa.refl H,by simp] (λi σ H' _ ⟨_,_,sm,_⟩=>.of (sm _ _ hl)) ?_ ?_]
 ·rintro i x σ H' hx ⟨v7,rfl,sm,nf⟩;let#[n,hn,rfl]:=kZ hx;let#[nm,fn]:=KI (dD hn);let#[q,hq,rfl]:=bD.mp nm;let G':=G.same sm;let jT:=sm _ _ h1;let#[iZ,dw,dy,vs,bI,g1,g2,_]:=id G'.ex;have Nm:(bJ p dw dy).lookup ("weight":Str)=none:=qS _ _ _ Z0 Z0 Z0;have NF:(bJ p dw dy).lookup ("may_go":Str)=none:=qS _ _ _ Z0 Z0 Z0;let wq:=W.wq q hq;let ew:=M3 W.nd hq;let ey:=R_ W.nd hq
  have go:∀{H2:Hp},aa H' H2->xC hs ts qs f gd gv a b q.1=false->∃v7:aV,[some (V.ref v),some (V.str a),some (V.str b),some (V.str gd),some (V.ref lg),some (V.int (pY hs qs f a b)),some (V.int (md hs a b)),some (V.str q.1)]=[some (V.ref v),some (V.str a),some (V.str b),some (V.str gd),some (V.ref lg),some (V.int (pY hs qs f a b)),some (V.int (md hs a b)),v7]/\aa H H2/\∀n∈(fF qs f a).take (i+1),xC hs ts qs f gd gv a b n=false:=λ{H2} s2 e=>#[_,Z,sm.trans s2,λm hm=>by
   rw[j0 hn] at hm;rcases gY.mp hm with hm|hm
   ·exact nf m hm
   rw[List.mem_singleton.mp hm];exact e]
  lk;apply#[_,Z,_,Z,q.1,gv,Z,#[lg,_,Z,.of (sm _ _ hg),Hr gv],_,Z,?_];rw[aJ Z];apply aO (λc=>?_) (λc=>?_)
  ·have c:¬q.1∈gv:=⇑c
   apply#[_,Z,_,Z,_,Z,v,CS,dx,_,_,Z,jT,TS.cl,TS.nW,gR _ _ _ _,g,iZ,_,Z,g1,Nm,_,Z,g,p,.str q.1,some q.1,hs,ts,qs,fp,Z,G',W.nd,Z,.inl #[q,hq,Z,?_]];apply#[_,Z,_,_,Z,Z,.inl #[by omega,by omega],gd,pY hs qs f a b,q.2.1 * md hs a b,Z,_,Z,?_];apply aO (λc2=>?_) (λc2=>?_)
   ·apply#[_,Z,v,CS,dx,_,_,Z,jT,TS.cl,TS.nW,gR _ _ _ _,g,iZ,_,Z,g1,NF,_,Z,_,Z,_,Z,g,p,.str q.1,.str a,.str b,some q.1,some a,some b,hs,ts,qs,fp,Z,G',W.nd,W.Gd.ux,Z,.inl #[q,hq,Z,Z,Z,λH2 s2=>#[_,Z,?_]]];apply aO (λc3=>?_) (λc3=>?_)
    ·have pt:xC hs ts qs f gd gv a b q.1=true:=by
      unfold xC qB;rw[ew,ey,c2,dc c];simpa using c3
     apply#[_,Z,_,Z,_,Z,zl,λt nt=>?_];let#[s3,e3]:=aN (o:=.tup [.str q.1,.str a,.str b]) nt;generalize upd H2 t (.tup [.str q.1,.str a,.str b])=H3 at s3 e3 ⊢;apply#[zl,λl nl=>?_];let s4:=aa.new (o:=.lst [.ref t]) nl;let Fi:=(sm.trans s2).trans s3;apply k l [.ref t] _ (Fi.trans s4) (Fi.free nl) az ?_;unfold nF;rw[Tq hn pt nf];exact .cons #[t,Z,s4 _ _ e3] .nil
    apply go s2 ?_;unfold xC qB;rw[ew,ey,c2];have c3:DR hs ts q.2.2 (some a) (some b)=false:=⇑c3
    rw[c3,Bool.and_false,Bool.and_false]
   apply go (aa.refl H') ?_;unfold xC;rw[ew,show xP gd (pY hs qs f a b) (q.2.1 * md hs a b)=false by simpa using c2,Bool.false_and,Bool.and_false]
  have c:q.1∈gv:=⇑c
  apply go (aa.refl H') ?_;unfold xC;rw[cc c];rfl
 rintro σ H' ⟨v7,rfl,sm,nf⟩;rw[aB,fX] at nf;apply#[zl,λl nl=>?_];apply k l [] _ (sm.trans (aa.new nl)) (sm.free nl) az ?_;unfold nF;rw[List.find?_eq_none.mpr λn hn=>by rw[nf n hn];decide];exact .nil
def C5(hs:Xa)(ts:Xb)(qs:aH)(f:aq)(gd h:Str):List Mv:=match dz hs ts qs f h with
 |[]=>[]
 |o::_=>nF hs ts qs f gd [] h o
theorem VV:bq ["sight","hand","guard","around"] DW (aL Pr):=bE
inductive j9 (K:af) (CS CG CW T:Addr) (mv:Xa->Xb->aH->(Str->Str)->Str->Str->List Mv) (vs:aj) (H:Hp) (Q:VK) (E:XK):Prop
 |mk:∀(v g p:Addr) (h gd:Str) (hs:Xa) (ts:Xb) (qs:aH) (fp:ai) (f:aq),vs=[.ref v,.str h,.str gd]->jg K CS CG CW H v g p hs ts qs fp f->Wd hs ts qs f->h∈aE hs->bL H T kj->(∀l ys H',bb T H H'->bL H' T kj->H l=none->H' l\.lst ys->bF K H' ys ((mv hs ts qs f gd h).map kM)->Q (.ref l) H')->j9 K CS CG CW T mv vs H Q E
theorem bb.new{T l:Addr}{H G:Hp}(b:bb T H G)(hT:∃vs,G T\.tbl vs)(n:G l=none):H l=none:=by
 cases z:H l with
 |none=>rfl
 |some o=>
  by_cases y:l=T
  ·let#[vs,e]:=hT;rw[y,e] at n;cases n
  rw[b _ _ z y] at n;cases n
theorem gk_{f0 CS CG CW T:Addr}{fd:Ae}(F:a_ K "moves_by_least" "moves_by_least" Pr f0 fd)(TS:gB K CS)(cR:!bf CS 4 Ce jZ (Ha K CS CG CW T))(cH:!bx 4 "heaviest_move" lE (j_ K CS CG CW)):!ag bc 5 f0 fd DW (j9 K CS CG CW T C5):=by
 exists F.bH VV;let#[v,g,p,h,gd,hs,ts,qs,fp,f,rfl,S,W,hh,tab,k]:=h;refine' #[_,ay ?s1 (ay ?s2 (aI ?s3)),?kk]
 case s1=>exact bw 3 VV.nd (eL cR TS.cl hr (pv 0) %[1|0])
 case s2=>exact bA (di (Si i0 (ow hr 0)) (pv 3) (dC bo)) (aI (bg (dC bo))) bB
 case s3=>exact bg (bt cH hr %[0,1,bP gN (pv 3) aM,2,dC bo|0])
 let#[dx,dl,dv,dp,ad,h1,G,h3,h4,h5,h6]:=S.ex;apply#[_,Z,v,dx,_,Z,h1,DM _ _ _ _ Z0 Z0 Z0 Z0,_,Z,v,g,p,h,hs,ts,qs,fp,f,Z,S,W,hh,tab,λl1 H1 b1 qm n1 e1=>?_];lk;let#[tv,hT]:=g_ tab;let S1:=S.nt (b1.nt hT);apply#[_,Z,zl,λl2 n2=>?_];let#[s2,e2]:=aN (o:=.lst []) n2;generalize upd H1 l2 (.lst [])=H2 at s2 e2 ⊢;let O2:=s2 _ _ e1;have b2:bb T H H2:=λb o e n=>s2 _ _ (b1 _ _ e n);let mn:=qm.same s2;let Fu:=KY hs ts qs f h;apply#[dz hs ts qs f h,[],UP O2,UP e2,_,Z,?_];cases z:dz hs ts qs f h with
 |nil=>
  apply bK #[zl,λl3 n3=>?_];let s3:=aa.new (o:=.lst []) n3;apply k l3 [] _ (λb o e n=>s3 _ _ (b2 _ _ e n)) (mn.same s3) (bb.new b2 (g_ mn) n3) az ?_;unfold C5;rw[z];exact .nil
 |cons o r=>
  rw[dc Z2];apply aR ?_;rw[z] at O2 Fu;have ob:o∈aE hs:=DQ (Fu.mem_iff.mp eZ);apply#[_,Z,_,Z,_,Z,l1,_,0,.str o,Z,Z,.of O2,L2.qM (j:=0) Z,_,Z,zl,λl3 n3=>?_];let#[s3,e3]:=aN (o:=.lst []) n3;generalize upd H2 l3 (.lst [])=H3 at s3 e3 ⊢;apply#[v,g,p,l3,h,o,gd,[],hs,ts,qs,fp,f,Z,(S1.same s2).same s3,W,hh,ob,e3,λl ys H4 s4 nl hl tu=>?_];let q_:=s3.trans s4;apply k l ys H4 (λb o e n=>q_ _ _ (b2 _ _ e n)) (mn.same q_) (bb.new b2 (g_ mn) (s3.free nl)) hl ?_;unfold C5;rw[z];exact tu
end
end Ev
abbrev iO:=List Ev.Mv
namespace Ev
open PySem L2
abbrev Ac:=Rl->Xa->Xb->aH->(Str->Str)->Str->iO
def Hc(mv:Ac)(r:Rl)(hs:Xa)(ts:Xb)(qs:aH)(f:aq):iO:=if r.2.2.1="one" then ((aE hs).flatMap (mv r hs ts qs f)).take 1 else (aE hs).flatMap (mv r hs ts qs f)
def zJ:Ac:=λr hs ts qs f h=>C5 hs ts qs f (r.2.2.2.getD "") h
theorem Tx:∀r∈rl,r.2.1≠"shares"->r.2.2.2.isSome=true:=by decide +kernel
theorem C0(hs:Xa)(ts:Xb)(qs:aH)(f:aq)(gd:Str)(gv:ae)(a b:Str):(nF hs ts qs f gd gv a b).length<=1:=by
 unfold nF;split
 ·exact bj 1
 exact hG 1
theorem gF_(r:Rl)(hs:Xa)(ts:Xb)(qs:aH)(f:aq)(h:Str):(zJ r hs ts qs f h).length<=1:=by
 unfold zJ C5;split
 ·exact hG 1
 exact C0 ..
theorem VR{α β:Type}{F:α->β->Prop}:∀{ys:List α} {ks:List β} (n:Nat),Paired F ys ks->Paired F (ys.take n) (ks.take n)
 |_,_,0,_=>.nil
 |_,_,_+1,.nil=>.nil
 |_,_,n+1,.cons h t=>.cons h (VR n t)
theorem Us{α:Type}{g:Str->List α}{n:Nat}(h:∀x,(g x).length<=n):∀l:ae,(l.flatMap g).length<=n * l.length
 |[]=>by simp
 |a::l=>by
  have:=h a;let ih:=Us h l;rw[List.flatMap_cons,fZ,j3,Nat.mul_succ];omega
section v
theorem O6:bq wj wj (aL HE):=bE
inductive wB (K:af) (CS CG CW T:Addr) (pr:Rl->Prop) (mv:Ac) (vs:aj) (H:Hp) (Q:VK) (E:XK):Prop
 |mk:∀(v g p aw:Addr) (h:Str) (hs:Xa) (ts:Xb) (qs:aH) (fp:ai) (f:aq),∀r∈rl,vs=[.ref v,.str h,.ref aw]->pr r->(∀H',iD K H' aw [.str r.2.1,.str r.2.2.1,uk r.2.2.2])->jg K CS CG CW H v g p hs ts qs fp f->Wd hs ts qs f->h∈aE hs->bL H T kj->(∀l ys H',bb T H H'->bL H' T kj->H l=none->H' l\.lst ys->bF K H' ys ((mv r hs ts qs f h).map kM)->Q (.ref l) H')->wB K CS CG CW T pr mv vs H Q E
theorem gw_{f0 CS CG CW T:Addr}{fd:Ae}(F:a_ K "moves_from" "moves_from" HE f0 fd)(cL:!bx 5 "moves_by_least" DW (j9 K CS CG CW T C5)):!ag bc 6 f0 fd wj (wB K CS CG CW T (λr=>r.2.1="least") zJ):=by
 exists F.bH O6;let#[v,g,p,aw,h,hs,ts,qs,fp,f,r,eC,rfl,le,ha,S,W,hh,tab,k]:=h;refine' #[_,ay ?s1 d0,?kk]
 case s1=>exact bA (di i4 (bP eQ (pv 2) aM) bM) (aI (bg (bt cL hr %[0,1,bP eQ (pv 2) aM|0]))) bB
 let so:=Tx r eC (by rw[le];decide +kernel);let#[gd,eg]:=vH.mp so;apply#[_,Z,aw,_,_,_,Z,Z,ha _,Z,Z,_,Z,?_];rw[rW,cc le];apply bK ?_;apply#[_,Z,_,Z,_,Z,aw,_,_,.str gd,Z,Z,ha _,?_,v,g,p,h,gd,hs,ts,qs,fp,f,Z,S,W,hh,tab,λl ys H' b t n e tu=>k l ys H' b t n e ?_]
 ·rw[eg];rfl
 unfold zJ;rw[eg];exact tu
theorem Ki:bq ["sight","rule","moment","words","moves","hand"] xY (aL kg):=bE
inductive mr (K:af) (CS CG CW T:Addr) (pr:Rl->Prop) (mv:Ac) (vs:aj) (H:Hp) (Q:VK) (E:XK):Prop
 |mk:∀(v g p:Addr) (m:Int) (hs:Xa) (ts:Xb) (qs:aH) (fp:ai) (f:aq),∀r∈rl,vs=[.ref v,.str r.1,.int m]->pr r->jg K CS CG CW H v g p hs ts qs fp f->Wd hs ts qs f->bL H T kj->(∀l ys H',bb T H H'->bL H' T kj->H l=none->H' l\.lst ys->bF K H' ys ((Hc mv r hs ts qs f).map kM)->Q (.ref l) H')->mr K CS CG CW T pr mv vs H Q E
theorem _X{f0 CS CG CW T:Addr}{fd:Ae}{pr:Rl->Prop}{mv:Ac}(F:a_ K "moves_seen" "moves_seen" kg f0 fd)(TS:gB K CS)(TG:c_ K CG)(TW:Txt K mg CW)(YZ:∀r,pr r->r.2.1≠"turns")(hb:∀r hs ts qs f h,Wd hs ts qs f->(mv r hs ts qs f h).length<=1000)(HB:!bx 2 we ["rule"] (HQ K))(cH:!bf CW 1 "hands" gW (Ei K CW))(cF:!bx 6 "moves_from" wj (wB K CS CG CW T pr mv)) :
  ag P w K mg base bc 7 f0 fd xY (mr K CS CG CW T pr mv):=by
 exists F.bH Ki;let#[v,g,p,m,hs,ts,qs,fp,f,r,eC,rfl,hp,S,W,tab,k]:=h;let sz:=cm;have kF:aK 1 _:=hr.mono (by decide);refine' #[_,?r0,?kk]
 case' r0=>refine' ay ?s1 ?r1
 case' r1=>refine' ay ?s2 ?r2
 case' r2=>refine' ay ?s3 ?r3
 case' r3=>refine' ay ?s4 (aI ?s5)
 case s1=>exact bw 3 Ki.nd (bt HB hr %[1|0])
 case s2=>exact bA (di i4 (bP eQ (pv 3) aM) bM) d0 bB
 case s3=>exact bw 4 Ki.nd (dC bo)
 case' s4=>refine' f_ ie Z (fB (wx cH TW.cl kF (cZ (cZ (pv 0) Z) Z))) (dR 5 Ki.nd) (ay ?b1 (aI ?b2))
 case b1=>exact p_ (vk oo PySem.F.slot_list_extend PySem.F.type_list_extend Ih (pv 4) %[bt cF hr %[0,5,3|0]|0])
 case b2=>exact bA (PW.pt (Ec (di i4 (bP eQ (pv 3) aM) bM) (HV (di (Uw (ow hr 0)) (pv 4) (dC bo))))) (aI (bg (Uu Tr (pv 4) TN (Tn aM)))) bB
 case s5=>exact bg (pv 4)
 apply#[_,Z,r,eC,Z,λaw ha=>?_];lk;apply#[_,Z,aw,_,_,_,Z,Z,ha _,Z,Z,_,Z,?_];rw[rW,dc (YZ r hp)];apply aR ?_;apply#[zl,λlm nm=>?_];lk;let#[s1,e1]:=aN (o:=.lst []) nm;generalize upd H lm (.lst [])=H1 at s1 e1 ⊢;let#[dx,dl,dv,dp,ad,h1,G,h3,h4,h5,h6]:=(S.same s1).ex;let#[iZ,dw,dy,vs,bI,g1,g2,_]:=id G.ex;let#[eI,d1,l2,d3,jq,as,ef,w1,_]:=id g2.ex;have gq:(bZ d1 l2 d3).lookup ("hands":Str)=none:=iP _ _ _ Z0 Z0 Z0;apply#[_,Z,v,CS,dx,_,_,Z,h1,TS.cl,TS.nW,gR _ _ _ _,g,CG,iZ,_,_,Z,g1,TG.cl,TG.nW,j1 _ _ _,p,eI,_,Z,w1,gq,p,hs,ts,bI,Z,g2,λlh nh=>?_];let#[s2,e2]:=aN (o:=.lst ((aE hs).map V.str)) nh;generalize upd H1 lh (.lst ((aE hs).map V.str))=H2 at s2 e2 ⊢;have ZR:lm≠lh:=bU e1 nh;let ni:=s1.trans s2;let#[tv,hT]:=g_ tab;have neT:∀{b:Addr} {xs:aj},H2 b\.lst xs->b≠T:=λe z=>by rw[z,ni _ _ hT] at e;cases e
 have n8:(aE hs).length<=8:=by have:=W.Gd.fQ;have:=W.Gd.h8;omega
 have bound:∀i,(((aE hs).take i).flatMap (mv r hs ts qs f)).length<=8000:=λi=>by
  have:=Us (g:=mv r hs ts qs f) (n:=1000) (λx=>hb r hs ts qs f x W) ((aE hs).take i);rw[fA] at this;omega
 apply#[lh,Z,#[_,.of e2],k8 (K:=K) (a:=lh) (xs:=(aE hs).map V.str) (λi σ H'=>∃(v5:aV) (ys:aj),σ=[some (.ref v),some (.str r.1),some (.int m),some (.ref aw),some (.ref lm),v5]/\bb T H H'/\bL H' T kj/\H' lh\.lst ((aE hs).map V.str)/\H' lm\.lst ys/\bF K H' ys ((((aE hs).take i).flatMap (mv r hs ts qs f)).map kM)/\(r.2.2.1="one"->((aE hs).take i).flatMap (mv r hs ts qs f)=[])) #[none,[],Z,λb o e n=>ni _ _ e,tab.same ni,e2,s2 _ _ e1,.nil,λ_=>rfl] (λi σ H' _ ⟨_,_,_,_,_,z,_⟩=>.of z) ?_ ?_]
 ·rintro i x σ H' hx ⟨v5,ys,rfl,bT,j7,zm,uP,tu,one⟩;let#[n,hn,rfl]:=kZ hx;let MD:=dD hn;lk;let S':=S.nt (bT.nt hT);apply#[_,Z,.inl #[Z,_,.of uP],_,Z,_,Z,_,Z,v,g,p,aw,n,hs,ts,qs,fp,f,r,eC,Z,hp,ha,S',W,MD,j7,λl zs H3 b3 gQ nl hl tz=>?_];let#[tv',DL]:=g_ j7;let xp:=b3.nt DL;let xE:=xp.lst uP;let Xz:=bF.nt tu xp;have lT:l≠T:=λz=>by rw[z,DL] at nl;cases nl
  have Jn:lm≠l:=bU uP nl;let IB:=bound i;let ly:=bS tu;let lz:=bS tz;rw[aB] at ly lz;let bz:=hb r hs ts qs f n W;apply#[lm,l,ys,zs,Z,Z,xE,hl,by omega,?_];have e4:upd H3 lm (.lst (ys++zs)) lm\.lst (ys++zs):=az
  have b4:bb T H (upd H3 lm (.lst (ys++zs))):=λb o e ne=>by
   rw[aF (bU e nm)];exact b3 _ _ (bT _ _ e ne) ne
  have dg:bL (upd H3 lm (.lst (ys++zs))) T kj:=bL.putL gQ xE
  have BP:upd H3 lm (.lst (ys++zs)) lh\.lst ((aE hs).map V.str):=by
   rw[aF ZR.symm];exact xp.lst zm
  have fl:((aE hs).take (i+1)).flatMap (mv r hs ts qs f)=((aE hs).take i).flatMap (mv r hs ts qs f)++mv r hs ts qs f n:=by
   rw[j0 hn,List.flatMap_append,List.flatMap_cons,List.flatMap_nil,wC]
  have EH:bF K (upd H3 lm (.lst (ys++zs))) (ys++zs) ((((aE hs).take (i+1)).flatMap (mv r hs ts qs f)).map kM):=by
   rw[fl,eK];exact qb (qT Xz xE) (qT tz xE)
  generalize upd H3 lm (.lst (ys++zs))=H4 at e4 b4 dg BP EH ⊢;dsimp only;apply#[_,Z,aw,_,_,_,Z,Z,ha _,Z,Z,_,Z,?_];rw[rW];apply aO (λc=>?_) (λc=>?_)
  ·have c:r.2.2.1="one":=ye c;apply#[_,Z,zl,λle ne=>?_];let#[s5,e5]:=aN (o:=.lst []) ne;generalize upd H4 le (.lst [])=H5 at s5 e5 ⊢;apply#[lm,le,ys++zs,Z,Z,.of (s5 _ _ e4),.of e5,_,Z,?_];let ll:=bS EH;rw[aB] at ll;apply aO (λc2=>?_) (λc2=>?_)
   ·apply#[_,Z,_,Z,lm,_,Z,.of (s5 _ _ e4),λlq nq=>?_];rw[show kL (ys++zs) none (some 1)=(ys++zs).take 1 from UF (ys++zs) 1];let s6:=aa.new (o:=.lst ((ys++zs).take 1)) nq;let Ff:=s5.trans s6;have b6:bb T H (upd H5 lq (.lst ((ys++zs).take 1))):=λb o e n=>Ff _ _ (b4 _ _ e n);apply k lq _ _ b6 (dg.same Ff) (bb.new (T:=T) (G:=H5) (λb o e n=>s5 _ _ (b4 _ _ e n)) (g_ (dg.same s5)) nq) az ?_;unfold Hc;rw[aJ c]
    have nz:((aE hs).take (i+1)).flatMap (mv r hs ts qs f)≠[]:=λz=>by
     rw[z,rX] at ll;have y:ys++zs=[]:=List.length_eq_zero_iff.mp ll;rw[y] at c2;simp at c2
    have e7:((aE hs).flatMap (mv r hs ts qs f)).take 1=(((aE hs).take (i+1)).flatMap (mv r hs ts qs f)).take 1:=by
     conv=>lhs;rw[<- List.take_append_drop (i+1) (aE hs),List.flatMap_append]
     cases z:((aE hs).take (i+1)).flatMap (mv r hs ts qs f) with
     |nil=>exact absurd z nz
     |cons a b=>rfl
    rw[e7,List.map_take];exact VR 1 (EH.same Ff)
   have z:ys++zs=[]:=⇑c2
   apply#[_,_,Z,λb o e n=>s5 _ _ (b4 _ _ e n),dg.same s5,s5 _ _ BP,s5 _ _ e4,EH.same s5,λ_=>?_];rw[z,rX] at ll;exact List.length_eq_zero_iff.mp ll.symm
  apply#[_,_,Z,b4,dg,BP,e4,EH,λz=>absurd (cc z) c]
 rintro σ H' ⟨v5,ys,rfl,bT,j7,zm,uP,tu,one⟩;rw[aB,fX] at tu one;apply#[_,Z,k lm ys H' bT j7 nm uP ?_];unfold Hc;by_cases c:r.2.2.1="one"
 ·rw[aJ c];have:=one c;rw[this] at tu ⊢;exact tu
 rw[aC c];exact tu
end
end Ev
namespace Ev
open PySem L2
structure lL (P:Ad) (w:Af) (K:af) (mg:Str->Option Aa) (base:Heap) (C:Addr) (k:Nat) (x:Str) (ps:ae) (sp:Sp):Prop where
 ex:∃f fd,ag P w K mg base bc k f fd ps sp/\Mk K C f/\mg x\.ref C/\l8 K fd ps []
theorem Jt{n_:Nat}{X:Cx}{C:Addr}{k:Nat}{x:Str}{ps:ae}{sp:Sp}{p pos:Pos}{e:Expr}{es:List Expr}{t:TA}(c:lL X.prog X.w X.K X.mg X.base C k x ps sp)(hr:aK n_ X.A)(ha:PA X (e::es) t)(hg:Gl X x:=by rfl)(gT:(x == ("__debug__":Str))=false:=by decide)
  (he:starEach (e::es) X.env=(false,eval e X.env)::starEach es X.env:=by rfl) (fJ:(backTo pos (starEach es X.env)).any (·.1)=false:=by rfl) (hk:(k+1)<=n_:=by decide):PE X (.Call (.Name x p) (e::es) [] pos) (yy C sp [] E0 t):=by
 let#[f,fd,F,M,m,b]:=c.ex;exact kP_ M F (hr.mono hk) hg m b .nil kl ha gT he fJ
section v
theorem U6:bq Cm Cm (aL Kp):=bE
def U3:Sp:=λvs H Q _=>∃i a:Int,vs=[.int i,.int a]/\Q (.bl (decide (a<=i))) H
theorem h1_{f0:Addr}{fd:Ae}(F:a_ K "is_whole_from" "is_whole_from" Kp f0 fd)(cI:!bx 1 "is_whole" fu sS):!ag bc 2 f0 fd Cm U3:=by
 exists F.bH U6;let#[i,a,rfl,k]:=h;apply#[_,aI (bg (oj (bt cI hr %[0|0]) (oi (qP xZ (pv 1) (pv 0))))),?_];exact#[_,Z,i,Z,_,Z,bK #[_,Z,_,Z,_,_,Z,Z,k]]
theorem e6':bq fu fu (aL Qw):=bE
theorem tF:bq DX DX (aL OI):=bE
structure Wt (K:af) (CG CW:Addr) (H:Hp) (g p d:Addr) (hs:Xa) (ts:Xb) (qs:aH) (fp:ai) (ns:ae) (f:aq):Prop where
 G:fN K CG CW H g p hs ts qs fp
 ic:d∉fp
 hd:H d\.dK (cE ns f)
 so:Ow hs qs ns f
 has:∀b∈fp,∃o,H b\o/\∀vs,o≠.tbl vs
structure Tb (H:Hp) (T1 T2:Addr):Prop where
 a:bL H T1 yW
 b:bL H T2 kj
 ne:T1≠T2
end
end Ev
namespace Ev
open PySem L2
def vp(hs:Xa)(ts:Xb)(qs:aH)(f:aq)(gd h:Str):iO->ae->iO
 |ms,[]=>ms
 |ms,o::l=>if 0<pY hs qs f h o then vp hs ts qs f gd h (ms++nF hs ts qs f gd (ms.map (·.1)) h o) l else vp hs ts qs f gd h ms l
def Eh(hs:Xa)(ts:Xb)(qs:aH)(f:aq)(gd h:Str):iO:=vp hs ts qs f gd h [] (dz hs ts qs f h)
section v
theorem KU:bq ["sight","hand","guard","moves","other","given"] DW (aL O3):=bE
theorem gr_{f0 CS CG CW T:Addr}{fd:Ae}(F:a_ K "moves_by_below" "moves_by_below" O3 f0 fd)(TS:gB K CS)(cR:!bf CS 4 Ce jZ (Ha K CS CG CW T))(cL:!bf CS 3 "lead" lZ (Ee K CS CG CW))(cH:!bx 4 "heaviest_move" lE (j_ K CS CG CW)):!ag bc 5 f0 fd DW (j9 K CS CG CW T Eh):=by
 exists F.bH KU;let#[v,g,p,h,gd,hs,ts,qs,fp,f,rfl,S,W,hh,tab,k]:=h;let sz:=cm;have qG:aK 3 _:=hr.mono (by decide);refine' #[_,ay ?s1 (ay ?s2 (aI ?s3)),?kk]
 case s1=>exact bw 3 KU.nd (dC bo)
 case' s2=>refine' f_ ie Z (fB (eL cR TS.cl hr (pv 0) %[1|0])) (dR 4 KU.nd) (aI (bA ?t1 (ay ?b1 (aI ?b2)) bB))
 case t1=>exact di DS (eL cL TS.cl qG (pv 0) %[1,4|0]) aM
 case b1=>exact Ks (i:=5) ["move"] 1 [] KU.nd Z (Or.inl Z) (fB (pv 3)) (λfp s H=>gM (i:=0) (show (["move"]:ae).Nodup by decide +kernel) Z (Or.inl Z)) (λfp s H=>k7) (λfp s H=>bP (FZ (K:=K) qu eQ) (pv 0) aM)
 case b2=>exact p_ (vk oo PySem.F.slot_list_extend PySem.F.type_list_extend Ih (pv 3) %[bt cH hr %[0,1,4,2,5|0]|0])
 case s3=>exact bg (pv 3)
 have n8:(aE hs).length<=8:=by have:=W.Gd.fQ;have:=W.Gd.h8;omega
 apply#[zl,λlm nm=>?_];lk;let#[s1,e1]:=aN (o:=.lst []) nm;generalize upd H lm (.lst [])=H1 at s1 e1 ⊢;let S1:=S.same s1;let qm:=tab.same s1;let#[dx,dl,dv,dp,ad,h1,G,h3,h4,h5,h6]:=S1.ex;apply#[_,Z,v,dx,_,Z,h1,DM _ _ _ _ Z0 Z0 Z0 Z0,_,Z,v,g,p,h,hs,ts,qs,fp,f,Z,S1,W,hh,qm,λl1 H2 b2 mn n1 e2=>?_];let#[tv,hT]:=g_ qm;let#[Rv,JR]:=g_ mn;let yY:=b2.nt hT;let S2:=S1.nt yY;let m2:=yY.lst e1;have Jn:lm≠l1:=bU e1 n1;let Fu:=KY hs ts qs f h;have F1:∀x∈dz hs ts qs f h,x∈aE hs:=λx hx=>DQ (Fu.mem_iff.mp hx)
 have ll:(dz hs ts qs f h).length<=8:=by
  rw[Fu.length_eq];have:=D8 hs ts h;omega
 have bT:bb T H H2:=λb o e n=>b2 _ _ (s1 _ _ e) n;apply#[l1,Z,#[_,.of e2],k8 (K:=K) (a:=l1) (xs:=(dz hs ts qs f h).map V.str) (λi σ H'=>∃(v4 v5:aV) (ys:aj) (ms:iO),σ=[some (.ref v),some (.str h),some (.str gd),some (.ref lm),v4,v5]/\bb T H H'/\bL H' T kj/\H' l1\.lst ((dz hs ts qs f h).map V.str)/\H' lm\.lst ys/\bF K H' ys (ms.map kM)/\ms.length<=i/\vp hs ts qs f gd h ms ((dz hs ts qs f h).drop i)=Eh hs ts qs f gd h) #[none,none,[],[],Z,bT,mn,e2,m2,.nil,bj _,Z] (λi σ H' _ ⟨_,_,_,_,_,_,_,z,_⟩=>.of z) ?_ ?_]
 ·rintro i x σ H3 hx ⟨v4,v5,ys,ms,rfl,Io,gQ,l3,m3,t3,MN,eq3⟩;let#[o,ho,rfl]:=kZ hx;have hi:i<(dz hs ts qs f h).length:=(dj.mp ho).1;let om:=F1 o (dD ho)
  have dr:(dz hs ts qs f h).drop i=o::(dz hs ts qs f h).drop (i+1):=by
   let#[h1,h2]:=dj.mp ho;rw[List.drop_eq_getElem_cons h1,h2]
  rw[dr] at eq3;let#[tv0,hT0]:=g_ tab;let S3:=S.nt (Io.nt hT0);let#[O4,_,_,_,_,k1,_]:=S3.ex;let ly:=bS t3;rw[aB] at ly;lk;apply#[_,Z,v,O4,_,Z,k1,DM _ _ _ _ Z0 Z0 Z0 Z0,_,Z,_,Z,v,g,p,h,o,hs,ts,qs,fp,f,Z,S3,W,hh,om,_,_,Z,Z,_,Z,?_];apply aO (λc=>?_) (λc=>?_)
  ·have c:0<pY hs qs f h o:=⇑c
   have eq3:vp hs ts qs f gd h (ms++nF hs ts qs f gd (ms.map (·.1)) h o) ((dz hs ts qs f h).drop (i+1))=Eh hs ts qs f gd h:=by
    rw[vp,aJ c] at eq3;exact eq3
   apply#[_,Z,lm,Z,#[_,.of m3],λD hD=>?_];apply qa (own:=1) (fv:=[]) (xs:=ys) Z fU (λj out H'=>aa H3 H'/\H' D\.lst out/\out=((ms.map (·.1)).take j).map V.str) #[aa.new hD,az,Z] (λj out H' _ ⟨sm,_⟩=>.of (sm _ _ m3)) (λout H4 ⟨s4,d4,eo⟩=>?_) (λj x out H' hx ⟨sm,hd,eo⟩=>?_);rotate_left
   ·let#[q,hq,a,rfl,ha]:=wG t3 hx;have hj:j<ms.length:=(dj.mp hq).1;apply#[_,Z,Z,λNx hN=>fg ?_];apply#[_,Z,a,_,0,.str q.1,Z,Z,.of (sm _ _ ha),L2.qM (j:=0) Z,out,hd,?_,hN (out++[.str q.1]) _ #[j2 sm hD,az,?_]]
    ·rw[eo,aB,fA];omega
    rw[eo,j0 (show (ms.map (·.1))[j]? = some q.1 by rw[dQ,hq];rfl),eK];rfl
   rw[ly,Ey (by rw[aB];exact bj _)] at eo;subst eo;lk;let m4:=s4 _ _ m3;apply#[_,Z,.inl #[Z,_,.of m4],?_];apply#[_,Z,_,Z,_,Z,_,Z,_,Z,v,g,p,D,h,o,gd,ms.map (·.1),hs,ts,qs,fp,f,Z,S3.same s4,W,hh,om,d4,λl5 zs H5 s5 n5 e5 t5=>?_];let vS:=s4.trans s5;let m5:=vS _ _ m3;let lz:=bS t5;let hl:=C0 hs ts qs f gd (ms.map (·.1)) h o;rw[aB] at lz;apply#[lm,l5,ys,zs,Z,Z,m5,e5,by omega,?_];apply#[_,_,ys++zs,ms++nF hs ts qs f gd (ms.map (·.1)) h o,Z,λb u e n=>?_,bL.putL (gQ.same vS) m5,?_,az,?_,?_,eq3]
   ·rw[aF (bU e nm)];exact vS _ _ (Io _ _ e n)
   ·rw[aF Jn.symm];exact vS _ _ l3
   ·rw[eK];exact qb (qT (t3.same vS) m5) (qT t5 m5)
   rw[fZ];omega
  have c:¬0<pY hs qs f h o:=⇑c
  apply#[_,_,ys,ms,Z,Io,gQ,l3,m3,t3,by omega,?_];rw[vp,aC c] at eq3;exact eq3
 rintro σ H3 ⟨v4,v5,ys,ms,rfl,Io,gQ,l3,m3,t3,MN,eq3⟩;rw[aB,List.drop_length] at eq3;apply#[_,Z,k lm ys H3 Io gQ nm m3 ?_];rw[<- eq3];exact t3
end
end Ev
namespace Ev
open PySem L2
def CD:Ac:=λr hs ts qs f h=>Eh hs ts qs f (r.2.2.2.getD "") h
theorem ON{hs:Xa}{ts:Xb}{qs:aH}{f:aq}{gd h:Str}:∀(l:ae) (ms:iO),(vp hs ts qs f gd h ms l).length<=ms.length+l.length
 |[],ms=>bj _
 |o::l,ms=>by
  rw[vp,j3];split
  ·let h1:=ON (hs:=hs) (ts:=ts) (qs:=qs) (f:=f) (gd:=gd) (h:=h) l (ms++nF hs ts qs f gd (ms.map (·.1)) h o);let h2:=C0 hs ts qs f gd (ms.map (·.1)) h o;rw[fZ] at h1;omega
  let h1:=ON (hs:=hs) (ts:=ts) (qs:=qs) (f:=f) (gd:=gd) (h:=h) l ms;omega
theorem hD_(r:Rl)(hs:Xa)(ts:Xb)(qs:aH)(f:aq)(h:Str)(W:Wd hs ts qs f):(CD r hs ts qs f h).length<=8:=by
 unfold CD Eh;let h1:=ON (hs:=hs) (ts:=ts) (qs:=qs) (f:=f) (gd:=r.2.2.2.getD "") (h:=h) (dz hs ts qs f h) [];let h2:=(KY hs ts qs f h).length_eq;let h3:=D8 hs ts h;let h4:=W.Gd.fQ;let h5:=W.Gd.h8;rw[rX] at h1;omega
section v
theorem fY_{f0 CS CG CW T:Addr}{fd:Ae}(F:a_ K "moves_from" "moves_from" HE f0 fd)(cL:!bx 5 "moves_by_below" DW (j9 K CS CG CW T Eh)):!ag bc 6 f0 fd wj (wB K CS CG CW T (λr=>r.2.1="below") CD):=by
 exists F.bH O6;let#[v,g,p,aw,h,hs,ts,qs,fp,f,r,eC,rfl,le,ha,S,W,hh,tab,k]:=h;refine' #[_,ay ?s0 (ay ?s1 d0),?kk]
 case s0=>exact bA (di i4 (bP eQ (pv 2) aM) bM) d0 bB
 case s1=>exact bA (di i4 (bP eQ (pv 2) aM) bM) (aI (bg (bt cL hr %[0,1,bP eQ (pv 2) aM|0]))) bB
 let so:=Tx r eC (by rw[le];decide +kernel);let#[gd,eg]:=vH.mp so;have ln:¬r.2.1="least":=by rw[le];decide +kernel
 apply#[_,Z,aw,_,_,_,Z,Z,ha _,Z,Z,_,Z,?_];rw[rW,dc ln];apply aR ?_;apply#[_,Z,aw,_,_,_,Z,Z,ha _,Z,Z,_,Z,?_];rw[rW,cc le];apply bK ?_;apply#[_,Z,_,Z,_,Z,aw,_,_,.str gd,Z,Z,ha _,?_,v,g,p,h,gd,hs,ts,qs,fp,f,Z,S,W,hh,tab,λl ys H' b t n e tu=>k l ys H' b t n e ?_]
 ·rw[eg];rfl
 unfold CD;rw[eg];exact tu
end
end Ev
namespace Ev
open PySem L2
def x_(hs:Xa)(ts:Xb):Int:=((gj hs ts).max?).getD 0
theorem kF_{hs:Xa}{ts:Xb}{m:Int}(h1:m∈gj hs ts)(h2:∀a∈gj hs ts,a<=m):m=x_ hs ts:=by
 unfold x_;rw[List.max?_eq_some_iff.mpr #[h1,h2]];rfl
theorem kA_{hs:Xa}{ts:Xb}(G:Good hs ts){m:Int}(h:m∈gj hs ts):0<=m/\m<=8:=by
 let#[n,_,rfl]:=bD.mp h;let h1:=D8 hs ts n;let h2:=G.fQ;let h3:=G.h8;show 0<=((nb hs ts n).length:Int)/\((nb hs ts n).length:Int)<=8;omega
theorem is_{hs:Xa}{ts:Xb}(G:Good hs ts){a b:Str}(ha:a∈aE hs)(hb:b∈aE hs):2<=md hs a b/\md hs a b<=2000:=by
 let h1:=JW G ha;let h2:=JW G hb;unfold md;omega
def wR(wt:Str->Int)(ok:Str->Bool):Int->ae->ae
 |_,[]=>[]
 |l,n::ns=>if (ok n&&decide (wt n<=l))=true then n::wR wt ok (l - wt n) ns else wR wt ok l ns
theorem KH(wt:Str->Int)(ok:Str->Bool):∀(l:Int) (ns:ae),(wR wt ok l ns).Sublist ns
 |_,[]=>.slnil
 |l,n::ns=>by
  unfold wR;split
  ·exact (KH wt ok _ ns).cons_cons n
  exact (KH wt ok _ ns).cons n
def jt(hs:Xa)(ts:Xb)(qs:aH)(gv:ae)(a b n:Str):Bool:=!decide (n∈gv)&&qB hs ts qs n a b
def sY(hs:Xa)(ts:Xb)(qs:aH)(f:aq)(a b:Str):Int:=pY hs qs f a b / (md hs a b * (x_ hs ts+1))
def Ja(hs:Xa)(ts:Xb)(qs:aH)(f:aq)(gv:ae)(a b:Str):ae:=wR (vP qs) (jt hs ts qs gv a b) (sY hs ts qs f a b) (fF qs f a)
abbrev to3(a b:Str)(n:Str):Mv:=(n,a,b)
def yK(hs:Xa)(ts:Xb)(qs:aH)(f:aq)(gv:ae)(a b:Str):iO:=(Ja hs ts qs f gv a b).map (to3 a b)
theorem T6{hs:Xa}{ts:Xb}{qs:aH}{f:aq}(W:Wd hs ts qs f)(a:Str):(fF qs f a).length<=63:=by
 have h1:(fF qs f a).length<=(nD qs).length:=List.length_filter_le ..;let h2:=(KR qs).length_eq;rw[aB] at h2;have:=W.bY;omega
theorem SI{hs:Xa}{ts:Xb}{qs:aH}{f:aq}(W:Wd hs ts qs f)(gv:ae)(a b:Str):(yK hs ts qs f gv a b).length<=63:=by
 unfold yK;rw[aB];have:=(KH (vP qs) (jt hs ts qs gv a b) (sY hs ts qs f a b) (fF qs f a)).length_le;let h2:=T6 W a;unfold Ja;omega
theorem TV{α:Type}{l:List α}{i:Nat}{x:α}(h:l[i]? = some x):l.drop i=x::l.drop (i+1):=by
 let#[h1,h2]:=dj.mp h;rw[List.drop_eq_getElem_cons h1,h2]
section v
abbrev L7:ae:=["sight","one","other","given","parts","left","moves","piece","weight"]
theorem Ci:bq L7 ["sight","one","other","given"] (aL A3):=bE
inductive sN (K:af) (CS CG CW:Addr) (vs:aj) (H:Hp) (Q:VK) (E:XK):Prop
 |mk:∀(v g p lg:Addr) (a b:Str) (gv:ae) (hs:Xa) (ts:Xb) (qs:aH) (fp:ai) (f:aq),vs=[.ref v,.str a,.str b,.ref lg]->jg K CS CG CW H v g p hs ts qs fp f->Wd hs ts qs f->a∈aE hs->b∈aE hs->H lg\.lst (gv.map V.str)->(∀l ys H',aa H H'->H l=none->H' l\.lst ys->bF K H' ys ((yK hs ts qs f gv a b).map kM)->Q (.ref l) H')->sN K CS CG CW vs H Q E
theorem ZF{f0 CS CG CW CP:Addr}{fd:Ae}(F:a_ K "share_moves" "share_moves" A3 f0 fd)(TS:gB K CS)(TG:c_ K CG)(TW:Txt K mg CW)(cL:!bf CS 3 "lead" lZ (Ee K CS CG CW))(cJ:!bf CS 3 "joint_strength" lZ (KC K CS CG CW))(cN:!bf CW 1 "most_neighbours" gW (my K CW))(cW:!bf CG 2 "weight" zG (C4 K CG CW CP))(cM:!bf CG 3 "may_go" qg (J_ K CG CW CP)) :
  ag P w K mg base bc 4 f0 fd ["sight","one","other","given"] (sN K CS CG CW):=by
 exists F.bH Ci;let#[v,g,p,lg,a,b,gv,hs,ts,qs,fp,f,rfl,S,W,ha,hb,hg,k]:=h;let hu:=gz hr;let sz:=cm;have kF:aK 1 _:=hr.mono (by decide);have uL:aK 2 _:=hr.mono (by decide);refine' #[_,?r0,?kk]
 case' r0=>refine' ay ?s1 ?r1
 case' r1=>refine' ay ?s2 ?r2
 case' r2=>refine' ay ?s3 ?r3
 case' r3=>refine' ay ?s4 (aI ?s5)
 case s1=>exact bw 4 Ci.nd (b_ rP (eL cJ TS.cl hr (pv 0) %[1,2|0]) (b_ p0 (wx cN TW.cl kF (cZ (cZ (pv 0) Z) Z)) aM))
 case s2=>exact bw 5 Ci.nd (b_ zO (eL cL TS.cl hr (pv 0) %[1,2|0]) (pv 4))
 case s3=>exact bw 6 Ci.nd (dC bo)
 case' s4=>refine' f_ ie Z (fB (mi hu (cZ (pv 0) Z) (pv 1))) (dR 7 Ci.nd) (ay ?b1 (aI ?b2))
 case b1=>exact bw 8 Ci.nd (eL cW TG.cl uL (cZ (pv 0) Z) %[7|0])
 case' b2=>refine' bA (PW.pt (Ec ?c1 (Ec ?c2 (HV ?c3)))) (ay ?b3 (aI ?b4)) bB
 case c1=>exact di (QG i0 (ow hr 0)) (pv 7) (pv 3) (by with_unfolding_all rfl)
 case c2=>exact di xZ (pv 8) (pv 5)
 case c3=>exact eB (eL cM TG.cl hr (cZ (pv 0) Z) %[7,1,2|0])
 case b3=>exact p_ (vk oo Ct Cu zR (pv 6) %[g0 %[7,1,2|0]|0])
 case b4=>exact bw 5 Ci.nd (b_ J6 (pv 5) (pv 8))
 case s5=>exact bg (pv 6)
 let#[dx,dl,dv,dp,ad,h1,G,h3,h4,h5,h6]:=S.ex;let#[iZ,dw,dy,vs,bI,g1,g2,_]:=id G.ex;let#[eI,d1,l2,d3,jq,as,ef,w1,_]:=id g2.ex;have hnm:(bZ d1 l2 d3).lookup ("most_neighbours":Str)=none:=iP _ _ _ Z0 Z0 Z0;have no:∀{m:Str},¬m="wares"->¬m=jj->¬m=pZ->¬m=Cf->(dM g dl dv dp).lookup m=none:=λa b c d=>DM _ _ _ _ a b c d;let jo:=is_ W.Gd ha hb;let nl:=W.Gd.fQ;let n1:=W.Gd.h1;let n8:=W.Gd.h8;apply#[_,Z,v,dx,_,Z,h1,no Z0 Z0 Z0 Z0,_,Z,_,Z,v,g,p,a,b,hs,ts,qs,fp,f,Z,S,W,ha,hb,?_];apply#[_,Z,v,CS,dx,_,_,Z,h1,TS.cl,TS.nW,gR _ _ _ _,g,CG,iZ,_,_,Z,g1,TG.cl,TG.nW,j1 _ _ _,p,eI,_,Z,w1,hnm,p,hs,ts,bI,Z,g2,by omega,by omega,λm H1 s1 m1 m2=>?_];let mo:=kA_ W.Gd m1;obtain rfl:=kF_ m1 m2;have pp:0<md hs a b * (x_ hs ts+1):=Int.mul_pos Z1 Z1
 have pl:md hs a b * (x_ hs ts+1)<1073741824:=by
  have:=Int.mul_le_mul jo.2 (show x_ hs ts+1<=9 by omega) Z1 (by decide);omega
 apply#[_,_,Z,Z,_,_,Z,Z,.inl #[by omega,by omega],?_];lk;apply#[_,Z,v,dx,_,Z,s1 _ _ h1,no Z0 Z0 Z0 Z0,_,Z,_,Z,v,g,p,a,b,hs,ts,qs,fp,f,Z,S.same s1,W,ha,hb,_,Z,_,_,Z,Z,#[pp,pl],?_];lk;apply#[zl,λlm nm=>?_];lk;let#[s2,e2]:=aN (o:=.lst []) nm;let Dt:=s1.free nm;generalize upd H1 lm (.lst [])=H2 at s2 e2 ⊢;let ni:=s1.trans s2;let hl:=h6 a ha;let l63:=T6 W a;apply#[_,Z,v,CS,dx,_,_,Z,ni _ _ h1,TS.cl,TS.nP,E6 _ _ _ _,_,Z,dp,_,Z,Co (ni _ _ h5) ha,ad a,Z,#[_,.of (ni _ _ hl)],k8 (K:=K) (a:=ad a) (xs:=(fF qs f a).map V.str) (λi σ H'=>∃(v7 v8:aV) (left:Int) (ys:aj) (ns:ae),σ=[some (.ref v),some (.str a),some (.str b),some (.ref lg),some (.int (md hs a b * (x_ hs ts+1))),some (.int left),some (.ref lm),v7,v8]/\aa H H'/\H' lm\.lst ys/\bF K H' ys ((ns.map (to3 a b)).map kM)/\ns.length<=i/\ns++wR (vP qs) (jt hs ts qs gv a b) left ((fF qs f a).drop i)=Ja hs ts qs f gv a b) #[none,none,_,[],[],Z,ni,e2,.nil,bj _,Z] (λi σ H' _ ⟨_,_,_,_,_,_,sm,_⟩=>.of (sm _ _ hl)) ?_ ?_]
 ·rintro i x σ H' hx ⟨v7,v8,left,ys,ns,rfl,sm,uP,tu,ln,eq⟩;let#[n,hn,rfl]:=kZ hx;have hi:i<(fF qs f a).length:=(dj.mp hn).1;let#[MD,fn]:=KI (dD hn);let#[q,hq,rfl]:=bD.mp MD;let G':=G.same sm;let jT:=sm _ _ h1;let#[G6,Vu,Vq,yq,fpw',TY,g2',_]:=id G'.ex;have Nm:(bJ p Vu Vq).lookup ("weight":Str)=none:=qS _ _ _ Z0 Z0 Z0;have NF:(bJ p Vu Vq).lookup ("may_go":Str)=none:=qS _ _ _ Z0 Z0 Z0;let ew:=M3 W.nd hq;let ey:=R_ W.nd hq;rw[TV hn,wR] at eq;let ly:=bS tu;rw[aB,aB] at ly
  have go:∀{H2:Hp} {v8:aV},aa H' H2->(jt hs ts qs gv a b q.1&&decide (vP qs q.1<=left))=false->∃(v7 Xh:aV) (ze:Int) (ys:aj) (ns:ae),[some (V.ref v),some (.str a),some (.str b),some (.ref lg),some (.int (md hs a b * (x_ hs ts+1))),some (.int left),some (.ref lm),some (.str q.1),v8]=[some (V.ref v),some (.str a),some (.str b),some (.ref lg),some (.int (md hs a b * (x_ hs ts+1))),some (.int ze),some (.ref lm),v7,Xh]/\aa H H2/\H2 lm\.lst ys/\bF K H2 ys ((ns.map (to3 a b)).map kM)/\ns.length<=i+1/\ns++wR (vP qs) (jt hs ts qs gv a b) ze ((fF qs f a).drop (i+1))=Ja hs ts qs f gv a b:=λ{H2 v8} s2 e=>by
   rw[e,aC (by decide)] at eq;exact#[_,_,_,ys,ns,Z,sm.trans s2,s2 _ _ uP,tu.same s2,by omega,eq]
  lk;apply#[_,Z,v,CS,dx,_,_,Z,jT,TS.cl,TS.nW,gR _ _ _ _,g,G6,_,Z,TY,Nm,_,Z,g,p,.str q.1,some q.1,hs,ts,qs,fp,Z,G',W.nd,Z,.inl #[q,hq,Z,?_]];lk;apply#[_,Z,_,Z,q.1,gv,Z,#[lg,_,Z,.of (sm _ _ hg),Hr gv],_,Z,?_];apply aO (λc=>?_) (λc=>?_)
  ·have c:¬q.1∈gv:=⇑c
   apply#[_,Z,_,Z,_,_,Z,Z,_,Z,?_];apply aO (λc2=>?_) (λc2=>?_)
   ·have c2:q.2.1<=left:=⇑c2
    apply#[_,Z,v,CS,dx,_,_,Z,jT,TS.cl,TS.nW,gR _ _ _ _,g,G6,_,Z,TY,NF,_,Z,_,Z,_,Z,g,p,.str q.1,.str a,.str b,some q.1,some a,some b,hs,ts,qs,fp,Z,G',W.nd,W.Gd.ux,Z,.inl #[q,hq,Z,Z,Z,λH3 s3=>#[_,Z,?_]]];apply aO (λc3=>?_) (λc3=>?_)
    ·have pt:(jt hs ts qs gv a b q.1&&decide (vP qs q.1<=left))=true:=by
      unfold jt qB;rw[ew,ey,cc c2,dc c];simpa using c3
     rw[aJ pt,ew] at eq;apply#[_,Z,.inl #[Z,_,.of (s3 _ _ uP)],_,Z,_,Z,_,Z,zl,λt nt=>?_];let#[s4,e4]:=aN (o:=.tup [.str q.1,.str a,.str b]) nt;generalize upd H3 t (.tup [.str q.1,.str a,.str b])=H4 at s4 e4 ⊢;let q_:=s3.trans s4;let Gp:=q_ _ _ uP;apply#[lm,_,_,Z,Z,Gp,by omega,?_];dsimp only;apply#[_,Z,_,Z,_,_,Z,Z,?_];lk;apply#[_,_,_,ys++[.ref t],ns++[q.1],Z,λb' o e=>?_,az,?_,?_,?_]
     ·rw[aF (bU e Dt)];exact q_ _ _ (sm _ _ e)
     ·rw[eK,eK];exact qT (K1 (tu.same q_) e4) Gp
     ·rw[fZ];show ns.length+1<=i+1;omega
     rw[List.append_assoc];exact eq
    apply go s3 ?_;unfold jt qB;have c3:DR hs ts q.2.2 (some a) (some b)=false:=⇑c3
    rw[ey,c3,Bool.and_false,Bool.false_and]
   apply go (aa.refl H') ?_;have c2:¬q.2.1<=left:=⇑c2
   rw[ew,dc c2,Bool.and_false]
  have c:q.1∈gv:=⇑c
  apply go (aa.refl H') ?_;unfold jt;rw[cc c];rfl
 rintro σ H' ⟨v7,v8,left,ys,ns,rfl,sm,uP,tu,ln,eq⟩;rw[aB,List.drop_length,wR,wC] at eq;apply#[_,Z,k lm ys H' sm Dt uP ?_];unfold yK;rw[<- eq];exact tu
end
end Ev
namespace Ev
open PySem L2
def vt(hs:Xa)(ts:Xb)(qs:aH)(f:aq)(h:Str):iO->ae->iO
 |ms,[]=>ms
 |ms,o::l=>if 0<pY hs qs f h o then vt hs ts qs f h (ms++yK hs ts qs f (ms.map (·.1)) h o) l else vt hs ts qs f h ms l
def Hq(hs:Xa)(ts:Xb)(qs:aH)(f:aq)(h:Str):iO:=vt hs ts qs f h [] (nb hs ts h)
def Eg:Ac:=λ_ hs ts qs f h=>Hq hs ts qs f h
theorem OU{hs:Xa}{ts:Xb}{qs:aH}{f:aq}(W:Wd hs ts qs f){h:Str}:∀(l:ae) (ms:iO),(vt hs ts qs f h ms l).length<=ms.length+63 * l.length
 |[],ms=>bj _
 |o::l,ms=>by
  rw[vt,j3];split
  ·let h1:=OU W (h:=h) l (ms++yK hs ts qs f (ms.map (·.1)) h o);let h2:=SI W (ms.map (·.1)) h o;rw[fZ] at h1;omega
  let h1:=OU W (h:=h) l ms;omega
theorem g2_(r:Rl)(hs:Xa)(ts:Xb)(qs:aH)(f:aq)(h:Str)(W:Wd hs ts qs f):(Eg r hs ts qs f h).length<=1000:=by
 unfold Eg Hq;let h1:=OU W (h:=h) (nb hs ts h) [];let h3:=D8 hs ts h;let h4:=W.Gd.fQ;let h5:=W.Gd.h8;rw[rX] at h1;omega
section v
theorem Lc:bq ["sight","hand","moves","other","given"] ["sight","hand"] (aL Qr):=bE
inductive O8 (K:af) (CS CG CW:Addr) (vs:aj) (H:Hp) (Q:VK) (E:XK):Prop
 |mk:∀(v g p:Addr) (h:Str) (hs:Xa) (ts:Xb) (qs:aH) (fp:ai) (f:aq),vs=[.ref v,.str h]->jg K CS CG CW H v g p hs ts qs fp f->Wd hs ts qs f->h∈aE hs->(∀l ys H',aa H H'->H l=none->H' l\.lst ys->bF K H' ys ((Hq hs ts qs f h).map kM)->Q (.ref l) H')->O8 K CS CG CW vs H Q E
theorem eN_{f0 CS CG CW:Addr}{fd:Ae}(F:a_ K "moves_by_shares" "moves_by_shares" Qr f0 fd)(TS:gB K CS)(TG:c_ K CG)(TW:Txt K mg CW)(cN:!bf CW 2 "neighbours" jZ (KG K CW))(cL:!bf CS 3 "lead" lZ (Ee K CS CG CW))(cH:!bx 4 "share_moves" ["sight","one","other","given"] (sN K CS CG CW)):!ag bc 5 f0 fd ["sight","hand"] (O8 K CS CG CW):=by
 exists F.bH Lc;let#[v,g,p,h,hs,ts,qs,fp,f,rfl,S,W,hh,k]:=h;let sz:=cm;have uL:aK 2 _:=hr.mono (by decide);have qG:aK 3 _:=hr.mono (by decide);refine' #[_,ay ?s1 (ay ?s2 (aI ?s3)),?kk]
 case s1=>exact bw 2 Lc.nd (dC bo)
 case' s2=>refine' f_ ie Z (fB (eL cN TW.cl uL (cZ (cZ (pv 0) Z) Z) %[1|0])) (dR 3 Lc.nd) (aI (bA ?t1 (ay ?b1 (aI ?b2)) bB))
 case t1=>exact di DS (eL cL TS.cl qG (pv 0) %[1,3|0]) aM
 case b1=>exact Ks (i:=4) ["move"] 1 [] Lc.nd Z (Or.inl Z) (fB (pv 2)) (λfp s H=>gM (i:=0) (show (["move"]:ae).Nodup by decide +kernel) Z (Or.inl Z)) (λfp s H=>k7) (λfp s H=>bP (FZ (K:=K) qu eQ) (pv 0) aM)
 case b2=>exact p_ (vk oo PySem.F.slot_list_extend PySem.F.type_list_extend Ih (pv 2) %[bt cH hr %[0,1,3,4|0]|0])
 case s3=>exact bg (pv 2)
 have n8:(aE hs).length<=8:=by have:=W.Gd.fQ;have:=W.Gd.h8;omega
 apply#[zl,λlm nm=>?_];lk;let#[s1,e1]:=aN (o:=.lst []) nm;generalize upd H lm (.lst [])=H1 at s1 e1 ⊢;let#[dx,dl,dv,dp,ad,h1,G,h3,h4,h5,h6]:=(S.same s1).ex;let#[iZ,dw,dy,vs,bI,g1,g2,_]:=id G.ex;let#[eI,d1,l2,d3,jq,as,ef,w1,_]:=id g2.ex;have gq:(bZ d1 l2 d3).lookup ("neighbours":Str)=none:=iP _ _ _ Z0 Z0 Z0;apply#[_,Z,v,CS,dx,_,_,Z,h1,TS.cl,TS.nW,gR _ _ _ _,g,CG,iZ,_,_,Z,g1,TG.cl,TG.nW,j1 _ _ _,p,eI,_,Z,w1,gq,_,Z,p,h,hs,ts,bI,Z,g2,W.Gd.ux,(jm hs).mem_iff.mp hh,λl1 n1=>?_];let#[s2,e2]:=aN (o:=.lst ((nb hs ts h).map V.str)) n1;have Jn:lm≠l1:=bU e1 n1;let ni:=s1.trans s2;generalize upd H1 l1 (.lst ((nb hs ts h).map V.str))=H2 at s2 e2 ni ⊢;have F1:∀x∈nb hs ts h,x∈aE hs:=λx hx=>DQ hx
 have ll:(nb hs ts h).length<=8:=by
  have:=D8 hs ts h;omega
 apply#[l1,Z,#[_,.of e2],k8 (K:=K) (a:=l1) (xs:=(nb hs ts h).map V.str) (λi σ H'=>∃(v3 v4:aV) (ys:aj) (ms:iO),σ=[some (.ref v),some (.str h),some (.ref lm),v3,v4]/\aa H H'/\H' l1\.lst ((nb hs ts h).map V.str)/\H' lm\.lst ys/\bF K H' ys (ms.map kM)/\ms.length<=63 * i/\vt hs ts qs f h ms ((nb hs ts h).drop i)=Hq hs ts qs f h) #[none,none,[],[],Z,ni,e2,s2 _ _ e1,.nil,bj _,Z] (λi σ H' _ ⟨_,_,_,_,_,_,z,_⟩=>.of z) ?_ ?_]
 ·rintro i x σ H3 hx ⟨v3,v4,ys,ms,rfl,E4,l3,m3,t3,MN,eq3⟩;let#[o,ho,rfl]:=kZ hx;have hi:i<(nb hs ts h).length:=(dj.mp ho).1;let om:=F1 o (dD ho);rw[TV ho] at eq3;let S3:=S.same E4;let#[O4,_,_,_,_,k1,_]:=S3.ex;let ly:=bS t3;rw[aB] at ly;lk;apply#[_,Z,v,O4,_,Z,k1,DM _ _ _ _ Z0 Z0 Z0 Z0,_,Z,_,Z,v,g,p,h,o,hs,ts,qs,fp,f,Z,S3,W,hh,om,_,_,Z,Z,_,Z,?_];apply aO (λc=>?_) (λc=>?_)
  ·have c:0<pY hs qs f h o:=⇑c
   have eq3:vt hs ts qs f h (ms++yK hs ts qs f (ms.map (·.1)) h o) ((nb hs ts h).drop (i+1))=Hq hs ts qs f h:=by
    rw[vt,aJ c] at eq3;exact eq3
   apply#[_,Z,lm,Z,#[_,.of m3],λD hD=>?_];apply qa (own:=1) (fv:=[]) (xs:=ys) Z fU (λj out H'=>aa H3 H'/\H' D\.lst out/\out=((ms.map (·.1)).take j).map V.str) #[aa.new hD,az,Z] (λj out H' _ ⟨sm,_⟩=>.of (sm _ _ m3)) (λout H4 ⟨s4,d4,eo⟩=>?_) (λj x out H' hx ⟨sm,hd,eo⟩=>?_);rotate_left
   ·let#[q,hq,a,rfl,ha]:=wG t3 hx;have hj:j<ms.length:=(dj.mp hq).1;apply#[_,Z,Z,λNx hN=>fg ?_];apply#[_,Z,a,_,0,.str q.1,Z,Z,.of (sm _ _ ha),L2.qM (j:=0) Z,out,hd,?_,hN (out++[.str q.1]) _ #[j2 sm hD,az,?_]]
    ·rw[eo,aB,fA];omega
    rw[eo,j0 (show (ms.map (·.1))[j]? = some q.1 by rw[dQ,hq];rfl),eK];rfl
   rw[ly,Ey (by rw[aB];exact bj _)] at eo;subst eo;lk;let m4:=s4 _ _ m3;apply#[_,Z,.inl #[Z,_,.of m4],?_];apply#[_,Z,_,Z,_,Z,_,Z,v,g,p,D,h,o,ms.map (·.1),hs,ts,qs,fp,f,Z,S3.same s4,W,hh,om,d4,λl5 zs H5 s5 n5 e5 t5=>?_];let vS:=s4.trans s5;let m5:=vS _ _ m3;let lz:=bS t5;let hl:=SI W (ms.map (·.1)) h o;rw[aB] at lz;apply#[lm,l5,ys,zs,Z,Z,m5,e5,by omega,?_];apply#[_,_,ys++zs,ms++yK hs ts qs f (ms.map (·.1)) h o,Z,λb u e=>?_,?_,az,?_,?_,eq3]
   ·rw[aF (bU e nm)];exact vS _ _ (E4 _ _ e)
   ·rw[aF Jn.symm];exact vS _ _ l3
   ·rw[eK];exact qb (qT (t3.same vS) m5) (qT t5 m5)
   rw[fZ];omega
  have c:¬0<pY hs qs f h o:=⇑c
  apply#[_,_,ys,ms,Z,E4,l3,m3,t3,by omega,?_];rw[vt,aC c] at eq3;exact eq3
 rintro σ H3 ⟨v3,v4,ys,ms,rfl,E4,l3,m3,t3,MN,eq3⟩;rw[aB,List.drop_length] at eq3;apply#[_,Z,k lm ys H3 E4 nm m3 ?_];rw[<- eq3];exact t3
theorem fU_{f0 CS CG CW T:Addr}{fd:Ae}(F:a_ K "moves_from" "moves_from" HE f0 fd)(cL:!bx 5 "moves_by_shares" ["sight","hand"] (O8 K CS CG CW)):!ag bc 6 f0 fd wj (wB K CS CG CW T (λr=>r.2.1="shares") Eg):=by
 exists F.bH O6;let#[v,g,p,aw,h,hs,ts,qs,fp,f,r,eC,rfl,le,ha,S,W,hh,tab,k]:=h;refine' #[_,ay ?s0 (ay ?s1 (aI ?s2)),?kk]
 case s0=>exact bA (di i4 (bP eQ (pv 2) aM) bM) d0 bB
 case s1=>exact bA (di i4 (bP eQ (pv 2) aM) bM) d0 bB
 case s2=>exact bg (bt cL hr %[0,1|0])
 have ln:¬r.2.1="least":=by rw[le];decide +kernel
 have lb:¬r.2.1="below":=by rw[le];decide +kernel
 apply#[_,Z,aw,_,_,_,Z,Z,ha _,Z,Z,_,Z,?_];rw[rW,dc ln];apply aR ?_;apply#[_,Z,aw,_,_,_,Z,Z,ha _,Z,Z,_,Z,?_];rw[rW,dc lb];apply aR ?_;exact#[_,Z,_,Z,v,g,p,h,hs,ts,qs,fp,f,Z,S,W,hh,λl ys H' b n e tu=>k l ys H' (bb.of b) (tab.same b) n e tu]
end
end Ev
namespace Ev
open PySem L2
def hit(t u:Str × Str):Bool:=(decide (u.1=t.1) || decide (u.2=t.1)) || (decide (u.1=t.2) || decide (u.2=t.2))
def fV(rs:List Xb)(t:Str × Str):Nat:=rs.findIdx λr=>!r.any (hit t)
def yd(K:af)(H:Hp)(l:Addr)(as:ai)(rs:List Xb):Prop:=H l=some (.lst (as.map V.ref))/\Paired (λa r=>∃zs,H a\.lst zs/\bF K H zs (r.map kT)) as rs
theorem yd.same{K:af}{H H':Hp}{l:Addr}{as:ai}{rs:List Xb}(h:yd K H l as rs)(s:aa H H'):yd K H' l as rs:=#[s _ _ h.1,Paired.bC h.2 λa r ⟨zs,e,t⟩=>#[zs,s _ _ e,t.same s]]
section v
theorem tj:bq ["rows","tie","place","row"] ["rows","tie"] (aL QB):=bE
inductive sP (K:af) (vs:aj) (H:Hp) (Q:VK) (E:XK):Prop
 |mk:∀(l t:Addr) (as:ai) (rs:List Xb) (tt:Str × Str),vs=[.ref l,.ref t]->yd K H l as rs->H t\.tup ((kT tt).map kV)->(∀r∈rs,r.length<=1000)->(∀H',aa H H'->Q (.int (fV rs tt)) H')->sP K vs H Q E
theorem _k{f:Addr}{fd:Ae}(F:a_ K "first_row_without" "first_row_without" QB f fd)(B:Bi mg):!ag bc 1 f fd ["rows","tie"] (sP K):=by
 exists F.bH tj;let#[l,t,as,rs,tt,rfl,R,ht,zw,k]:=h;let sz:=cm
 apply#[_,ay (f_ ie Z (_V (by rfl) B.enum %[0|0]) (rQ Z (fo (dR 2 tj.nd) (fo (dR 3 tj.nd) oy)))
   (aI (bA (eJ (eB (cb (iy_ Z) (by rfl) B.any PyProof.Rows.Boot.«any» (hZ
    (p9 ["there","tie"] 1 [1] (fB (pv 3)) (λfp s H=>gM (i:=0) (show (["there","tie"]:ae).Nodup by decide +kernel) Z (Or.inl Z)) (λfp s H=>k7)
     (λfp s H=>RZ (qP (Ml (K:=K) (λK=>Jg K false) UO) (bP (FZ (K:=K) qu eQ) (pv 1) aM) (pv 0) (by with_unfolding_all rfl)) (oi (qP (Ml (K:=K) (λK=>Jg K false) UO) (bP (FZ (K:=K) qu eQ) (pv 1) aM) (pv 0) (by with_unfolding_all rfl))))) bo)))) (aI (bg (pv 2))) bB)))
  (aI (bg (cb qR (by rfl) B.len kX %[0|0]))),?_]
 let la:=bS R.2;apply#[_,Z,l,Z,#[_,.of R.1],jE_ (K:=K) (a:=l) (xs:=as.map V.ref) (λi σ H2=>∃(v2 v3:aV),σ=[some (.ref l),some (.ref t),v2,v3]/\aa H H2/\∀r∈rs.take i,r.any (hit tt)=true) #[none,none,Z,aa.refl H,by simp] (λi σ H2 _ ⟨_,_,_,s2,_⟩=>.of (s2 _ _ R.1)) ?_ ?_]
 ·rintro i x σ H2 hx ⟨v2,v3,rfl,s2,past⟩ u hu
  have hi:i<as.length:=by
   have:=(dj.mp hx).1;rwa [aB] at this
  have ex:x=.ref as[i]:=by
   rw[dQ,dE hi] at hx;exact (dG hx).symm
  subst ex;have JC:i<rs.length:=by omega
  let#[zs,SL,tz]:=jN R.2 i hi JC;have s3:aa H (upd H2 u (.tup [.int i,.ref as[i]])):=s2.trans (aa.new hu);have Np:upd H2 u (.tup [.int i,.ref as[i]]) u\.tup [.int i,.ref as[i]]:=az;generalize upd H2 u (.tup [.int i,.ref as[i]])=H3 at s3 Np ⊢;apply#[u,_,Z,.of Np,Z,_,_,Z,_,_,Z,Z,?_];apply#[_,Z,as[i],Z,#[_,.of (s3 _ _ SL)],λD hD=>?_];let lz:=bS tz;rw[aB] at lz;let lr:=zw rs[i] (oH JC);apply qa (own:=1) (fv:=[some (.ref t)]) (xs:=zs) Z fU (λj out H'=>aa H3 H'/\H' D\.lst out/\out=((rs[i].take j).map (hit tt)).map V.bl) #[aa.new hD,az,Z] (λj out H' _ ⟨sm,_,_⟩=>.of (sm _ _ (s3 _ _ SL))) (λout H4 ⟨s4,zv,eo⟩=>?_) (λj y out H' hy ⟨sm,gr,eo⟩=>?_)
  ·rw[lz,fX] at eo;subst eo;apply#[D,rs[i].map (hit tt),Z,.of zv,#[_,Z,?_]];have GX:(rs[i].map (hit tt)).any id=rs[i].any (hit tt):=by rw[List.any_map];rfl
   apply aO (λc=>?_) (λc=>?_)
   ·have c:rs[i].any (hit tt)=false:=by
     have:(!(rs[i].map (hit tt)).any id)=true:=c;rw[GX] at this;simpa using this
    have e:fV rs tt=i:=by
     unfold fV;rw[List.findIdx_eq JC];apply#[by rw[c];rfl,λj hj=>?_];have:=past (rs[j]' Z1) (List.mem_iff_getElem?.mpr #[j,by rw[List.getElem?_take_of_lt hj,dE Z1]]);rw[this];rfl
    apply#[_,Z,?_];have:=k H4 (s3.trans s4);rw[e] at this;exact this
   have c:rs[i].any (hit tt)=true:=by
    have:¬(!(rs[i].map (hit tt)).any id)=true:=c;rw[GX] at this;simpa using this
   apply#[_,_,Z,s3.trans s4,λr hr=>?_];rw[k_,dE JC] at hr;rcases gY.mp hr with hr|hr
   ·exact past r hr
   obtain rfl:r=rs[i]:=⇑hr
   exact c
  let#[q,hq,a,rfl,ha]:=wG tz hy;let B1:=sm _ _ (s3 _ _ (BE ha));let Ga:=sm _ _ (s3 _ _ (BE ht))
  have lo:out.length<sizeLine:=by
   rw[eo,aB,aB,fA];omega
  apply#[_,Z,Z,λNx hN=>fg ?_];have nx:Nx (upd H' D (.lst (out++[.bl (hit tt q)]))):=hN _ _ #[j2 sm hD,az,by rw[Ex _ hq,eK,eo];rfl];apply#[_,Z,t,_,_,_,Z,Z,.of Ga,Z,_,Z,a,_,Z,.inr (.of B1),Z,Z,_,Z,?_];apply aO (λc=>?_) (λc=>?_)
  ·have c:(decide (q.1=tt.1) || decide (q.2=tt.1))=true:=by rw[<- Nk];exact c
   apply#[out,gr,lo,?_];rwa [show hit tt q=true by unfold hit;rw[c];rfl] at nx
  have c:(decide (q.1=tt.1) || decide (q.2=tt.1))=false:=by
   rw[<- Nk];simpa using c
  apply#[_,Z,t,_,_,_,Z,Z,.of Ga,Z,_,Z,a,_,Z,.inr (.of B1),Z,Z,out,gr,lo,?_];rw[show hit tt q=F2 (.str tt.2) [.str q.1,.str q.2] by unfold hit;rw[c,Bool.false_or,Nk]] at nx;exact nx
 rintro σ H2 ⟨v2,v3,rfl,s2,past⟩;rw[aB,la,fX] at past;apply#[_,Z,l,_,Z,.inl (.of (s2 _ _ R.1)),?_]
 have e:fV rs tt=rs.length:=by
  unfold fV;rw[List.findIdx_eq_length];intro r hr;rw[past r hr];rfl
 have:=k H2 s2;rw[e] at this;rw[aB,la];exact this
end
end Ev
namespace Ev
open PySem L2
abbrev mI:Stmt:=jV ju 8
theorem Qi{α β:Type}{F:α->β->Prop}:∀{l:List α} {m:List β},l.length=m.length->(∀(i:Nat) (h1:i<l.length) (h2:i<m.length),F l[i] m[i])->Paired F l m
 |[],[],_,_=>.nil
 |[],_::_,h,_=>by cases h
 |_::_,[],h,_=>by cases h
 |a::l,b::m,h,f=>.cons (f 0 Z2 Z2) (Qi ⇑h λi h1 h2=>f (i+1) ⇑h1 ⇑h2)
def jH(rs:List Xb)(t:Str × Str):List Xb:=if h:fV rs t<rs.length then rs.set (fV rs t) (rs[fV rs t]++[t]) else rs++[[t]]
def turnsOf(ts:Xb):List Xb:=ts.foldl jH []
theorem jc_(rs:List Xb)(t:Str × Str):fV rs t<=rs.length:=List.findIdx_le_length
theorem PV(rs:List Xb)(t:Str × Str):(jH rs t).length<=rs.length+1:=by
 unfold jH;split
 ·rw[List.length_set];omega
 rw[fZ];exact bj _
theorem P7{rs:List Xb}{t:Str × Str}{n:Nat}(h:∀r∈rs,r.length<=n):∀r∈jH rs t,r.length<=n+1:=by
 unfold jH;intro r hr;split at hr
 ·rename_i dX
  rcases List.mem_or_eq_of_mem_set hr with m|rfl
  ·have:=h r m;omega
  have:=h rs[fV rs t] (oH dX);rw[fZ];show rs[fV rs t].length+1<=n+1;omega
 rcases gY.mp hr with m|m
 ·have:=h r m;omega
 obtain rfl:r=[t]:=⇑m
 simp
theorem yd.add{K:af}{H H':Hp}{l a:Addr}{as:ai}{rs:List Xb}{t:Str × Str}{zs:aj}(h:yd K H l as rs)(nd:as.Nodup){p:Nat}(hp:p<rs.length)(ha:as[p]? = some a)(hl:H' l\.lst (as.map V.ref))(hz:H' a\.lst zs)(tz:bF K H' zs ((rs[p]++[t]).map kT))
  (k:∀b o,H b\o->b≠l->b≠a->H' b\o) (hla:∀b∈as,b≠l) (kt:∀b xs,H b\.tup xs->H' b\.tup xs):yd K H' l as (rs.set p (rs[p]++[t])):=by
 let la:=bS h.2;apply#[hl,Qi (by rw[List.length_set,la]) λi h1 h2=>?_];rw[List.length_set] at h2;let#[DB,ea]:=dj.mp ha;by_cases e:p=i
 ·subst e;rw[List.getElem_set_self,ea];exact#[zs,hz,tz]
 rw[List.getElem_set_ne e];let#[ED,e2,t2]:=jN h.2 i h1 h2;have ne:as[i]≠a:=λq=>e ((List.getElem_inj nd).mp (ea.trans q.symm));exact#[ED,k _ _ e2 (hla _ (oH h1)) ne,Paired.bC t2 λy q ⟨c,z,e⟩=>#[c,z,kt _ _ e]]
theorem fc_{α β:Type}{F:α->β->Prop}{l:List α}{m:List β}{a:α}{b:β}(h:Paired F l m)(f:F a b):Paired F (l++[a]) (m++[b]):=Paired.snoc h f
section v
theorem KO:bq ["self","rows","tie","place"] gW (aL mI):=bE
inductive Km (K:af) (C:Addr) (vs:aj) (H:Hp) (Q:VK) (E:XK):Prop
 |mk:∀(p:Addr) (hs:Xa) (ts:Xb) (fp:ai),vs=[.ref p]->ft K C H p hs ts fp->ts.length<64->(∀(l:Addr) (as:ai) (H':Hp),aa H H'->H l=none->(∀a∈as,H a=none)->(∀a∈as,a≠l)->as.Nodup->yd K H' l as (turnsOf (aZ ts))->Q (.ref l) H')->Km K C vs H Q E
theorem iz_{f C:Addr}{fd:Ae}(F:a_ K "turns" "Web.turns" mI f fd)(B:Bi mg)(T:Txt K mg C)(cT:!bf C 2 "ties" gW (OW K C))(cR:!bx 1 "first_row_without" ["rows","tie"] (sP K)):!ag bc 3 f fd gW (Km K C):=by
 exists F.bH KO;let#[p,hs,ts,fp,rfl,W,bY,k]:=h;let sz:=cm;let#[dx,d1,l2,d3,jq,Wq,efp,h1,_]:=id W.ex;have Y1:(bZ d1 l2 d3).lookup ("ties":Str)=none:=iP _ _ _ Z0 Z0 Z0
 apply#[_,ay (bw 1 KO.nd (dC bo))
  (ay (f_ ie Z (fB (wx cT T.cl hr (pv 0))) (dR 2 KO.nd)
   (ay (bw 3 KO.nd (bt cR hr %[1,2|0]))
   (ay (bA (di i4 (pv 3) (cb qR (by rfl) B.len kX %[1|0]))
    (aI (p_ (vk oo Ct Cu zR (pv 1) %[dC bo|0]))) bB)
   (aI (p_ (vk oo Ct Cu zR (bP gN (pv 1) (pv 3)) %[2|0]))))))
  (aI (bg (pv 1)))),?_]
 apply#[zl,λlr NI=>?_];have s0:aa H (upd H lr (.lst [])):=aa.new NI;have xD:upd H lr (.lst []) lr\.lst []:=az;generalize upd H lr (.lst [])=H0 at s0 xD ⊢;apply#[_,Z,p,dx,_,Z,s0 _ _ h1,Y1,p,hs,ts,fp,Z,W.same s0,bY,λlt zs H1 s1 dX Gj tz=>?_];have Du:lt≠lr:=(bU xD dX).symm;let lz:=bS tz;rw[aB,Ib] at lz;let ZG:=Ib ts
 apply#[lt,Z,#[_,.of Gj],k8 (K:=K) (a:=lt) (xs:=zs) (λi σ H2=>∃(v2 v3:aV) (as:ai),σ=[some (.ref p),some (.ref lr),v2,v3]/\bb lr H1 H2/\(∀a∈as,H1 a=none/\a≠lr)/\as.Nodup/\yd K H2 lr as (turnsOf ((aZ ts).take i))/\(turnsOf ((aZ ts).take i)).length<=i/\∀r∈turnsOf ((aZ ts).take i),r.length<=i)
  #[none,none,[],Z,bb.refl _ _,by simp,.nil,#[s1 _ _ xD,.nil],bj _,by intro r hr;simp[turnsOf] at hr] (λi σ H2 _ ⟨_,_,_,_,b,_⟩=>.of (b _ _ Gj Du)) ?_ ?_]
 ·rintro i y σ H2 hy ⟨v2,v3,as,rfl,b2,fa,nd,R,l1,Dz⟩;let#[t,ht,a,rfl,ha]:=wG tz hy;have hi:i<(aZ ts).length:=(dj.mp ht).1;let NH:=s1 _ _ xD;have Za:a≠lr:=cj ha NH nofun;let zu:=b2 _ _ ha Za;let la:=bS R.2
  have Cb:turnsOf ((aZ ts).take (i+1))=jH (turnsOf ((aZ ts).take i)) t:=by
   unfold turnsOf;rw[k_,ht,List.foldl_append];rfl
  generalize turnsOf ((aZ ts).take i)=rs at R l1 Dz la Cb;apply#[_,Z,_,Z,lr,a,as,rs,t,Z,R,zu,λr hr=>by have:=Dz r hr;omega,λH3 s3=>?_];let R3:=R.same s3;let gU:=s3 _ _ zu;have b3:bb lr H1 H3:=b2.trans (bb.of s3);have f3:∀a∈as,H1 a=none/\a≠lr:=fa;apply#[_,Z,_,Z,lr,_,Z,.inl (.of R3.1),Z,_,Z,?_];apply aO (λc=>?_) (λc=>?_)
  ·have c:fV rs t=rs.length:=by
    have:V.int (fV rs t)=V.int ((as.map V.ref).length:Nat):=⇑c
    rw[aB,la] at this;have:=V.int.inj this;omega
   apply#[_,Z,.inl #[Z,_,.of R3.1],zl,λln vX=>?_];let#[s4,NJ]:=aN (o:=.lst []) vX;have Jk:ln≠lr:=(bU R3.1 vX).symm;apply#[lr,_,_,Z,Z,s4 _ _ R3.1,by rw[aB];omega,?_]
   have fln:H1 ln=none:=by
    cases z:H1 ln with
    |none=>rfl
    |some o=>
     have:=b3 _ _ z Jk;rw[vX] at this;cases this
   have y_:ln∉as:=λm=>by
    let#[j,hj,e]:=rZ m;let#[zz,e2,_]:=jN R3.2 j hj Z1;rw[e,vX] at e2;cases e2
   have Q3:oC (as.map V.ref++[V.ref ln]) (fV rs t:Int)\.ref ln:=by
    rw[qM Z1 (by rw[fZ,aB];show ((fV rs t:Nat):Int)<((as.length+1:Nat):Int);omega),wF,c,De (by rw[aB];omega),aB,la,Nat.sub_self];rfl
   have BN:upd (upd H3 ln (.lst [])) lr (.lst (as.map V.ref++[.ref ln])) lr\.lst (as.map V.ref++[.ref ln]):=az;have BO:upd (upd H3 ln (.lst [])) lr (.lst (as.map V.ref++[.ref ln])) ln\.lst []:=by rw[aF Jk];exact NJ
   have k5:∀{b o},H3 b\o->b≠lr->upd (upd H3 ln (.lst [])) lr (.lst (as.map V.ref++[.ref ln])) b\o:=λe ne=>by rw[aF ne];exact s4 _ _ e
   generalize upd (upd H3 ln (.lst [])) lr (.lst (as.map V.ref++[.ref ln]))=H5 at BN BO k5 ⊢;apply#[_,Z,_,Z,lr,_,_,_,Z,Z,.of BN,Q3,.inl #[Z,_,.of BO],_,Z,ln,_,_,Z,Z,BO,by show 0<sizeLine;decide,?_];have k6:∀{b o},H3 b\o->b≠lr->upd H5 ln (.lst ([]++[.ref a])) b\o:=λe ne=>by rw[aF (bU e vX)];exact k5 e ne
   have Gn:upd H5 ln (.lst ([]++[.ref a])) ln\.lst [.ref a]:=az;have Gk:upd H5 ln (.lst ([]++[.ref a])) lr\.lst (as.map V.ref++[.ref ln]):=by rw[aF Jk.symm];exact BN
   generalize upd H5 ln (.lst ([]++[.ref a]))=H6 at k6 Gn Gk ⊢;have kt:∀b xs,H3 b\.tup xs->H6 b\.tup xs:=λb xs e=>k6 e (cj e R3.1 nofun)
   have ep:jH rs t=rs++[[t]]:=by
    unfold jH;rw[dif_neg Z1]
   apply#[_,_,as++[ln],Z,λb o e ne=>k6 (b3 _ _ e ne) ne,λx hx=>?_,?_,?_,?_,?_]
   ·rcases gY.mp hx with m|m
    ·exact fa x m
    obtain rfl:x=ln:=⇑m
    exact#[fln,Jk]
   ·rw[List.nodup_append]
    exact#[nd,by simp,λx hx z hz=>by
     obtain rfl:z=ln:=⇑hz
     exact λq=>y_ (q▸hx)]
   ·rw[Cb,ep];apply#[by rw[eK];exact Gk,fc_ (Qi la λj h1 h2=>?_) #[_,Gn,.cons #[a,Z,kt _ _ gU] .nil]];let#[zz,e,tt]:=jN R3.2 j h1 h2;exact#[zz,k6 e (fa _ (oH h1)).2,Paired.bC tt λy q ⟨c,z,e⟩=>#[c,z,kt _ _ e]]
   ·rw[Cb];have:=PV rs t;omega
   rw[Cb];exact P7 Dz
  have c:fV rs t<rs.length:=by
   let h1:=jc_ rs t
   have:¬fV rs t=rs.length:=λe=>c (by
    rw[aB,la,e];simp)
   omega
  have DB:fV rs t<as.length:=by omega
  have nl:as[fV rs t]≠lr:=(fa _ (oH DB)).2;let#[zz,ez,Ro]:=jN R3.2 (fV rs t) DB c;let Zx:=bS Ro;rw[aB] at Zx;let ZH:=Dz _ (oH c)
  have Q3:oC (as.map V.ref) (fV rs t:Int)\.ref as[fV rs t]:=by
   rw[qM Z1 (by rw[aB];omega),wF,dQ,dE DB];rfl
  apply#[_,Z,_,Z,lr,_,_,_,Z,Z,.of R3.1,Q3,.inl #[Z,_,.of ez],_,Z,_,_,_,Z,Z,ez,by omega,?_];have k6:∀{b o},H3 b\o->b≠as[fV rs t]->upd H3 as[fV rs t] (.lst (zz++[.ref a])) b\o:=λe ne=>by rw[aF ne];exact e
  have h6:upd H3 as[fV rs t] (.lst (zz++[.ref a])) as[fV rs t]\.lst (zz++[.ref a]):=az;generalize upd H3 as[fV rs t] (.lst (zz++[.ref a]))=H6 at k6 h6 ⊢;have kt:∀b xs,H3 b\.tup xs->H6 b\.tup xs:=λb xs e=>k6 e (cj e ez nofun)
  have ep:jH rs t=rs.set (fV rs t) (rs[fV rs t]++[t]):=by
   unfold jH;rw[dif_pos c]
  apply#[_,_,as,Z,λb o e ne=>k6 (b3 _ _ e ne) (bU e (fa _ (oH DB)).1),fa,nd,?_,?_,?_]
  ·rw[Cb,ep];apply R3.add nd c (dE DB) (k6 R3.1 nl.symm) h6 ?_ (λb o e _ ne=>k6 e ne) (λb hb=>(fa b hb).2) kt;rw[eK];exact K1 (Paired.bC Ro λy q ⟨c,z,e⟩=>#[c,z,kt _ _ e]) (kt _ _ gU)
  ·rw[Cb];have:=PV rs t;omega
  rw[Cb];exact P7 Dz
 rintro σ H2 ⟨v2,v3,as,rfl,b2,fa,nd,R,_,_⟩;rw[lz,<- ZG,fX] at R;have s2:aa H H2:=λb o e=>b2 _ _ (s1 _ _ (s0 _ _ e)) (bU e NI);exact#[_,Z,k lr as H2 s2 NI (λa ha=>(s0.trans s1).free (fa a ha).1) (λa ha=>(fa a ha).2) nd R]
end
end Ev
namespace L2
open PySem PyProof.Rows
section
variable{X:Cx}
inductive ug (K:af) (x:V) (y:V) (H:Hp) (Q:VK):Prop
 |mk:∀a b xs,x=.ref a->y=.ref b->dH K H a xs->dH K H b []->Q (.bl xs.isEmpty) H->ug K x y H Q
theorem iI_(hu:X.A.units+0+1<cLine):eW X (compareOp .Eq) (ug X.K):=by
 intro pins s σ H x y v u Q I rx ry h;let#[a,b,xs,rfl,rfl,t,t',hq]:=h;cases xs with
 |nil=>exact Si i0 hu pins s σ H (.ref a) (.ref b) v u Q I rx ry #[[],[],#[a,[],Z,t,.nil],#[b,[],Z,t',.nil],hq]
 |cons z zs=>
  cases rx;cases ry;let#[us,r,pl,_]:=I.list t;let#[vs,r',ui,_]:=I.list t';let l1:=r.length;let l2:=r'.length;exact SeqAt.eq_list_lengthsAt pl.isList ui.isList (by simp only[cn,bne_iff_ne];simp at l1 l2;omega) Z1 #[.bl false,H,I,Z,hq]
end
end L2
namespace Ev
open PySem L2
def oh(ts:Xb)(m:Int):Xb:=((turnsOf (aZ ts))[(m % ((turnsOf (aZ ts)).length:Int)).toNat]?).getD []
def Ef(hs:Xa)(ts:Xb)(qs:aH)(f:aq)(gd:Str)(t:Str × Str):iO:=nF hs ts qs f gd [] t.1 t.2++nF hs ts qs f gd [] t.2 t.1
def KL(hs:Xa)(ts:Xb)(qs:aH)(f:aq)(gd:Str)(m:Int):iO:=(oh ts m).flatMap (Ef hs ts qs f gd)
theorem gf_{rs:List Xb}{t u:Str × Str}{r:Xb}(hr:r∈jH rs t)(hu:u∈r):u=t∨∃r'∈rs,u∈r':=by
 unfold jH at hr;split at hr
 ·rename_i dX
  rcases List.mem_or_eq_of_mem_set hr with m|rfl
  ·exact .inr #[r,m,hu]
  rcases gY.mp hu with h|h
  ·exact .inr #[_,oH dX,h]
  exact .inl ⇑h
 rcases gY.mp hr with m|m
 ·exact .inr #[r,m,hu]
 obtain rfl:r=[t]:=⇑m
 exact .inl ⇑hu
theorem UY{u:Str × Str}:∀(ts:Xb) (rs:List Xb) {r:Xb},r∈ts.foldl jH rs->u∈r->u∈ts∨∃r'∈rs,u∈r'
 |[],rs,r,hr,hu=>.inr #[r,hr,hu]
 |t::ts,rs,r,hr,hu=>by
  rw[List.foldl_cons] at hr;rcases UY ts (jH rs t) hr hu with h|⟨r',h1,h2⟩
  ·exact .inl (dZ _ h)
  rcases gf_ h1 h2 with rfl|h
  ·exact .inl eZ
  exact .inr h
theorem UD:∀(ts:Xb) (rs:List Xb),(ts.foldl jH rs).length<=rs.length+ts.length
 |[],rs=>bj _
 |t::ts,rs=>by
  rw[List.foldl_cons,j3];let h1:=UD ts (jH rs t);let h2:=PV rs t;omega
theorem UM{n:Nat}:∀(ts:Xb) (rs:List Xb),(∀r∈rs,r.length<=n)->∀r∈ts.foldl jH rs,r.length<=n+ts.length
 |[],rs,h,r,hr=>h r hr
 |t::ts,rs,h,r,hr=>by
  rw[List.foldl_cons] at hr;have:=UM (n:=n+1) ts (jH rs t) (P7 h) r hr;rw[j3];omega
theorem Vx{ts:Xb}{m:Int}{u:Str × Str}(h:u∈oh ts m):u∈aZ ts:=by
 unfold oh at h;cases e:(turnsOf (aZ ts))[(m % ((turnsOf (aZ ts)).length:Int)).toNat]? with
 |none=>rw[e] at h;cases h
 |some r=>
  rw[e] at h;rcases UY (aZ ts) [] (dD e) h with z|⟨_,z,_⟩
  ·exact z
  cases z
theorem ff_{hs:Xa}{ts:Xb}(G:Good hs ts)(m:Int):(oh ts m).length<64:=by
 unfold oh;cases e:(turnsOf (aZ ts))[(m % ((turnsOf (aZ ts)).length:Int)).toNat]? with
 |none=>show 0<64;decide
 |some r=>
  have:=UM (n:=0) (aZ ts) [] Z2 r (dD e);rw[Ib] at this;have:=G.yF;show r.length<64;omega
theorem T7{hs:Xa}{ts:Xb}(G:Good hs ts){u:Str × Str}(h:u∈aZ ts):u.1∈aE hs/\u.2∈aE hs:=by
 have k:kT u∈(aZ ts).map kT:=bD.mpr #[u,h,Z];rw[La,(oE _).mem_iff] at k;let#[t,ht,e]:=bD.mp k;let e:=JY e;let#[h1,h2]:=G.IR t ht;let n1:=(jm hs).mem_iff.mpr h1;let n2:=(jm hs).mem_iff.mpr h2;rw[<- e];unfold aX;split
 ·exact#[n1,n2]
 exact#[n2,n1]
theorem T5{α β:Type}{g:α->List β}{n:Nat}(h:∀x,(g x).length<=n):∀l:List α,(l.flatMap g).length<=n * l.length
 |[]=>hG _
 |a::l=>by
  let h1:=h a;let h2:=T5 h l;rw[List.flatMap_cons,fZ,j3,Nat.mul_succ];omega
theorem g7_(hs:Xa)(ts:Xb)(qs:aH)(f:aq)(gd:Str)(t:Str × Str):(Ef hs ts qs f gd t).length<=2:=by
 unfold Ef;rw[fZ];let h1:=C0 hs ts qs f gd [] t.1 t.2;let h2:=C0 hs ts qs f gd [] t.2 t.1;omega
section v
theorem Ip:bq ["sight","guard","moment","rows","moves","one","other"] ["sight","guard","moment"] (aL O5):=bE
inductive QP (K:af) (CS CG CW:Addr) (vs:aj) (H:Hp) (Q:VK) (E:XK):Prop
 |mk:∀(v g p:Addr) (gd:Str) (m:Int) (hs:Xa) (ts:Xb) (qs:aH) (fp:ai) (f:aq),vs=[.ref v,.str gd,.int m]->0<=m->jg K CS CG CW H v g p hs ts qs fp f->Wd hs ts qs f->(∀l ys H',aa H H'->H l=none->H' l\.lst ys->bF K H' ys ((KL hs ts qs f gd m).map kM)->Q (.ref l) H')->QP K CS CG CW vs H Q E
theorem g5_{f0 CS CG CW:Addr}{fd:Ae}(F:a_ K "moves_by_turns" "moves_by_turns" O5 f0 fd)(B:Bi mg)(TS:gB K CS)(TG:c_ K CG)(TW:Txt K mg CW)(cT:!bf CW 3 "turns" gW (Km K CW))(cH:!bx 4 "heaviest_move" lE (j_ K CS CG CW)):!ag bc 5 f0 fd ["sight","guard","moment"] (QP K CS CG CW):=by
 exists F.bH Ip;let#[v,g,p,gd,m,hs,ts,qs,fp,f,rfl,m0,S,W,k]:=h;let sz:=cm;have qG:aK 3 _:=hr.mono (by decide);refine' #[_,?r0,?kk]
 case' r0=>refine' ay ?s1 ?r1
 case' r1=>refine' ay ?s2 ?r2
 case' r2=>refine' ay ?s3 (ay ?s4 (aI ?s5))
 case s1=>exact bw 3 Ip.nd (wx cT TW.cl qG (cZ (cZ (pv 0) Z) Z))
 case s2=>exact bA (di (iI_ (ow hr 0)) (pv 3) (dC bo)) (aI (bg (dC bo))) bB
 case s3=>exact bw 4 Ip.nd (dC bo)
 case' s4=>refine' f_ ie Z (fB (bP gN (pv 3) (b_ wA (pv 2) (cb qR (by rfl) B.len kX %[3|0])))) (rQ Z (fo (dR 5 Ip.nd) (fo (dR 6 Ip.nd) oy))) (ay ?b1 (aI ?b2))
 case b1=>exact p_ (vk oo PySem.F.slot_list_extend PySem.F.type_list_extend Ih (pv 4) %[bt cH hr %[0,5,6,1,dC bo|0]|0])
 case b2=>exact p_ (vk oo PySem.F.slot_list_extend PySem.F.type_list_extend Ih (pv 4) %[bt cH hr %[0,6,5,1,dC bo|0]|0])
 case s5=>exact bg (pv 4)
 let#[dx,dl,dv,dp,ad,h1,G,h3,h4,h5,h6]:=S.ex;let#[iZ,dw,dy,vs,bI,g1,g2,_]:=id G.ex;let#[eI,d1,l2,d3,jq,Wq,ef,w1,_]:=id g2.ex;have gq:(bZ d1 l2 d3).lookup ("turns":Str)=none:=iP _ _ _ Z0 Z0 Z0;apply#[_,Z,v,CS,dx,_,_,Z,h1,TS.cl,TS.nW,gR _ _ _ _,g,CG,iZ,_,_,Z,g1,TG.cl,TG.nW,j1 _ _ _,p,eI,_,Z,w1,gq,p,hs,ts,bI,Z,g2,W.Gd.yF,λlr as H1 s1 nr _ _ _ R=>?_];lk;let la:=bS R.2;apply#[_,Z,zl,λle ne=>?_];let#[yQ,e2]:=aN (o:=.lst []) ne;generalize upd H1 le (.lst [])=H2 at yQ e2 ⊢;let s2:=s1.trans yQ;let R2:=R.same yQ;apply#[lr,le,_,Z,Z,.of R2.1,.of e2,_,Z,?_];apply aO (λc=>?_) (λc=>?_)
 ·have z:as=[]:=⇑c
  have z:turnsOf (aZ ts)=[]:=by
   rw[z] at la;exact List.length_eq_zero_iff.mp la.symm
  apply#[zl,λl nl=>?_];apply k l [] _ (s2.trans (aa.new nl)) (s2.free nl) az ?_;unfold KL oh;rw[z];exact .nil
 have z:as≠[]:=⇑c
 have pos:0<as.length:=List.length_pos_iff.mpr z;apply#[zl,λlm nm=>?_];lk;let#[A8,e3]:=aN (o:=.lst []) nm;generalize upd H2 lm (.lst [])=H3 at A8 e3 ⊢;let s3:=s2.trans A8;have Dt:H lm=none:=s2.free nm;let R3:=R2.same A8
 have lt:(m % ((turnsOf (aZ ts)).length:Int)).toNat<as.length:=by
  let h1:=z_ m (show ((as.length:Nat):Int)≠0 by omega);let h2:=Df m (show 0<((as.length:Nat):Int) by omega);rw[<- la];omega
 have lt':(m % ((turnsOf (aZ ts)).length:Int)).toNat<(turnsOf (aZ ts)).length:=by omega
 let#[zs,hz,tz]:=jN R2.2 _ lt lt'
 have er:oh ts m=(turnsOf (aZ ts))[(m % ((turnsOf (aZ ts)).length:Int)).toNat]:=by
  unfold oh;rw[dE lt'];rfl
 rw[<- er] at tz;let ZT:=ff_ W.Gd m;have Yk:∀u∈oh ts m,u.1∈aE hs/\u.2∈aE hs:=λu hu=>T7 W.Gd (Vx hu);let h0:=z_ m (show (((turnsOf (aZ ts)).length:Nat):Int)≠0 by omega)
 have ix:oC (as.map V.ref) (m % ((as.map V.ref).length:Int))\.ref (as[(m % ((turnsOf (aZ ts)).length:Int)).toNat]):=by
  rw[aB,la,qM h0 (by rw[aB];omega),dQ,dE lt];rfl
 generalize as[(m % ((turnsOf (aZ ts)).length:Int)).toNat]=ar at hz ix;let lz:=bS tz;rw[aB] at lz;have Q4:ar≠lm:=bU hz nm;replace hz:=A8 _ _ hz;replace tz:=tz.same A8;apply#[_,Z,_,Z,_,Z,lr,_,Z,.inl (.of R3.1),_,_,Z,Z,by rw[aB];omega,lr,_,_,_,Z,Z,.of R3.1,ix,ar,Z,#[_,.of hz],k8 (K:=K) (a:=ar) (xs:=zs) (λi σ H'=>∃(v5 v6:aV) (ys:aj),σ=[some (.ref v),some (.str gd),some (.int m),some (.ref lr),some (.ref lm),v5,v6]/\aa H H'/\bb lm H3 H'/\H' lm\.lst ys/\bF K H' ys ((((oh ts m).take i).flatMap (Ef hs ts qs f gd)).map kM)) #[none,none,[],Z,s3,bb.refl _ _,e3,.nil] (λi σ H' _ ⟨_,_,_,_,_,b,_⟩=>.of (b _ _ hz Q4)) ?_ ?_]
 ·rintro i x σ H4 hx ⟨v5,v6,ys,rfl,s4,b4,m4,t4⟩;let#[u,hu,a,rfl,ha]:=wG tz hx;have hi:i<(oh ts m).length:=(dj.mp hu).1;let#[n1,n2]:=Yk u (dD hu);have ha4:H4 a\.tup [.str u.1,.str u.2]:=b4 _ _ ha (cj ha e3 nofun);apply#[a,_,Z,.of ha4,Z,_,_,Z,_,_,Z,Z,?_];dsimp only;let ly:=bS t4;rw[aB] at ly;let bl:=T5 (g7_ hs ts qs f gd) ((oh ts m).take i);rw[fA] at bl;let l1:=C0 hs ts qs f gd [] u.1 u.2;let Dz:=C0 hs ts qs f gd [] u.2 u.1;apply#[_,Z,.inl #[Z,_,.of m4],_,Z,_,Z,_,Z,_,Z,zl,λlg ng=>?_];let#[Mc,e5]:=aN (o:=.lst []) ng;generalize upd H4 lg (.lst [])=H5 at Mc e5 ⊢;apply#[v,g,p,lg,u.1,u.2,gd,[],hs,ts,qs,fp,f,Z,S.same (s4.trans Mc),W,n1,n2,e5,λl6 z6 H6 Ff n6 e6 t6=>?_];let yP:=Mc.trans Ff;let m6:=yP _ _ m4;let ZA:=bS t6;rw[aB] at ZA;apply#[lm,l6,ys,z6,Z,Z,m6,e6,by omega,?_];have s7:aa H (upd H6 lm (.lst (ys++z6))):=j2 (s4.trans yP) Dt;have b7:bb lm H3 (upd H6 lm (.lst (ys++z6))):=λb o e n=>by rw[aF n];exact yP _ _ (b4 _ _ e n)
  have e7:upd H6 lm (.lst (ys++z6)) lm\.lst (ys++z6):=az
  have t7:bF K (upd H6 lm (.lst (ys++z6))) (ys++z6) ((((oh ts m).take i).flatMap (Ef hs ts qs f gd)++nF hs ts qs f gd [] u.1 u.2).map kM):=by
   rw[eK];exact qb (qT (t4.same yP) m6) (qT t6 m6)
  generalize upd H6 lm (.lst (ys++z6))=H7 at s7 b7 e7 t7 ⊢;dsimp only;apply#[_,Z,.inl #[Z,_,.of e7],_,Z,_,Z,_,Z,_,Z,zl,λR8 Y7=>?_];let#[Mb,e8]:=aN (o:=.lst []) Y7;generalize upd H7 R8 (.lst [])=H8 at Mb e8 ⊢;apply#[v,g,p,R8,u.2,u.1,gd,[],hs,ts,qs,fp,f,Z,S.same (s7.trans Mb),W,n2,n1,e8,λl9 z9 H9 Yi n9 e9 t9=>?_];let Jc:=Mb.trans Yi;let m9:=Jc _ _ e7;let Zz:=bS t9;have ly7:(ys++z6).length=ys.length+z6.length:=fZ;rw[aB] at Zz;apply#[lm,l9,ys++z6,z9,Z,Z,m9,e9,by omega,?_];apply#[_,_,(ys++z6)++z9,Z,j2 (s7.trans Jc) Dt,λb o e n=>by rw[aF n];exact Jc _ _ (b7 _ _ e n),az,?_];rw[show (oh ts m).take (i+1)=(oh ts m).take i++[u] by rw[k_,hu];rfl,List.flatMap_append,List.flatMap_cons,List.flatMap_nil,wC];unfold Ef;rw[<- List.append_assoc,eK];exact qb (qT (t7.same Jc) m9) (qT t9 m9)
 rintro σ H4 ⟨v5,v6,ys,rfl,s4,b4,m4,t4⟩;rw[lz,fX] at t4;exact#[_,Z,k lm ys H4 s4 Dt m4 t4]
theorem o9:bq ["sight","rule","moment","words","moves","hand"] xY (aL kg):=bE
inductive OC (K:af) (CS CG CW:Addr) (vs:aj) (H:Hp) (Q:VK) (E:XK):Prop
 |mk:∀(v g p:Addr) (m:Int) (gd:Str) (hs:Xa) (ts:Xb) (qs:aH) (fp:ai) (f:aq),∀r∈rl,vs=[.ref v,.str r.1,.int m]->r.2.1="turns"->r.2.2.2\gd->0<=m->jg K CS CG CW H v g p hs ts qs fp f->Wd hs ts qs f->(∀l ys H',aa H H'->H l=none->H' l\.lst ys->bF K H' ys ((KL hs ts qs f gd m).map kM)->Q (.ref l) H')->OC K CS CG CW vs H Q E
theorem jt_{f0 CS CG CW:Addr}{fd:Ae}(F:a_ K "moves_seen" "moves_seen" kg f0 fd)(HB:!bx 2 we ["rule"] (HQ K))(cT:!bx 5 "moves_by_turns" ["sight","guard","moment"] (QP K CS CG CW)):!ag bc 6 f0 fd xY (OC K CS CG CW):=by
 exists F.bH o9;let#[v,g,p,m,gd,hs,ts,qs,fp,f,r,eC,rfl,le,eg,m0,S,W,k]:=h;refine' #[_,ay ?s1 (ay ?s2 d0),?kk]
 case s1=>exact Sz (i:=3) o9.nd Z (Or.inl Z) (bt HB hr %[1|0])
 case s2=>exact bA (di i4 (bP eQ (pv 3) aM) bM) (aI (bg (bt cT hr %[0,bP eQ (pv 3) aM,2|0]))) bB
 apply#[_,Z,r,eC,Z,λaw ha=>?_];lk;apply#[_,Z,aw,_,_,_,Z,Z,ha _,Z,Z,_,Z,?_];rw[rW,cc le];apply bK ?_;apply#[_,Z,_,Z,aw,_,_,.str gd,Z,Z,ha _,?_,_,Z,v,g,p,gd,m,hs,ts,qs,fp,f,Z,m0,S,W,k];rw[eg];rfl
end
end Ev
namespace Ev
open PySem L2
theorem ag.two{P:Ad}{w:Af}{K:af}{mg:Str->Option Aa}{base:Heap}{CX:i_}{k:Nat}{f:Addr}{fd:Ae}{ps:ae}{sp RA LU:Sp}(F:!ag CX k f fd ps RA)(G:!ag CX k f fd ps LU)(h:∀vs H Q E,sp vs H Q E->RA vs H Q E∨LU vs H Q E):!ag CX k f fd ps sp:=
 #[λvs H Q E q=>(h vs H Q E q).elim (F.len vs H Q E) (G.len vs H Q E),λA outer s H args us vs Q E hr e b v q=>(h vs H Q E q).elim (F.run A outer s H args us vs Q E hr e b v) (G.run A outer s H args us vs Q E hr e b v)]
def vy:Ac:=λr hs ts qs f h=>if r.2.1="least" then zJ r hs ts qs f h else if r.2.1="below" then CD r hs ts qs f h else Eg r hs ts qs f h
theorem kI_:∀r∈rl,r.2.1≠"turns"->r.2.1≠"least"->r.2.1≠"below"->r.2.1="shares":=by decide +kernel
theorem j0_:∀r∈rl,r.2.1="turns"->r.2.2.2.isSome=true:=by decide +kernel
theorem i8_{r:Rl}(h:r.2.1="least")(hs:Xa)(ts:Xb)(qs:aH)(f:aq)(x:Str):vy r hs ts qs f x=zJ r hs ts qs f x:=aJ h
theorem gK_{r:Rl}(h:r.2.1="below")(hs:Xa)(ts:Xb)(qs:aH)(f:aq)(x:Str):vy r hs ts qs f x=CD r hs ts qs f x:=(aC (by rw[h];decide +kernel)).trans (aJ h)
theorem gv_{r:Rl}(h:r.2.1="shares")(hs:Xa)(ts:Xb)(qs:aH)(f:aq)(x:Str):vy r hs ts qs f x=Eg r hs ts qs f x:=(aC (by rw[h];decide +kernel)).trans (aC (by rw[h];decide +kernel))
def xt(r:Rl)(hs:Xa)(ts:Xb)(qs:aH)(f:aq)(m:Int):iO:=if r.2.1="turns" then KL hs ts qs f (r.2.2.2.getD "") m else Hc vy r hs ts qs f
def pX(r:Rl)(ts:Xb):Nat:=if r.2.1="turns" then max 1 (turnsOf (aZ ts)).length else 1
def Cg(r:Rl)(hs:Xa)(ts:Xb)(qs:aH)(f:aq):Bool:=(List.range (pX r ts)).all λm=>(xt r hs ts qs f m).isEmpty
def BT(T1 T2:Addr)(H H':Hp):Prop:=∀b o,H b\o->b≠T1->b≠T2->H' b\o
theorem BT.of{T1 T2:Addr}{H H':Hp}(s:aa H H'):BT T1 T2 H H':=λb o e _ _=>s b o e
theorem BT.trans{T1 T2:Addr}{H H1 H2:Hp}(a:BT T1 T2 H H1)(b:BT T1 T2 H1 H2):BT T1 T2 H H2:=λc o e n1 n2=>b c o (a c o e n1 n2) n1 n2
theorem BT.nt{T1 T2:Addr}{H H':Hp}(a:BT T1 T2 H H')(tb:Tb H T1 T2):NT H H':=λb o e n=>by
 let#[v1,h1]:=g_ tb.a;let#[v2,h2]:=g_ tb.b;exact a b o e (λz=>n v1 (by rw[z,h1] at e;exact (dG e).symm)) (λz=>n v2 (by rw[z,h2] at e;exact (dG e).symm))
theorem BT.sec{T1 T2:Addr}{H H':Hp}(a:bb T2 H H'):BT T1 T2 H H':=λb o e _ n=>a b o e n
section
variable{P:Ad}{w:Af}{K:af}{mg:Str->Option Aa}{base:Heap}{CS CG CW T1 T2:Addr}
theorem g6_{f0:Addr}{fd:Ae}{T:Addr}(l:!ag bc 6 f0 fd wj (wB K CS CG CW T (λr=>r.2.1="least") zJ))(b:!ag bc 6 f0 fd wj (wB K CS CG CW T (λr=>r.2.1="below") CD))(s:!ag bc 6 f0 fd wj (wB K CS CG CW T (λr=>r.2.1="shares") Eg)):!ag bc 6 f0 fd wj (wB K CS CG CW T (λr=>r.2.1≠"turns") vy):=by
 apply ag.two l (LU:=wB K CS CG CW T (λr=>r.2.1≠"turns"/\r.2.1≠"least") vy) (ag.two b s λvs H Q E q=>?_) λvs H Q E q=>?_
 ·let#[v,g,p,aw,h,hs,ts,qs,fp,f,r,hr,e,#[n1,n2],ha,S,W,hh,tab,k]:=q;by_cases c:r.2.1="below"
  ·exact .inl #[v,g,p,aw,h,hs,ts,qs,fp,f,r,hr,e,c,ha,S,W,hh,tab,λl ys H' b t n e tu=>k l ys H' b t n e (by rw[gK_ c];exact tu)]
  let c:=kI_ r hr n1 n2 c;exact .inr #[v,g,p,aw,h,hs,ts,qs,fp,f,r,hr,e,c,ha,S,W,hh,tab,λl ys H' b t n e tu=>k l ys H' b t n e (by rw[gv_ c];exact tu)]
 let#[v,g,p,aw,h,hs,ts,qs,fp,f,r,hr,e,n1,ha,S,W,hh,tab,k]:=q;by_cases c:r.2.1="least"
 ·exact .inl #[v,g,p,aw,h,hs,ts,qs,fp,f,r,hr,e,c,ha,S,W,hh,tab,λl ys H' b t n e tu=>k l ys H' b t n e (by rw[i8_ c];exact tu)]
 exact .inr #[v,g,p,aw,h,hs,ts,qs,fp,f,r,hr,e,#[n1,c],ha,S,W,hh,tab,k]
inductive Kx (K:af) (CS CG CW T:Addr) (vs:aj) (H:Hp) (Q:VK) (E:XK):Prop
 |mk:∀(v g p:Addr) (m:Int) (hs:Xa) (ts:Xb) (qs:aH) (fp:ai) (f:aq),∀r∈rl,vs=[.ref v,.str r.1,.int m]->0<=m->jg K CS CG CW H v g p hs ts qs fp f->Wd hs ts qs f->bL H T kj->(∀l ys H',bb T H H'->bL H' T kj->H l=none->H' l\.lst ys->bF K H' ys ((xt r hs ts qs f m).map kM)->Q (.ref l) H')->Kx K CS CG CW T vs H Q E
theorem ip_{f0:Addr}{fd:Ae}{T:Addr}(a:!ag bc 7 f0 fd xY (mr K CS CG CW T (λr=>r.2.1≠"turns") vy))(t:!ag bc 6 f0 fd xY (OC K CS CG CW)):!ag bc 7 f0 fd xY (Kx K CS CG CW T):=by
 apply ag.two a (t.mono (by decide)) λvs H Q E q=>?_;let#[v,g,p,m,hs,ts,qs,fp,f,r,hr,e,m0,S,W,tab,k]:=q;by_cases c:r.2.1="turns"
 ·let#[gd,eg]:=vH.mp (j0_ r hr c);exact .inr #[v,g,p,m,gd,hs,ts,qs,fp,f,r,hr,e,c,eg,m0,S,W,λl ys H' s n e tu=>k l ys H' (bb.of s) (tab.same s) n e (by unfold xt;rw[aJ c,eg];exact tu)]
 exact .inl #[v,g,p,m,hs,ts,qs,fp,f,r,hr,e,c,S,W,tab,λl ys H' b t n e tu=>k l ys H' b t n e (by unfold xt;rw[aC c];exact tu)]
theorem s_:bq ["web","rule"] ["web","rule"] (aL OG):=bE
inductive KP (K:af) (C:Addr) (vs:aj) (H:Hp) (Q:VK) (E:XK):Prop
 |mk:∀(p:Addr) (hs:Xa) (ts:Xb) (fp:ai),∀r∈rl,vs=[.ref p,.str r.1]->ft K C H p hs ts fp->ts.length<64->(∀H',aa H H'->Q (.int (pX r ts)) H')->KP K C vs H Q E
theorem ig_{f C:Addr}{fd:Ae}(F:a_ K "rows_by" "rows_by" OG f fd)(B:Bi mg)(T:Txt K mg C)(cW:!bx 2 we ["rule"] (HQ K))(cT:!bf C 3 "turns" gW (Km K C)):!ag bc 4 f fd ["web","rule"] (KP K C):=by
 exists F.bH s_;let#[p,hs,ts,fp,r,eC,rfl,W,h1,k]:=h;refine' #[_,ay ?s1 (aI ?s2),?kk]
 case s1=>exact bA (di zC (bP eQ (bt cW hr %[1|0]) aM) bM) (aI (bg aM)) bB
 case s2=>exact bg (cb (in_ Z) (by rfl) B.max PyProof.Rows.Boot.«max» %[aM,cb qR (by rfl) B.len kX %[wx cT T.cl hr (pv 0)|0]|0])
 apply#[_,Z,r,eC,Z,λa ha=>?_];apply#[a,_,_,_,Z,Z,ha _,Z,Z,_,Z,?_];apply aO (λc=>?_) (λc=>?_)
 ·have c:¬r.2.1="turns":=by simpa [rW] using c
  have:=k H (aa.refl _);unfold pX at this;rw[aC c] at this;exact this
 have c:r.2.1="turns":=by simpa [rW] using c
 let#[eI,d1,l2,d3,jq,Wq,ef,w1,_]:=id W.ex;apply#[_,Z,p,eI,_,Z,w1,iP _ _ _ Z0 Z0 Z0,p,hs,ts,fp,Z,W,h1,λl as H' s _ _ _ _ R=>?_];apply#[l,_,Z,.inl (.of R.1),_,_,Z,?_];let la:=bS R.2;have:=k H' s;unfold pX at this;rw[aJ c,<- la] at this;rw[aB,show (if ((as.length:Nat):Int) > 1 then ((as.length:Nat):Int) else 1)=((max 1 as.length:Nat):Int) by split<;>omega]
 exact this
theorem Oy:bq ["goods","placed","rule","sight","moment"] ["goods","placed","rule"] (aL Pt):=bE
structure Q_ (K:af) (CG CW T1 T2:Addr) (H:Hp) (g p d:Addr) (hs:Xa) (ts:Xb) (qs:aH) (fp:ai) (f:aq):Prop where
 Pl:vA K CG CW H g p d hs ts qs fp f
 W:Wd hs ts qs f
 tb:Tb H T1 T2
 has:∀b∈fp,∃o,H b\o
inductive OX (K:af) (CG CW T1 T2:Addr) (vs:aj) (H:Hp) (Q:VK) (E:XK):Prop
 |mk:∀(g p d:Addr) (hs:Xa) (ts:Xb) (qs:aH) (fp:ai) (f:aq),∀r∈rl,vs=[.ref g,.ref d,.str r.1]->Q_ K CG CW T1 T2 H g p d hs ts qs fp f->(∀H',BT T1 T2 H H'->Tb H' T1 T2->Q (.bl (Cg r hs ts qs f)) H')->OX K CG CW T1 T2 vs H Q E
theorem jw_{f0:Addr}{fd:Ae}(F:a_ K "rests_at" "rests_at" Pt f0 fd)(B:Bi mg)(TG:c_ K CG)(Qy:!lL CS 7 "Sight" lA (KN K CS CG CW T1))(Ej:!bx 7 "moves_seen" xY (Kx K CS CG CW T2))(HI:!bx 4 "rows_by" ["web","rule"] (KP K CW)):!ag bc 9 f0 fd ["goods","placed","rule"] (OX K CG CW T1 T2):=by
 exists F.bH Oy;let#[g,p,d,hs,ts,qs,fp,f,r,eC,rfl,D,k]:=h;let sz:=cm;refine' #[_,ay ?s1 (ay ?s2 (aI (bg jU))),?kk]
 case s1=>exact bw 3 Oy.nd (Jt Qy hr %[0,1|0])
 case' s2=>refine' f_ ie Z (Iv (by rfl) B.range %[bt HI hr %[cZ (pv 0) Z,2|0]|0]) (dR 4 Oy.nd) (aI (bA ?e1 (aI (bg jU)) bB))
 case e1=>exact di (Uw (ow hr 0)) (bt Ej hr %[3,2,4|0]) (dC bo)
 apply#[_,Z,_,Z,λv dx hv vY ne=>?_];have s2:aa H (upd (upd H dx (.own v)) v (.ins CS dx [])):=(aa.new vY).trans (aa.new (by rw[aF ne.symm];exact hv));have e2:upd (upd H dx (.own v)) v (.ins CS dx []) v\.ins CS dx []:=az;generalize upd (upd H dx (.own v)) v (.ins CS dx [])=H2 at s2 e2 ⊢
 have Dn:v∉fp:=λhm=>by
  let#[o,e]:=D.has v hm;rw[e] at hv;cases hv
 have Ra:vA K CG CW H2 g p d hs ts qs fp f:=#[D.Pl.G.same s2,D.W.Gd,D.Pl.ic,s2 _ _ D.Pl.hd,D.W.at_,D.W.nd,D.W.bY];apply#[v,dx,g,p,d,hs,ts,qs,fp,f,Z,e2,Dn,Ra,D.W,D.tb.a.same s2,λH3 k3 gQ S3=>#[Z,?_]];lk;let#[Xy,JS]:=g_ D.tb.a;have Na:∀b o,H b\o->b≠T1->H3 b\o:=λb o e n=>k3 b o (s2 _ _ e) (bU e hv) n;have xp:NT H H3:=λb o e n=>Na b o e (λz=>by rw[z,JS] at e;exact n _ (dG e).symm)
 have j6:bL H3 T2 kj:=by
  let#[es,a1,a2]:=D.tb.b;exact#[es,Na _ _ a1 D.tb.ne.symm,λx hx=>xp _ _ (a2 x hx) nofun]
 let#[_,_,_,_,_,_,GA3,_]:=id S3.ex;let#[iZ,dw,dy,vs,bI,g1,g2,_]:=id GA3.ex
 have rn:pX r ts<=64:=by
  let tl:=UD (aZ ts) [];rw[Ib,rX] at tl;let yF:=D.W.Gd.yF
  have:(turnsOf (aZ ts)).length<=64:=by
   show ((aZ ts).foldl jH []).length<=64;omega
  unfold pX;split<;>omega
 apply#[_,Z,g,CG,iZ,_,_,Z,g1,TG.cl,TG.nW,j1 _ _ _,_,Z,p,hs,ts,bI,r,eC,Z,g2,D.W.Gd.yF,λH4 s4=>?_];apply#[((pX r ts:Nat):Int),Z,by omega,by omega,?_];have Wj:BT T1 T2 H H4:=λb o e n1 n2=>s4 _ _ (Na b o e n1);let S4:=S3.same s4;have iH:Tb H4 T1 T2:=#[gQ.same s4,j6.same s4,D.tb.ne];apply Iy (λi σ H'=>∃v4:aV,σ=[some (.ref g),some (.ref d),some (.str r.1),some (.ref v),v4]/\BT T1 T2 H4 H'/\Tb H' T1 T2/\∀j:Nat,j<i->(xt r hs ts qs f j).isEmpty=true) #[none,Z,BT.of (aa.refl _),iH,by omega] ?_ ?_
 ·rintro i σ H5 hi ⟨v4,rfl,FA,lP,em⟩;rw[wF] at hi;lk;let#[Rv,JR]:=g_ lP.b;apply#[_,Z,_,Z,_,Z,v,g,p,0+(i:Int),hs,ts,qs,fp,f,r,eC,Z,by omega,S4.nt (FA.nt iH),D.W,lP.b,λl ys H6 b6 An nl hl tu=>?_];have Ds:BT T1 T2 H5 H6:=BT.sec b6;apply#[zl,λle ne'=>?_];let s7:=aa.new (o:=.lst []) ne';have Rx:Tb (upd H6 le (.lst [])) T1 T2:=#[bL.same s7 (bL.but lP.a b6 #[_,JR] D.tb.ne),An.same s7,D.tb.ne];let ly:=bS tu;rw[aB,Int.zero_add] at ly;apply#[l,le,ys,Z,Z,.of (s7 _ _ hl),.of az,_,Z,?_];let RM:=(FA.trans Ds).trans (BT.of s7);apply aO (λc=>?_) (λc=>?_)
  ·have c:ys.isEmpty=false:=⇑c
   have hf:Cg r hs ts qs f=false:=by
    apply List.all_eq_false.mpr #[i,List.mem_range.mpr hi,?_];rw[List.isEmpty_eq_false_iff] at c;rw[List.isEmpty_iff];intro z;rw[z,rX] at ly;exact c (List.length_eq_zero_iff.mp ly)
   have:=k _ (Wj.trans RM) Rx;rw[hf] at this;exact this
  have c:ys.isEmpty=true:=⇑c
  apply#[_,Z,RM,Rx,λj hj=>?_];by_cases e:j=i
  ·rw[e,List.isEmpty_iff];rw[List.isEmpty_iff] at c;rw[c,rX] at ly;exact List.length_eq_zero_iff.mp ly.symm
  exact em j Z1
 rintro σ H5 ⟨v4,rfl,FA,lP,em⟩;rw[wF] at em;have ht:Cg r hs ts qs f=true:=List.all_eq_true.mpr λj hj=>em j (List.mem_range.mp hj);have:=k H5 (Wj.trans FA) lP;rw[ht] at this;exact this
end
end Ev
namespace L2
open PySem PySem.Spec PyProof.Rows PySem.W
section
variable{X:Cx}
theorem Vy{k:V}:∀{xs:aj} {us:ak},Vals xs us->xs.all jY=true->us.countP (nO k)=xs.countP λy=>iY y k
 |_,_,.nil,_=>rfl
 |y::xs,u::us,.cons r t,f=>by
  rw[List.all_cons,wD] at f;rw[List.countP_cons,List.countP_cons,Vy t f.2,JZ r f.1]
inductive OM (x:V) (vs:aj) (H:Hp) (Q:VK):Prop
 |mk:∀(l:Addr) (xs:aj) (k:V),x=.ref l->vs=[k]->H l\.lst xs->jY k=true->xs.all jY=true->Q (.int ((xs.countP λy=>iY y k:Nat):Int)) H->OM x vs H Q
theorem gD_:Lm X "list.count" OM:=by
 intro pins s σ H x vs v us Q I rx rv h;let#[l,xs,k,rfl,rfl,hH,fk,fx,q]:=h;cases rx;let#[u,rfl,ru]:=rv.one;let#[z,its,n,r,hl,e]:=I.ko hH;apply call_meets PySem.F.slot_list_count ⟨_,e,rfl⟩ PySem.F.entry_list_count (PySem.F.args_list_count_2 _ _) (SeqAt.list_countAt l its.toArray n none _ u (nO k)) ⟨e,λy hy=>Ic ru fk r fx y ⇑hy,?_⟩;rw[show its.toArray.toList=its from rfl,Vy r fx];exact⟨.int _,H,I.tok _,⟨_,rfl⟩,q⟩
theorem Oq:∀{xs:aj} {us:ak},Vals xs us->xs.all jY=true->∀(k:V) (j:Nat) (h:j<us.length),∃h2:j<xs.length,nO k us[j]=iY xs[j] k
 |_,_,.nil,_,k,j,h=>absurd h (Nat.not_lt_zero _)
 |y::xs,u::us,.cons r t,f,k,j,h=>by
  rw[List.all_cons,wD] at f;cases j with
  |zero=>exact#[Nat.zero_lt_succ _,JZ r f.1]
  |succ j=>
   let#[h2,e]:=Oq t f.2 k j (Nat.lt_of_succ_lt_succ h);exact#[Nat.succ_lt_succ h2,e]
inductive OZ (x:V) (vs:aj) (H:Hp) (Q:VK):Prop
 |mk:∀(l:Addr) (xs:aj) (k:V) (j:Nat),x=.ref l->vs=[k]->H l\.lst xs->jY k=true->xs.all jY=true->j<1000->(∃y,xs[j]? = some y/\iY y k=true)->(∀i y,i<j->xs[i]? = some y->iY y k=false)->Q (.int (j:Int)) H->OZ x vs H Q
theorem UG:Lm X "list.index" OZ:=by
 intro pins s σ H x vs v us Q I rx rv h;let#[l,xs,k,j,rfl,rfl,hH,fk,fx,hj,#[y,hy,ey],no,q]:=h;cases rx;let#[u,rfl,ru]:=rv.one;let#[z,its,n,r,hl,e]:=I.ko hH;let#[hjx,ejx]:=dj.mp hy;apply call_meets PySem.F.slot_list_index ⟨_,e,rfl⟩ PySem.F.entry_list_index (PySem.F.args_list_index_2 _ _) (SeqAt.list_indexAt l its.toArray n none _ u (nO k) j (by show j<its.length;omega) Z1 ?_ ?_) ⟨e,λy hy=>Ic ru fk r fx y ⇑hy,⟨.int _,H,I.tok _,⟨_,rfl⟩,q⟩⟩
 ·let#[h2,e2]:=Oq r fx k j Z1;show nO k its[j]=true;rw[e2,ejx];exact ey
 intro m hm lt;let#[h2,e2]:=Oq r fx k m ⇑hm;show nO k its[m]=false;rw[e2];exact no m _ lt (dE h2)
end
end L2
namespace L2
open PySem PySem.Spec PyProof.Rows PySem.W
theorem Um{X:Cx}{st:Stmt}{t:TS}(h:PS X st t):PS X st (λD σ H=>∃d kvs o,H d\.frz o (.dK kvs)/\(∀o u,X.iF d≠some (.frz o u))/\t D σ (upd H d (.dK kvs))):=by
 intro pins s σ H D I q;let#[d,kvs,o,hd,nf,q]:=q;exact h pins s σ _ D (I.iR hd nf) q
end L2
namespace L2
open PySem PySem.Spec PyProof.Rows
theorem bp.same{K:af}{H H':Hp}{v:V}{t:Aa}(s:aa H H')(h:bp K H v t):bp K H' v t:=by
 cases h with
 |non=>exact .non
 |bl x=>exact .bl x
 |int x=>exact .int x
 |str x=>exact .str x
 |flt x=>exact .flt x
 |lst e=>exact .lst (s _ _ e)
 |frz e=>exact .frz (s _ _ e)
 |tup e=>exact .tup (s _ _ e)
 |dK e=>exact .dK (s _ _ e)
 |dT e=>exact .dT (s _ _ e)
 |ins e a b c d f=>exact .ins (s _ _ e) a b c d f
end L2
namespace Ev
open PySem L2
structure i9 (P:Ad) (w:Af) (K:af) (mg:Str->Option Aa) (base:Heap) (k:Nat) (x:Str) (ps:ae) (sp:Sp):Prop where
 ex:∃f fd,ag P w K mg base (lM P w) k f fd ps sp/\mg x\.ref f/\PySem.W.keepIn K (.ref f)=true/\l8 K fd ps []
theorem M7{X:Cx}{E:XK}{k:Nat}{x:Str}{ps:ae}{sp:Sp}{p pos:Pos}{e:Expr}{es:List Expr}{t:TA}(c:i9 X.prog X.w X.K X.mg X.base k x ps sp)(hr:aK k X.A)(hx:jG (lM X.prog X.w) X E)(ha:PA X (e::es) t)(hg:Gl X x:=by rfl)(gT:(x == ("__debug__":Str))=false:=by decide)
  (he:starEach (e::es) X.env=(false,eval e X.env)::starEach es X.env:=by rfl) (fJ:(backTo pos (starEach es X.env)).any (·.1)=false:=by rfl):PE X (.Call (.Name x p) (e::es) [] pos) (Cc sp [] E t):=by
 let#[f,fd,F,m,kp,b]:=c.ex;exact OS F hr hg m kp b .nil hx ha gT he fJ
def jP(K:af)(H:Hp)(ns:ae)(v:V):Prop:=(∃x,v=.str x/\x∉ns)∨∃ty,bp K H v ty/\PySem.W.kitOne K ty (.type "str")\false
theorem jP.same{K:af}{H H':Hp}{ns:ae}{v:V}(s:aa H H')(h:jP K H ns v):jP K H' ns v:=h.imp id λ⟨ty,a,b⟩=>#[ty,a.same s,b]
def vK(K:af)(H:Hp)(v:V):Prop:=(∃b,v=.bl b)∨∃ty,bp K H v ty/\PySem.W.kitOne K ty (.type "int")\false
theorem F0{c A B:Prop}[Decidable c](hc:¬c)(h:A):if (!decide c)=true then A else B:=by
 rw[dc hc];exact bK h
def wg(K:af)(H:Hp)(hs:Xa)(qs:aH)(fp:ai)(v:V):Prop:=(∃t,bp K H v t/\PySem.W.kitOne K t (.type "dict")\false) ∨
 ∃(d:Addr) (ns:ae) (g:Str->V) (x:Str->Option Str),v=.ref d/\d∉fp/\H d\.dK (bO ns g)/\(∀n∈ns,fH K H (g n) (x n)/\g n≠.ref d)/\((∃n∈ns,n∉qs.map (·.1)∨nC (hs.map (·.1)) (x n)=false)∨ns.length≠qs.length)
theorem fH.same{K:af}{H H':Hp}{v:V}{x:Option Str}(h:fH K H v x)(s:∀{t},bp K H v t->bp K H' v t):fH K H' v x:=by
 cases x with
 |some x=>exact h
 |none=>
  let#[t,a,b]:=h;exact#[t,s a,b]
theorem Zk{K:af}{d:Addr}{o:Obj}{kvs:List (Key × V)}{H H':Hp}{v:V}{t:Aa}(f:Fz d o kvs H H')(hd:H d\.dK kvs)(h:bp K H v t)(n:v≠.ref d):bp K H' v t:=by
 cases h with
 |non=>exact .non
 |bl x=>exact .bl x
 |int x=>exact .int x
 |str x=>exact .str x
 |flt x=>exact .flt x
 |lst e=>exact .lst (f.sm _ _ (λz=>n (by rw[z])) e)
 |frz e=>exact .frz (f.sm _ _ (λz=>n (by rw[z])) e)
 |tup e=>exact .tup (f.sm _ _ (λz=>n (by rw[z])) e)
 |dK e=>exact .dK (f.sm _ _ (λz=>n (by rw[z])) e)
 |dT e=>exact .dT (f.sm _ _ (λz=>n (by rw[z])) e)
 |ins e a b c d' f'=>exact .ins (f.sm _ _ (λz=>n (by rw[z])) e) a b c d' f'
section v
def VP(K:af):Sp:=λvs H Q _=>∃v,vs=[v]/\jP K H du v/\Q (.bl false) H
theorem gA_{f d:Addr}{as:ai}{fd:Ae}(F:a_ K "is_rule" "is_rule" KM f fd)(B:Bi mg)(R:HF K w mg d as):!ag bc 1 f fd fu (VP K):=by
 exists F.bH U_;let#[v,rfl,n,k]:=h;apply#[_,aI (bg (oj (cb jn (by rfl) B.gm gA %[0,iQ (v:=.ty "str") (by rfl) B.str Ed Z|0]) (oi (D6 (Sw (pv 0) (rR (v:=.ref d) (by rfl) R.mg Z)))))),?_];rcases n with⟨x,rfl,hx⟩|⟨ty,h1,h2⟩
 ·apply#[_,Z,_,_,_,_,Z,.str x,Z,_,Z,bK #[_,Z,d,_,x,Z,R.kd,Z,?_]];rw[Qn R.len,dc hx];exact k
 exact#[_,Z,_,_,_,_,Z,h1,h2,_,Z,aR k]
def U8(K:af)(CR:Addr):Sp:=λvs H _ E=>∃v,vs=[v]/\jP K H du v/\E (.ref CR) none H
inductive VH (K:af) (CG CW CN:Addr) (vs:aj) (H:Hp) (E:XK):Prop
 |mk:∀(g p:Addr) (v:V) (hs:Xa) (ts:Xb) (qs:aH) (fp:ai),vs=[.ref g,v]->fN K CG CW H g p hs ts qs fp->wg K H hs qs fp v->(∀H',aa H H'->E (.ref CN) none H')->VH K CG CW CN vs H E
def VS(K:af)(CG CW CN:Addr):Sp:=λvs H _ E=>VH K CG CW CN vs H E
theorem ge_{f CG CW CN:Addr}{fd:Ae}(F:a_ K ya ya HD f fd)(B:Bi mg)(R:Ref K mg "NoStand" CN)(T:c_ K CG)(TW:Txt K mg CW)(cH:!bf CG 1 "has_piece" jX (CB K CG CW))(cW:!bf CW 1 "has_hand" jX (Hf K CW))(cN:!bf CG 1 "names" gW (K5 K CG CW)) :
  ag P w K mg base (fe P w) 2 f fd D5 (VS K CG CW CN):=by
 apply F.km vz λaD A outer s H vs Q E hr h own ps rs=>?_;let#[g,p,v,hs,ts,qs,fp,rfl,G,no,k]:=h;let hu:=gz hr;refine' #[_,?r0,?kk]
 case' r0=>refine' ay ?s1 ?r1
 case s1=>exact bA (eJ (eB (cb jn (by rfl) B.gm gA %[1,iQ (v:=.ty "dict") (by rfl) B.dict p7 Z|0]))) (aI (zP Z rs R.mg R.ex zL (by rfl) %[bM|0])) bB
 case' r1=>refine' ay ?s2 ?r2
 case' s2=>refine' Ov (f_ own Z ?i2 ?g2 ?b2)
 case i2=>exact Ig (CO (pv 1))
 case g2=>exact rQ Z (fo (dR 2 vz.nd) (fo (dR 3 vz.nd) oy))
 case b2=>exact ay (bA (eJ (eB (eL cH T.cl hr (pv 0) %[2|0]))) (aI (Um (zP Z rs R.mg R.ex zL (by rfl) %[bM|0]))) bB) (aI (bA (eJ (eB (eL cW TW.cl hr (cZ (pv 0) Z) %[3|0]))) (aI (Um (zP Z rs R.mg R.ex zL (by rfl) %[bM|0]))) bB))
 case' r2=>refine' ay ?s3 ?r3
 case s3=>exact bw 4 vz.nd (wx cN T.cl hr (pv 0))
 case' r3=>refine' ay ?s4 d0
 case s4=>exact bA (di zC (cb PF (by rfl) B.len kX %[1|0]) (cb qR (by rfl) B.len kX %[4|0])) (aI (zP Z rs R.mg R.ex zL (by rfl) %[bM|0])) bB
 have one:1<=sizeLine:=by decide
 rcases no with⟨t,ty,e⟩|⟨d,ns,gv,x,rfl,ic,hd,sv,bad⟩
 ·exact#[_,Z,_,_,_,_,Z,ty,e,_,Z,bK #[one,k H (aa.refl H)]]
 apply#[_,Z,_,_,_,_,Z,.dK hd,Z,_,Z,aR ?_];apply#[d,_,hd,?_];apply#[_,Z,d,_,Z,hd,λv hv=>?_];let#[s1,iJ]:=aN (o:=i5 v d) hv;let G1:=G.same s1;let gL:=s1 _ _ hd;generalize upd H v (i5 v d)=H1 at s1 iJ G1 gL ⊢;apply#[v,d,_,Z,iJ,gL,λo=>?_];apply K9 (λi σ H'=>∃(v2 v3:aV),σ=[some (.ref g),some (.ref d),v2,v3,none]/\Fz d o (bO ns gv) H1 H'/\∀n∈ns.take i,n∈qs.map (·.1)/\nC (hs.map (·.1)) (x n)=true) #[none,none,Z,Fz.start,by simp] (λi σ H' _ ⟨_,_,_,z,_⟩=>z.at_) ?_ ?_
 ·rintro i ky y σ H2 hx ⟨v2,v3,rfl,fz,ok⟩ t ht;let#[n,hn,rfl,rfl]:=GZ hx;let nm:=dD hn;let s2:=aa.new (o:=.tup [.str n,gv n]) ht;let lW:=fz.step s2;have e2:upd H2 t (.tup [.str n,gv n]) t\.tup [.str n,gv n]:=az;show iX _ _ _ _ _ (upd H2 t (.tup [.str n,gv n])) _;generalize upd H2 t (.tup [.str n,gv n])=H3 at s2 lW e2 ⊢;apply#[t,_,Z,.of e2,Z,_,_,Z,_,_,Z,Z,?_];let G3:=lW.uX gL G1 ic;let#[dx,dw,dy,vs,bI,h1,h2,h3,h4,h5,m1,m2,m3,m4,m5]:=id G3.ex;let#[eI,d1,l2,d3,jq,as,ef,w1,_]:=id h2.ex;have jB:(bJ p dw dy).lookup ("has_piece":Str)=none:=qS _ _ _ Z0 Z0 Z0;have gq:(bZ d1 l2 d3).lookup ("has_hand":Str)=none:=iP _ _ _ Z0 Z0 Z0;have nf:∀o u,H d≠some (.frz o u):=λo u z=>by rw[hd] at z;cases z
  apply#[_,Z,g,dx,_,Z,h1,jB,_,Z,g,p,.str n,some n,hs,ts,qs,fp,Z,G3,Z,_,Z,?_];by_cases c1:n∈qs.map (·.1)
  ·rw[show nC (qs.map (·.1)) (some n)=true from cc c1];apply aR ?_;have Xx:fH K H3 (gv n) (x n):=(sv n nm).1.same λh=>Zk lW gL (h.same s1) (sv n nm).2;apply#[_,Z,g,CG,dx,_,_,Z,h1,T.cl,T.nW,j1 _ _ _,p,eI,_,Z,w1,gq,_,Z,p,gv n,x n,hs,ts,bI,Z,h2,Xx,_,Z,?_];by_cases c2:nC (hs.map (·.1)) (x n)=true
   ·rw[c2];apply aR #[_,_,Z,lW,λm hm=>?_];rw[j0 hn] at hm;rcases gY.mp hm with hm|hm
    ·exact ok m hm
    rw[List.mem_singleton.mp hm];exact#[c1,c2]
   rw[show nC (hs.map (·.1)) (x n)=false by simpa using c2];exact bK #[d,_,o,lW.at_,nf,one,k _ (s1.trans (lW.iR gL))]
  rw[show nC (qs.map (·.1)) (some n)=false from dc c1];exact bK #[d,_,o,lW.at_,nf,one,k _ (s1.trans (lW.iR gL))]
 rintro σ H2 ⟨v2,v3,rfl,fz,ok⟩;apply#[o,fz.at_,?_];let s2:=s1.trans (fz.iR gL);have hd2:upd H2 d (.dK (bO ns gv)) d\.dK (bO ns gv):=az;generalize upd H2 d (.dK (bO ns gv))=H3 at s2 hd2 ⊢;let G3:=G.same s2;let#[dx,dw,dy,vs,bI,h1,h2,h3,h4,h5,m1,m2,m3,m4,m5]:=id G3.ex;apply#[_,Z,g,dx,_,Z,h1,qS _ _ _ Z0 Z0 Z0,g,p,hs,ts,qs,fp,Z,G3,λln vX=>?_];let#[s3,e3]:=aN (o:=.lst ((qs.map (·.1)).map V.str)) vX;let jS:=s3 _ _ hd2;generalize upd H3 ln (.lst ((qs.map (·.1)).map V.str))=H4 at s3 e3 jS ⊢;apply#[_,Z,d,_,Z,jS,_,Z,ln,_,Z,.inl (.of e3),Z,_,Z,?_];rcases bad with⟨n,hn,nb⟩|ne
 ·rw[fY,fX] at ok;let#[a,b]:=ok n hn;rcases nb with nb|nb
  ·exact absurd a nb
  rw[b] at nb;cases nb
 apply F0 (λz=>ne ?_) #[one,k _ (s2.trans s3)];rw[fY,aB,aB] at z
 injection z with z
 omega
end
end Ev
namespace Ev
open PySem L2
section
variable{P:Ad}{w:Af}{K:af}{mg:Str->Option Aa}{base:Heap}{CS CG CW T1 T2 CR CN CM:Addr}
def sR(K:af):Sp:=λvs H Q _=>∃v,vs=[v]/\vK K H v/\Q (.bl false) H
theorem k6_{f:Addr}{fd:Ae}(F:a_ K "is_whole" "is_whole" xa f fd)(B:Bi mg):!ag bc 1 f fd fu (sR K):=by
 exists F.bH yM;let#[v,rfl,n,k]:=h;apply#[_,aI (bg (oj (cb jn (by rfl) B.gm gA %[0,iQ (v:=.ty "int") (by rfl) B.int GY Z|0]) (oi (Sf (cb jn (by rfl) B.gm gA %[0,iQ (v:=.ty "bool") (by rfl) B.bool PyProof.Rows.Boot.«bool» rfl|0]))))),?_];rcases n with⟨b,rfl⟩|⟨ty,h1,h2⟩
 ·exact#[_,Z,_,_,_,_,Z,.bl b,Z,_,Z,bK #[_,Z,_,_,_,_,Z,.bl b,Z,_,Z,k]]
 exact#[_,Z,_,_,_,_,Z,h1,h2,_,Z,aR k]
def iE(K:af)(H:Hp)(v:V):Prop:=(∃x:Int,v=.int x/\x<0)∨vK K H v
def VQ(K:af):Sp:=λvs H Q _=>∃(v:V) (a:Int),vs=[v,.int a]/\vK K H v/\Q (.bl false) H
theorem gt_{f0:Addr}{fd:Ae}(F:a_ K "is_whole_from" "is_whole_from" Kp f0 fd)(cI:!bx 1 "is_whole" fu (sR K)):!ag bc 2 f0 fd Cm (VQ K):=by
 exists F.bH U6;let#[v,a,rfl,n,k]:=h;apply#[_,aI (bg (oj (bt cI hr %[0|0]) (oi (qP xZ (pv 1) (pv 0))))),?_];exact#[_,Z,v,Z,n,_,Z,aR k]
def QH(K:af):Sp:=λvs H Q E=>U3 vs H Q E∨VQ K vs H Q E
def mB(K:af)(CM:Addr):Sp:=λvs H Q E=>∃v:V,vs=[v]/\((∃i:Int,v=.int i/\0<=i/\Q (.int i) H)∨(iE K H v/\E (.ref CM) none H))
def U4(K:af)(CR:Addr):Sp:=λvs H Q E=>HQ K vs H Q E∨U8 K CR vs H Q E
end
end Ev
namespace Ev
open PySem L2
theorem gG_{α:Type}{xs:List α}{i:Nat}{x:α}(h:xs[i]? = some x):xs.take (i+1)=xs.take i++[x]:=by rw[k_,h];rfl
def qv(f:aq)(m:Mv):aq:=λn=>if n=m.1 then m.2.2 else f n
def nK(f:aq)(ms:iO):aq:=ms.foldl qv f
theorem hS_(f:aq)(a:iO)(m:Mv):nK f (a++[m])=qv (nK f a) m:=by
 unfold nK;rw[List.foldl_append];rfl
theorem iS_{ns:ae}{f:aq}{m:Mv}(h:m.1∈ns):putK (cE ns f) (Sum.inr m.1) (.str m.2.2)=cE ns (qv f m):=by
 unfold cE;rw[Kw h];apply K2 λn _=>?_;unfold qv;by_cases z:n=m.1
 ·rw[aJ z,aJ z]
 rw[aC z,aC z]
theorem hpM{H:Hp}{p:Addr}{m:Mv}(h:H p\.tup ((kM m).map kV)):H p\.tup [.str m.1,.str m.2.1,.str m.2.2]:=h
theorem SJ{A:ae}{n:Str}:∀{ms:iO} {f:aq},(∀x∈ms,x.2.2∈A)->f n∈A->nK f ms n∈A
 |[],_,_,h=>h
 |m::ms,f,a,h=>by
  show nK (qv f m) ms n∈A;apply SJ (λx hx=>a x (by simp[hx])) ?_;unfold qv;split
  ·exact a m Z2
  exact h
section
variable{hs:Xa}{ts:Xb}{qs:aH}{f:aq}
def wH(hs:Xa)(qs:aH)(x:Mv):Prop:=x.1∈qs.map (·.1)/\x.2.2∈aE hs
theorem J7{gd a b:Str}{gv:ae}(hb:b∈aE hs):∀x∈nF hs ts qs f gd gv a b,wH hs qs x:=λx h=>by
 unfold nF at h;split at h
 ·rename_i n e
  let hm:=List.mem_singleton.mp h;subst hm;exact#[(KI (List.mem_of_find?_eq_some e)).1,hb]
 cases h
theorem Oi{ms ns:iO}(a:∀x∈ms,wH hs qs x)(b:∀x∈ns,wH hs qs x):∀x∈ms++ns,wH hs qs x:=λx h=>(gY.mp h).elim (a x) (b x)
theorem Oa{gd h:Str}:∀{l:ae} {ms:iO},(∀o∈l,o∈aE hs)->(∀x∈ms,wH hs qs x)->∀x∈vp hs ts qs f gd h ms l,wH hs qs x
 |[],ms,_,a=>a
 |o::l,ms,hl,a=>by
  unfold vp;split
  ·exact Oa (λx hx=>hl x (by simp[hx])) (Oi a (J7 (hl o Z2)))
  exact Oa (λx hx=>hl x (by simp[hx])) a
theorem N_{h:Str}:∀{l:ae} {ms:iO},(∀o∈l,o∈aE hs)->(∀x∈ms,wH hs qs x)->∀x∈vt hs ts qs f h ms l,wH hs qs x
 |[],ms,_,a=>a
 |o::l,ms,hl,a=>by
  unfold vt;split
  ·apply N_ (λx hx=>hl x (by simp[hx])) (Oi a λx hx=>?_);let#[n,hn,rfl]:=bD.mp hx;exact#[(KI ((KH _ _ _ _).subset hn)).1,hl o Z2]
  exact N_ (λx hx=>hl x (by simp[hx])) a
theorem Sn(W:Wd hs ts qs f)(r:Rl)(m:Int):∀x∈xt r hs ts qs f m,wH hs qs x:=by
 have RG:∀h,∀o∈dz hs ts qs f h,o∈aE hs:=λh o ho=>DQ ((KY hs ts qs f h).mem_iff.mp ho);unfold xt;split
 ·intro x hx;let#[t,ht,hx]:=List.mem_flatMap.mp hx;let#[t1,t2]:=T7 W.Gd (Vx ht);exact Oi (J7 t2) (J7 t1) x hx
 have full:∀x∈(aE hs).flatMap (vy r hs ts qs f),wH hs qs x:=λx hx=>by
  let#[h,hh,hx]:=List.mem_flatMap.mp hx;revert hx;unfold vy;split
  ·unfold zJ C5;have:=RG h;split
   ·intro z;cases z
   rename_i o _ e
   rw[e] at this;exact J7 (this o Z2) x
  split
  ·exact Oa (RG h) (λx z=>by cases z) x
  exact N_ (λo ho=>DQ ho) (λx z=>by cases z) x
 unfold Hc;split
 ·exact λx hx=>full x (List.mem_of_mem_take hx)
 exact full
def Ck(r:Rl)(hs:Xa)(ts:Xb)(qs:aH)(m:Int)(f:aq):aq:=nK f (xt r hs ts qs f m)
def runM(r:Rl)(hs:Xa)(ts:Xb)(qs:aH)(f:aq):Nat->Str->Str
 |0=>f
 |n+1=>Ck r hs ts qs n (runM r hs ts qs f n)
theorem Wd.step(W:Wd hs ts qs f)(r:Rl)(m:Int):Wd hs ts qs (Ck r hs ts qs m f):=#[W.Gd,W.nd,W.bY,λn hn=>SJ (λx hx=>(jm hs).mem_iff.mp (Sn W r m x hx).2) (W.at_ n hn),W.wq]
theorem Wd.run(W:Wd hs ts qs f)(r:Rl):∀n,Wd hs ts qs (runM r hs ts qs f n)
 |0=>W
 |n+1=>(W.run r n).step r n
end
section
variable{P:Ad}{w:Af}{K:af}{mg:Str->Option Aa}{base:Heap}{CS CG CW T1 T2:Addr}
abbrev YB:ae:=["goods","placed","rule","moment","after","piece","one","other"]
theorem HW:bq YB lC (aL mQ):=bE
inductive HA (K:af) (CG CW T1 T2:Addr) (vs:aj) (H:Hp) (Q:VK) (E:XK):Prop
 |mk:∀(g p d:Addr) (m:Int) (hs:Xa) (ts:Xb) (qs:aH) (fp:ai) (f:aq),∀r∈rl,vs=[.ref g,.ref d,.str r.1,.int m]->0<=m->Q_ K CG CW T1 T2 H g p d hs ts qs fp f->(∀d' H',BT T1 T2 H H'->Tb H' T1 T2->H d'=none->H' d'\.dK (cE (qs.map (·.1)) (Ck r hs ts qs m f))->Q (.ref d') H')->HA K CG CW T1 T2 vs H Q E
theorem jD_{f0:Addr}{fd:Ae}(F:a_ K "placed_after" "placed_after" mQ f0 fd)(B:Bi mg)(Qy:!lL CS 7 "Sight" lA (KN K CS CG CW T1))(Ej:!bx 7 "moves_seen" xY (Kx K CS CG CW T2)):!ag bc 9 f0 fd lC (HA K CG CW T1 T2):=by
 exists F.bH HW;let#[g,p,d,m,hs,ts,qs,fp,f,r,eC,rfl,m0,D,k]:=h;let sz:=cm;let hu:=gz hr;refine' #[_,ay ?s1 (ay ?s2 (aI (bg (pv 4)))),?kk]
 case s1=>exact bw 4 HW.nd (jM P6 (by rfl) B.dict p7 %[1|0])
 case s2=>exact f_ ie Z (fB (bt Ej hr %[Jt Qy hr %[0,1|0],2,3|0])) (rQ Z (fo (dR 5 HW.nd) (fo (dR 6 HW.nd) (fo (dR 7 HW.nd) oy)))) (aI (wu hu (pv 4) (pv 5) (pv 7) Z))
 let bY:=D.W.bY;apply#[_,Z,d,_,Z,.inl D.Pl.hd,λdl Dw=>?_];let#[sd,ed]:=aN (o:=.dK (cE (qs.map (·.1)) f)) Dw;show qo _ _ _ _ (upd H dl (.dK (cE (qs.map (·.1)) f)));generalize upd H dl (.dK (cE (qs.map (·.1)) f))=H1 at sd ed ⊢;apply#[_,Z,_,Z,λv dx hv vY ne=>?_];have s2:aa H1 (upd (upd H1 dx (.own v)) v (.ins CS dx [])):=(aa.new vY).trans (aa.new (by rw[aF ne.symm];exact hv));have e2:upd (upd H1 dx (.own v)) v (.ins CS dx []) v\.ins CS dx []:=az;generalize upd (upd H1 dx (.own v)) v (.ins CS dx [])=H2 at s2 e2 ⊢;let ni:=sd.trans s2
 have Dn:v∉fp:=λhm=>by
  let#[o,e]:=D.has v hm;rw[sd _ _ e] at hv;cases hv
 have Ra:vA K CG CW H2 g p d hs ts qs fp f:=#[D.Pl.G.same ni,D.W.Gd,D.Pl.ic,ni _ _ D.Pl.hd,D.W.at_,D.W.nd,D.W.bY];apply#[v,dx,g,p,d,hs,ts,qs,fp,f,Z,e2,Dn,Ra,D.W,D.tb.a.same ni,λH3 k3 gQ S3=>#[Z,?_]];let#[Xy,JS]:=g_ D.tb.a;have M_:∀b o,H1 b\o->b≠T1->H3 b\o:=λb o e n=>k3 b o (s2 _ _ e) (bU e hv) n
 have j6:bL H3 T2 kj:=by
  let#[es,a1,a2]:=D.tb.b;exact#[es,M_ _ _ (sd _ _ a1) D.tb.ne.symm,λx hx=>M_ _ _ (sd _ _ (a2 x hx)) (λz=>by have:=a2 x hx;rw[z,JS] at this;cases this)]
 apply#[_,Z,_,Z,v,g,p,m,hs,ts,qs,fp,f,r,eC,Z,m0,S3,D.W,j6,λl ys H4 b4 dg nl hl tu=>?_];let#[Rv,JR]:=g_ j6;have yf:BT T1 T2 H1 H4:=λb o e n1 n2=>b4 _ _ (M_ b o e n1) n2;have iH:Tb H4 T1 T2:=#[bL.but gQ b4 #[_,JR] D.tb.ne,dg,D.tb.ne];have EJ:∀{T tv},H T\.tbl tv->dl≠T:=λe z=>by rw[<- z,Dw] at e;cases e
 let#[tv3,hT3]:=g_ D.tb.b;let GW:=yf _ _ ed (EJ JS) (EJ hT3);have Z4:l≠dl:=cj hl GW nofun;let ly:=bS tu;rw[aB] at ly;apply#[l,Z,#[_,.of hl],k8 (K:=K) (a:=l) (xs:=ys) (λj σ H'=>∃v5 v6 v7:aV,σ=[some (.ref g),some (.ref d),some (.str r.1),some (.int m),some (.ref dl),v5,v6,v7]/\bb dl H4 H'/\H' dl\.dK (cE (qs.map (·.1)) (nK f ((xt r hs ts qs f m).take j)))) #[none,none,none,Z,bb.refl _ _,GW] (λj σ H' _ ⟨_,_,_,_,b,_⟩=>.of (b _ _ hl Z4)) ?_ ?_]
 ·rintro j y σ H' hy ⟨v5,v6,v7,rfl,b',e'⟩;let#[x,hx,Rw,rfl,Jy]:=wG tu hy;let Jy:=hpM Jy;have XB:Rw≠dl:=cj Jy GW nofun;apply#[Rw,_,Z,.of (b' _ _ Jy XB),Z,_,_,Z,_,_,Z,_,_,Z,Z,?_];dsimp only;apply#[_,Z,_,Z,_,Z,dl,_,Z,.k (k:=Sum.inr x.1) e' (by rw[fY,aB];omega),?_];apply#[_,_,_,Z,b'.trans bb.upd,?_];rw[az,iS_ (Sn D.W r m x (dD hx)).1,gG_ hx,hS_]
 rintro σ H' ⟨v5,v6,v7,rfl,b',e'⟩;rw[ly,fX] at e';have kT:∀{T qn},bL H4 T qn->bL H' T qn:=λ⟨es,a1,a2⟩=>#[es,b' _ _ a1 (λz=>by rw[z,GW] at a1;cases a1),λx hx=>b' _ _ (a2 x hx) (λz=>by have:=a2 x hx;rw[z,GW] at this;cases this)];exact#[_,Z,k dl H' (λb o e n1 n2=>b' b o (yf b o (sd _ _ e) n1 n2) (bU e Dw)) #[kT iH.a,kT iH.b,D.tb.ne] Dw e']
end
end Ev
namespace Ev
open PySem L2
section v
theorem o8:bq ["goods","placed","levels"] l7 (aL mK):=bE
def AI(hs:Xa)(qs:aH)(f:aq):Int:=sumF (aE hs) (ld f (qs.map gF)) λh=>pJ hs / strOf hs h
inductive OJ (K:af) (CG CW:Addr) (vs:aj) (H:Hp) (Q:VK) (E:XK):Prop
 |mk:∀(g p d:Addr) (hs:Xa) (ts:Xb) (qs:aH) (fp:ai) (f:aq),vs=[.ref g,.ref d]->vA K CG CW H g p d hs ts qs fp f->(∀q∈qs,0<=q.2.1/\q.2.1<=1000000000)->(∀H',aa H H'->Q (.int (AI hs qs f)) H')->OJ K CG CW vs H Q E
theorem iu_{f CG CW:Addr}{fd:Ae}(F:a_ K "sum_at" "sum_at" mK f fd)(MJ:mg "sum"=none)(cL:!bx 3 "loads_at" l7 (Ir K CG CW))(cV:!bx 4 "levels_at" l7 (K6 K CG CW)):!ag bc 5 f fd l7 (OJ K CG CW):=by
 exists F.bH o8;let#[g,p,d,hs,ts,qs,fp,f,rfl,Pl,wp,k]:=h;let hu:=gz hr;let sz:=cm;let nl:=Pl.Gd.fQ;let h8:=Pl.Gd.h8;refine' #[_,ay ?s1 (aI ?s2),?kk]
 case s1=>exact bw 2 o8.nd (bt cV hr %[0,1|0])
 case' s2=>refine' bg (cb (io_ Z) (by rfl) MJ PyProof.Rows.boot_sum %[p9 ["hand","load","levels"] 2 [2] (Ig (CO (bt cL hr %[0,1|0]))) (λfp s H=>?g1) (λfp s H=>k7) (λfp s H=>?e1)|0])
 case g1=>exact KJ (n:=2) (fo (gM (i:=0) (show (["hand","load","levels"]:ae).Nodup by decide +kernel) Z (Or.inl Z)) (fo (gM (i:=1) (show (["hand","load","levels"]:ae).Nodup by decide +kernel) Z (Or.inl Z)) oy))
 case e1=>exact b_ rP (pv 1) (mi hu (pv 2) (pv 0))
 apply#[_,Z,_,Z,g,p,d,hs,ts,qs,fp,f,Z,Pl,wp,λdv H1 s1 n1 e1=>?_];have Rb:vA K CG CW H1 g p d hs ts qs fp f:=#[Pl.G.same s1,Pl.Gd,Pl.ic,s1 _ _ Pl.hd,Pl.at_,Pl.nd,Pl.bY];apply#[_,Z,_,Z,g,p,d,hs,ts,qs,fp,f,Z,Rb,λdl H2 s2 n2 e2=>?_];apply#[dl,_,Z,e2,λv hv=>?_];let#[s3,iJ]:=aN (o:=i5 v dl) hv;let e3:=s3 _ _ e2;let ua:=s2.trans s3;generalize upd H2 v (i5 v dl)=H3 at s3 iJ e3 ua ⊢;apply#[v,dl,_,Z,iJ,e3,λo D hD=>?_];have dvl:dv≠dl:=bU e1 n2;have sf:aa H1 (upd H3 dl (.frz o (.dK (xx hs qs f)))):=j2 ua n2;have ef:upd H3 dl (.frz o (.dK (xx hs qs f))) dl\.frz o (.dK (xx hs qs f)):=az;generalize upd H3 dl (.frz o (.dK (xx hs qs f)))=H4 at sf ef hD ⊢;apply fV_ (own:=2) (fv:=[some (.ref dv)]) Z GK (λi out H'=>aa H4 H'/\H' D\.lst out/\out=(((aE hs).take i).map λh=>ld f (qs.map gF) h * vV hs qs f h).map V.int) #[aa.new hD,az,Z] (λi out H' _ ⟨sm,_,_⟩=>sm _ _ ef) (λout H5 ⟨sm,xN,eo⟩=>?_) (λi ky x out H' hx ⟨sm,gr,eo⟩ t ht=>?_)
 ·rw[fY,fX] at eo;rw[eo] at xN;exact#[D,_,Z,.of xN,k H5 (s1.trans (sf.trans sm))]
 let#[n,hn,rfl,rfl]:=GZ hx;have hi:i<(aE hs).length:=(dj.mp hn).1;let nm:=dD hn;let lo:=Ju wp Pl.bY f n;let#[ss,et]:=aN (o:=.tup [.str n,.int (ld f (qs.map gF) n)]) ht;apply#[[some (.str n),some (.int (ld f (qs.map gF) n))],#[t,_,_,Z,.of et,Z],Z,λNx hN=>fg ?_];let s4:=(sf.trans sm).trans ss;let sD:=ss _ _ gr;let s5:=sm.trans ss;show EO _ _ _ _ (upd H' t (.tup [.str n,.int (ld f (qs.map gF) n)])) _;generalize upd H' t (.tup [.str n,.int (ld f (qs.map gF) n)])=H6 at s4 sD s5 ⊢;apply#[_,Z,_,Z,_,Z,dv,.int (vV hs qs f n),Z,?_,_,_,Z,Z,.inl #[by omega,by omega],out,sD,by rw[eo,aB,aB,fA];omega,hN _ _ #[j2 s5 hD,az,?_]]
 ·rw[<- CZ (g:=λh=>V.int (vV hs qs f h)) nm];exact .k (k:=Sum.inr n) (s4 _ _ e1)
 rw[j0 hn,eK,eK,eo];rfl
end
end Ev
namespace Ev
open PySem L2
abbrev tL:Stmt:=top 74
abbrev mF:Stmt:=top 75
abbrev tK:Stmt:=top 76
abbrev A5:Stmt:=top 77
end Ev
namespace Ev
open PySem L2
def JV:ae:=["high","fall","calm"]
def rh(i:Nat):ae:=(["shares one","shares all"]:ae)++(JV.take i).flatMap λg=>[("turns ":Str)++g,("least one ":Str)++g,("least all ":Str)++g,("below one ":Str)++g,("below all ":Str)++g]
theorem ZD:∀x∈rh 3,∃r∈rl,r.1=x:=by decide +kernel
theorem ZK:∀g∈JV,g.length<=10:=by decide +kernel
theorem kR_:("turns ":Str).length<=20/\("least one ":Str).length<=20/\("least all ":Str).length<=20/\("below one ":Str).length<=20/\("below all ":Str).length<=20:=by decide +kernel
theorem _m(i:Nat)(h:i<=3):(rh i).length<=17:=by
 have:i=0∨i=1∨i=2∨i=3:=by omega
 rcases this with rfl|rfl|rfl|rfl<;>decide +kernel
section v
theorem Ht:bq ["_law_found","_law_guard"] [] (aL OE):=bE
def Vd:Sp:=λvs H Q _=>vs=[]/\∀l H',aa H H'->H l=none->H' l\.lst ((rh 3).map V.str)->Q (.ref l) H'
theorem h3_{f0:Addr}{fd:Ae}(F:a_ K "_law_rules" "_law_rules" OE f0 fd):!ag bc 1 f0 fd [] Vd:=by
 exists F.bH Ht;let#[rfl,k]:=h;let sz:=cm;refine' #[_,ay ?s1 (ay ?s2 (aI (bg (pv 0)))),?kk]
 case s1=>exact bw 0 Ht.nd (dC %[bM,bM|0])
 case' s2=>refine' f_ ie Z (fB (dC %[bM,bM,bM|0])) (dR 1 Ht.nd) (ay ?b1 (aI ?b2))
 case b1=>exact bw 0 Ht.nd (b_ Sy (pv 0) (dC %[b_ Ii bM (pv 1),b_ Ii bM (pv 1),b_ Ii bM (pv 1)|0]))
 case b2=>exact bw 0 Ht.nd (b_ Sy (pv 0) (dC %[b_ Ii bM (pv 1),b_ Ii bM (pv 1)|0]))
 apply#[zl,λl0 n0=>?_];let#[s0,e0]:=aN (o:=.lst [.str "shares one",.str "shares all"]) n0;generalize upd H l0 (.lst [.str "shares one",.str "shares all"])=H0 at s0 e0 ⊢;lk;apply#[zl,λlg ng=>?_];let#[s1,e1]:=aN (o:=.lst [.str "high",.str "fall",.str "calm"]) ng;generalize upd H0 lg (.lst [.str "high",.str "fall",.str "calm"])=H1 at s1 e1 ⊢;have e1:H1 lg\.lst (JV.map V.str):=e1;let Jf:=s0.trans s1;let n0':=n0;apply#[lg,Z,#[_,.of e1],k8 (K:=K) (a:=lg) (xs:=JV.map V.str) (λi σ H'=>∃(l:Addr) (v1:aV),σ=[some (.ref l),v1]/\aa H H'/\aa H1 H'/\H l=none/\H' l\.lst ((rh i).map V.str)) #[l0,none,Z,Jf,aa.refl _,n0,s1 _ _ e0] (λi σ H' _ ⟨_,_,_,_,z,_⟩=>.of (z _ _ e1)) ?_ ?_]
 ·rintro i x σ H2 hx ⟨l,v1,rfl,s2,yQ,nl,e2⟩;let#[g,hg,rfl]:=kZ hx;have hi:i<3:=(dj.mp hg).1;let gl:=ZK g (dD hg);let pl:=kR_;let rl':=_m i Z1;lk;apply#[_,Z,_,Z,_,_,Z,Z,by omega,_,Z,_,_,Z,Z,by omega,_,Z,_,_,Z,Z,by omega,zl,λa na=>?_];let#[s3,e3]:=aN (o:=.lst [.str (("turns ":Str)++g),.str (("least one ":Str)++g),.str (("least all ":Str)++g)]) na;generalize upd H2 a (.lst [.str (("turns ":Str)++g),.str (("least one ":Str)++g),.str (("least all ":Str)++g)])=H3 at s3 e3 ⊢;apply#[l,a,_,_,Z,Z,s3 _ _ e2,e3,by rw[aB];show _+3<=sizeLine;omega,λb nb=>?_];let#[s4,e4]:=aN (o:=.lst ((rh i).map V.str++[.str (("turns ":Str)++g),.str (("least one ":Str)++g),.str (("least all ":Str)++g)])) nb;generalize upd H3 b (.lst ((rh i).map V.str++[.str (("turns ":Str)++g),.str (("least one ":Str)++g),.str (("least all ":Str)++g)]))=H4 at s4 e4 ⊢;lk;apply#[_,Z,_,Z,_,_,Z,Z,by omega,_,Z,_,_,Z,Z,by omega,zl,λc nc=>?_];let#[s5,e5]:=aN (o:=.lst [.str (("below one ":Str)++g),.str (("below all ":Str)++g)]) nc;generalize upd H4 c (.lst [.str (("below one ":Str)++g),.str (("below all ":Str)++g)])=H5 at s5 e5 ⊢;apply#[b,c,_,_,Z,Z,s5 _ _ e4,e5,by rw[fZ,aB];show _+3+2<=sizeLine;omega,λe ne=>?_];let Mf:=(s3.trans s4).trans s5;apply#[e,_,Z,(s2.trans Mf).trans (aa.new ne),(yQ.trans Mf).trans (aa.new ne),(s2.trans Mf).free ne,?_]
  rw[az,show rh (i+1)=rh i++[("turns ":Str)++g,("least one ":Str)++g,("least all ":Str)++g,("below one ":Str)++g,("below all ":Str)++g] by
   unfold rh;rw[k_,hg,Option.toList_some,List.flatMap_append,List.flatMap_cons,List.flatMap_nil,wC,List.append_assoc],eK,List.append_assoc]
  rfl
 rintro σ H2 ⟨l,v1,rfl,s2,_,nl,e2⟩;exact#[_,Z,k l H2 s2 nl e2]
end
end Ev
namespace dI
open PySem PySem.W PyProof.Rows
section
variable{prog:Ad}{w:Af}{A:Ag}{E:Aa->Ab->Prop}{s:Ab}
theorem e6_{d:Addr}{es:Array Ah}{ep:Nat}{key:Aa}{hv:Int}{Q:Option Nat->Ab->Prop}(x:Raw s.heap d es ep)(xB:∀x t,key≠.str x t)(hb:carriedByValue key=true)(he:∀e∈es,carriedByValue e.key=true/\SeqAt.EqAt A s e.key key false)(q:Q none s):wpAny (model prog w) A (dictFind d key hv) Q E s:=by
 let#[o,ho,hc,hd]:=x
 have kI:((key::(placesWithHash es.size (λi=>es[i]?.map (·.hash)) hv).filterMap λi=>es[i]?.map (·.key)).all carriedByValue)=true:=by
  rw[List.all_cons,List.all_eq_true.mpr,Bool.and_true]
  ·exact hb
  intro v hv;let#[i,_,hi]:=rY.mp hv;cases Gy:es[i]? with
  |none=>rw[Gy] at hi;cases hi
  |some e=>
   rw[Gy] at hi;obtain rfl:e.key=v:=⇑hi
   exact (he e (Array.mem_of_getElem? Gy)).1
 unfold dictFind
 try with_reducible apply jK ?_
 apply ao (wpAny_dictEntries ho hd ?_);dsimp only;rw[aJ kI]
 have old:wpAny (model prog w) A (dictWalkPlain d key hv es (placesWithHash es.size (λi=>es[i]?.map (·.hash)) hv)) Q E s:=by
  apply ao ?_;apply wpAny_forIn_list _ (λrest b s'=>s'=s/\b=(none,())) _ ?_ ?_ _ _ #[Z,Z]
  ·rintro x rest b s' ⟨rfl,rfl⟩;cases hx:es[x]? with
   |none=>exact aP #[Z,Z]
   |some e=>
    dsimp only;by_cases hh:(e.hash == hv)=true
    ·rw[aJ hh];apply ao (wpAny_dictEpoch ho hd (ao ((he e (Array.mem_of_getElem? hx)).2 _ _ _ _ (ao (wpAny_dictEpoch ho hd ?_)))));show wpAny _ _ (if (ep != ep)=true then _ else _) _ E _;rw[aC Z2];exact ao (wpAny_rule (aP #[Z,Z]))
    rw[aC hh];exact aP #[Z,Z]
  rintro b s' ⟨rfl,rfl⟩;exact aP q
 split
 next x t=>exact absurd Z (xB x t)
 next=>exact old
theorem fg_{d:Addr}{es:Array Ah}{ep:Nat}{key v:Aa}{hv:Int}{Q:Unit->Ab->Prop}(x:Raw s.heap d es ep)(hz:es.size<sizeLine)
  (hh:∀Q':Int->Ab->Prop,(∀tk,Q' hv { s with toks:=tk })->wpAny (model prog w) A.in1 (pyHash key) Q' E s)
  (hf:∀tk (Q':Option Nat->Ab->Prop),Q' none { s with toks:=tk }->wpAny (model prog w) A.in1 (dictFind d key hv) Q' E { s with toks:=tk })
  (q:∀h' tk,Raw h' d (es.push #[hv,key,v]) (ep+1)->Heap.SameBut d s.heap h'->Q () { s with heap:=h',toks:=tk }):wpAny (model prog w) A (setItem (.ref d) key v) Q E s:=by
 unfold setItem
 try with_reducible apply jK ?_
 apply ao (wpAny_sequenceKey x.ty (by decide) ?_);apply ao (wpAny_callSpecial?_slot (name:=Str.ofString "__setitem__") x.ty slot_dict_setitem (wpAny_call_entry slot_dict_setitem x.ty entry_dict_setitem ?_ (args_dict_setitem _ _ _)));show wpAny _ _ (Builtin.Dict.notOrdered "__setitem__" #[[.ref d,key,v],[]] >>= _) _ _ s;apply ao (wpAny_notOrdered_dict x.ty ?_);show wpAny _ _ (dictSet d key v >>= _) _ _ s;apply ao ?_;let#[o,ho,hc,hd]:=id x;unfold dictSet
 try with_reducible apply jK ?_
 apply ao (hh _ λtk=>?_);unfold dictSetHashed
 try with_reducible apply jK ?_
 apply ao (hf tk _ ?_);apply ao (wpAny_rule (wpAny_updateDictKeys (hz:=by omega) (s:={ s with toks:=tk }) ho hd ?_));exact aP #[.none,Z,aP (q _ tk #[_,zM _ ho (Obj.isFreed_of_dict (Obj.data_mapDictKeys hd _)),hc.mapDictKeys _,Obj.data_mapDictKeys hd _] (Heap.SameBut.update ..))]
theorem gM_{d:Addr}(hd:(d == sysModules)=false):MeetsIn prog w (Builtin.«dict.items» #[[.ref d],[]]) (λ_ R s=>(∃es ep,Raw s.heap d es ep)/\R (.ok (.ret (.ref s.heap.objs.size))) { s with heap:=s.heap.push { cls:=.type "dict_items",data:=.fields (List.toArray [.ref d]) } }):=
 .of_wp λA R s ⟨⟨es,ep,hm⟩,h⟩=>by
  unfold Builtin.«dict.items»;apply ao ?_;unfold Builtin.Dict.noArgs;apply ao (wpAny_notOrdered_dict hm.ty ?_);show wpAny _ _ (pure d) _ _ s;apply aP ?_;show wpAny _ _ (Builtin.Dict.showsAll d >>= _) _ _ s;unfold Builtin.Dict.showsAll;rw[aC (by rw[hd];exact gO)];apply ao (aP ?_);exact ao (wb (aP #[_,Z,h]))
theorem db_{v d:Addr}{es:Array Ah}{ep:Nat}{Q:Aa->Ab->Prop}(hv:s.heap.IsItemsView v d)(hm:Raw s.heap d es ep)
  (hQ:Q (.ref s.heap.objs.size) { s with heap:=s.heap.push { cls:=.type "dict_itemiterator",data:=.fields (List.toArray [.none,.bool false,.ref d,.int 0 0,.int es.size 0,.int ep 0,.none,.none]) } }) :
  wpAny (model prog w) A (pyIter (.ref v)) Q E s:=by
 let#[ov,hov,hcv,hdv]:=id hv;let#[o,ho,hc,nI]:=id hm;apply wpAny_pyIter_slot hv.typeIs F.slot_dict_items_iter (wpAny_call_entry F.slot_dict_items_iter hv.typeIs F.entry_dict_items_iter ?_ (F.args_dict_items_iter_1 _));unfold Builtin.«dict_items.__iter__»;apply ao (aP ?_);apply ao ?_;unfold Builtin.Dict_items.dictOf;apply ao (wpAny_field hov hdv (x:=.ref d) Z (aP ?_));apply ao ?_;unfold Builtin.Dict_items.newIterator;apply ao (wpAny_dictEntries ho nI ?_);apply ao (wpAny_dictEpoch ho nI ?_);have BF:Builtin.Dict_items.ownsTuple "dict_itemiterator"=true:=by decide
 simp only[BF,if_true]
 apply wb (aP #[_,Z,"dict_itemiterator",_,#[_,dU _ Z,Z],F.slot_dict_itemiterator_next.lookup,?_])
  (by simp only[sizeOk,Builtin.Dict_items.ownedTupleFields,cn,fZ,j3,rX,cm];omega)
 simpa [rawInt,Builtin.Dict_items.ownedTupleFields] using hQ
theorem d9_{it d:Addr}{i ep:Nat}{es:Array Ah}{ok ov:Aa}{Q:Option Aa->Ab->Prop}(hit:IsItemIter s.heap it d i es.size ep ok ov)(hm:Raw s.heap d es ep)(NG:i<es.size)
  (hQ:∀h',IsItemIterOut h' it d (i+1) es.size ep es[i].key es[i].val s.heap.objs.size->
   h'.get? s.heap.objs.size=some { cls:=.type "tuple",data:=.seq (List.toArray [es[i].key,es[i].val]) }->h'.objs.size=s.heap.objs.size+1->
   (∀b o,b≠it->s.heap.get? b\o->h'.get? b\o)->Q (some (.ref s.heap.objs.size)) { s with heap:=h' }) :
  wpAny (model prog w) A (pyNext (.ref it)) Q E s:=by
 let#[hp,g,dr,tk,os]:=s;let#[od,zj,fL,lS]:=id hm;have hT:Shared.TypeIs #[hp,g,dr,tk,os] (.ref it) "dict_itemiterator":=#[_,hit,Z];unfold pyNext
 apply ao (wpAny_attempt (wpAny_callSpecial?_slot (name:=Str.ofString "__next__") hT F.slot_dict_itemiterator_next
  (wpAny_call_entry F.slot_dict_itemiterator_next hT F.entry_dict_itemiterator_next ?_ (F.args_dict_itemiterator_next_1 _))))
 apply ao (aP ?_);apply ao ?_;apply ao ?_
 first|refine ao (wpAny_typeNameOfWhole_itemiter hT (aP ?_))|refine ao (wpAny_typeNameOf_itemiter hT (aP ?_))
 apply ao (wpAny_fieldsOf hit Z ?_);have BF:Builtin.Dict_items.ownsTuple "dict_itemiterator"=true:=by decide
 simp only[BF,if_true];show wpAny _ _ (if (Value.ref d == Value.none)=true then _ else _) _ _ _;rw[aC (show ¬((Value.ref d == Value.none)=true) from gO)];apply ao (aP ?_);apply ao (wpAny_dictEntries zj lS ?_);rw[aC Z2];apply ao (aP ?_);apply ao (wpAny_dictEpoch zj lS ?_);rw[aC Z2];apply aP ?_;simp only[show ¬((i:Int)<0) from by omega,if_false,wF,Array.getElem?_eq_getElem NG];apply ao ?_
 first|refine ao (wpAny_typeNameOfWhole_itemiter hT (aP ?_))|refine ao (wpAny_typeNameOf_itemiter hT (aP ?_))
 apply ao (wpAny_isOneOf_itemiter hT ?_);show wpAny _ _ (setField (.ref it) 3 (rawInt ((i:Int)+1)) >>= _) _ _ #[hp,g,dr,tk,os];apply ao (wpAny_setField_rec hit Z2 λaU fS cY=>?_);replace cY:Heap.SameBut it hp aU:=cY
 replace fS:IsItemIter aU it d (i+1) es.size ep ok ov:=by
  have e:((i+1:Nat):Int)=(i:Int)+1:=by omega
  unfold IsItemIter;rw[e];simpa [rawInt] using fS
 have uW:Shared.TypeIs #[aU,g,dr,tk,os] (.ref it) "dict_itemiterator":=#[_,fS,Z];apply ao (jK ?_);apply ao (wpAny_isOneOf_itemiter uW ?_);apply ao (wpAny_isOneOf_itemiter uW ?_);show wpAny _ _ (Builtin.Dict_items.pairFromOwner (.ref it) 6 es[i].key es[i].val) _ _ #[aU,g,dr,tk,os];unfold Builtin.Dict_items.pairFromOwner;apply ao (wpAny_newTuple ?_);have eP:IsItemIter (aU.push { cls:=.type "tuple",data:=.seq (List.toArray [es[i].key,es[i].val]) }) it d (i+1) es.size ep ok ov:=bQ _ fS;generalize pP:aU.push { cls:=.type "tuple",data:=.seq (List.toArray [es[i].key,es[i].val]) }=jA at eP;have pL:aU.objs.size=hp.objs.size:=cY.1;have DG:it<hp.objs.size:=bN hit;have F9:jA.get? hp.objs.size=some { cls:=.type "tuple",data:=.seq (List.toArray [es[i].key,es[i].val]) }:=by rw[<- pP,<- pL];exact dU _ Z
 have F8:jA.objs.size=hp.objs.size+1:=by rw[<- pP,Heap.size_push,pL]
 have Gr:∀b o,b≠it->hp.get? b\o->jA.get? b\o:=λb o hb e=>by rw[<- pP];exact bQ _ (cY.extBut b o hb e)
 show wpAny _ _ (Builtin.Dict_items.ownedTupleIsFree (.ref it) >>= _) _ _ #[jA,g,dr,tk,os];rw[pL];clear pP fS cY uW pL aU;apply ao ?_;unfold Builtin.Dict_items.ownedTupleIsFree;apply ao (wpAny_field eP Z (x:=.none) Z (aP ?_));simp only[if_true];apply ao (wpAny_field eP Z (x:=ok) Z ?_);apply ao (wpAny_field eP Z (x:=ov) Z ?_);apply ao (wpAny_setField_rec eP Z2 λuK gK kE=>?_);replace kE:Heap.SameBut it jA uK:=kE;replace gK:IsItemIter uK it d (i+1) es.size ep es[i].key ov:=gK;apply ao (wpAny_setField_rec gK Z2 λBz kG kD=>?_);replace kD:Heap.SameBut it uK Bz:=kD;replace kG:IsItemIter Bz it d (i+1) es.size ep es[i].key es[i].val:=kG;apply ao (wpAny_setField_rec kG Z2 λqF uT kC=>?_);replace kC:Heap.SameBut it Bz qF:=kC;replace uT:IsItemIterOut qF it d (i+1) es.size ep es[i].key es[i].val hp.objs.size:=uT;apply ao (wpAny_setField_rec uT Z2 λgS uS kB=>?_);replace kB:Heap.SameBut it qF gS:=kB;replace uS:IsItemIterOut gS it d (i+1) es.size ep es[i].key es[i].val hp.objs.size:=uS;apply ao (wpAny_letGo (aP (aP #[_,Z,aP (hQ gS uS ?_ ?_ ?_)])))
 ·exact kB.extBut _ _ (oF DG) (kC.extBut _ _ (oF DG) (kD.extBut _ _ (oF DG) (kE.extBut _ _ (oF DG) F9)))
 ·show gS.objs.size=hp.objs.size+1;rw[kB.1,kC.1,kD.1,kE.1,F8]
 exact λb o hb e=>kB.extBut b o hb (kC.extBut b o hb (kD.extBut b o hb (kE.extBut b o hb (Gr b o hb e))))
end
end dI
namespace L2
open PySem PySem.Spec PyProof.Rows PySem.W dI
def dh(d:Addr)(es:Array Ah)(ep:Nat):HO:=.ext λh=>Raw h d es ep/\(d == sysModules)=false
def Ent(ps:List (V × V))(es:Array Ah):Prop:=Paired (λ(p:V × V) (e:Ah)=>RelV p.1 e.key/\RelV p.2 e.val) ps es.toList
def qE(kvs:List (Key × V)):List (V × V):=kvs.map λp=>(kV p.1,p.2)
theorem G5{X:Cx}{pins:List (Addr × Obj)}{σ:St}{H:Hp}{s:Ab}{d:Addr}{es:Array Ah}{ep:Nat}(I:Inv X pins σ H s)(e:H d\dh d es ep):Raw s.heap d es ep/\(d == sysModules)=false:=
 (show d9 X.prog X.w H s.heap d (dh d es ep) from I.au d _ e).1
theorem Oh{P:Ad}{w:Af}{H:Hp}{h:Heap}{d:Addr}{es:Array Ah}{ep:Nat}(r:Raw h d es ep)(hd:(d == sysModules)=false):d9 P w H h d (dh d es ep):=
 #[#[r,hd],(let #[o,e,_]:=r;#[o,e]),λh1 h2 ⟨a,b⟩ k=>#[a.cQ k,b]]
theorem Sg{P:Ad}{w:Af}:∀{kvs:List (Key × V)} {vs:List (Key × Aa)} {es:List Ah},KV kvs vs->Pairs (d_ P w) es vs->Paired (λ(p:V × V) (e:Ah)=>RelV p.1 e.key/\RelV p.2 e.val) (qE kvs) es
 |_,_,_,.nil,.nil=>.nil
 |_::_,_::_,_,.cons ⟨a,b⟩ t,.cons h1 h2 u=>.cons #[SZ (by rw[a];exact h1),by rw[h2];exact b] (Sg t u)
theorem To:∀{ps:List (V × V)} {es:List Ah},Paired (λ(p:V × V) (e:Ah)=>RelV p.1 e.key/\RelV p.2 e.val) ps es->∀e∈es,∃p∈ps,RelV p.1 e.key
 |_,_,.nil,e,h=>by cases h
 |_,_,.cons r t,e,h=>by
  rcases bW.mp h with rfl|h
  ·exact#[_,eZ,r.1]
  let#[p,a,b]:=To t e h;exact#[p,dZ _ a,b]
theorem ju_{ps:List (V × V)}{es:Array Ah}{y v:V}{hv:Int}{u r:Aa}(h:Ent ps es)(a:RelV y u)(b:RelV v r):Ent (ps++[(y,v)]) (es.push #[hv,u,r]):=by
 unfold Ent at h ⊢;rw[Array.toList_push]
 have app:∀{l:List (V × V)} {m:List Ah},Paired (λ(p:V × V) (e:Ah)=>RelV p.1 e.key/\RelV p.2 e.val) l m->Paired (λ(p:V × V) (e:Ah)=>RelV p.1 e.key/\RelV p.2 e.val) (l++[(y,v)]) (m++[#[hv,u,r]]):=by
  intro l m q
  induction q with
  |nil=>exact .cons #[a,b] .nil
  |cons r _ ih=>exact .cons r ih
 exact app h
theorem OO{ps:List (V × V)}{es:Array Ah}(h:Ent ps es):ps.length=es.size:=by
 rw[<- vG];exact bS h
theorem TQ:∀{ps:List (V × V)} {es:List Ah},Paired (λ(p:V × V) (e:Ah)=>RelV p.1 e.key/\RelV p.2 e.val) ps es->∀{i:Nat} {p:V × V} {e:Ah},ps[i]? = some p->es[i]? = some e->RelV p.1 e.key/\RelV p.2 e.val
 |_,_,.nil,_,_,_,h,_=>by simp at h
 |_,_,.cons r t,0,p,e,h,h'=>by
  simp at h h';subst h h';exact r
 |_,_,.cons r t,i+1,p,e,h,h'=>TQ t (i:=i) ⇑h ⇑h'
section
variable{X:Cx}{o i e value:Expr}{pos pos' EI:Pos}{td ty tv:TE}
inductive yB (Q:VK) (x:V) (H1:Hp):Prop
 |mk:∀d es ep,x=.ref d->H1 d\dh d es ep->(∀v,H1 v=none->Q (.ref v) (upd H1 v (i5 v d)))->yB Q x H1
def LJ(td:TE):TE:=λσ H Q=>td σ H λx H1=>yB Q x H1
theorem im_{apos bu:Pos}(ho:PE X o td)(dO:attributeBase o "items" X.env (eval o X.env)=eval o X.env:=by rfl)(fR:(apos.endLine == bu.line)=true:=by rfl):PE X (.Call (.Attribute o "items" apos) [] [] bu) (LJ td):=by
 intro pins s σ H Q I h;apply wpAny_Call_method0_late dO fR (aQ (ho pins s σ H _ I h) λv s1 ⟨x,H1,I1,r1,d,es,ep,e,hd,q⟩=>?_);subst e;cases r1;let#[raw,t3]:=G5 I1 hd;let t1:=raw.ty
 have t2:∀b,Value.ref d=.ref b->∃ob,s1.heap.get? b\ob/\ob.dict=none:=λb z=>by
  cases z;let#[ob,h1,h2,_]:=raw;exact#[ob,h1,h2.2.1]
 apply#["dict","dict.items",PySem.F.plainAttrs_dict,PySem.F.slot_dict_items,PySem.F.type_dict_items,t1,t2,Calls.callWith_builtin Z (PySem.evalArgs_none ?_)];apply call_meetsIn PySem.F.slot_dict_items t1 PySem.F.entry_dict_items (PySem.F.args_dict_items_1 _) (gM_ t3) #[#[es,ep,raw],?_];exact#[.ref _,_,Oo I1 _ #[_,dU _ Z,Z,Z] λh1 h2 ⟨o,e,r⟩ k=>#[o,k o e,r],Z,q _ I1.fresh]
end
def IL(d:Addr)(ps:List (V × V))(es:Array Ah)(ep:Nat):It:=#[λi H=>H d\dh d es ep/\i<es.size,λi H y H'=>∃t k x,y=.ref t/\H t=none/\ps[i]? = some (k,x)/\H'=upd H t (.tup [k,x]),λi H=>False]
theorem iB_{P:Ad}{w:Af}{K:af}{elts:List Expr}{kk:Nat}{pos:Pos}(d it:Addr)(ps:List (V × V))(es:Array Ah)(ep:Nat)(en:Ent ps es):Turn P w K (.Tuple elts kk pos) (IL d ps es ep) [it] it (λi h=>∃ok ov,IsItemIter h it d i es.size ep ok ov) where
 mem:=by simp
 obj:=λi h st b hb=>by
  obtain rfl:b=it:=⇑hb
  let#[ok,ov,q]:=st;exact#[_,q,λv z=>by cases z]
 keep:=λi h h' st k=>by
  let#[ok,ov,q]:=st;exact#[ok,ov,k it Z2 _ q]
 item:=by
  intro X hP hw hK hc i pins s σ H E I hf st hg;subst hP hw hK;let#[hd,hi]:=hg;let#[raw,_]:=G5 I hd;obtain⟨⟨k,x⟩,hx⟩:∃p,ps[i]? = some p:=#[ps[i]'(by rw[OO en];exact hi),by simp];let#[rk,ru]:=TQ (e:=es[i]) en hx (by simp[hi]);let#[ok,ov,st]:=st;have Nb:it<s.heap.objs.size:=bN st;apply d9_ st raw hi λh' out ht sz kp=>?_;apply#[_,Z,wpAny_letOwnedTupleGo_items (s:={ s with heap:=h' }) out λh2 gH sb=>?_];have nT:s.heap.objs.size≠it:=oF Nb;have I1:Inv X pins σ (upd H s.heap.objs.size (.tup [k,x])) { s with heap:=h2 }:=I.jr (t':=s.toks) (fp:=[it]) (its:=[es[i].key,es[i].val]) (λb o hb q=>(sb.2 b ⇑hb).trans (kp b o ⇑hb q)) hf (bj _) (zl) (.cons rk (.cons ru .nil)) #[#[_,(sb.2 _ nT).trans ht,Z,_,Z],_,(sb.2 _ nT).trans ht,Z];apply#[.ref _,_,I1,Z,#[_,k,x,Z,I.au.fresh (bj _),hx,Z],#[_,_,gH],λb hb=>?_];have e:b=it:=⇑hb
  rw[aF (λz=>nT (z.symm.trans e))];exact (hf b hb).1
 done:=by
  intro X hP hw hK hc i pins s σ H E I hf st hg;exact hg.elim
 self:=λA i s Q E st h=>by
  let#[ok,ov,q]:=st;exact kcp_self q h
inductive zi (R:It->Hp->Prop) (x:V) (H1:Hp):Prop
 |mk:∀v d ps es ep,x=.ref v->H1 v\i5 v d->H1 d\dh d es ep->Ent ps es->R (IL d ps es ep) H1->zi R x H1
def Ni(tv:TE):TI:=λσ H R=>tv σ H λx H1=>zi R x H1
theorem hq_{X:Cx}{elts:List Expr}{kk:Nat}{p2:Pos}{e:Expr}{tv:TE}(he:PE X e tv):PI X (.Tuple elts kk p2) e (Ni tv):=by
 intro pins s σ H R I h;apply aQ (he pins s σ H _ I h) λu s1 ⟨x,H1,I1,r1,v,d,ps,es,ep,ex,hv,hd,en,q⟩=>?_;subst ex;cases r1;let#[iv,_,_]:=I1.au v _ hv;let#[raw,_]:=G5 I1 hd;apply db_ iv raw ?_;apply#[s1.heap.objs.size,[s1.heap.objs.size],_,_,_,Z,I1.kept (t':=s1.toks) λb o e=>bQ _ e,iB_ d _ ps es ep en,?_,λb hb=>?_,q]
 ·exact#[.none,.none,dU _ Z]
 obtain rfl:b=s1.heap.objs.size:=⇑hb
 exact I1.jE (bj _) (I1.au.fresh (bj _))
theorem kJ_{d:Addr}{ps:List (V × V)}{es:Array Ah}{ep:Nat}{g:TG}{tb:TS}{D:Ends}{σ:St}{H:Hp}(en:Ent ps es)(Pv:vM)(h0:Pv 0 σ H)(hl:∀i σ H,i<=ps.length->Pv i σ H->H d\dh d es ep)
  (hs:∀i k x σ H,ps[i]? = some (k,x)->Pv i σ H->∀t,H t=none->g (.ref t) σ (upd H t (.tup [k,x])) λfO H2=>tb { D with nx:=Pv (i+1),ct:=Pv (i+1),bk:=D.nx } fO H2) (hd:∀σ H,¬Pv ps.length σ H) :
  ∃W:Nat->Nat->St->Hp->Prop,(∃m,W 0 m σ H)/\∀i m σ H,W i m σ H->
   ((IL d ps es ep).stop i H/\D.nx σ H)∨((IL d ps es ep).go i H/\∃N:St->Hp->Prop,(∀ba H',N ba H'->∃m',m'<m/\W (i+1) m' ba H')/\∀x H',(IL d ps es ep).wJ i H x H'->g x σ H' λfO H2=>tb { D with nx:=N,ct:=N,bk:=D.nx } fO H2):=by
 apply#[λi m σ H=>m=ps.length - i/\i<=ps.length/\Pv i σ H,#[ps.length,by simp,hG _,h0],?_];rintro i m σ H ⟨rfl,hi,p⟩;let q:=hl i σ H hi p;by_cases dX:i<ps.length
 ·apply .inr #[#[q,by rw[<- OO en];exact dX],Pv (i+1),λba H' p'=>#[ps.length - (i+1),by omega,Z,dX,p'],λx H' y=>?_];let#[t,k,x,rfl,ht,hx,rfl]:=y;exact hs i k x σ H hx p t ht
 have e:i=ps.length:=by omega
 subst e;exact (hd σ H p).elim
section
variable{X:Cx}
inductive yU (xs:aj) (H:Hp) (Q:VK):Prop
 |mk:∀d es ep,xs=[.ref d,.ty "dict"]->H d\dh d es ep->Q (.bl true) H->yU xs H Q
theorem i0_:fW X (.builtin "isinstance") yU:=by
 intro pins s σ H xs us Q I r h;let#[d,es,ep,rfl,hd,q]:=h;let#[u,w',rfl,ru,gI]:=vals2 r;cases (show w'=Value.type "dict" from gI);cases (show u=Value.ref d from ru);let#[#[o,h1,h2,_],_]:=G5 I hd;exact qL PySem.W.kitx_dict I.fj ⟨_,h1,h2.1⟩ (show PySem.W.kitOne X.K (.type "dict") (.type "dict")\true from rfl) nofun λtk=>#[.bl true,H,I.tok tk,Z,q]
end
end L2
namespace L2
open PySem PySem.Spec PyProof.Rows PySem.W dI
theorem iV_{X:Cx}{pins:List (Addr × Obj)}{σ:St}{H:Hp}{s:Ab}{a:Addr}{kvs:List (Key × V)}{b:Bool}{v:V}{r:Aa}{A:Ag}{E:Aa->Ab->Prop}{Q:Unit->Ab->Prop}(hu:A.units+1<cLine)(I:Inv X pins σ H s)(e:H a\.dK kvs)(hl:kvs.length<sizeLine)(ks:∀p∈kvs,∃x,p.1=Sum.inr x)(rv:RelV v r)
  (h:∀s' es ep,Ent (qE kvs++[(.bl b,v)]) es->Inv X pins σ (upd H a (dh a es ep)) s'->Q () s'):wpAny (model X.prog X.w) A (setItem (.ref a) (.bool b) r) Q E s:=by
 let#[z,hd,vs,rel,o,es,ep,ho,hc,dt,hk,hp,nd]:=zD I.au e;have en:Ent (qE kvs) es:=Sg rel hp;have sz:es.size=kvs.length:=by rw[<- OO en];exact aB ..
 have raw:Raw s.heap a es ep:=#[o,ho,hc,dt];apply fg_ raw Z1 (hv:=hashW X.w.params (.bool b)) (λQ' q=>pyHash_laid (.bool b) (.bool b) _ _ _ Z (by constructor) (by show _+0<cLine;omega) q) (λtk Q' q=>?_) (λh' tk gI sb=>h _ _ (ep+1) (ju_ en Z rv) (HY I (by rw[e];exact True.intro) sb (let #[q,hq,_]:=gI;#[q,hq]) (Oh gI hd)));apply e6_ (es:=es) (ep:=ep) raw (λ_ _ z=>by cases z) Z (λe he=>?_) q;let#[p,hp,rp]:=To en e (Array.mem_toList_iff.mpr he);let#[q,hq,rfl]:=bD.mp hp;let#[x,ex]:=ks q hq;rw[ex] at rp;let#[t,et]:=(show ∃t,e.key=.str x t from rp);rw[et];apply#[Z,?_];exact Ea (A:=A.in1) (s:={ s with toks:=tk }) (y:=.str x) (u:=.str x t) (x:=.bl b) (v:=.bool b) #[t,Z] Z Z Z
inductive ph (b:Bool) (D:Ends) (σ:St) (v:V) (x:V) (H2:Hp):Prop
 |mk:∀a kvs,x=.ref a->H2 a\.dK kvs->kvs.length<sizeLine->(∀p∈kvs,∃x,p.1=Sum.inr x)->(∀es ep,Ent (qE kvs++[(.bl b,v)]) es->D.nx σ (upd H2 a (dh a es ep)))->ph b D σ v x H2
def A7(td tv:TE)(b:Bool):TS:=λD σ H=>tv σ H λv H1=>td σ H1 λx H2=>ph b D σ v x H2
theorem iv_{X:Cx}{o i value:Expr}{pos pos':Pos}{td tv:TE}{b:Bool}(hu:X.A.units+1<cLine)(ho:PE X o td)(hi:PE X i (tC (.bl b)))(hv:PE X value tv)(hs:swapsWith value (some (.Subscript o i pos')) pos.line X.env=pure false) :
  PS X (.Assign [.Subscript o i pos'] value pos) (A7 td tv b):=by
 intro pins s σ H D I h;apply wpAny_Assign_Subscript (aQ (hv pins s σ H _ I h) λr s1 ⟨v,H1,I1,rv,q1⟩=>aQ (ho pins s1 σ H1 _ I1 q1) λu s2 ⟨x,H2,I2,rx,a,kvs,ex,e,hl,ks,q3⟩=>aQ (hi pins s2 σ H2 (λy H3=>y=.bl b/\H3=H2) I2 #[Z,Z]) λiv s3 ⟨y,H3,I3,ry,ey,eH⟩=>?_) hs;subst ex ey eH;obtain rfl:u=Value.ref a:=rx;cases (show iv=Value.bool b from ry);exact iV_ hu I3 e hl ks rv λs4 es ep en I4=>#[σ,_,I4,q3 es ep en]
end L2
namespace Ev
open PySem L2
def IE(K:af)(H:Hp)(hs:Xa)(qs:aH)(v:V):Prop:=∃(d:Addr) (es:Array Ah) (ep:Nat) (ns:ae) (f:aq) (y x:V) (t:Aa),v=.ref d/\H d\dh d es ep/\Ent (qE (bO ns λn=>V.str (f n))++[(y,x)]) es/\(∀n∈ns,n∈qs.map (·.1)/\f n∈hs.map (·.1))/\bp K H y t/\PySem.W.kitOne K t (.type "str")\false
section v
inductive Wh (K:af) (CG CW CN:Addr) (vs:aj) (H:Hp) (E:XK):Prop
 |mk:∀(g p:Addr) (v:V) (hs:Xa) (ts:Xb) (qs:aH) (fp:ai),vs=[.ref g,v]->fN K CG CW H g p hs ts qs fp->IE K H hs qs v->(∀H',aa H H'->E (.ref CN) none H')->Wh K CG CW CN vs H E
def VO(K:af)(CG CW CN:Addr):Sp:=λvs H _ E=>Wh K CG CW CN vs H E
theorem gm_{f CG CW CN:Addr}{fd:Ae}(F:a_ K ya ya HD f fd)(B:Bi mg)(R:Ref K mg "NoStand" CN)(T:c_ K CG)(TW:Txt K mg CW)(cH:!bf CG 1 "has_piece" jX (CB K CG CW))(cW:!bf CW 1 "has_hand" jX (Hf K CW)) :
  ag P w K mg base (fe P w) 2 f fd D5 (VO K CG CW CN):=by
 apply F.km vz λaD A outer s H vs Q E hr h own ps rs=>?_;let#[g,p,v,hs,ts,qs,fp,rfl,G,no,k]:=h;let hu:=gz hr;refine' #[_,?r0,?kk]
 case' r0=>refine' ay ?s1 ?r1
 case s1=>exact bA (eJ (eB (cb i0_ (by rfl) B.gm gA %[1,iQ (v:=.ty "dict") (by rfl) B.dict p7 Z|0]))) d0 bB
 case' r1=>refine' ay ?s2 d0
 case' s2=>refine' f_ own Z ?i2 ?g2 ?b2
 case i2=>exact hq_ (im_ (pv 1))
 case g2=>exact rQ Z (fo (dR 2 vz.nd) (fo (dR 3 vz.nd) oy))
 case b2=>exact ay (bA (eJ (eB (eL cH T.cl hr (pv 0) %[2|0]))) (aI (zP Z rs R.mg R.ex zL (by rfl) %[bM|0])) bB) (aI (bA (eJ (eB (eL cW TW.cl hr (cZ (pv 0) Z) %[3|0]))) d0 bB))
 have one:1<=sizeLine:=by decide
 let#[d,es,ep,ns,f,y,x,ty,rfl,hd,en,ok,Xw,ey]:=no;apply#[_,Z,d,es,ep,Z,hd,_,Z,aR ?_];apply#[_,Z,d,es,ep,Z,hd,λv hv=>?_];let#[s1,iJ]:=aN (o:=i5 v d) hv;let G1:=G.same s1;let gL:=s1 _ _ hd;let Ru:=Xw.same s1;generalize upd H v (i5 v d)=H1 at s1 iJ G1 gL Ru ⊢;apply#[v,d,_,es,ep,Z,iJ,gL,en,?_]
 have hl:(qE (bO ns λn=>V.str (f n))++[(y,x)]).length=ns.length+1:=by
  rw[fZ,qE,aB,fY];rfl
 apply kJ_ en (λi σ H'=>i<=ns.length/\∃(v2 v3:aV),σ=[some (.ref g),some (.ref d),v2,v3,none]/\aa H1 H') #[hG _,none,none,Z,aa.refl _] (λi σ H' _ ⟨_,_,_,_,z⟩=>z _ _ gL) ?_ (λσ H' ⟨z,_⟩=>by rw[hl] at z;omega);rintro i ky xv σ H2 hx ⟨hi,v2,v3,rfl,sm⟩ t ht;let#[s2,e2]:=aN (o:=.tup [ky,xv]) ht;generalize upd H2 t (.tup [ky,xv])=H3 at s2 e2 ⊢;apply#[t,_,Z,.of e2,Z,_,_,Z,_,_,Z,Z,?_];let ua:=sm.trans s2;let G3:=G1.same ua;let#[dx,dw,dy,vs,bI,h1,h2,h3,h4,h5,m1,m2,m3,m4,m5]:=id G3.ex;let#[eI,d1,l2,d3,jq,as,ef,w1,_]:=id h2.ex;have jB:(bJ p dw dy).lookup ("has_piece":Str)=none:=qS _ _ _ Z0 Z0 Z0;have gq:(bZ d1 l2 d3).lookup ("has_hand":Str)=none:=iP _ _ _ Z0 Z0 Z0;by_cases c:i<ns.length
 ·obtain⟨n,hn,rfl,rfl⟩:∃n∈ns,ky=.str n/\xv=.str (f n):=by
   rw[Ez (by rw[qE,aB,fY];exact c),qE,dQ,bO,dQ,dE c] at hx;let hx:=dG hx;exact#[ns[i],oH c,(eA Prod.fst hx).symm,(eA Prod.snd hx).symm]
  let#[c1,c2]:=ok n hn;apply#[_,Z,g,dx,_,Z,h1,jB,_,Z,g,p,.str n,some n,hs,ts,qs,fp,Z,G3,Z,_,Z,?_];rw[show nC (qs.map (·.1)) (some n)=true from cc c1];apply aR ?_;apply#[_,Z,g,CG,dx,_,_,Z,h1,T.cl,T.nW,j1 _ _ _,p,eI,_,Z,w1,gq,_,Z,p,.str (f n),some (f n),hs,ts,bI,Z,h2,Z,_,Z,?_];rw[show nC (hs.map (·.1)) (some (f n))=true from cc c2];exact aR #[c,_,_,Z,ua]
 have ei:i=ns.length:=by omega
 subst ei;rw[De (by rw[qE,aB,fY];exact bj _)] at hx;rw[show (qE (bO ns λn=>V.str (f n))).length=ns.length by rw[qE,aB,fY],Nat.sub_self] at hx;let hx:=dG hx;cases (eA Prod.fst hx:y=ky);apply#[_,Z,g,dx,_,Z,h1,jB,_,Z,g,p,y,none,hs,ts,qs,fp,Z,G3,#[ty,Ru.same ua,ey],_,Z,?_];exact bK #[one,k _ (s1.trans ua)]
end
end Ev
namespace dI
open PySem PySem.W PyProof.Rows
section
variable{prog:Ad}{w:Af}{K:Type}[DecidableEq K](knd:KeyKind prog w K)
def ou(h:Heap)(m:List K × K)(a:Addr):Prop:=∃o n c v,h.get? a\o/\o.cls=.type "tuple"/\o.data=.seq (List.toArray [.ref c,v]) n/\IsTupleKey knd h m.1 c/\knd.is m.2 v=true
variable{knd}
variable{A:Ag}{E:Aa->Ab->Prop}{s:Ab}
theorem ou.typeIs{m:List K × K}{a:Addr}(x:ou knd s.heap m a):s.TypeIs (.ref a) "tuple":=let #[o,_,_,_,ho,hc,_]:=x;#[o,ho,hc]
theorem ou.inj{h:Heap}{a:Addr}{x y:List K × K}(hx:ou knd h x a)(hy:ou knd h y a):x=y:=by
 let#[o,n,c,v,ho,_,hd,h1,h2]:=hx;let#[o',n',c',v',h_,_,ia,jT,iL]:=hy;obtain rfl:o=o':=dG (ho.symm.trans h_);rw[hd] at ia
 injection ia with e _
 have e2:[Value.ref c,v]=[Value.ref c',v']:=eA Array.toList e
 injection e2 with e3 e4
 injection e3 with e3
 injection e4 with e4 _
 subst e3 e4;exact Prod.ext (h1.inj jT) (knd.inj _ _ _ h2 iL)
theorem ou.keeps{h h':Heap}{m:List K × K}{a d:Addr}{o:Obj}{es ep}(x:ou knd h m a)(ho:h.get? d\o)(hd:o.data=.dict es ep)(hs:Heap.SameBut d h h'):ou knd h' m a:=by
 let#[o',n,c,v,h_,hc,ia,h1,h2]:=x
 have qH:a≠d:=by
  rintro rfl;obtain rfl:o'=o:=dG (h_.symm.trans ho);rw[hd] at ia;exact nomatch ia
 exact#[o',n,c,v,(hs.2 a qH).trans h_,hc,ia,h1.keeps ho hd hs,h2]
def Po(knd:KeyKind prog w K)(m:List K × K):Int:=reduceHash (Builtin.Tuple.tupleHashOf [tupleKeyHash knd m.1,knd.hash m.2])
theorem fa_{m:List K × K}{a:Addr}{Q:Int->Ab->Prop}(hu:A.units+1<cLine)(hk:ou knd s.heap m a)(h:Q (Po knd m) { s with toks:=s.toks+(m.1.length+1+1+1) }) :
  wpAny (model prog w) A (pyHash (.ref a)) Q E s:=by
 let hT:=hk.typeIs;let#[o,n,c,v,ho,_,hd,h1,h2]:=hk;unfold pyHash
 first|unfold pyHashByItsType|skip
 first|refine ao (wpAny_cRoomFor_or (.inr Z1) ?_)|skip
 apply ao (wpAny_specialOf hT F.slot_tuple_hash.lookup ?_);show wpAny _ _ (if (some (Value.builtin "tuple.__hash__") == some Value.none)=true then _ else _) Q E s;rw[aC (by rw[beq_builtin_none];exact gO)];apply ao (wpAny_specialOf hT F.slot_tuple_hash.lookup ?_);show wpAny _ _ (callSpecialIfBoundUnlessNone? (.ref a) "__hash__" _ >>= _) Q E s;apply ao (wpAny_callSpecialIfBoundUnlessNone?_slot hT F.slot_tuple_hash (wpAny_call_entry F.slot_tuple_hash hT F.entry_tuple_hash ?_ (F.args_tuple_hash_1 _)));show wpAny _ _ (Builtin.Tuple.tupleItemsOf (.ref a) >>= _) _ _ s;apply ao (wpAny_tupleItemsOf ho hd ?_);apply ao ?_;rw[<- Array.forIn_toList]
 apply wpAny_forIn_list _
  (λrest (b:Array Int) s'=>(rest=[.ref c,v]/\b.toList=[]/\s'=s)∨(rest=[v]/\b.toList=[tupleKeyHash knd m.1]/\s'={ s with toks:=s.toks+(m.1.length+1) })∨(rest=[]/\b.toList=[tupleKeyHash knd m.1,knd.hash m.2]/\s'={ s with toks:=s.toks+(m.1.length+1+1) }))
  _ ?_ ?_ _ _ (.inl #[Z,Z,Z])
 ·rintro x rest b s' (⟨e,hb,rfl⟩|⟨e,hb,rfl⟩|⟨e,_⟩)
  ·injection e with e1 e2
   subst e1 e2;apply ao (wpAny_pyHash_tuple (knd:=knd) (by show _<cLine;omega) h1 ?_)
   first
    |exact aP (.inr (.inl ⟨rfl,by simp[hb],rfl⟩))
    |exact ao (aP (aP (.inr (.inl ⟨rfl,by simp[hb],rfl⟩))))
  ·injection e with e1 e2
   subst e1 e2;apply ao (knd.pyHash h2 ?_)
   first
    |exact aP (.inr (.inr ⟨rfl,by simp[hb],rfl⟩))
    |exact ao (aP (aP (.inr (.inr ⟨rfl,by simp[hb],rfl⟩))))
  cases e
 rintro b s' (⟨e,_⟩|⟨e,_⟩|⟨_,hb,rfl⟩)
 ·cases e
 ·cases e
 show wpAny _ _ (retInt (Builtin.Tuple.tupleHashOf b.toList)) _ _ _;rw[hb];apply wpAny_ret_mkInt ?_;unfold Po reduceHash at h;show wpAny _ _ (if (decide (-(2:Int) ^ 63<=Builtin.Tuple.tupleHashOf [tupleKeyHash knd m.1,knd.hash m.2])&&decide (Builtin.Tuple.tupleHashOf [tupleKeyHash knd m.1,knd.hash m.2]<2 ^ 63))=true then _ else _) Q E _;by_cases hr:(decide (-(2:Int) ^ 63<=Builtin.Tuple.tupleHashOf [tupleKeyHash knd m.1,knd.hash m.2])&&decide (Builtin.Tuple.tupleHashOf [tupleKeyHash knd m.1,knd.hash m.2]<2 ^ 63))=true
 ·rw[aJ hr];rw[aJ hr] at h;exact aP (by simpa [Nat.add_assoc] using h)
 rw[aC hr];rw[aC hr] at h;exact ao (wpAny_rule (aP (by simpa [Nat.add_assoc] using h)))
theorem ew_{x y:List K × K}{a b:Addr}{P:PySem.Fin->Ab->Prop}(hu:A.units<cLine)(hx:ou knd s.heap x a)(hy:ou knd s.heap y b)(h:P (.done (.ret (.bool (decide (x=y))))) s) :
  wpAny (model prog w) A (Builtin.«tuple.__eq__» ⟨[.ref a,.ref b],[]⟩) P E s:=by
 let hTb:=hy.typeIs;let#[oa,na,c,v,hoa,_,hda,h1,h2]:=hx;let#[ob,nb,c',v',NB,_,gT,jT,iL]:=hy;show wpAny _ _ (isInstance (.ref b) (.type "tuple") >>= _) _ _ s;apply ao (wpAny_isInstance hTb isSubtype_tuple_tuple ?_);simp only[yi,me,if_false];apply ao (wpAny_tupleItemsOf hoa hda ?_);apply ao (wpAny_tupleItemsOf NB gT ?_);apply ao ?_
 apply wpAny_forIn_list _
  (λrest r s'=>r.1=none/\s'=s/\((rest=[(.ref c,.ref c'),(v,v')])∨(rest=[(v,v')]/\x.1=y.1)∨(rest=[]/\x=y)))
  _ ?_ ?_ _ _ ⟨rfl,rfl,.inl rfl⟩
 ·rintro⟨u,u'⟩ rest r s' ⟨hr,rfl,e|⟨e,e1⟩|⟨e,_⟩⟩
  ·injection e with e2 e3
   injection e2 with e4 e5
   subst e3 e4 e5;apply ao (wpAny_eqBool_tuple (knd:=knd) hu h1 jT ?_);by_cases hk:x.1=y.1
   ·rw[cc hk];simp only[yi,me,if_false];exact aP ⟨rfl,rfl,.inr (.inl ⟨by trivial,hk⟩)⟩
   rw[dc hk];simp only[Bool.not_false,if_true];rw[dc (λz:x=y=>hk (by rw[z]))] at h;exact ao (aP (aP (aP h)))
  ·injection e with e2 e3
   injection e2 with e4 e5
   subst e3 e4 e5;apply ao (knd.eqBool (a:=x.2) (b:=y.2) h2 iL ?_);by_cases hk:x.2=y.2
   ·rw[cc hk];simp only[yi,me,if_false];exact aP ⟨rfl,rfl,.inr (.inr ⟨by trivial,Prod.ext e1 hk⟩)⟩
   rw[dc hk];simp only[Bool.not_false,if_true];rw[dc (λz:x=y=>hk (by rw[z]))] at h;exact ao (aP (aP (aP h)))
  cases e
 rintro⟨r1,r2⟩ s' ⟨hr,rfl,e|⟨e,_⟩|⟨_,e⟩⟩
 ·cases e
 ·cases e
 simp only at hr;subst hr;apply aP ?_;rw[cc e] at h;exact h
theorem f8_{x y:List K × K}{a b:Addr}{Q:Bool->Ab->Prop}(hu:A.units+1<cLine)(hx:ou knd s.heap x a)(hy:ou knd s.heap y b)(h:Q (decide (x=y)) s) :
  wpAny (model prog w) A (eqBool (.ref a) (.ref b)) Q E s:=by
 unfold eqBool
 try with_reducible apply jK ?_
 show wpAny _ _ (if (Value.ref a == Value.ref b)=true then _ else _) Q E s;by_cases xM:(Value.ref a == Value.ref b)=true
 ·rw[aJ xM];have e:a=b:=by have:=eq_of_beq xM;injection this
  subst e;obtain rfl:=hx.inj hy;exact ao (wpAny_rule (aP ⇑h))
 rw[aC xM]
 exact ao (wpAny_richCompare_same_room (op:=.Eq) hx.typeIs hy.typeIs F.slot_tuple_eq
  (wpAny_call_entry F.slot_tuple_eq hx.typeIs F.entry_tuple_eq (ew_ (by show _<cLine;omega) hx hy ⟨_,rfl,(λe=>nomatch e),rO h⟩) (F.args_tuple_eq_2 _ _)) Z1)
theorem f4_{n:Nat}{ks:List K}{a:Addr}{Q:Bool->Ab->Prop}(hk:IsTupleKey knd s.heap ks a)(h:Q true s):wpAny (model prog w) A (eqIsQuiet (n+1) (.ref a)) Q E s:=by
 let hT:=hk.typeIs;let#[o,items,m,ho,_,hd,hi]:=hk;unfold eqIsQuiet;apply ao (wpAny_specialOf hT F.slot_tuple_eq.lookup ?_);show wpAny _ _ (isInstance (.ref a) (.type "tuple") >>= _) _ _ s;apply ao (wpAny_isInstance hT isSubtype_tuple_tuple ?_);simp only[yi,me,if_false];apply ao (wpAny_seqItems ho hd ?_);apply ao ?_;show wpAny _ _ (forIn items _ _) _ _ s;rw[<- Array.forIn_toList];apply wpAny_forIn_list _ (λrest r s'=>r.1=none/\s'=s/\∀v∈rest,carriedByValue v=true) _ ?_ ?_ _ _ ⟨rfl,rfl,hi.byValue⟩
 ·rintro v rest r s' ⟨hr,rfl,kI⟩;rw[eqIsQuiet_byValue _ (kI v eZ)];apply ao (aP ?_);simp only[yi,me,if_false];exact aP ⟨rfl,rfl,λu SQ=>kI u (dZ _ SQ)⟩
 rintro⟨r1,r2⟩ s' ⟨hr,rfl,_⟩;simp only at hr;subst hr;exact aP h
theorem gn_{m:List K × K}{a:Addr}{Q:Bool->Ab->Prop}(hk:ou knd s.heap m a)(h:Q true s):wpAny (model prog w) A (eqIsQuiet 8 (.ref a)) Q E s:=by
 let hT:=hk.typeIs;let#[o,n,c,v,ho,_,hd,h1,h2]:=hk;unfold eqIsQuiet;apply ao (wpAny_specialOf hT F.slot_tuple_eq.lookup ?_);show wpAny _ _ (isInstance (.ref a) (.type "tuple") >>= _) _ _ s;apply ao (wpAny_isInstance hT isSubtype_tuple_tuple ?_);simp only[yi,me,if_false];apply ao (wpAny_seqItems ho hd ?_);apply ao ?_;show wpAny _ _ (forIn (List.toArray [Value.ref c,v]) _ _) _ _ s;rw[<- Array.forIn_toList];apply wpAny_forIn_list _ (λrest r s'=>r.1=none/\s'=s/\(rest=[.ref c,v]∨rest=[v]∨rest=[])) _ ?_ ?_ _ _ ⟨rfl,rfl,.inl rfl⟩
 ·rintro u rest r s' ⟨hr,rfl,e|e|e⟩
  ·injection e with e1 e2
   subst e1 e2;apply ao (f4_ h1 ?_);simp only[yi,me,if_false];exact aP ⟨rfl,rfl,.inr (.inl (by trivial))⟩
  ·injection e with e1 e2
   subst e1 e2;rw[eqIsQuiet_byValue _ (knd.byValue _ _ h2)];apply ao (aP ?_);simp only[yi,me,if_false];exact aP ⟨rfl,rfl,.inr (.inr (by trivial))⟩
  cases e
 rintro⟨r1,r2⟩ s' ⟨hr,rfl,_⟩;simp only at hr;subst hr;exact aP h
end
def Hk{prog:Ad}{w:Af}{K:Type}[DecidableEq K](knd:KeyKind prog w K):HeapKind prog w (List K × K) where
 is:=ou knd
 hash:=Po knd
 draws:=λm=>m.1.length+1+1+1
 room:=λA=>A.units+1<cLine
 inj:=λhx hy=>hx.inj hy
 keeps:=λx ho hd hs=>x.keeps ho hd hs
 pyHash:=λhu hk h=>fa_ hu hk h
 eqBool:=λhu hx hy h=>f8_ hu hx hy h
 quiet:=λhk h=>gn_ hk h
end dI
namespace L2
open PySem PySem.Spec PyProof.Rows PySem.W dI
abbrev cw:=ax × Int
def eO(m:cw):ax × Key:=(m.1,Sum.inl m.2)
theorem Uz{a b:cw}(h:eO a=eO b):a=b:=by
 let h1:=eA Prod.fst h;let h2:=eA Prod.snd h;exact Prod.ext h1 (Sum.inl.inj h2)
def hW(H:Hp)(b:Addr)(m:cw):Prop:=∃c,H b\.tup [.ref c,.int m.2]/\H c\.tup (m.1.map kV)
def lF(P:Ad)(w:Af)(H:Hp)(d:Addr)(kvs:List (cw × V)):Prop:=∃(es:Array Ah) (ep:Nat) (xs:List ((ax × Key) × Addr × Aa)),H d\dh d es ep/\es.toList=xs.map (entryOfKey (Hk (d_ P w)))/\Paired (λ(p:cw × V) (q:(ax × Key) × Addr × Aa)=>eO p.1=q.1/\hW H q.2.1 p.1/\RelV p.2 q.2.2) kvs xs/\(kvs.map (·.1)).Nodup
theorem hW.keep{H H':Hp}{b:Addr}{m:cw}(h:hW H b m)(k:∀c xs,H c\.tup xs->H' c\.tup xs):hW H' b m:=by
 let#[c,h1,h2]:=h;exact#[c,k _ _ h1,k _ _ h2]
theorem lF.keys{P:Ad}{w:Af}{H:Hp}{kvs:List (cw × V)}{xs:List ((ax × Key) × Addr × Aa)}(h:Paired (λ(p:cw × V) (q:(ax × Key) × Addr × Aa)=>eO p.1=q.1/\hW H q.2.1 p.1/\RelV p.2 q.2.2) kvs xs):xs.map (·.1)=(kvs.map (·.1)).map eO:=by
 induction h with
 |nil=>rfl
 |cons h t ih=>rw[eV,eV,eV,ih,h.1]
section
variable{X:Cx}{pins:List (Addr × Obj)}{σ:St}{H:Hp}{s:Ab}
theorem Kk{P:Ad}{w:Af}{H:Hp}{h:Heap}{b:Addr}{m:cw}(ok:cO P w H h)(e:hW H b m):(Hk (d_ P w)).is h (eO m) b:=by
 let#[c,h1,h2]:=e;let#[_,its,r,#[o,q1,q2,n,q3],_]:=(show d9 P w H h b (.tup [.ref c,.int m.2]) from ok b _ h1);let#[u,v,rfl,r1,r2]:=vals2 r;cases r1;exact#[o,n,c,v,q1,q2,q3,D9 ok h2,v_ (k:=Sum.inl m.2) r2]
theorem Nv{d:Addr}{kvs:List (cw × V)}(I:Inv X pins σ H s)(h:lF X.prog X.w H d kvs):(d == sysModules)=false/\∃(es:Array Ah) (ep:Nat) (xs:List ((ax × Key) × Addr × Aa)),H d\dh d es ep/\s.heap.DictOfH (Hk (d_ X.prog X.w)) d xs/\Paired (λ(p:cw × V) (q:(ax × Key) × Addr × Aa)=>eO p.1=q.1/\hW H q.2.1 p.1/\RelV p.2 q.2.2) kvs xs:=by
 let#[es,ep,xs,e,ee,pr,nd]:=h;let#[#[o,ho,hc,hd],hs]:=G5 I e;apply#[hs,es,ep,xs,e,#[o,es,ep,ho,hc,hd,ee,λx hx=>?_,?_],pr]
 ·let#[i,hi,ex]:=rZ hx;let le:=bS pr;let#[a,b,_]:=jN pr i Z1 hi;rw[ex] at a b;rw[<- a];exact Kk I.au b
 rw[lF.keys (P:=X.prog) (w:=X.w) pr,vC,vE];exact (vC.mp nd).imp λn e=>n (Uz e)
theorem Jq{kvs:List (cw × V)}{xs:List ((ax × Key) × Addr × Aa)}(h:Paired (λ(p:cw × V) (q:(ax × Key) × Addr × Aa)=>eO p.1=q.1/\hW H q.2.1 p.1/\RelV p.2 q.2.2) kvs xs)(m:cw):(m∉kvs.map (·.1)->atKey xs (eO m)=none)/\∀v,(m,v)∈kvs->(kvs.map (·.1)).Nodup->∃p,atKey xs (eO m)\p/\RelV v p.2:=by
 induction h with
 |nil=>exact#[λ_=>rfl,λv h=>by cases h]
 |@cons p q ps qs hq t ih=>
  let#[e,_,r]:=hq;by_cases z:p.1=m
  ·have e2:atKey (q::qs) (eO m)\q.2:=by simp[atKey,yg,<- e,z]
   apply#[λn=>absurd (by simp[z]) n,λv hv nd=>#[q.2,e2,?_]];rcases bW.mp hv with hv|hv
   ·rw[<- hv] at r;exact r
   rw[eV,qU] at nd;exact absurd (bD.mpr #[_,hv,z.symm]) nd.1
  have e2:atKey (q::qs) (eO m)=atKey qs (eO m):=by
   have:¬q.1=eO m:=λy=>z (Uz (e.trans y));simp[atKey,yg,this]
  rw[e2];apply#[λn=>ih.1 λy=>n (by rw[eV];exact dZ _ y),λv hv nd=>?_];rw[eV,qU] at nd;rcases bW.mp hv with hv|hv
  ·rw[<- hv] at z;exact absurd Z z
  exact ih.2 v hv nd.2
theorem Ot{A:Ag}(hu:A.units+2<cLine):(Hk (d_ X.prog X.w)).room A.in1:=by
 show A.units+1+1<cLine;omega
end
section
variable{X:Cx}{o i value:Expr}{pos pos':Pos}{td ty tv:TE}
def Aw:TE:=λ_ H Q=>∀p,H p=none->Q (.ref p) (upd H p (dh p #[] 0))
theorem iU_:PE X (.Dict [] [] pos) Aw:=λpins s σ H Q I h=>
 wpAny_Dict_empty #[.ref s.heap.objs.size,_,I.laid (a:=s.heap.objs.size) (o:=dh s.heap.objs.size #[] 0) (t':=s.toks) (λ_ _ q=>bQ _ q) (bj _) (Oh #[_,dU _ Z,#[Z,Z,Z],Z] (beq_eq_false_iff_ne.mpr (Ne.symm (dB I.big)))),Z,h _ (I.au.fresh (bj _))]
theorem kB_{P:Ad}{w:Af}{H:Hp}{d:Addr}:lF P w (upd H d (dh d #[] 0)) d []:=#[#[],0,[],az,Z,.nil,List.nodup_nil]
inductive sI (P:Ad) (w:Af) (Q:VK) (y:V) (x:V) (H2:Hp):Prop
 |mk:∀(d b:Addr) (m:cw) (kvs:List (cw × V)),x=.ref d->y=.ref b->hW H2 b m->lF P w H2 d kvs->(∀z:Bool,(z=true ↔ m∈kvs.map (·.1))->Q (.bl z) H2)->sI P w Q y x H2
def EX(P:Ad)(w:Af)(ty td:TE):TE:=λσ H Q=>ty σ H λy H1=>td σ H1 λx H2=>sI P w Q y x H2
theorem kM_(hu:X.A.units+2<cLine)(hi:PE X i ty)(ho:PE X o td):PC X .In i o (EX X.prog X.w ty td):=by
 intro pins s σ H Q I h;apply aQ (hi pins s σ H _ I h) λiv s1 ⟨y,H1,I1,ry,q1⟩=>aQ (ho pins s1 σ H1 _ I1 q1) λu s2 ⟨x,H2,I2,rx,d,b,m,kvs,ex,ey,mk,ms,q2⟩=>?_;subst ex ey;cases (show u=Value.ref d from rx);cases (show iv=Value.ref b from ry);let#[_,_,_,_,_,_,nd]:=id ms;let#[hs,es,ep,xs,e,dd,pr]:=Nv I2 ms;apply wpAny_in_heap (Ot hu) (Kk I2.au mk) hs dd ?_;apply#[.bl _,H2,I2.tok _,Z,q2 _ ?_];by_cases z:m∈kvs.map (·.1)
 ·let#[#[m',v],hv,em]:=bD.mp z;cases em;let#[p,hp,_]:=(Jq pr m').2 v hv nd;rw[hp];exact#[λ_=>z,λ_=>rfl]
 rw[(Jq pr m).1 z];exact#[λh=>(by cases h),λh=>absurd h z]
inductive oU (P:Ad) (w:Af) (Q:VK) (x:V) (y:V) (H2:Hp):Prop
 |mk:∀(d b:Addr) (m:cw) (kvs:List (cw × V)) (v:V),x=.ref d->y=.ref b->hW H2 b m->lF P w H2 d kvs->(m,v)∈kvs->Q v H2->oU P w Q x y H2
def Ay(P:Ad)(w:Af)(td ty:TE):TE:=λσ H Q=>td σ H λx H1=>ty σ H1 λy H2=>oU P w Q x y H2
theorem Ud(hu:X.A.units+2<cLine)(ho:PE X o td)(hi:PE X i ty)(hs:yl i):PE X (.Subscript o i pos) (Ay X.prog X.w td ty):=by
 intro pins s σ H Q I h;apply Os PySem.F.slot_dict_getitem.lookup hs (aQ (ho pins s σ H _ I h) λu s1 ⟨x,H1,I1,rx,q1⟩=>aQ (hi pins s1 σ H1 _ I1 q1) λiv s2 ⟨y,H2,I2,ry,d,b,m,kvs,v,ex,ey,mk,ms,mv,q2⟩=>?_);subst ex ey;cases (show u=Value.ref d from rx);cases (show iv=Value.ref b from ry);let#[_,_,_,_,_,_,nd]:=id ms;let#[hs,es,ep,xs,e,dd,pr]:=Nv I2 ms;let#[p,hp,rp]:=(Jq pr m).2 v mv nd;exact#[dd.typeIs,wpAny_getItem_heap (Ot hu) (Kk I2.au mk) dd hp #[v,H2,I2.tok _,rp,q2]]
inductive pf (P:Ad) (w:Af) (D:Ends) (σ:St) (v:V) (x:V) (y:V) (H3:Hp):Prop
 |mk:∀(d b:Addr) (m:cw) (kvs:List (cw × V)),x=.ref d->y=.ref b->hW H3 b m->lF P w H3 d kvs->m∉kvs.map (·.1)->kvs.length<sizeLine->(∀H4,(∀c o,H3 c\o->c≠d->H4 c\o)->lF P w H4 d (kvs++[(m,v)])->D.nx σ H4)->pf P w D σ v x y H3
def A6(P:Ad)(w:Af)(td ty tv:TE):TS:=λD σ H=>tv σ H λv H1=>td σ H1 λx H2=>ty σ H2 λy H3=>pf P w D σ v x y H3
theorem j9_(hu:X.A.units+2<cLine)(ho:PE X o td)(hi:PE X i ty)(hv:PE X value tv)(hs:swapsWith value (some (.Subscript o i pos')) pos.line X.env=pure false) :
  PS X (.Assign [.Subscript o i pos'] value pos) (A6 X.prog X.w td ty tv):=by
 intro pins s σ H D I h;apply wpAny_Assign_Subscript (aQ (hv pins s σ H _ I h) λr s1 ⟨v,H1,I1,rv,q1⟩=>aQ (ho pins s1 σ H1 _ I1 q1) λu s2 ⟨x,H2,I2,rx,q2⟩=>aQ (hi pins s2 σ H2 _ I2 q2) λiv s3 ⟨y,H3,I3,ry,d,b,m,kvs,ex,ey,mk,ms,nm,hz,q3⟩=>?_) hs;subst ex ey;cases (show u=Value.ref d from rx);cases (show iv=Value.ref b from ry);let#[_,_,_,_,_,_,nd]:=id ms;let#[hs,es,ep,xs,e,dd,pr]:=Nv I3 ms;let le:=bS pr;apply wpAny_setItem_heap (hsz:=by omega) (Ot hu) (Kk I3.au mk) dd λh' vg hsb=>?_;let#[q,zA,zB,hq,h2,h3,h4,_,h5]:=vg;have Mi:Raw h' d zA zB:=#[q,hq,h2,h3];let I4:=HY (t':=s3.toks+(Hk (d_ X.prog X.w)).draws (eO m)) I3 (by rw[e];exact True.intro) hsb #[q,hq] (Oh Mi hs)
 have kt:∀c xs,H3 c\.tup xs->upd H3 d (dh d zA zB) c\.tup xs:=λc xs ec=>by
  rw[aF (cj ec e nofun)];exact ec
 apply#[σ,_,I4,q3 _ (λc o e n=>by rw[aF n];exact e) #[zA,zB,_,az,h4,?_,?_]]
 ·have st:storedH xs (eO m) b r=xs++[(eO m,b,r)]:=by
   unfold storedH;rw[(Jq pr m).1 nm];rfl
  rw[st];exact Paired.snoc (Paired.bC pr λp q ⟨a,b,c⟩=>#[a,b.keep kt,c]) #[Z,mk.keep kt,rv]
 rw[eK,List.nodup_append];apply#[nd,by simp,λa ha b hb=>?_];rw[show b=m by simpa using hb];intro z;rw[z] at ha;exact nm ha
end
end L2
namespace Ev
open PySem L2
def i7(K:af)(H:Hp)(hs:Xa)(qs:aH)(fp:ai)(v:V):Prop:=wg K H hs qs fp v∨IE K H hs qs v
def QF(K:af)(CG CW CN:Addr):Sp:=λvs H Q E=>Pj K CG CW vs H Q E∨VS K CG CW CN vs H Q E∨VO K CG CW CN vs H Q E
structure gD (P:Ad) (w:Af) (K:af) (mg:Str->Option Aa) (base:Heap) (k:Nat) (x:Str) (ps:ae) (sp:Sp):Prop where
 ex:∃f fd,ag P w K mg base (fe P w) k f fd ps sp/\mg x\.ref f/\PySem.W.keepIn K (.ref f)=true/\l8 K fd ps []
theorem B7{X:Cx}{E:XK}{k:Nat}{x:Str}{ps:ae}{sp:Sp}{p pos:Pos}{e:Expr}{es:List Expr}{t:TA}(c:gD X.prog X.w X.K X.mg X.base k x ps sp)(hr:aK k X.A)(hx:jG (fe X.prog X.w) X E)(ha:PA X (e::es) t)(hg:Gl X x:=by rfl)(gT:(x == ("__debug__":Str))=false:=by decide)
  (he:starEach (e::es) X.env=(false,eval e X.env)::starEach es X.env:=by rfl) (fJ:(backTo pos (starEach es X.env)).any (·.1)=false:=by rfl):PE X (.Call (.Name x p) (e::es) [] pos) (Cc sp [] E t):=by
 let#[f,fd,F,m,kp,b]:=c.ex;exact OS F hr hg m kp b .nil hx ha gT he fJ
def Iq(K:af)(CG CW CR CN:Addr):Sp:=λvs H Q E=>∃(g v vr:V),vs=[g,v,vr]/\((jP K H du vr/\E (.ref CR) none H)∨∃r∈rl,vr=.str r.1/\QF K CG CW CN [g,v] H Q E)
abbrev UU:=Rl->Xa->Xb->aH->(Str->Str)->Nat->V->Hp->Prop
def yI(K:af)(CG CW T1 T2 CR CN CM:Addr)(U:UU):Sp:=λvs H Q E=>∃(g p:Addr) (v vr vm:V) (hs:Xa) (ts:Xb) (qs:aH) (fp:ai),vs=[.ref g,v,vr,vm]/\fN K CG CW H g p hs ts qs fp /\
 ((jP K H du vr/\E (.ref CR) none H)∨∃r∈rl,vr=.str r.1/\((i7 K H hs qs fp v/\∀H',aa H H'->E (.ref CN) none H') ∨
  ∃(d:Addr) (ns:ae) (f:aq),v=.ref d/\Wt K CG CW H g p d hs ts qs fp ns f/\Wd hs ts qs f/\Tb H T1 T2 /\
   ((∃n:Nat,vm=.int n/\n<=3000/\∀v' H',BT T1 T2 H H'->Tb H' T1 T2->U r hs ts qs f n v' H'->Q v' H') ∨
    ((∀H',NT H H'->iE K H' vm)/\∀H',BT T1 T2 H H'->Tb H' T1 T2->E (.ref CM) none H'))))
theorem yI.mono{K:af}{CG CW T1 T2 CR CN CM:Addr}{U:UU}{vs:aj}{H:Hp}{Q Q':VK}{E E':XK}(h:yI K CG CW T1 T2 CR CN CM U vs H Q E)(hQ:∀v H,Q v H->Q' v H)(hE:∀c d H,E c d H->E' c d H):yI K CG CW T1 T2 CR CN CM U vs H Q' E':=by
 let#[g,p,v,vr,vm,hs,ts,qs,fp,e,GA,h]:=h;apply#[g,p,v,vr,vm,hs,ts,qs,fp,e,GA,?_];rcases h with⟨n,k⟩|⟨r,hr,er,⟨no,k⟩|⟨d,ns,f,ev,S,W,tb,⟨m,em,m0,k⟩|⟨no,k⟩⟩⟩
 ·exact .inl #[n,hE _ _ _ k]
 ·exact .inr #[r,hr,er,.inl #[no,λH' s=>hE _ _ _ (k H' s)]]
 ·exact .inr #[r,hr,er,.inr #[d,ns,f,ev,S,W,tb,.inl #[m,em,m0,λv' H' a b c=>hQ _ _ (k v' H' a b c)]]]
 exact .inr #[r,hr,er,.inr #[d,ns,f,ev,S,W,tb,.inr #[no,λH' a b=>hE _ _ _ (k H' a b)]]]
def Bx:UU:=λ_ _ _ _ _ _ v H=>∃d kvs,v=.ref d/\H d\.dK kvs
def Bw:UU:=λ_ _ _ _ _ _ v H=>∃l xs,v=.ref l/\H l\.lst xs
section
variable{P:Ad}{w:Af}{K:af}{mg:Str->Option Aa}{base:Heap}{CS CG CW T1 T2 CR CN CM:Addr}
theorem id_{f CR:Addr}{fd:Ae}(F:a_ K we we Ke f fd)(R:Ref K mg "NoRule" CR)(cI:!bx 1 "is_rule" fu (VP K)):!ag (fe P w) 2 f fd ["rule"] (U8 K CR):=by
 apply F.km o7 λaD A outer s H vs Q E hr h ro hp rm=>?_;let#[v,rfl,n,k]:=h;apply#[_,ay (bA (eJ (eB (bt cI hr %[0|0]))) (aI (zP Z rm R.mg R.ex zL (by rfl) %[bM|0])) bB) d0,?_];exact#[_,Z,v,Z,n,_,Z,bK #[zl,k]]
theorem _Y{f0:Addr}{fd:Ae}(F:a_ K "checked_moments" "checked_moments" Qw f0 fd)(R:Ref K mg "NoMoment" CM)(cI:!bx 2 "is_whole_from" Cm (QH K)):!ag (fe P w) 3 f0 fd fu (mB K CM):=by
 apply F.km e6' λaD A outer s H vs Q E hr h ro hp rm=>?_;let#[v,rfl,h]:=h;apply#[_,ay (bA (eJ (eB (bt cI hr %[0,aM|0]))) (aI (zP Z rm R.mg R.ex zL (by rfl) %[bM|0])) bB) (aI (bg (pv 0))),?_];have one:1<=sizeLine:=by decide
 rcases h with⟨i,rfl,h0,k⟩|⟨⟨x,rfl,hx⟩|n,k⟩
 ·apply#[_,Z,.inl #[i,0,Z,_,Z,?_]];rw[cc h0];exact aR #[_,Z,k]
 ·apply#[_,Z,.inl #[x,0,Z,_,Z,?_]];rw[dc (show ¬0<=x by omega)];exact bK #[one,k]
 exact#[_,Z,.inr #[v,0,Z,n,_,Z,bK #[one,k]]]
theorem g4_{f0:Addr}{fd:Ae}(F:a_ K "checked_start" "checked_start" OI f0 fd)(HB:!gD 2 we ["rule"] (U4 K CR))(cS:!gD 2 ya D5 (QF K CG CW CN)):!ag (fe P w) 3 f0 fd DX (Iq K CG CW CR CN):=by
 apply F.km tF λaD A outer s H vs Q E hr h ro hp rm=>?_;let#[g,v,vr,rfl,h]:=h;apply#[_,ay (p_ (B7 HB hr hp %[2|0])) (aI (bg (B7 cS hr hp %[0,1|0]))),?_];rcases h with⟨n,k⟩|⟨r,eC,rfl,h⟩
 ·exact#[_,Z,.inr #[vr,Z,n,k]]
 exact#[_,Z,.inl #[r,eC,Z,λa _=>#[_,Z,_,Z,h]]]
theorem Pi{g p:Addr}{v vr:V}{hs:Xa}{ts:Xb}{qs:aH}{fp:ai}{H:Hp}{Q:VK}{E:XK}{r:Rl}(hr:r∈rl)(e:vr=.str r.1)(GA:fN K CG CW H g p hs ts qs fp)(no:i7 K H hs qs fp v)(k:∀H',aa H H'->E (.ref CN) none H'):Iq K CG CW CR CN [.ref g,v,vr] H Q E:=by
 apply#[_,_,_,Z,.inr #[r,hr,e,?_]];rcases no with no|no
 ·exact .inr (.inl #[g,p,v,hs,ts,qs,fp,Z,GA,no,k])
 exact .inr (.inr #[g,p,v,hs,ts,qs,fp,Z,GA,no,k])
abbrev Yh:ae:=["goods","stand","rule","moments","placed","moment"]
theorem Kq:bq Yh zI (aL mM):=bE
theorem hl_{f0:Addr}{fd:Ae}(F:a_ K "stand_after" "stand_after" mM f0 fd)(B:Bi mg)(CA:!gD 3 "checked_start" DX (Iq K CG CW CR CN))(Ek:!gD 3 "checked_moments" fu (mB K CM))(HK:!bx 9 "placed_after" lC (HA K CG CW T1 T2)):!ag (fe P w) 10 f0 fd zI (yI K CG CW T1 T2 CR CN CM Bx):=by
 apply F.km Kq λaD A outer s H vs Q E hr h ro hp rm=>?_;let#[g,p,v,vr,vm,hs,ts,qs,fp,rfl,GA,h]:=h;let sz:=cm;have qG:aK 3 _:=hr.mono (by decide);refine' #[_,ay ?s1 (ay ?s2 (aI (bg (pv 4)))),?kk]
 case s1=>exact bw 4 Kq.nd (B7 CA qG hp %[0,1,2|0])
 case s2=>exact f_ ro Z (Iv (by rfl) B.range %[B7 Ek qG hp %[3|0]|0]) (dR 5 Kq.nd) (aI (bw 4 Kq.nd (bt HK hr %[0,4,2,5|0])))
 rcases h with⟨no,k⟩|⟨r,eC,rfl,⟨no,k⟩|⟨d,ns,f,rfl,S,W,tb,h⟩⟩
 ·exact#[_,Z,_,Z,_,Z,_,_,vr,Z,.inl #[no,k]]
 ·exact#[_,Z,_,Z,_,Z,Pi eC Z GA no k]
 apply#[_,Z,_,Z,_,Z,_,_,_,Z,.inr #[r,eC,Z,.inl #[g,p,d,hs,ts,qs,fp,ns,f,Z,S.G,S.ic,S.hd,S.so,W.nd,W.bY,λdp H1 s1 n1 e1=>?_]]];lk;rcases h with⟨n,rfl,n3,k⟩|⟨no,k⟩;rotate_left 1
 ·exact#[_,Z,vm,Z,.inr #[no H1 (NT.of s1),k H1 (BT.of s1) #[tb.a.same s1,tb.b.same s1,tb.ne]]]
 apply#[_,Z,_,Z,.inl #[(n:Int),Z,by omega,(n:Int),Z,by omega,by omega,?_]];apply Iy (λi σ H'=>∃(v5:aV) (dp:Addr) (f2:aq),σ=[some (.ref g),some (.ref d),some (.str r.1),some (.int n),some (.ref dp),v5]/\BT T1 T2 H H'/\Tb H' T1 T2/\H dp=none/\Wd hs ts qs f2/\H' dp\.dK (cE (qs.map (·.1)) f2)) #[none,dp,f,Z,BT.of s1,#[tb.a.same s1,tb.b.same s1,tb.ne],n1,W,e1] ?_ ?_
 ·rintro i σ H2 hi ⟨v5,dp,f2,rfl,b2,j6,n2,W2,e2⟩;lk;let yY:=b2.nt tb
  have ic:dp∉fp:=λhm=>by
   let#[o,e,_]:=S.has dp hm;rw[e] at n2;cases n2
  apply#[_,Z,_,Z,_,Z,_,Z,g,p,dp,0+(i:Int),hs,ts,qs,fp,_,r,eC,Z,by omega,#[#[S.G.nt yY,W.Gd,ic,e2,W2.at_,W.nd,W.bY],W2,j6,λb hb=>let #[o,e,q]:=S.has b hb;#[o,yY _ _ e q]],λdq H3 b3 Am n3 e3=>?_];apply setG ?_;apply#[_,dq,_,Z,b2.trans b3,Am,?_,W2.step r _,e3];cases z:H dq with
  |none=>rfl
  |some o=>
   by_cases y1:dq=T1
   ·let#[tv,hT]:=g_ j6.a;rw[y1,hT] at n3;cases n3
   by_cases y2:dq=T2
   ·let#[tv,hT]:=g_ j6.b;rw[y2,hT] at n3;cases n3
   rw[b2 _ _ z y1 y2] at n3;cases n3
 rintro σ H2 ⟨v5,dp,f2,rfl,b2,j6,n2,W2,e2⟩;exact#[_,Z,k _ H2 b2 j6 #[dp,_,Z,e2]]
abbrev XR:ae:=["goods","stand","rule","moments","placed","sums","moment"]
theorem Iz:bq XR zI (aL OL):=bE
theorem g3_{f0:Addr}{fd:Ae}(F:a_ K "sums_of" "sums_of" OL f0 fd)(B:Bi mg)(CA:!gD 3 "checked_start" DX (Iq K CG CW CR CN))(Ek:!gD 3 "checked_moments" fu (mB K CM))(HK:!bx 9 "placed_after" lC (HA K CG CW T1 T2))(V4:!bx 5 "sum_at" l7 (OJ K CG CW)):!ag (fe P w) 10 f0 fd zI (yI K CG CW T1 T2 CR CN CM Bw):=by
 apply F.km Iz λaD A outer s H vs Q E hr h ro hp rm=>?_;let#[g,p,v,vr,vm,hs,ts,qs,fp,rfl,GA,h]:=h;let sz:=cm;have qG:aK 3 _:=hr.mono (by decide);refine' #[_,ay ?s1 (ay ?s2 (ay ?s3 (aI (bg (pv 5))))),?kk]
 case s1=>exact bw 4 Iz.nd (B7 CA qG hp %[0,1,2|0])
 case s2=>exact bw 5 Iz.nd (dC %[bt V4 hr %[0,4|0]|0])
 case' s3=>refine' f_ ro Z (Iv (by rfl) B.range %[B7 Ek qG hp %[3|0]|0]) (dR 6 Iz.nd) (ay ?t1 (aI ?t2))
 case t1=>exact bw 4 Iz.nd (bt HK hr %[0,4,2,6|0])
 case t2=>exact p_ (vk oo Ct Cu zR (pv 5) %[bt V4 hr %[0,4|0]|0])
 rcases h with⟨no,k⟩|⟨r,eC,rfl,⟨no,k⟩|⟨d,ns,f,rfl,S,W,tb,h⟩⟩
 ·exact#[_,Z,_,Z,_,Z,_,_,vr,Z,.inl #[no,k]]
 ·exact#[_,Z,_,Z,_,Z,Pi eC Z GA no k]
 have FG:∀{a:Addr},H a=none->a∉fp:=λna m=>by
  let#[o,e,_]:=S.has _ m;rw[e] at na;cases na
 apply#[_,Z,_,Z,_,Z,_,_,_,Z,.inr #[r,eC,Z,.inl #[g,p,d,hs,ts,qs,fp,ns,f,Z,S.G,S.ic,S.hd,S.so,W.nd,W.bY,λdp H1 s1 n1 e1=>?_]]];lk;apply#[_,Z,_,Z,g,p,dp,hs,ts,qs,fp,f,Z,#[S.G.same s1,W.Gd,FG n1,e1,W.at_,W.nd,W.bY],W.wq,λH2 s2=>?_];apply#[zl,λlx nx=>?_];let yQ:=s1.trans s2;let#[s3,e3]:=aN (o:=.lst [.int (AI hs qs f)]) nx;let Y3:=yQ.free nx;have O7:dp≠lx:=bU (s2 _ _ e1) nx;generalize upd H2 lx (.lst [.int (AI hs qs f)])=H3 at s3 e3 ⊢;lk;let iU:=yQ.trans s3;rcases h with⟨n,rfl,n3,k⟩|⟨no,k⟩;rotate_left 1
 ·exact#[_,Z,vm,Z,.inr #[no H3 (NT.of iU),k H3 (BT.of iU) #[tb.a.same iU,tb.b.same iU,tb.ne]]]
 apply#[_,Z,_,Z,.inl #[(n:Int),Z,by omega,(n:Int),Z,by omega,by omega,?_]];apply Iy (λi σ H'=>∃(v6:aV) (dp:Addr) (f2:aq) (xs:aj),σ=[some (.ref g),some (.ref d),some (.str r.1),some (.int n),some (.ref dp),some (.ref lx),v6]/\BT T1 T2 H H'/\Tb H' T1 T2/\dp≠lx/\H dp=none/\Wd hs ts qs f2/\H' dp\.dK (cE (qs.map (·.1)) f2)/\H' lx\.lst xs/\xs.length=i+1) #[none,dp,f,_,Z,BT.of iU,#[tb.a.same iU,tb.b.same iU,tb.ne],O7,n1,W,s3 _ _ (s2 _ _ e1),e3,Z] ?_ ?_
 ·rintro i σ H2 hi ⟨v6,dp,f2,xs,rfl,b2,j6,O7,n2,W2,e2,el,RY⟩;lk;rw[wF] at hi;let yY:=b2.nt tb;apply#[_,Z,_,Z,_,Z,_,Z,g,p,dp,0+(i:Int),hs,ts,qs,fp,_,r,eC,Z,by omega,#[#[S.G.nt yY,W.Gd,FG n2,e2,W2.at_,W.nd,W.bY],W2,j6,λb hb=>let #[o,e,q]:=S.has b hb;#[o,yY _ _ e q]],λdq H3 b3 Am n3 e3=>?_];lk;let W3:=W2.step r (0+(i:Int));let IB:=b2.trans b3;let xp:=IB.nt tb
  have nq:H dq=none:=by
   cases z:H dq with
   |none=>rfl
   |some o=>
    by_cases y1:dq=T1
    ·let#[tv,hT]:=g_ j6.a;rw[y1,hT] at n3;cases n3
    by_cases y2:dq=T2
    ·let#[tv,hT]:=g_ j6.b;rw[y2,hT] at n3;cases n3
    rw[b2 _ _ z y1 y2] at n3;cases n3
  let J8:=(b3.nt j6).lst el;have Vz:dq≠lx:=(bU el n3).symm;apply#[_,Z,.inl #[Z,#[_,.of J8]],?_];apply#[_,Z,_,Z,g,p,dq,hs,ts,qs,fp,_,Z,#[S.G.nt xp,W.Gd,FG nq,e3,W3.at_,W.nd,W.bY],W.wq,λH4 s4=>?_];let rD:=s4 _ _ J8;apply#[lx,_,_,Z,Z,rD,by omega,?_];have b5:bb lx H4 (upd H4 lx (.lst (xs++[.int (AI hs qs (Ck r hs ts qs (0+(i:Int)) f2))]))):=bb.upd;have e5:upd H4 lx (.lst (xs++[.int (AI hs qs (Ck r hs ts qs (0+(i:Int)) f2))])) lx\.lst (xs++[.int (AI hs qs (Ck r hs ts qs (0+(i:Int)) f2))]):=az;generalize upd H4 lx (.lst (xs++[.int (AI hs qs (Ck r hs ts qs (0+(i:Int)) f2))]))=H5 at b5 e5 ⊢;have kT:∀{T qn},bL H3 T qn->bL H5 T qn:=λ⟨es,a1,a2⟩=>#[es,b5 _ _ (s4 _ _ a1) (λz=>by rw[z,J8] at a1;cases a1),λx hx=>b5 _ _ (s4 _ _ (a2 x hx)) (λz=>by have:=a2 x hx;rw[z,J8] at this;cases this)];exact#[_,dq,_,_,Z,λb o e y1 y2=>b5 b o (s4 _ _ (IB b o e y1 y2)) (bU e Y3),#[kT Am.a,kT Am.b,Am.ne],Vz,nq,W3,b5 _ _ (s4 _ _ e3) Vz,e5,by rw[fZ,RY];rfl]
 rintro σ H2 ⟨v6,dp,f2,xs,rfl,b2,j6,O7,n2,W2,e2,el,RY⟩;exact#[_,Z,k _ H2 b2 j6 #[lx,_,Z,el]]
end
end Ev
namespace dI
open PySem PySem.W PyProof.Rows
section
variable{prog:Ad}{w:Af}{A:Ag}{E:Aa->Ab->Prop}{s:Ab}
end
end dI
namespace dI
open PySem PySem.W PyProof.Rows
section
variable{prog:Ad}{w:Af}{A:Ag}{E:Aa->Ab->Prop}{s:Ab}
end
end dI
namespace L2
open PySem PySem.Spec PyProof.Rows PySem.W dI
end L2
namespace dI
open PySem PySem.W PyProof.Rows
section
variable{prog:Ad}{w:Af}{A:Ag}{E:Aa->Ab->Prop}{s:Ab}
end
end dI
namespace dI
open PySem PySem.W PyProof.Rows
section
variable{prog:Ad}{w:Af}{A:Ag}{E:Aa->Ab->Prop}{s:Ab}
end
end dI
namespace dI
open PySem PySem.W PyProof.Rows
section
variable{prog:Ad}{w:Af}{A:Ag}{E:Aa->Ab->Prop}{s:Ab}
end
section
variable{prog:Ad}{w:Af}{K:Type}[DecidableEq K]{knd:PySem.KeyKind prog w K}{A:Ag}
end
end dI
namespace dI
open PySem PySem.W PyProof.Rows
section
variable{prog:Ad}{w:Af}{A:Ag}{E:Aa->Ab->Prop}{s:Ab}
end
end dI
namespace L2
open PySem PySem.Spec PySem.Calls PyProof.Rows PySem.W dI
end L2
namespace dI
open PySem PySem.W PyProof.Rows
section
variable{prog:Ad}{w:Af}{A:Ag}{E:Aa->Ab->Prop}{s:Ab}
end
end dI
namespace dI
open PySem PySem.W PyProof.Rows
section
variable{prog:Ad}{w:Af}{A:Ag}{E:Aa->Ab->Prop}{s:Ab}
end
end dI
namespace L2
open PySem PySem.Spec PyProof.Rows PySem.W dI
end L2
namespace L2
open PySem PySem.Spec PyProof.Rows PySem.W dI
section
variable{X:Cx}
end
section
variable{X:Cx}{CX:i_}{k:Nat}{f C:Addr}{fd:Ae}{ps ks:ae}{sp:Sp}{E:XK}{m:Str}{pos apos:Pos}{e o:Expr}{es:List Expr}{DA:List Keyword}{ta:TE}{t tk:TA}{g:ak->ak->ak}{gV:aj->aj->aj}
end
structure FunD (K:af) (x qual:Str) (st:Stmt) (f:Addr) (fd:Ae):Prop where
 ex:∃(oc:Aa) (od:Option Addr) (T:Addr) (kV doc pm:Aa) (an:Option Addr) (aD ct:Aa) (iI:Array (Option Aa)) (o:Obj) (n:Nat),
  fd=PySem.W.fnOf x qual (gX st) (eY st) (aL st) (.ref T) kV doc pm an aD ct/\K.lookup f=some ⟨oc,od,.func fd,iI⟩/\PySem.W.codeIn K aD qual=true/\K.lookup T\o/\o.data=.seq (List.toArray [.none]) n
end L2
namespace L2
open PySem PySem.Spec PyProof.Rows PySem.W dI
open AutoSeq1 (wpAny_loadPart')
theorem d7_{prog:Ad}{w:Af}(r:Addr)(o:Obj)(hc:o.cls=.type "dict_values")(φ:ak->Ab->Prop) :
  MeetsIn prog w (Builtin.«tuple.__new__» ⟨[.type "tuple",.ref r],[]⟩) (λA R s=>s.heap.get? r\o/\A.handled=none/\(∀(A':Ag) (E':Aa->Ab->Prop) (Rr:ak->Ab->Prop),A'.handled=none->(∀vs s1,φ vs s1->Rr vs s1)->wpAny (model prog w) A' (collect (.ref r)) Rr E' s)/\∀vs s1,φ vs s1->vs.length<=sizeLine/\R (.ok (.ret (.ref s1.heap.objs.size))) { s1 with heap:=s1.heap.push { cls:=.type "tuple",data:=.seq vs.toArray } }):=
 .of_wp λA R s h=>by
  let#[hp,g,d,tk,os]:=s;let#[ht,hh,col,h]:=h;let hsub:=sub_tuple_self;let SY:=init_tuple_lookup;let hmh:=madeHere_tuple;have hT:Shared.TypeIs #[hp,g,d,tk,os] (.ref r) "dict_values":=#[o,ht,hc];have PR:∀{Rr:ak->Ab->Prop} {E':Aa->Ab->Prop},(∀vs s1,φ vs s1->Rr vs s1)->wpAny (model prog w) A.in1 (collect (.ref r)) Rr E' #[hp,g,d,tk,os]:=λh=>col A.in1 _ _ hh h
  wp_walk using qO ht,wpAny_typeOf hT,PR
  intro vs s1 hv;let#[hz,h]:=h vs s1 hv;apply (show wpAny _ _ (Builtin.Tuple.tupleExact vs.toArray >>= λv=>ret v) _ _ _ from ?_);unfold Builtin.Tuple.tupleExact;apply ao (wb ?_ (by show vs.toArray.size<=sizeLine;simpa using hz));exact aP #[_,Z,h]
section
variable{X:Cx}
inductive yR (xs:aj) (H:Hp) (Q:VK):Prop
 |mk:∀v d kvs,xs=[.ref v]->H v\wo v d->H d\.dK kvs->(∀l,H l=none->Q (.ref l) (upd H l (.tup (kvs.map (·.2)))))->yR xs H Q
theorem hU_(hc:X.calm=true):fW X (.type "tuple") yR:=by
 intro pins s σ H xs us Q I r h;let#[v,d,kvs,rfl,hv,hd,q]:=h;let#[u,rfl,ru]:=vals1 r;cases ru;let#[z,hdn,vs,rel,dd]:=oq I.au (.inl hd);let#[ep,dat]:=dd.dictAt;let#[iv,_,_]:=I.au v _ hv;let hl:=rel.length;let#[o,ho,oc,_]:=id iv
 have col:∀(A':Ag) (E':Aa->Ab->Prop) (Rr:ak->Ab->Prop),A'.handled=none->(∀ws s1,(Inv X pins σ H s1/\Vals (kvs.map (·.2)) ws)->Rr ws s1)->wpAny (model X.prog X.w) A' (collect (.ref v)) Rr E' s:=λA' E' Rr hh q=>by
  apply kdu_collect (kdl_values (knd:=d_ X.prog X.w) (kvs:=vs) (ep:=ep)) hh #[iv,dat] Z1 λh' tk acc k a=>q _ _ #[I.kept k,?_];have a':ItemsOf (λi v=>∃k,vs[i]? = some (k,v)) acc (kvs.map (·.2)).length:=by rw[aB,hl];exact a
  apply Lf a' λj v ⟨k,e⟩ y hy=>?_;rw[dQ] at hy;cases e3:kvs[j]? with
  |none=>rw[e3] at hy;cases hy
  |some kv=>
   rw[e3] at hy;let#[u,hu,ru]:=Nj rel j (k:=kv.1) (x:=kv.2) e3;rw[e] at hu;let hu:=dG hu;have g2:v=u:=eA Prod.snd hu;cases (dG hy:kv.2=y);rw[g2];exact ru
 apply callType_newIn F.called_tuple (by decide) (F.typeCall_tuple_1 _) (F.newCall_tuple_1 _) (λobj=>F.args_object_init_2 obj _) F.entry_tuple_new
  (d7_ v o oc λws s1=>Inv X pins σ H s1/\Vals (kvs.map (·.2)) ws) #[ho,I.ok.hd hc,col,λws s1 ⟨I1,r1⟩=>#[?_,#[_,dU _ Z,Z],?_]]
 ·rw[<- r1.length,aB];exact z
 exact#[.ref s1.heap.objs.size,_,I1.laid (t':=s1.toks) (λb o e=>bQ _ e) (bj _) (show d9 X.prog X.w _ _ _ (.tup (kvs.map (·.2))) from #[by rw[aB];exact z,ws,r1,IsTup.new _ _,_,dU _ Z,Z]),Z,q _ (I1.au.fresh (bj _))]
end
end L2
namespace Ev
open PySem L2
def rj(r:Rl)(hs:Xa)(ts:Xb)(qs:aH)(f:aq)(i:Nat):cw:=(qs.map λq=>Sum.inr (runM r hs ts qs f i q.1),((i % pX r ts:Nat):Int))
def JU(r:Rl)(hs:Xa)(ts:Xb)(qs:aH)(f:aq)(i:Nat):Prop:=Cg r hs ts qs (runM r hs ts qs f i)=false/\∀j:Nat,j<i->rj r hs ts qs f j≠rj r hs ts qs f i
def xc:UU:=λr hs ts qs f n v H=>
 (∃(t d:Addr) (i:Nat),v=.ref t/\i<=n/\(∀j:Nat,j<i->JU r hs ts qs f j)/\Cg r hs ts qs (runM r hs ts qs f i)=true/\H t\.tup [.str "rest",.int i,.ref d]/\H d\.dK (cE (qs.map (·.1)) (runM r hs ts qs f i))) ∨
 (∃(t:Addr) (i j:Nat),v=.ref t/\i<=n/\(∀j:Nat,j<i->JU r hs ts qs f j)/\Cg r hs ts qs (runM r hs ts qs f i)=false/\j<i/\rj r hs ts qs f j=rj r hs ts qs f i/\H t\.tup [.str "ring",.int j,.int ((i:Int) - j)]) ∨
 ∃t:Addr,v=.ref t/\(∀j:Nat,j<=n->JU r hs ts qs f j)/\H t\.tup [.str "more"]
theorem lF.nt{P:Ad}{w:Af}{H H':Hp}{d:Addr}{kvs:List (cw × V)}(h:lF P w H d kvs)(s:NT H H'):lF P w H' d kvs:=by
 let#[es,ep,xs,e,ee,pr,nd]:=h;exact#[es,ep,xs,s _ _ e nofun,ee,Paired.bC pr λp q ⟨a,b,c⟩=>#[a,b.keep λc xs e=>s _ _ e nofun,c],nd]
theorem eW_{d:Addr}{es:Array Ah}{ep:Nat}{q:Str}:vx d q≠dh d es ep:=by
 intro z
 injection z with z
 have hg:(Heap.mk (Array.replicate (d+1) { (default:Obj) with data:=.fields (List.toArray [.none,.str q default]) }) {}).get? d=some { (default:Obj) with data:=.fields (List.toArray [.none,.str q default]) }:=by
  unfold Heap.get?;simp only[Array.getElem?_replicate,Nat.lt_succ_self,if_true]
 let c:=(congrFun z (Heap.mk (Array.replicate (d+1) { (default:Obj) with data:=.fields (List.toArray [.none,.str q default]) }) {})).mp #[_,_,_,hg,Z,Z];let#[#[o',e,_,dd],_]:=c;rw[hg] at e;cases e;cases dd
def iu(r:Rl)(hs:Xa)(ts:Xb)(qs:aH)(f:aq)(i:Nat):List (cw × V):=(List.range i).map λj=>(rj r hs ts qs f j,V.int j)
theorem U7{r:Rl}{hs:Xa}{ts:Xb}{qs:aH}{f:aq}{i:Nat}{m:cw}:m∈(iu r hs ts qs f i).map (·.1) ↔ ∃j:Nat,j<i/\rj r hs ts qs f j=m:=by
 unfold iu;rw[bV,bD];constructor
 ·rintro⟨j,hj,e⟩;exact#[j,List.mem_range.mp hj,e]
 rintro⟨j,hj,e⟩;exact#[j,List.mem_range.mpr hj,e]
theorem hv_(r:Rl)(ts:Xb):0<pX r ts:=by
 unfold pX;split<;>omega
theorem iZ_(qs:aH)(f:aq):(cE (qs.map (·.1)) f).map (·.2)=(qs.map λq=>(Sum.inr (f q.1):Key)).map kV:=by
 unfold cE bO;simp only[bV];exact vF λq _=>rfl
section
variable{P:Ad}{w:Af}{K:af}{mg:Str->Option Aa}{base:Heap}{CS CG CW T1 T2 CR CN CM:Addr}
abbrev Yj:ae:=["goods","stand","rule","most","placed","rows","first_by_mark","moment","mark"]
theorem C6:bq Yj qh (aL mP):=bE
theorem i1_{f0:Addr}{fd:Ae}(F:a_ K "run_of" "run_of" mP f0 fd)(B:Bi mg)(R:Ref K mg "NoMost" CM)(TG:c_ K CG)(CA:!gD 3 "checked_start" DX (Iq K CG CW CR CN))(cI:!bx 2 "is_whole_from" Cm (QH K))(HI:!bx 4 "rows_by" ["web","rule"] (KP K CW))(cRe:!bx 9 "rests_at" ["goods","placed","rule"] (OX K CG CW T1 T2))(HK:!bx 9 "placed_after" lC (HA K CG CW T1 T2)):!ag (fe P w) 10 f0 fd qh (yI K CG CW T1 T2 CR CN CM xc):=by
 apply F.km C6 λaD A outer s H vs Q E hr h ro hp rm=>?_;let#[g,p,v,vr,vm,hs,ts,qs,fp,rfl,GA,h]:=h;let sz:=cm;have qG:aK 3 _:=hr.mono (by decide);let Jx:=ow hr 1;refine' #[_,?r0,?kk]
 case' r0=>refine' ay ?s1 ?r1
 case s1=>exact bw 4 C6.nd (B7 CA qG hp %[0,1,2|0])
 case' r1=>refine' ay ?s2 ?r2
 case s2=>exact bA (eJ (eB (bt cI hr %[3,aM|0]))) (aI (zP Z rm R.mg R.ex zL (by rfl) %[bM|0])) bB
 case' r2=>refine' ay ?s3 ?r3
 case s3=>exact bw 5 C6.nd (bt HI hr %[cZ (pv 0) Z,2|0])
 case' r3=>refine' ay ?s4 ?r4
 case s4=>exact bw 6 C6.nd iU_
 case' r4=>refine' ay ?s5 (aI ?s6)
 case' s5=>refine' f_ ro Z (Iv (by rfl) B.range %[b_ p0 (pv 3) aM|0]) (dR 7 C6.nd) (ay ?b1 (ay ?b2 (ay ?b3 (ay ?b4 (aI ?b5)))))
 case b1=>exact bA (eB (bt cRe hr %[0,4,2|0])) (aI (bg (g0 %[bM,7,4|0]))) bB
 case b2=>exact bw 8 C6.nd (g0 %[jM (hU_ Z) (by rfl) B.tuple Hx %[UK (pv 4)|0],b_ wA (pv 7) (pv 5)|0])
 case b3=>exact bA (yb (kM_ Jx (pv 8) (pv 6))) (aI (bg (g0 %[bM,Ud Jx (pv 6) (pv 8) (λ_ _=>rfl),b_ J6 (pv 7) (Ud Jx (pv 6) (pv 8) (λ_ _=>rfl))|0]))) bB
 case b4=>exact j9_ Jx (pv 6) (pv 8) (pv 7) Z
 case b5=>exact bw 4 C6.nd (bt HK hr %[0,4,2,7|0])
 case s6=>exact bg (jM (Cw (K:=K)) (by rfl) B.tuple Hx %[dC %[bM|0]|0])
 have one:1<=sizeLine:=by decide
 rcases h with⟨no,k⟩|⟨r,eC,rfl,⟨no,k⟩|⟨d,ns,f,rfl,S,W,tb,h⟩⟩
 ·exact#[_,Z,_,Z,_,Z,_,_,vr,Z,.inl #[no,k]]
 ·exact#[_,Z,_,Z,_,Z,Pi eC Z GA no k]
 have FG:∀{a:Addr},H a=none->a∉fp:=λna m=>by
  let#[o,e,_]:=S.has _ m;rw[e] at na;cases na
 apply#[_,Z,_,Z,_,Z,_,_,_,Z,.inr #[r,eC,Z,.inl #[g,p,d,hs,ts,qs,fp,ns,f,Z,S.G,S.ic,S.hd,S.so,W.nd,W.bY,λdp H1 s1 n1 e1=>?_]]];lk;have EK:Tb H1 T1 T2:=#[tb.a.same s1,tb.b.same s1,tb.ne];rcases h with⟨n,rfl,n3,k⟩|⟨no,k⟩;rotate_left 1
 ·let k:=k H1 (BT.of s1) EK;rcases no H1 (NT.of s1) with⟨x,rfl,hx⟩|no
  ·apply#[_,Z,.inl #[x,0,Z,_,Z,?_]];rw[dc (show ¬0<=x by omega)];exact bK #[one,k]
  exact#[_,Z,.inr #[vm,0,Z,no,_,Z,bK #[one,k]]]
 apply#[_,Z,.inl #[(n:Int),0,Z,_,Z,?_]];rw[cc (show (0:Int)<=(n:Int) by omega)];apply aR ?_;let G1:=S.G.same s1;let#[iZ,dw,dy,vs,bI,g1,g2,_]:=id G1.ex;apply#[_,Z,g,CG,iZ,_,_,Z,g1,TG.cl,TG.nW,j1 _ _ _,_,Z,p,hs,ts,bI,r,eC,Z,g2,W.Gd.yF,λH2 s2=>?_];lk;intro dm nm;let sm:=aa.new (o:=dh dm #[] 0) nm;have M0:lF P w (upd H2 dm (dh dm #[] 0)) dm []:=kB_;generalize upd H2 dm (dh dm #[] 0)=H3 at sm M0 ⊢;lk;let iU:=(s1.trans s2).trans sm;let Y8:=(s1.trans s2).free nm;apply#[_,Z,_,_,Z,Z,_,Z,by omega,by omega,?_];apply Iy (λi σ H'=>∃(v7 v8:aV) (dp:Addr),σ=[some (.ref g),some (.ref d),some (.str r.1),some (.int n),some (.ref dp),some (.int (pX r ts)),some (.ref dm),v7,v8]/\BT T1 T2 H H'/\Tb H' T1 T2/\dp≠dm/\H dp=none/\H' dp\.dK (cE (qs.map (·.1)) (runM r hs ts qs f i))/\lF P w H' dm (iu r hs ts qs f i)/\∀j:Nat,j<i->JU r hs ts qs f j) #[none,none,dp,Z,BT.of iU,#[tb.a.same iU,tb.b.same iU,tb.ne],?_,n1,sm _ _ (s2 _ _ e1),M0,by omega] ?_ ?_
 ·exact bU (s2 _ _ e1) nm
 ·rintro i σ H4 hi ⟨v7,v8,dp,rfl,b4,iH,VB,np,e4,M4,go⟩;lk;let Be:=b4.nt tb;let Wi:=W.run r i;have PD:∀{G:Hp},NT H G->Tb G T1 T2->G dp\.dK (cE (qs.map (·.1)) (runM r hs ts qs f i))->Q_ K CG CW T1 T2 G g p dp hs ts qs fp (runM r hs ts qs f i):=λnt tb e=>#[#[S.G.nt nt,W.Gd,FG np,e,Wi.at_,W.nd,W.bY],Wi,tb,λb hb=>let #[o,e,q]:=S.has b hb;#[o,nt _ _ e q]];apply#[_,Z,_,Z,_,Z,g,p,dp,hs,ts,qs,fp,_,r,eC,Z,PD Be iH e4,λH5 b5 lP=>?_];let qQ:=b4.trans b5;let FA:=qQ.nt tb;let FC:=b5.nt iH;let e5:=FC.dK e4;let M5:=lF.nt M4 FC;apply#[_,Z,aO (λc=>?_) (λc=>?_)]
  ·apply#[_,Z,_,Z,zl,λt nt=>?_];let s6:=aa.new (o:=.tup [.str "rest",.int (0+(i:Int)),.ref dp]) nt;apply k _ _ (qQ.trans (BT.of s6)) #[lP.a.same s6,lP.b.same s6,lP.ne] (.inl #[t,dp,i,Z,by omega,go,c,?_,s6 _ _ e5]);rw[az,Int.zero_add]
  have c:Cg r hs ts qs (runM r hs ts qs f i)=false:=⇑c
  apply#[_,Z,dp,_,Z,e5,λv hv=>?_];let#[s6,e6]:=aN (o:=wo v dp) hv;generalize upd H5 v (wo v dp)=H6 at s6 e6 ⊢;apply#[v,dp,_,Z,e6,s6 _ _ e5,λl nl=>?_];let s7:=aa.new (o:=.tup ((cE (qs.map (·.1)) (runM r hs ts qs f i)).map (·.2))) nl
  have e7:upd H6 l (.tup ((cE (qs.map (·.1)) (runM r hs ts qs f i)).map (·.2))) l\.tup ((rj r hs ts qs f i).1.map kV):=by
   rw[az,iZ_];rfl
  generalize upd H6 l (.tup ((cE (qs.map (·.1)) (runM r hs ts qs f i)).map (·.2)))=H7 at s7 e7 ⊢;let rp:=hv_ r ts;apply#[_,Z,_,Z,_,_,Z,Z,by omega,zl,λt nt=>?_];let s8:=aa.new (o:=.tup [.ref l,.int ((0+(i:Int)) % ((pX r ts:Nat):Int))]) nt
  have e8:upd H7 t (.tup [.ref l,.int ((0+(i:Int)) % ((pX r ts:Nat):Int))]) t\.tup [.ref l,.int (rj r hs ts qs f i).2]:=by
   rw[az,Int.zero_add];rfl
  generalize upd H7 t (.tup [.ref l,.int ((0+(i:Int)) % ((pX r ts:Nat):Int))])=H8 at s8 e8 ⊢;lk;let qZ:=(s6.trans s7).trans s8;have mk:hW H8 t (rj r hs ts qs f i):=#[l,e8,s8 _ _ e7];let M8:=lF.nt M5 (NT.of qZ);let Wn:=qQ.trans (BT.of qZ);have Dp:Tb H8 T1 T2:=#[lP.a.same qZ,lP.b.same qZ,lP.ne];apply#[_,Z,_,Z,dm,t,_,_,Z,Z,mk,M8,λz hz=>?_];apply#[_,Z,aO (λcz=>?_) (λcz=>?_)]
  ·let#[j,hj,ej]:=U7.mp (hz.mp cz)
   have mm:(rj r hs ts qs f i,V.int (j:Int))∈iu r hs ts qs f i:=by
    rw[<- ej];exact bD.mpr #[j,List.mem_range.mpr hj,Z]
   apply#[_,Z,_,Z,dm,t,_,_,_,Z,Z,mk,M8,mm,?_];apply#[_,Z,_,Z,_,Z,dm,t,_,_,_,Z,Z,mk,M8,mm,_,_,Z,Z,zl,λa na=>?_];let s9:=aa.new (o:=.tup [.str "ring",.int (j:Int),.int (0+(i:Int) - (j:Int))]) na;apply k _ _ (Wn.trans (BT.of s9)) #[Dp.a.same s9,Dp.b.same s9,Dp.ne] (.inr (.inl #[a,i,j,Z,by omega,go,c,hj,ej,?_]));rw[az,Int.zero_add]
  have nm:rj r hs ts qs f i∉(iu r hs ts qs f i).map (·.1):=λhm=>cz (hz.mpr hm)
  have lk:(iu r hs ts qs f i).length=i:=by
   unfold iu;rw[aB,List.length_range]
  apply#[_,Z,_,Z,_,Z,dm,t,_,_,Z,Z,mk,M8,nm,by omega,λH9 k9 M9=>?_]
  have M9:lF P w H9 dm (iu r hs ts qs f (i+1)):=by
   have e:iu r hs ts qs f (i+1)=iu r hs ts qs f i++[(rj r hs ts qs f i,V.int (0+(i:Int)))]:=by
    unfold iu;rw[List.range_succ,eK,Int.zero_add];rfl
   rw[e];exact M9
  let#[es8,ep8,_,em,_]:=id M8
  have kT:∀{T qn},bL H8 T qn->bL H9 T qn:=λ⟨es,a1,a2⟩=>#[es,k9 _ _ a1 (cj a1 em nofun),λx hx=>k9 _ _ (a2 x hx) (λz=>by
   let y:=a2 x hx;rw[z,em] at y;exact eW_ (dG y).symm)]
  have IS:Tb H9 T1 T2:=#[kT Dp.a,kT Dp.b,Dp.ne];have Q0:BT T1 T2 H H9:=λb o e y1 y2=>k9 b o (Wn b o e y1 y2) (bU e Y8);let e9:=k9 _ _ (qZ _ _ e5) VB;apply#[_,Z,_,Z,_,Z,_,Z,g,p,dp,0+(i:Int),hs,ts,qs,fp,_,r,eC,Z,by omega,PD (Q0.nt tb) IS e9,λdq Rh vB LC xr e10=>?_];lk;let#[es9,ep9,_,em9,_]:=id M9;apply#[_,_,dq,Z,Q0.trans vB,LC,(bU em9 xr).symm,?_,?_,lF.nt M9 (vB.nt IS),λj hj=>?_]
  ·cases z:H dq with
   |none=>rfl
   |some o=>
    by_cases y1:dq=T1
    ·let#[tv,hT]:=g_ IS.a;rw[y1,hT] at xr;cases xr
    by_cases y2:dq=T2
    ·let#[tv,hT]:=g_ IS.b;rw[y2,hT] at xr;cases xr
    rw[Q0 _ _ z y1 y2] at xr;cases xr
  ·rw[e10,Int.zero_add];rfl
  by_cases z:j<i
  ·exact go j z
  have:j=i:=by omega
  subst this;exact#[c,λj' NO e=>nm (U7.mpr #[j',NO,e])]
 rintro σ H4 ⟨v7,v8,dp,rfl,b4,iH,VB,np,e4,M4,go⟩;apply#[one,λl nl=>?_];let#[s5,e5]:=aN (o:=.lst [.str "more"]) nl;generalize upd H4 l (.lst [.str "more"])=H5 at s5 e5 ⊢;apply#[l,_,Z,.inl #[.inl (.of e5),λt nt=>?_]];let s6:=aa.new (o:=.tup [.str "more"]) nt;let yP:=s5.trans s6;exact k _ _ (b4.trans (BT.of yP)) #[iH.a.same yP,iH.b.same yP,iH.ne] (.inr (.inr #[t,Z,λj hj=>go j Z1,az]))
end
end Ev
namespace Ev
open PySem L2
def gE:ae:=["x","yy","z"]
def cK:ae:=["o","p","q"]
def si:Xb:=[("x","yy"),("yy","z")]
theorem Sl:(∀t∈si,i6 t.1=true/\i6 t.2=true/\t.1≠t.2)/\(si.map λt=>kT (aX t.1 t.2)).Nodup/\si.length<64/\(∀t∈si,t.1∈gE/\t.2∈gE)/\(∀x∈gE,i6 x=true)/\gE.Nodup/\gE.length=3:=by decide +kernel
theorem J1{m:Nat}(h:1<=m/\m<=3):(∀x∈cK.take m,i6 x=true)/\(cK.take m).Nodup/\(cK.take m).length=m:=by
 have:m=1∨m=2∨m=3:=by omega
 rcases this with rfl|rfl|rfl<;>decide +kernel
theorem uY{hs:Xa}(e:hs.map (·.1)=gE)(b:∀x∈hs,1<=x.2/\x.2<=3):Good hs si:=by
 let#[a1,a2,a3,a4,a5,a6,a7]:=Sl;have len:hs.length=3:=by rw[<- aB (f:=λx:Str × Int=>x.1),e,a7]
 apply#[λx hx=>#[a5 _ (by rw[<- e];exact bD.mpr #[x,hx,Z]),(b x hx).1,by have:=(b x hx).2;omega],by rw[e];exact a6,by omega,by omega,a1,a2,a3,λt ht=>by rw[e];exact a4 t ht]
section
variable{K:af}{CG CW:Addr}
theorem ZJ{H:Hp}{R:Addr->Hp->Prop}{E:XK}{lh lt:Addr}{yh yt:aj}{hs:Xa}{ts:Xb}(G:Good hs ts)(h1:H lh\.lst yh)(h2:bF K H yh (hs.map kH))(h3:H lt\.lst yt)(h4:bF K H yt (ts.map kT))
  (k:∀p fp H',aa H H'->ft K CW H' p hs ts fp->(∀b∈fp,H b=none)->R p H'):∀x dx,H x=none->H dx=none->dx≠x->Kj K CW (.ref x::([.ref lh,.ref lt]++[])) (upd (upd H dx (.own x)) x (.ins CW dx [])) (λv H2=>v=.non/\R x H2) E:=by
 intro p dx hp vY ne;have s4:aa H (upd (upd H dx (.own p)) p (.ins CW dx [])):=(aa.new vY).trans (aa.new (by rw[aF ne.symm];exact hp));apply#[p,dx,lh,lt,yh,yt,hs,ts,Z,az,s4 _ _ h1,h2.same s4,s4 _ _ h3,h4.same s4,G,λbI H5 kp W fr=>#[Z,?_]];apply k p bI H5 (λb o e=>kp b o (s4 _ _ e) (bU e hp)) W λb hb=>?_;rcases fr b hb with rfl|z
 ·exact hp
 exact s4.free z
theorem jb_{H:Hp}{R:Addr->Hp->Prop}{E:XK}{p lp:Addr}{yp:aj}{hs:Xa}{ts:Xb}{ps:aH}{bI:ai}(W:ft K CW H p hs ts bI)(G:Good hs ts)(h1:H lp\.lst yp)(h2:vI K H yp ps)(gp:∀q∈ps,lI ts q)(nd:(ps.map (·.1)).Nodup)(len:ps.length<64)
  (k:∀g qs fp H',aa H H'->fN K CG CW H' g p hs ts qs fp->Qs ps qs->(∀b∈fp,b∈bI∨H b=none)->R g H'):∀x dx,H x=none->H dx=none->dx≠x->KD K CG CW (.ref x::([.ref p,.ref lp]++[])) (upd (upd H dx (.own x)) x (.ins CG dx [])) (λv H2=>v=.non/\R x H2) E:=by
 intro g dx hg vY ne;have s4:aa H (upd (upd H dx (.own g)) g (.ins CG dx [])):=(aa.new vY).trans (aa.new (by rw[aF ne.symm];exact hg))
 have gw:g∉bI:=λm=>by
  let#[o,e]:=W.has m;rw[hg] at e;cases e
 apply#[g,dx,p,lp,yp,ps,hs,ts,bI,Z,az,W.same s4,gw,G,s4 _ _ h1,Paired.bC h2 λ_ _ q=>q.same s4,gp,nd,len,λqs fp H5 kp GA Qq fr=>#[Z,?_]];apply k g qs fp H5 (λb o e=>kp b o (s4 _ _ e) (bU e hg)) GA Qq λb hb=>?_;rcases fr b hb with rfl|z|z
 ·exact .inr hg
 ·exact .inl z
 exact .inr (s4.free z)
end
section
variable{P:Ad}{w:Af}{K:af}{mg:Str->Option Aa}{base:Heap}{CG CW:Addr}
def Ll(H:Hp)(y:V)(q:Pc):Prop:=∃t,y=.ref t/\H t\.tup [.str q.1,.int q.2.1,.non]/\q.2.2=none
abbrev Yl:ae:=[rN,"_law_hands","_law_names","_law_pieces","_law_stand"]
theorem Hg:bq Yl [rN] (aL tL):=bE
structure qj (K:af) (CG CW:Addr) (H:Hp) (g p d:Addr) (m:Nat) (hs:Xa) (ps qs:aH) (fp:ai) (f:aq):Prop where
 G:fN K CG CW H g p hs si qs fp
 hd:H d\.dK (cE (cK.take m) f)
 hm:1<=m/\m<=3
 eh:hs.map (·.1)=gE
 hb:∀x∈hs,1<=x.2/\x.2<=3
 ep:ps.map (·.1)=cK.take m
 pb:∀q∈ps,1<=q.2.1/\q.2.1<=4/\q.2.2=none
 Q:Qs ps qs
 fm:∀x∈cK.take m,f x∈gE
def sO(K:af)(CG CW:Addr):Sp:=λvs H Q _=>∃l:Addr,vs=[.ref l]/\cB H l/\∀(t g p d:Addr) (m:Nat) (hs:Xa) (ps qs:aH) (fp:ai) (f:aq) (H':Hp),bb l H H'->cB H' l->H' t\.tup [.ref g,.ref d]->qj K CG CW H' g p d m hs ps qs fp f->(∀b∈fp,H b=none)->H d=none->d∉fp->d≠l->Q (.ref t) H'
theorem Zl{j:Nat}(h:j<3):∃h∈gE,(gE.map V.str)[j]? = some (.str h):=by
 have:j=0∨j=1∨j=2:=by omega
 rcases this with rfl|rfl|rfl
 ·exact#[_,eZ,Z]
 ·exact#[_,dZ _ eZ,Z]
 exact#[_,dZ _ (dZ _ eZ),Z]
theorem _L{f0:Addr}{fd:Ae}(F:a_ K "_law_row_of_hands" "_law_row_of_hands" tL f0 fd)(B:Bi mg)(cD:!bx 2 "_law_digit" lB Ko)(cW:!lL CW 5 "Web" ["self","hands","ties"] (Kj K CW))(cG:!lL CG 7 "Goods" ["self","web","pieces"] (KD K CG CW)):!ag bc 9 f0 fd [rN] (sO K CG CW):=by
 exists F.bH Hg;let#[l,rfl,st,k]:=h;let sz:=cm;refine' #[_,ay ?s1 (ay ?s2 (ay ?s3 (ay ?s4 (aI (bg ?s5))))),?kk]
 case' s1=>refine' Ks (i:=1) DV 1 [0] Hg.nd Z (Or.inl Z) (fB (dC %[bM,bM,bM|0])) (λfp s H=>gM (i:=0) (show (DV:ae).Nodup by decide +kernel) Z (Or.inl Z)) (λfp s H=>k7) (λfp s H=>?XF)
 case XF=>exact g0 %[0,b_ p0 aM (bt cD hr %[1,aM|0])|0]
 case s2=>exact bw 2 Hg.nd (Uu Tr (dC %[bM,bM,bM|0]) TN (Tn (b_ p0 aM (bt cD hr %[0,aM|0]))))
 case' s3=>refine' Ks (i:=3) DV 1 [0] Hg.nd Z (Or.inl Z) (fB (pv 2)) (λfp s H=>gM (i:=0) (show (DV:ae).Nodup by decide +kernel) Z (Or.inl Z)) (λfp s H=>k7) (λfp s H=>?XD)
 case XD=>exact g0 %[0,b_ p0 aM (bt cD hr %[1,aM|0]),CC|0]
 case' s4=>refine' bw 4 Hg.nd (jM (C9 Z) (by rfl) B.dict p7 %[p9 DV 1 [0] (fB (pv 2)) (λfp s H=>gM (i:=0) (show (DV:ae).Nodup by decide +kernel) Z (Or.inl Z)) (λfp s H=>k7) (λfp s H=>?XC)|0])
 case XC=>exact g0 %[0,bP (FZ (K:=K) Ba gN) (dC %[bM,bM,bM|0]) (bt cD hr %[1,aM|0])|0]
 case s5=>exact g0 %[Jt cG hr %[Jt cW hr %[1,dC %[g0 %[bM,bM|0],g0 %[bM,bM|0]|0]|0],3|0],4|0]
 let#[a1,a2,a3,a4,a5,a6,a7]:=Sl;apply dW (λσ H'=>∃(lh:Addr) (yh:aj) (hs:Xa),bb l H H'/\cB H' l/\H lh=none/\lh≠l/\H' lh\.lst yh/\bF K H' yh (hs.map kH)/\hs.map (·.1)=gE/\(∀x∈hs,1<=x.2/\x.2<=3)/\σ=[some (.ref l),some (.ref lh),none,none,none]) ?m2 (λN hN=>?m1)
 case m1=>
  apply#[zl,λla na=>?_];let s3:=aa.new (o:=.lst [.str "x",.str "yy",.str "z"]) na;have e3:upd H la (.lst [.str "x",.str "yy",.str "z"]) la\.lst (gE.map V.str):=az;let FS:=st.ne na;let j8:=st.same s3;have b3:bb l H (upd H la (.lst [.str "x",.str "yy",.str "z"])):=bb.of s3;generalize upd H la (.lst [.str "x",.str "yy",.str "z"])=H3 at s3 e3 j8 b3 ⊢;apply#[la,Z,#[_,.of e3],λD hD=>?_];let Dl:=j8.ne hD;apply qa (own:=1) (fv:=[some (.ref l)]) (xs:=gE.map V.str) Z fU (λi out H'=>∃hs:Xa,bb l H3 H'/\cB H' l/\H' D\.lst out/\bF K H' out (hs.map kH)/\hs.map (·.1)=gE.take i/\∀x∈hs,1<=x.2/\x.2<=3) #[[],bb.of (aa.new hD),j8.same (aa.new hD),az,.nil,Z,by simp] (λi out H' _ ⟨_,b,_⟩=>.of (b _ _ e3 FS)) (λout H4 ⟨hs,b4,iS,d4,t4,e4,q4⟩=>?_) (λi x out H' hx ⟨hs,b4,iS,d4,t4,e4,q4⟩=>?_)
  ·rw[aB,fX] at e4;apply hN _ _ #[D,out,hs,b3.trans b4,iS,b3.free j8 hD,Dl,d4,t4,e4,q4,Z]
  let#[x,hz,rfl]:=kZ hx;have hi:i<gE.length:=(dj.mp hz).1;let lo:=bS t4;let lh:=eA List.length e4;rw[aB] at lo lh;rw[fA] at lh;apply#[_,Z,Z,λNx hN=>fg ?_];apply#[_,Z,_,Z,l,3,Z,by decide,by decide,iS,λq H5 q0 q1 b5 fq=>?_];apply#[_,_,Z,Z,zl,λt nt=>?_];let#[Rm,DE]:=iS.some;let d5:=b5 _ _ d4 Dl;let s6:=aa.new (o:=.tup [.str x,.int (1+q)]) nt;let gG:=fq.same s6;let d6:=s6 _ _ d5;have e6:upd H5 t (.tup [.str x,.int (1+q)]) t\.tup ((kH (x,1+q)).map kV):=az;have b6:bb l H3 (upd H5 t (.tup [.str x,.int (1+q)])):=(b4.trans b5).trans (bb.of s6);have t6:bF K (upd H5 t (.tup [.str x,.int (1+q)])) out (hs.map kH):=(K_ t4 b5 DE).same s6;generalize upd H5 t (.tup [.str x,.int (1+q)])=H6 at s6 gG d6 e6 b6 t6 ⊢;apply#[out,d6,by omega,hN (out++[.ref t]) _ #[hs++[(x,1+q)],b6.snd hD,gG.upd Dl,az,?_,?_,?_]]
  ·rw[eK];exact qT (K1 t6 e6) d6
  ·rw[eK,e4,k_,hz];rfl
  intro y hy;rcases gY.mp hy with hy|hy
  ·exact q4 y hy
  obtain rfl:y=(x,1+q):=⇑hy
  exact#[by show 1<=1+q;omega,by show 1+q<=3;omega]
 rintro σ H2 ⟨lh,yh,hs,b2,gH,nlh,MQ,h2,t2,eh,hb,rfl⟩;have lhs:hs.length=3:=by rw[<- aB (f:=λx:Str × Int=>x.1),eh,a7]
 apply dW (λσ H'=>∃(m:Nat) (ln:Addr),(1<=m/\m<=3)/\bb l H2 H'/\cB H' l/\H2 ln=none/\ln≠l/\H' ln\.lst ((cK.take m).map V.str)/\σ=[some (.ref l),some (.ref lh),some (.ref ln),none,none]) ?m6 (λN hN=>?m5)
 case m5=>
  apply#[zl,λla na=>?_];let#[s1,e1]:=aN (o:=.lst [.str "o",.str "p",.str "q"]) na;let FS:=gH.ne na;generalize upd H2 la (.lst [.str "o",.str "p",.str "q"])=H3 at s1 e1 ⊢;apply#[_,Z,l,3,Z,by decide,by decide,gH.same s1,λr H4 r0 r1 b4 iS=>?_];obtain⟨m,em,hm⟩:∃m:Nat,1+r=(m:Int)/\1<=m/\m<=3:=#[(1+r).toNat,by omega,by omega,by omega];apply#[_,_,Z,Z,_,Z,la,_,Z,.of (b4 _ _ e1 FS),λlq nq=>?_];rw[em,show kL [V.str "o",.str "p",.str "q"] none (some (m:Int))=(cK.take m).map V.str from (UF _ m).trans (by rw[List.map_take];rfl)];let s5:=aa.new (o:=.lst ((cK.take m).map V.str)) nq;let b5:=((bb.of s1).trans b4).trans (bb.of (l:=l) s5);exact hN _ _ #[m,lq,hm,b5,iS.same s5,((bb.of s1).trans b4).free iS nq,iS.ne nq,az,Z]
 rintro σ H3 ⟨m,ln,hm,b3,j8,RO,Dy,h3,rfl⟩;let#[c1,c2,c3]:=J1 hm;let#[xs2,lR]:=gH.some;let TJ:=b3 _ _ h2 MQ;let AB:=K_ t2 b3 lR;let IB:=b2.trans b3;clear h2 t2 b2 gH lR;apply dW (λσ H'=>∃(lp:Addr) (yp:aj) (ps:aH),bb l H3 H'/\cB H' l/\lp≠l/\H' lp\.lst yp/\Paired (Ll H') yp ps/\ps.map (·.1)=cK.take m/\(∀q∈ps,1<=q.2.1/\q.2.1<=4/\q.2.2=none)/\σ=[some (.ref l),some (.ref lh),some (.ref ln),some (.ref lp),none]) ?m8 (λN hN=>?m7)
 case m7=>
  apply#[_,Z,ln,Z,#[_,.of h3],λD hD=>?_];let Dl:=j8.ne hD;apply qa (own:=1) (fv:=[some (.ref l)]) (xs:=(cK.take m).map V.str) Z fU (λi out H'=>∃ps:aH,bb l H3 H'/\cB H' l/\H' D\.lst out/\Paired (Ll H') out ps/\ps.map (·.1)=(cK.take m).take i/\∀q∈ps,1<=q.2.1/\q.2.1<=4/\q.2.2=none) #[[],bb.of (aa.new hD),j8.same (aa.new hD),az,.nil,Z,by simp] (λi out H' _ ⟨_,b,_⟩=>.of (b _ _ h3 Dy)) (λout H6 ⟨ps,b6,gG,d6,p6,e6,q6⟩=>?_) (λi x out H' hx ⟨ps,b6,gG,d6,p6,e6,q6⟩=>?_)
  ·rw[aB,fX] at e6;exact hN _ _ #[D,out,ps,b6,gG,Dl,d6,p6,e6,q6,Z]
  let#[x,hz,rfl]:=kZ hx;have hi:i<(cK.take m).length:=(dj.mp hz).1;let lo:=bS p6;let lp:=eA List.length e6;rw[aB,fA] at lp;apply#[_,Z,Z,λNx hN=>fg ?_];apply#[_,Z,_,Z,l,4,Z,by decide,by decide,gG,λr H7 r0 r1 b7 AE=>?_];apply#[_,_,Z,Z,zl,λt nt=>?_];let#[WR,NL]:=gG.some;let d7:=b7 _ _ d6 Dl;let s8:=aa.new (o:=.tup [.str x,.int (1+r),.non]) nt;let d8:=s8 _ _ d7;have e8:upd H7 t (.tup [.str x,.int (1+r),.non]) t\.tup [.str x,.int (1+r),.non]:=az;let Dr:=AE.same s8;have b8:bb l H3 (upd H7 t (.tup [.str x,.int (1+r),.non])):=(b6.trans b7).trans (bb.of s8);have p8:Paired (Ll (upd H7 t (.tup [.str x,.int (1+r),.non]))) out ps:=Paired.bC p6 λy q ⟨t,e,h,z⟩=>#[t,e,s8 _ _ (b7 _ _ h (cj h NL nofun)),z];generalize upd H7 t (.tup [.str x,.int (1+r),.non])=H8 at s8 d8 e8 Dr b8 p8 ⊢;apply#[out,d8,by omega,hN (out++[.ref t]) _ #[ps++[(x,1+r,none)],b8.snd hD,Dr.upd Dl,az,?_,?_,?_]]
  ·apply qb (Paired.bC p8 λy q ⟨t,e,h,z⟩=>#[t,e,?_,z]) (.cons #[t,Z,?_,Z] .nil)
   ·rw[aF (cj h d8 nofun)];exact h
   rw[aF (cj e8 d8 nofun)];exact e8
  ·rw[eK,e6,k_,hz];rfl
  intro q hq;rcases gY.mp hq with hq|hq
  ·exact q6 q hq
  obtain rfl:q=(x,1+r,none):=⇑hq
  exact#[by show 1<=1+r;omega,by show 1+r<=4;omega,Z]
 rintro σ H4 ⟨lp,yp,ps,b4,iS,ZL,h4,p4,ep,qp,rfl⟩;let#[xs3,xG]:=j8.some;let TH:=b4 _ _ TJ MQ;let Od:=b4 _ _ h3 Dy;let AA:=K_ AB b4 xG;let Lj:=IB.trans b4;clear TJ h3 AB b4 j8 xG;apply dW (λσ H'=>∃(d:Addr) (f:aq),bb l H4 H'/\cB H' l/\H4 d=none/\d≠l/\H' d\.dK (cE (cK.take m) f)/\(∀x∈cK.take m,f x∈gE)/\σ=[some (.ref l),some (.ref lh),some (.ref ln),some (.ref lp),some (.ref d)]) ?ma (λN hN=>?m9)
 case m9=>
  apply#[_,Z,ln,Z,#[_,.of Od],λD hD=>?_];let Dl:=iS.ne hD;let#[Rm,DE]:=iS.some;apply qa (own:=1) (fv:=[some (.ref l)]) (xs:=(cK.take m).map V.str) Z fU (λi out H'=>∃f:Str->Str,bb l H4 H'/\cB H' l/\H' D\.lst out/\kW K H' out (cE ((cK.take m).take i) f)/\∀x∈(cK.take m).take i,f x∈gE) #[λx=>x,bb.of (aa.new hD),iS.same (aa.new hD),az,.nil,by simp] (λi out H' _ ⟨_,b,_⟩=>.of (b _ _ Od Dy)) (λout H5 ⟨f,b5,fq,d5,p5,q5⟩=>?_) (λi x out H' hx ⟨f,b5,fq,d5,p5,q5⟩=>?_)
  ·rw[aB,fX] at p5 q5;apply#[D,out,_,Z,d5,p5,by rw[fY,c3];omega,λd nd=>?_];rw[CY (by rw[En,vC,vE];exact c2.imp λn e=>n (iC e))];exact hN _ _ #[d,f,b5.trans (bb.of (aa.new nd)),fq.same (aa.new nd),b5.free fq nd,fq.ne nd,az,q5,Z]
  let#[x,hz,rfl]:=kZ hx;have hi:i<(cK.take m).length:=(dj.mp hz).1;let lo:=bS p5;rw[fY,fA] at lo;apply#[_,Z,Z,λNx hN=>fg ?_];apply#[_,Z,zl,λla na=>?_];let#[s6,e6]:=aN (o:=.lst (gE.map V.str)) na;let FS:=fq.ne na;let gG:=fq.same s6;let b6:=b5.trans (bb.of s6);let d6:=s6 _ _ d5;have p6:kW K (upd H' la (.lst (gE.map V.str))) out (cE ((cK.take m).take i) f):=Paired.bC p5 λy q ⟨a,e,h⟩=>#[a,e,s6 _ _ h];show L2.Cc _ _ _ _ _ (upd H' la (.lst (gE.map V.str))) _;generalize upd H' la (.lst (gE.map V.str))=H6 at s6 e6 gG b6 d6 p6 ⊢;apply#[_,Z,l,3,Z,by decide,by decide,gG,λr H7 r0 r1 b7 AE=>?_];let#[j,ej]:=zY r0;subst ej;let#[hh,JG,ea]:=Zl (j:=j) Z1;let#[WR,NL]:=gG.some;apply#[la,_,_,.str hh,Z,Z,.of (b7 _ _ e6 FS),L2.qM ea,zl,λt nt=>?_];let d7:=b7 _ _ d6 Dl;let s8:=aa.new (o:=.tup [.str x,.str hh]) nt;let d8:=s8 _ _ d7;have e8:upd H7 t (.tup [.str x,.str hh]) t\.tup [.str x,.str hh]:=az;let Dr:=AE.same s8;have b8:bb l H4 (upd H7 t (.tup [.str x,.str hh])):=(b6.trans b7).trans (bb.of s8);have p8:kW K (upd H7 t (.tup [.str x,.str hh])) out (cE ((cK.take m).take i) f):=Paired.bC p6 λy q ⟨a,e,h⟩=>#[a,e,s8 _ _ (b7 _ _ h (cj h NL nofun))];generalize upd H7 t (.tup [.str x,.str hh])=H8 at s8 d8 e8 Dr b8 p8 ⊢;let xn:=Px c2 hz;apply#[out,d8,by omega,hN (out++[.ref t]) _ #[λy=>if y=x then hh else f y,b8.snd hD,Dr.upd Dl,az,?_,?_]]
  ·have eq:cE ((cK.take m).take i) f=cE ((cK.take m).take i) (λy=>if y=x then hh else f y):=K2 λy hy=>by
    show V.str (f y)=V.str (if y=x then hh else f y);rw[aC (λz:y=x=>xn (z▸hy))]
   rw[j0 hz,show cE ((cK.take m).take i++[x]) (λy=>if y=x then hh else f y)=cE ((cK.take m).take i) (λy=>if y=x then hh else f y)++[(Sum.inr x,V.str hh)] by
    show bO _ _=bO _ _++_;unfold bO;rw[eK];simp,<- eq]
   apply qb (Paired.bC p8 λy q ⟨a,e,h⟩=>#[a,e,?_]) (.cons #[t,Z,?_] .nil)
   ·rw[aF (cj h d8 nofun)];exact h
   rw[aF (cj e8 d8 nofun)];exact e8
  intro y hy;rw[j0 hz] at hy;show (if y=x then hh else f y)∈_;by_cases c:y=x
  ·rw[aJ c];exact JG
  rw[aC c];rcases gY.mp hy with hy|hy
  ·exact q5 y hy
  exact absurd (List.mem_singleton.mp hy) c
 rintro σ H5 ⟨d,f,b5,fq,Y9,dl,JO,fm,rfl⟩;let#[Rm,DE]:=iS.some;let h15:=b5 _ _ TH MQ;let h45:=b5 _ _ h4 ZL;let IV:=K_ AA b5 DE;have p5:Paired (Ll H5) yp ps:=Paired.bC p4 λy q ⟨t,e,h,z⟩=>#[t,e,b5 _ _ h (cj h DE nofun),z];let qQ:=Lj.trans b5;let G:=uY eh hb;let Y_:=Lj.free iS Y9;clear TH Od AA p4 h4 b5 DE iS;apply#[_,Z,zl,λta YX=>?_];let s6:=aa.new (o:=.tup [.str "x",.str "yy"]) YX;have ea:upd H5 ta (.tup [.str "x",.str "yy"]) ta\.tup ((kT ("x","yy")).map kV):=az;generalize upd H5 ta (.tup [.str "x",.str "yy"])=H6 at s6 ea ⊢;apply#[zl,λtb YW=>?_];let s7:=aa.new (o:=.tup [.str "yy",.str "z"]) YW;have eb:upd H6 tb (.tup [.str "yy",.str "z"]) tb\.tup ((kT ("yy","z")).map kV):=az;let ea:=s7 _ _ ea;generalize upd H6 tb (.tup [.str "yy",.str "z"])=H7 at s7 ea eb ⊢;apply#[zl,λlt Du=>?_];let#[s8,h8]:=aN (o:=.lst [.ref ta,.ref tb]) Du;let qZ:=(s6.trans s7).trans s8;have t8:bF K (upd H7 lt (.lst [.ref ta,.ref tb])) [.ref ta,.ref tb] (si.map kT):=.cons #[ta,Z,s8 _ _ ea] (.cons #[tb,Z,s8 _ _ eb] .nil);generalize upd H7 lt (.lst [.ref ta,.ref tb])=H8 at s8 h8 qZ t8 ⊢;let Dr:=fq.same qZ;apply ZJ G (qZ _ _ h15) (IV.same qZ) h8 t8 (λp bI H9 s9 W fw=>?_);let Fe:=qZ.trans s9;let st9:=fq.same Fe
 have gp:∀q∈ps,lI si q:=λq hq=>by
  let#[x1,x2,x3]:=qp q hq;exact#[c1 _ (by rw[<- ep];exact bD.mpr #[q,hq,Z]),x1,by omega,λws z=>by rw[x3] at z;cases z]
 have lps:ps.length=m:=by rw[<- aB (f:=λq:Pc=>q.1),ep,c3]
 apply#[_,Z,jb_ W G (Fe _ _ h45) (Paired.bC p5 λy q ⟨t,e,h,z⟩=>#[t,.non,e,Fe _ _ h,by rw[z];rfl]) gp (by rw[ep];exact c2) Z1 (λg qs fp Rh A9 GA Qq fr=>?_)];apply#[_,Z,zl,λt nt=>?_];let Mg:=aa.new (o:=.tup [.ref g,.ref d]) nt;let LQ:=(Fe.trans A9).trans Mg
 have Ua:∀b∈fp,H5 b=none:=λb pT=>by
  rcases fr b pT with z|z
  ·exact qZ.free (fw b z)
  exact Fe.free z
 apply k t g p d m hs ps qs fp f _ (qQ.trans (bb.of LQ)) (fq.same LQ) az #[GA.same Mg,LQ _ _ JO,hm,eh,hb,ep,qp,Qq,fm] (λb pT=>qQ.free fq (Ua b pT)) Y_ (λmm=>?_) dl;have:=Ua d mm;rw[JO] at this;cases this
end
end Ev
namespace Ev
open PySem L2
theorem R0:∀n:Nat,("oo":Str)∉cK.take n:=λn h=>absurd (List.mem_of_mem_take h) Z0
theorem Lp:("y":Str)∉gE:=by decide +kernel
theorem Ur{ns:ae}{g:Str->V}{n:Str}:Cj (bO ns g) (Sum.inr n)=bO (ns.filter λx=>decide (x≠n)) g:=by
 unfold Cj bO;rw[List.filter_map];congr 1;apply List.filter_congr λx _=>?_;show decide ((Sum.inr x:Key)≠Sum.inr n)=decide (x≠n);exact decide_eq_decide.mpr #[λh e=>h (by rw[e]),λh e=>h (iC e)]
theorem Vi{ns:ae}{n:Str}(h:n∈ns):(ns.filter λx=>decide (x≠n)).length<ns.length:=by
 let e:=List.length_filter_lt_length_iff_exists (p:=λx=>decide (x≠n)) (l:=ns);exact e.mpr #[n,h,by simp]
def yn(K:af)(H H':Hp)(m:Nat)(l:Addr)(v:V):Prop:=(∃t,bp K H' v t/\PySem.W.kitOne K t (.type "dict")\false) ∨
 (∃(d:Addr) (ns:ae) (g:Str->V) (x:Str->Option Str),v=.ref d/\H d=none/\d≠l/\H' d\.dK (bO ns g)/\(∀y∈ns,fH K H' (g y) (x y)/\g y≠.ref d)/\((∃y∈ns,y∉cK.take m∨nC gE (x y)=false)∨ns.length≠m)) ∨
 ∃(d:Addr) (es:Array Ah) (ep:Nat) (ns:ae) (f:aq) (z:V),v=.ref d/\H d=none/\d≠l/\H' d\dh d es ep/\Ent (qE (bO ns λn=>V.str (f n))++[(.bl true,z)]) es/\∀n∈ns,n∈cK.take m/\f n∈gE
section v
abbrev W5:ae:=[rN,"_law_stand","_law_way","_law_name","_law_found"]
theorem Kz:bq W5 [rN,"_law_stand"] (aL mF):=bE
def oW(K:af):Sp:=λvs H Q _=>∃(l d:Addr) (m:Nat) (f:aq),vs=[.ref l,.ref d]/\cB H l/\d≠l/\(1<=m/\m<=3)/\H d\.dK (cE (cK.take m) f)/\(∀x∈cK.take m,f x∈gE)/\∀v H',bb l H H'->cB H' l->yn K H H' m l v->Q v H'
theorem iL_{f0:Addr}{fd:Ae}(F:a_ K "_law_wrong_stand" "_law_wrong_stand" mF f0 fd)(B:Bi mg)(cD:!bx 2 "_law_digit" lB Ko):!ag bc 3 f0 fd [rN,"_law_stand"] (oW K):=by
 exists F.bH Kz;let#[l,d,m,f,rfl,st,dl,hm,hd,fm,k]:=h;let sz:=cm;let hu:=gz hr;refine' #[_,ay ?s1 ?r1,?kk]
 case' r1=>refine' ay ?s2 ?r2
 case' r2=>refine' ay ?s3 ?r3
 case' r3=>refine' ay ?s4 ?r4
 case' r4=>refine' ay ?s5 ?r5
 case' r5=>refine' ay ?s6 ?r6
 case' r6=>refine' ay ?s7 ?r7
 case' r7=>refine' ay ?s8 (ay ?s9 (aI (bg (pv 4))))
 case s1=>exact bw 2 Kz.nd (bt cD hr %[0,aM|0])
 case s2=>exact bw 3 Kz.nd (bP gN (cb (V9 Z) (by rfl) B.sorted El %[1|0]) (bt cD hr %[0,cb PF (by rfl) B.len kX %[1|0]|0]))
 case s3=>exact bA (di DS (pv 2) aM) (aI (bg (bP gN (dC %[CC,dC bo,bM,cb (Vw Z) (by rfl) B.sorted El %[CO (pv 1)|0],aM|0]) (b_ J6 (pv 2) aM)))) bB
 case s4=>exact bw 4 Kz.nd (jM P6 (by rfl) B.dict p7 %[1|0])
 case s5=>exact bA (di i4 (pv 2) aM) (aI (p_ (Uy (pv 4) (pv 3) #[Z,Z,Z,Z]))) bB
 case s6=>exact bA (di i4 (pv 2) aM) (aI (wu hu (pv 4) bM bM Z)) bB
 case s7=>exact bA (di i4 (pv 2) aM) (aI (wu hu (pv 4) (pv 3) bM Z)) bB
 case s8=>exact bA (di i4 (pv 2) aM) (aI (wu hu (pv 4) (pv 3) CC Z)) bB
 case s9=>exact bA (di i4 (pv 2) aM) (aI (iv_ hu (pv 4) jU (Uy (pv 4) (pv 3) #[Z,Z,Z,Z]) Z)) bB
 let#[c1,c2,c3]:=J1 hm;have ls:(jk (cK.take m)).length=m:=by rw[(zW _).length_eq,c3]
 apply#[_,Z,l,10,Z,by decide,by decide,st,λwy H1 w0 w1 b1 AF=>?_];lk;let gL:=b1 _ _ hd dl;apply dW (λσ H'=>∃x∈cK.take m,bb l H H'/\cB H' l/\σ=[some (.ref l),some (.ref d),some (.int wy),some (.str x),none]) ?m2 (λN hN=>?m1)
 case m1=>
  apply#[_,Z,d,_,cK.take m,Z,gL,En ..,by omega,λln nn=>?_];let#[s1,e1]:=aN (o:=.lst ((jk (cK.take m)).map V.str)) nn;let Dy:=AF.ne nn;generalize upd H1 ln (.lst ((jk (cK.take m)).map V.str))=H2 at s1 e1 ⊢;apply#[_,Z,_,Z,d,_,Z,s1 _ _ gL,l,_,Z,by rw[fY,c3];omega,by rw[fY,c3];omega,AF.same s1,λr H3 r0 r1 b3 j8=>?_];rw[fY,c3] at r1
  let#[v,hv,x,rfl,hx]:=xJ (p:=λv:V=>∃x:Str,v=.str x/\x∈cK.take m) (xs:=(jk (cK.take m)).map V.str) (n:=((jk (cK.take m)).map V.str).length) Z r0 (by rw[aB,ls];exact r1) (λv hv=>by
   let#[x,hx,rfl]:=bD.mp hv;exact#[x,Z,(zW _).mem_iff.mp hx])
  exact#[ln,_,_,_,Z,Z,.of (b3 _ _ e1 Dy),hv,hN _ _ #[x,hx,(b1.trans (bb.of s1)).trans b3,j8,Z]]
 rintro σ H2 ⟨x,hx,b2,gH,rfl⟩;let hd2:=b2 _ _ hd dl;clear b1 AF gL;apply#[_,Z,_,_,Z,Z,_,Z,?_];apply aO (λc=>?_) (λc=>?_)
 ·have c:4<wy:=⇑c
  apply#[by decide,λl1 n1=>?_];let#[s3,e3]:=aN (o:=.lst []) n1;let l1l:=gH.ne n1;generalize upd H2 l1 (.lst [])=H3 at s3 e3 ⊢;apply#[_,Z,d,_,Z,s3 _ _ hd2,λv1 iJ=>?_];let#[s4,e4]:=aN (o:=i5 v1 d) iJ;generalize upd H3 v1 (i5 v1 d)=H4 at s4 e4 ⊢;apply#[v1,d,_,(cK.take m).map (λn=>(Sum.inr n,Sum.inr (f n))),[true,true],Z,e4,s4 _ _ (s3 _ _ hd2),?_,#[by simp,λk hk=>?_],by rw[aB];omega,λl2 H5 zs s5 n2 tz=>?_]
  ·unfold cE bO;rw[bV];rfl
  ·rw[bV,bD] at hk;let#[n,_,rfl]:=hk;rfl
  let#[s6,e6]:=aN (o:=.lst zs) n2;generalize upd H5 l2 (.lst zs)=H6 at s6 e6 ⊢;apply#[zl,λlo Y5=>?_];let#[s7,e7]:=aN (o:=.lst [.non,.ref l1,.str "x",.ref l2,.int 3]) Y5;let Vn:=s7 _ _ (s6 _ _ (s5 _ _ (s4 _ _ e3)));let Vl:=s7 _ _ e6;let Me:=(((s3.trans s4).trans s5).trans s6).trans s7;generalize upd H6 lo (.lst [.non,.ref l1,.str "x",.ref l2,.int 3])=H7 at s7 e7 Vn Vl Me ⊢
  let#[v,hv,hp]:=xJ (p:=λv:V=>∃t,bp K H7 v t/\PySem.W.kitOne K t (.type "dict")\false) (xs:=[.non,.ref l1,.str "x",.ref l2,.int 3]) (r:=wy - 5) (n:=5) Z Z1 Z1 (λv hv=>by
   simp only[bW,vD,or_false] at hv;rcases hv with rfl|rfl|rfl|rfl|rfl
   ·exact#[_,.non,Z]
   ·exact#[_,.lst Vn,Z]
   ·exact#[_,.str _,Z]
   ·exact#[_,.lst Vl,Z]
   exact#[_,.int _,Z])
  exact#[_,Z,_,_,Z,Z,lo,_,_,v,Z,Z,.of e7,hv,k v H7 (b2.trans (bb.of Me)) (gH.same Me) (.inl hp)]
 have c:¬4<wy:=⇑c
 apply#[_,Z,d,_,Z,.of hd2,λdf Bk=>?_];let#[s5,e5]:=aN (o:=.dK (cE (cK.take m) f)) Bk;let zF:=gH.ne Bk;let fq:=gH.same s5;let iV:=b2.free gH Bk;have qQ:bb l H (upd H2 df (.dK (cE (cK.take m) f))):=b2.trans (bb.of s5);generalize upd H2 df (.dK (cE (cK.take m) f))=H5 at s5 e5 fq qQ ⊢;lk;have fin:∀(H6:Hp) (ns:ae) (g:Str->V) (xo:Str->Option Str),bb l H H6->cB H6 l->H6 df\.dK (bO ns g)->(∀y∈ns,fH K H6 (g y) (xo y)/\g y≠.ref df)->((∃y∈ns,y∉cK.take m∨nC gE (xo y)=false)∨ns.length≠m)->Q (.ref df) H6:=λH6 ns g xo b s e sv bad=>k _ H6 b s (.inr (.inl #[df,ns,g,xo,Z,iV,zF,e,sv,bad]));have cas:wy=0∨wy=1∨wy=2∨wy=3∨wy=4:=by omega
 rcases cas with rfl|rfl|rfl|rfl|rfl
 ·apply#[_,Z,Z,_,Z,aO (λ_=>?_) (λc=>by simp at c)];apply#[_,Z,df,Z,.inl #[_,.inl e5],_,Z,_,Sum.inr x,V.str (f x),e5,Z,CZ (g:=λn=>V.str (f n)) hx,?_];apply#[_,Z,Z,_,Z,aO (λc=>by simp at c) (λ_=>?_)];apply#[_,Z,Z,_,Z,aO (λc=>by simp at c) (λ_=>?_)];apply#[_,Z,Z,_,Z,aO (λc=>by simp at c) (λ_=>?_)];apply#[_,Z,Z,_,Z,aO (λc=>by simp at c) (λ_=>?_)];apply#[_,Z,?_];rw[Ur];apply fin _ _ _ (λy=>some (f y)) (qQ.snd iV) (fq.upd zF) az (λy _=>#[Z,by intro z;cases z]) (.inr ?_);have:=Vi hx;omega
 ·apply#[_,Z,Z,_,Z,aO (λc=>by simp at c) (λ_=>?_)];apply#[_,Z,Z,_,Z,aO (λ_=>?_) (λc=>by simp at c)];apply#[_,Z,df,_,Z,.k (k:=Sum.inr "oo") e5 (by rw[fY,c3];omega),?_];apply#[_,Z,Z,_,Z,aO (λc=>by simp at c) (λ_=>?_)];apply#[_,Z,Z,_,Z,aO (λc=>by simp at c) (λ_=>?_)];apply#[_,Z,Z,_,Z,aO (λc=>by simp at c) (λ_=>?_)];apply#[_,Z,?_];rw[Tt (R0 m)];apply fin _ _ _ (λy=>some (if y="oo" then "x" else f y)) (qQ.snd iV) (fq.upd zF) az (λy _=>?_) (.inl #["oo",by simp,.inl (R0 m)]);by_cases cz:y="oo"
  ·simp only[cz,if_true];exact#[Z,by intro z;cases z]
  simp only[cz,if_false];exact#[Z,by intro z;cases z]
 ·apply#[_,Z,Z,_,Z,aO (λc=>by simp at c) (λ_=>?_)];apply#[_,Z,Z,_,Z,aO (λc=>by simp at c) (λ_=>?_)];apply#[_,Z,Z,_,Z,aO (λ_=>?_) (λc=>by simp at c)];apply#[_,Z,_,Z,df,_,Z,.k (k:=Sum.inr x) e5 (by rw[fY,c3];omega),?_];apply#[_,Z,Z,_,Z,aO (λc=>by simp at c) (λ_=>?_)];apply#[_,Z,Z,_,Z,aO (λc=>by simp at c) (λ_=>?_)];apply#[_,Z,?_];rw[Kw hx];apply fin _ _ _ (λy=>some (if y=x then "y" else f y)) (qQ.snd iV) (fq.upd zF) az (λy _=>?_) (.inl #[x,hx,.inr (by rw[aJ Z];exact dc Lp)]);by_cases cx:y=x
  ·simp only[cx,if_true];exact#[Z,by intro z;cases z]
  simp only[cx,if_false];exact#[Z,by intro z;cases z]
 ·apply#[_,Z,Z,_,Z,aO (λc=>by simp at c) (λ_=>?_)];apply#[_,Z,Z,_,Z,aO (λc=>by simp at c) (λ_=>?_)];apply#[_,Z,Z,_,Z,aO (λc=>by simp at c) (λ_=>?_)];apply#[_,Z,Z,_,Z,aO (λ_=>?_) (λc=>by simp at c)];apply#[_,Z,_,Z,df,_,Z,.k (k:=Sum.inr x) e5 (by rw[fY,c3];omega),?_];apply#[_,Z,Z,_,Z,aO (λc=>by simp at c) (λ_=>?_)];apply#[_,Z,?_];rw[Kw hx];apply fin _ _ _ (λy=>if y=x then none else some (f y)) (qQ.snd iV) (fq.upd zF) az (λy _=>?_) (.inl #[x,hx,.inr (by rw[aJ Z];rfl)]);by_cases cx:y=x
  ·simp only[cx,if_true];exact#[#[_,.non,Z],by intro z;cases z]
  simp only[cx,if_false];exact#[Z,by intro z;cases z]
 apply#[_,Z,Z,_,Z,aO (λc=>by simp at c) (λ_=>?_)];apply#[_,Z,Z,_,Z,aO (λc=>by simp at c) (λ_=>?_)];apply#[_,Z,Z,_,Z,aO (λc=>by simp at c) (λ_=>?_)];apply#[_,Z,Z,_,Z,aO (λc=>by simp at c) (λ_=>?_)];apply#[_,Z,Z,_,Z,aO (λ_=>?_) (λc=>by simp at c)];apply#[_,Z,df,Z,.inl #[_,.inl e5],_,Z,_,Sum.inr x,V.str (f x),e5,Z,CZ (g:=λn=>V.str (f n)) hx,?_];rw[Ur];have:=Vi hx;apply#[_,Z,df,_,Z,az,by rw[fY];omega,λq hq=>?_,λes ep en=>?_]
 ·let#[n,_,rfl]:=bD.mp hq;exact#[n,Z]
 apply#[_,Z,k _ _ ((qQ.snd iV).snd iV) ((fq.upd zF).upd zF) (.inr (.inr #[df,es,ep,_,f,V.str (f x),Z,iV,zF,az,en,λn hn=>?_]))];let#[hn,_]:=List.mem_filter.mp hn;exact#[hn,fm n hn]
end
end Ev
namespace Ev
open PySem L2
theorem GV{X:Cx}{K:af}{o e:Expr}{es:List Expr}{to:TE}{t:TA}{name:Str}{apos bu:Pos}{T id:String}{r:V->aj->Hp->VK->Prop}(pa:PlainAttrs T)(slot:Slot T name id)(Nq:typeOf (.builtin id)=pure (.type "method_descriptor"))(hm:Wx X id r)(ho:PE X o to)(ha:PA X (e::es) t)
  (hK:X.K=K:=by rfl) (dO:attributeBase o name X.env (eval o X.env)=eval o X.env:=by rfl)
  (BS:((backTo bu (starEach (e::es) X.env)).all (λx=>!x.1)&&(backToKw bu (keywordEach [] X.env)).all (λx=>x.1.isSome)
   && decide ((e::es).length+([]:List Keyword).length+(if ([]:List Keyword).isEmpty then 0 else 1)<30))=true:=by rfl)
  (fR:(apos.endLine == bu.line)=true:=by rfl) (hs:starEach (e::es) X.env=(false,eval e X.env)::starEach es X.env:=by rfl) (nE:(backTo bu (starEach es X.env)).any (·.1)=false:=by rfl) :
  PE X (.Call (.Attribute o name apos) (e::es) [] bu) (IT K T r to t):=by
 subst hK;exact vk pa slot Nq hm ho ha dO BS fR hs nE
def ve(K:af)(C:Addr):Bool:=(PySem.W.clsIn K C).isSome&&PySem.W.findIn K (.ref C) "__getattribute__" == some (some (.builtin "BaseException.__getattribute__"))&&PySem.W.findIn K (.ref C) "__getattr__" == some none&&PySem.W.findIn K (.ref C) "__class__" == some (some (.builtin "object.__class__")) &&
 PySem.W.specialIn K (.builtin "object.__class__") "__get__" == some (some (.builtin "getset_descriptor.__get__"))&&PySem.W.takesIn K (.builtin "object.__class__") == some true&&PySem.W.mroIn K C (.type "object") == some true&&PySem.W.mroIn K C (.type "BaseException") == some true
theorem _u{K:af}{C:Addr}(h:ve K C=true):lK K C:=by
 simp only[ve,wD,beq_iff_eq] at h;let#[#[#[#[#[#[#[a,b],c],d],e],f],g],i]:=h;exact#[a,b,c,d,e,f,g,i]
def ub(K:af)(CE:Addr)(cs:ai):Bool:=cs.all λC=>ve K C&&PySem.W.exmOne K (.ref C) (.ref CE) == some true&&PySem.W.kitOne K (.ref C) (.type "ValueError") == some true&&cs.all λD=>PySem.W.kitOne K (.ref C) (.ref D) == some (C == D)
structure Rf (K:af) (mg:Str->Option Aa) (CE CR CN CM CQ:Addr):Prop where
 e:mg "EvenError"\.ref CE
 r:Ref K mg "NoRule" CR
 s:Ref K mg "NoStand" CN
 t:Ref K mg "NoMoment" CM
 u:Ref K mg "NoMost" CQ
 all:ub K CE [CR,CN,CM,CQ]=true
 nd:[CR,CN,CM,CQ].Nodup
theorem Rf.at_{K:af}{mg:Str->Option Aa}{CE CR CN CM CQ:Addr}(R:Rf K mg CE CR CN CM CQ){C:Addr}(hC:C∈[CR,CN,CM,CQ]):lK K C/\PySem.W.exmOne K (.ref C) (.ref CE)\true/\PySem.W.kitOne K (.ref C) (.type "ValueError")\true/\∀D∈[CR,CN,CM,CQ],PySem.W.kitOne K (.ref C) (.ref D)\(C == D):=by
 let h:=List.all_eq_true.mp R.all C hC;simp only[wD,beq_iff_eq] at h;let#[#[#[a,b],c],d]:=h;exact#[_u a,b,c,λD hD=>by simpa using List.all_eq_true.mp d D hD]
theorem MT{α:Type}:∀{l:List α},l.length=4->∃a b c d,l=[a,b,c,d]
 |[a,b,c,d],_=>#[a,b,c,d,Z]
abbrev ID:=aj->aj->Hp->VK->XK->Prop
def vL(sp:ID):Prop:=∀vs gs H Q Q' E E',sp vs gs H Q E->(∀v H,Q v H->Q' v H)->(∀c d H,E c d H->E' c d H)->sp vs gs H Q' E'
section
variable{P:Ad}{w:Af}{K:af}{mg:Str->Option Aa}{base:Heap}{CE CR CN CM CQ:Addr}
theorem four{i:Nat}{Cx:Addr}(nd:[CR,CN,CM,CQ].Nodup)(h:[CR,CN,CM,CQ][i]? = some Cx):Cx∈[CR,CN,CM,CQ]/\i<4/\(Cx == CR)=decide (0=i)/\(Cx == CN)=decide (1=i)/\(Cx == CM)=decide (2=i)/\(Cx == CQ)=decide (3=i):=by
 apply#[dD h,?_];simp only[qU,bW,vD,or_false,not_or] at nd;let#[#[a,b,c],#[d,e],f,_]:=nd
 match i,h with
 |0,h=>cases (dG h:CR=Cx);simp[a,b,c,d,e,f]
 |1,h=>cases (dG h:CN=Cx);simp[a,b,c,d,e,f,Ne.symm a]
 |2,h=>cases (dG h:CM=Cx);simp[Ne.symm b,Ne.symm d,e,f]
 |3,h=>cases (dG h:CQ=Cx);simp[Ne.symm c,Ne.symm e,Ne.symm f]
theorem Eb:bq ["_law_ask","_law_found","e","_law_kinds"] ["_law_ask"] (aL tK):=bE
def Hb(CR CN CM CQ:Addr)(qual:Str)(a:Ai)(b:Expr)(sc:Scope)(bh:ae)(sp:ID):Sp:=λvs H Q _=>∃(f c':Addr) (cl:List (Str × Addr)) (cs:List (Addr × Obj)) (gs:aj),vs=[.ref f]/\H f\iA f qual a b sc cl c'/\H c'\vx c' qual/\i8 H cs/\C8 bh cl cs gs /\
 sp [] gs (gP cs H) (λv H2=>jQ cs H2->Q v (lend cs H2)) (λcls _ H2=>jQ cs H2->∃(i:Nat) (Cx:Addr),[CR,CN,CM,CQ][i]? = some Cx/\cls=.ref Cx/\∀t H',aa (lend cs H2) H'->H' t\.tup [.str "refused",.int i,.int 1,.bl true]->Q (.ref t) H')
abbrev XI(K:af)(CR CN CM CQ:Addr):L2.TS:=qo (qq (EU (gy (Az (rF K) (gy (gg 2) (gy (tC (.ref CR)) dJ))) (gy (Az (rF K) (gy (gg 2) (gy (tC (.ref CN)) dJ))) (gy (Az (rF K) (gy (gg 2) (gy (tC (.ref CM)) dJ))) (gy (Az (rF K) (gy (gg 2) (gy (tC (.ref CQ)) dJ))) dJ))))) (jL 3))
 (qq (Ao (gy (tC (.str "refused")) (gy (IT K "list" OZ (gg 3) (gy (tC (.bl true)) dJ)) (gy (IT K "list" OM (gg 3) (gy (tC (.bl true)) dJ)) (gy (Az (rF K) (gy (gg 2) (gy (tC (.ty "ValueError")) dJ))) dJ))))) (jL 1))
theorem OP{f:Addr}{qual:Str}{a:Ai}{b:Expr}{sc:Scope}{bh:ae}{sp:ID}{kk:Nat}{fd:Ae}(F:a_ K "_law_said" "_law_said" tK f fd)(B:Bi mg)(mV:mg "ValueError"=none)(R:Rf K mg CE CR CN CM CQ)(mo:vL sp)(cL:vw P w K mg base kk qual a b sc [] bh sp):!ag bc (kk+1) f fd ["_law_ask"] (Hb CR CN CM CQ qual a b sc bh sp):=by
 apply F.ok Eb (λvs H Q E h=>?_) (λaD A outer s H vs Q E hr h=>?_)
 ·let#[f,c',cl,cs,gs,rfl,_]:=h;rfl
 let#[fl,c',cl,cs,gs,rfl,hf,hc,L,Cs,h]:=h;refine' #[_,?r0,?kk]
 case' r0=>refine' ay ?s1 ?r1
 case' r1=>refine' ay ?s2 ?s3
 case s1=>exact bw 1 Eb.nd bM
 case' s2=>refine' j4_ (i:=2) (ok:=λCx=>Cx∈[CR,CN,CM,CQ]) (tb:=λE=>qq (sx qual a b sc bh sp E (gg 0)) (jL 1)) (ts:=XI K CR CN CM CQ) Eb.nd Z Z Z Z (by rfl) R.e (λCx h=>(R.at_ h).2.1) (λE W pn hp=>?hb) (λa=>?hs)
 case hb=>exact aI (bw 1 Eb.nd (jq_ cL hr hp (pv 0)))
 case' hs=>refine' ay ?h1 (aI ?h2)
 case h1=>exact bw 3 Eb.nd (dC %[cb (B8 (K:=K) rF Iu) (by rfl) B.gm gA %[2,rR (v:=.ref CR) (by rfl) R.r.mg Z|0],cb (B8 (K:=K) rF Iu) (by rfl) B.gm gA %[2,rR (v:=.ref CN) (by rfl) R.s.mg Z|0],cb (B8 (K:=K) rF Iu) (by rfl) B.gm gA %[2,rR (v:=.ref CM) (by rfl) R.t.mg Z|0],cb (B8 (K:=K) rF Iu) (by rfl) B.gm gA %[2,rR (v:=.ref CQ) (by rfl) R.u.mg Z|0]|0])
 case h2=>exact bw 1 Eb.nd (g0 %[bM,GV (K:=K) oo PySem.F.slot_list_index PySem.F.type_list_index UG (pv 3) %[jU|0],GV (K:=K) oo PySem.F.slot_list_count PySem.F.type_list_count gD_ (pv 3) %[jU|0],cb (B8 (K:=K) rF Iu) (by rfl) B.gm gA %[2,iQ (v:=.ty "ValueError") (by rfl) mV PyProof.Rows.Boot.«ValueError» rfl|0]|0])
 case s3=>exact aI (bg (pv 1))
 apply#[_,Z,fl,c',cl,cs,gs,Z,hf,hc,L,Cs,mo _ _ _ _ _ _ _ h (λv H2 z nc=>#[_,Z,z nc]) (λcx d H2 z nc=>?_)];let#[j,Cx,hj,rfl,z2]:=z nc;clear z;let#[mC,j4,q0,q1,q2,q3]:=four R.nd hj;let#[kx,_,kv,kk]:=R.at_ mC;let k0:=kk CR Z2;let k1:=kk CN Z2;let k2:=kk CM Z2;let k3:=kk CQ Z2;rw[q0] at k0;rw[q1] at k1;rw[q2] at k2;rw[q3] at k3;apply#[Cx,mC,Z,λσ a hl ha=>?_];let#[u0,u1,u2,u3,rfl]:=MT hl;generalize lend cs H2=H3 at z2 ha ⊢;let#[s1,ea]:=aN (o:=zy a Cx d) ha;generalize upd H3 a (zy a Cx d)=H4 at s1 ea ⊢;apply#[_,Z,a,Cx,d,_,_,_,Z,Z,ea,kx,k0,_,Z,a,Cx,d,_,_,_,Z,Z,ea,kx,k1,_,Z,a,Cx,d,_,_,_,Z,Z,ea,kx,k2,_,Z,a,Cx,d,_,_,_,Z,Z,ea,kx,k3,zl,λl hl=>?_];let#[s2,el]:=aN (o:=.lst [.bl (decide (0=j)),.bl (decide (1=j)),.bl (decide (2=j)),.bl (decide (3=j))]) hl;let U2:=s2 _ _ ea;lk;generalize upd H4 l (.lst [.bl (decide (0=j)),.bl (decide (1=j)),.bl (decide (2=j)),.bl (decide (3=j))])=H5 at s2 el U2 ⊢;apply#[_,Z,.inl #[Z,_,.of el],l,_,_,j,Z,Z,el,Z,Z,by omega,?_,?_,_,Z,.inl #[Z,_,.of el],l,_,_,Z,Z,el,Z,Z,_,Z,a,Cx,d,_,_,true,Z,Z,U2,kx,kv,zl,λl2 lR=>?_]
 ·match j,j4 with
  |0,_=>exact#[_,Z,Z]
  |1,_=>exact#[_,Z,Z]
  |2,_=>exact#[_,Z,Z]
  |3,_=>exact#[_,Z,Z]
 ·match j,j4 with
  |0,_=>intro i y hi;exact absurd hi (Nat.not_lt_zero _)
  |1,_=>intro i y hi hy;match i,hi,hy with|0,_,hy=>cases hy;rfl
  |2,_=>intro i y hi hy;match i,hi,hy with|0,_,hy=>cases hy;rfl|1,_,hy=>cases hy;rfl
  |3,_=>intro i y hi hy;match i,hi,hy with|0,_,hy=>cases hy;rfl|1,_,hy=>cases hy;rfl|2,_,hy=>cases hy;rfl
 have ec:(([.bl (decide (0=j)),.bl (decide (1=j)),.bl (decide (2=j)),.bl (decide (3=j))]:aj).countP λy=>iY y (.bl true))=1:=by
  match j,j4 with
  |0,_=>rfl
  |1,_=>rfl
  |2,_=>rfl
  |3,_=>rfl
 rw[ec];apply#[_,Z,z2 l2 _ ((s1.trans s2).trans (aa.new lR)) ?_];exact az
theorem E_:bq qd qd (aL A5):=bE
def nR(last:Int)(i:Nat):Int:=if i=2 then last else i
def yJ(K:af):Sp:=λvs H Q _=>∃(lb:Addr) (bs:List Bool) (last:Int),vs=[.ref lb,.int last]/\H lb\.lst (bs.map V.bl)/\bs.length=3/\((true∉bs/\Q .non H)∨∃i:Nat,bs[i]? = some true/\(∀j:Nat,j<i->bs[j]? = some false)/\∀t H',aa H H'->H' t\.tup [.str "refused",.int (nR last i),.int 1,.bl true]->Q (.ref t) H')
theorem TM{H:Hp}:∀bs:List Bool,Paired (rB H) (bs.map V.bl) bs
 |[]=>.nil
 |b::bs=>.cons Z (TM bs)
theorem T9:∀bs:List Bool,(bs.map V.bl).all jY=true
 |[]=>rfl
 |b::bs=>by rw[eV,List.all_cons,T9 bs];rfl
theorem ZN{f0:Addr}{fd:Ae}(F:a_ K "_law_due" "_law_due" A5 f0 fd):!ag bc 1 f0 fd qd (yJ K):=by
 exists F.bH E_;let#[lb,bs,last,rfl,hb,l3,h]:=h;let sz:=cm;refine' #[_,ay ?s1 (aI (bg CC)),?kk]
 case s1=>exact bA (di (GU Cq (ow hr 0)) jU (pv 0) (by with_unfolding_all rfl)) (aI (bg (g0 %[bM,bP gN (dC %[aM,aM,1|0]) (GV (K:=K) oo PySem.F.slot_list_index PySem.F.type_list_index UG (pv 0) %[jU|0]),aM,jU|0]))) bB
 apply#[_,Z,true,bs,Z,#[lb,_,Z,.of hb,TM bs],_,Z,?_];rcases h with⟨no,k⟩|⟨i,h1,h2,k⟩
 ·apply aO (λc=>?_) (λ_=>k);have c:true∈bs:=⇑c
  exact absurd c no
 apply aO (λ_=>?_) (λc=>?_)
 ·have hi:i<bs.length:=(dj.mp h1).1;apply#[_,Z,zl,λl1 n1=>?_];let#[s1,e1]:=aN (o:=.lst [.int 0,.int 1,.int last]) n1;generalize upd H l1 (.lst [.int 0,.int 1,.int last])=H1 at s1 e1 ⊢;let Tj:=s1 _ _ hb;apply#[_,Z,.inl #[Z,_,.of Tj],lb,_,_,i,Z,Z,Tj,Z,T9 bs,by omega,#[.bl true,by rw[dQ,h1];rfl,Z],λa y ha hy=>?_,?_]
  ·rw[dQ,h2 a ha] at hy;cases hy;rfl
  have e2:([V.int 0,V.int 1,V.int last])[i]? = some (V.int (nR last i)):=by
   have:i=0∨i=1∨i=2:=by omega
   rcases this with rfl|rfl|rfl<;>rfl
  apply#[l1,_,_,_,Z,Z,.of e1,L2.qM e2,zl,λt nt=>?_];exact k t _ (s1.trans (aa.new nt)) az
 have c:true∉bs:=⇑c
 exact absurd (dD h1) c
end
end Ev
namespace L2
open PySem PySem.Spec PyProof.Rows PySem.W qk dI
def RH(K:af){D:Type}(R:Rp D):Rp (List D):=λH x ds=>∃a xs,x=.ref a/\iD K H a xs/\Paired (R H) xs ds
section
variable{X:Cx}
theorem _C{D:Type}[DecidableEq D]{ds es:List D}:((List.range (min ds.length es.length)).all (λj=>decide (ds[j]? = es[j]?))&&ds.length == es.length)=decide (ds=es):=by
 by_cases hl:ds.length=es.length
 ·rw[hl,Nat.min_self,<- hl,QZ hl];simp
 rw[dc (λz=>hl (by rw[z])),show (ds.length == es.length)=false by rw[beq_eq_false_iff_ne];exact hl,Bool.and_false]
theorem Hi{n:Nat}{D:Type}[DecidableEq D]{R:Rp D}(c:oM X n R):oM X (n+1) (RH X.K R) where
 one:=λ{pins σ H s x d e} I hx hy=>by
  let#[a,xs,rfl,t,q]:=hx;let#[b,ys,e0,t',q']:=hy;cases e0;let e1:=I.eX t t';subst e1;exact PY c I q q'
 eq:=λ{pins σ H s A x y u v d e} I ru rv hx hy hu=>by
  let#[a,xs,rfl,t,q]:=hx;let#[b,ys,rfl,t',q']:=hy;cases ru;cases rv;by_cases xM:a=b
  ·subst xM;let e1:=I.eX t t';subst e1;rw[cc (PY c I q q')];exact SeqAt.EqAt.same _
  let#[us,r,pl,_]:=I.tuple t;let#[vs,r',ui,_]:=I.tuple t';let l1:=r.length;let l2:=r'.length;let l3:=bS q;let l4:=bS q';let key:=SeqAt.EqAt.of_refs xM (SeqAt.RcAt.tuples (A:=A) (s:=s) (Lg pl) (Lg ui) Z1 (Pa c I r r' q q' (A:=A.in1) (by show A.units+1+n<cLine;omega)));rw[show us.toArray.size=d.length by simp only[cn];omega,show vs.toArray.size=e.length by simp only[cn];omega,_C] at key;exact key
end
end L2
namespace L2
open PySem PySem.Spec PyProof.Rows PySem.W qk dI
def fK:V->Option Key
 |.bl b=>some (.inl (if b then 1 else 0))
 |.int i=>some (.inl i)
 |.str x=>some (.inr x)
 |_=>none
def rK:Rp Key:=λ_ x d=>fK x\d
theorem TC{α:Type}[BEq α][LawfulBEq α][DecidableEq α](a b:α):(a == b)=decide (a=b):=by
 by_cases h:a=b
 ·subst h;simp
 simp[h]
theorem Zw{x y:V}{d e:Key}(hx:fK x\d)(hy:fK y\e):iY x y=decide (d=e)/\jY x=true/\jY y=true:=by
 have il:∀a b:Int,(a == b)=decide ((Sum.inl a:Key)=Sum.inl b):=λa b=>(TC a b).trans (decide_eq_decide.mpr #[λh=>by rw[h],λh=>Sum.inl.inj h]);have ir:∀a b:Str,(a == b)=decide ((Sum.inr a:Key)=Sum.inr b):=λa b=>(TC a b).trans (decide_eq_decide.mpr #[λh=>by rw[h],λh=>iC h]);cases x<;>cases hx<;>cases y<;>cases hy<;>apply#[?_,Z,Z]
 ·rename_i a b
  cases a<;>cases b<;>rfl
 ·exact il _ _
 ·rfl
 ·exact il _ _
 ·exact il _ _
 ·rfl
 ·rfl
 ·rfl
 exact ir _ _
section
variable{X:Cx}
theorem PX:oM X 0 rK where
 eq:=λ{pins σ H s A x y u v d e} I ru rv hx hy hu=>by
  let#[e2,fx,fy]:=Zw hx hy;let q:=Ea (A:=A) (s:=s) ru rv fx fy;rwa [e2] at q
 one:=λ{pins σ H s x d e} I hx hy=>dG ((show fK x\d from hx).symm.trans hy)
end
end L2
namespace L2
open PySem PySem.Spec PySem.Calls PyProof.Rows PySem.W
end L2
namespace Ev
open PySem L2
theorem ft.B6{K:af}{C:Addr}{H:Hp}{p:Addr}{hs:Xa}{ts:Xb}{fp:ai}(W:ft K C H p hs ts fp){b:Addr}(hb:b∈fp):∃o,H b\o/\∀vs,o≠.tbl vs:=by
 let#[dx,d1,l2,d3,zs,as,rfl,h1,h2,h3,h4,h5,h6,h7]:=W.ex;simp only[bW] at hb;rcases hb with rfl|rfl|rfl|rfl|hb
 ·exact#[_,h1,by intro vs z;cases z]
 ·exact#[_,h2,by intro vs z;cases z]
 ·exact#[_,h3,by intro vs z;cases z]
 ·exact#[_,h5,by intro vs z;cases z]
 let#[i,hi,e]:=rZ hb;exact#[_,h7 i ((aE hs)[i]' Z1) b (dE Z1) (by rw[<- e];exact dE hi),by intro vs z;cases z]
theorem fN.B6{K:af}{CG CW:Addr}{H:Hp}{g p:Addr}{hs:Xa}{ts:Xb}{qs:aH}{fp:ai}(G:fN K CG CW H g p hs ts qs fp):∃rC,fN K CG CW H g p hs ts qs rC/\(∀b∈rC,b∈fp)/\∀b∈rC,∃o,H b\o/\∀vs,o≠.tbl vs:=by
 let#[dx,dw,dy,vs,bI,h1,h2,h3,h4,h5,m1,m2,m3,m4,m5]:=G.ex;apply#[g::dw::dy::(bI++vs.filterMap λv=>match v with | .ref a=>some a|_=>none),#[dx,dw,dy,vs,bI,h1,h2,h3,h4,h5,by simp,by simp,by simp,λb hb=>by simp[hb],λv hv a z=>?_],λb hb=>?_,λb hb=>?_]
 ·have:a∈vs.filterMap λv=>match v with | .ref a=>some a|_=>none:=rY.mpr #[v,hv,by rw[z]];simp only[bW,gY];exact .inr (.inr (.inr (.inr this)))
 ·simp only[bW,gY] at hb;rcases hb with rfl|rfl|rfl|hb|hb
  ·exact m1
  ·exact m2
  ·exact m3
  ·exact m4 b hb
  let#[v,hv,e]:=rY.mp hb;cases v with
  |ref a=>cases e;exact m5 _ hv _ Z
  |_=>cases e
 simp only[bW,gY] at hb;rcases hb with rfl|rfl|rfl|hb|hb
 ·exact#[_,h1,by intro vs z;cases z]
 ·exact#[_,h3,by intro vs z;cases z]
 ·exact#[_,h4,by intro vs z;cases z]
 ·exact h2.B6 hb
 let#[v,hv,e]:=rY.mp hb;let#[i,hi,ev]:=rZ hv;let le:=bS h5;let w:=jN h5 i hi Z1;rw[ev] at w;cases o:(qs[i]' Z1).2.2 with
 |none=>
  rw[o] at w;rw[show v=.non from w] at e;cases e
 |some ws=>
  rw[o] at w;let#[a,ys,ea,ha,_]:=w;rw[ea] at e;cases e;exact#[_,ha,by intro vs z;cases z]
theorem Sj{K:af}{H H':Hp}{a:Addr}{xs:aj}(s:NT H H')(h:dH K H a xs):dH K H' a xs:=by
 rcases h with (h|⟨o,h⟩)|h
 ·exact .inl (.inl (s.lst h))
 ·exact .inl (.inr #[o,s _ _ h nofun])
 exact .inr h
theorem bb.same{l:Addr}{H H1 H2:Hp}(b:bb l H1 H2)(n:H l=none)(s:aa H H1):aa H H2:=λc o e=>b c o (s c o e) (bU e n)
theorem Tb.same{H G:Hp}{T1 T2:Addr}(t:Tb H T1 T2)(s:aa H G):Tb G T1 T2:=#[t.a.same s,t.b.same s,t.ne]
theorem qj.mv{K:af}{CG CW g p d l:Addr}{H G:Hp}{m:Nat}{hs:Xa}{ps qs:aH}{fp:ai}{f:aq}(S:qj K CG CW H g p d m hs ps qs fp f)(b:bb l H G)(st:cB H l)(nl:l∉fp)(dl:d≠l):qj K CG CW G g p d m hs ps qs fp f:=by
 let#[xs,hl]:=st.some;have kb:∀c∈fp,∀o,H c\o->G c\o:=λc hc o e=>b c o e (λz=>nl (z▸hc));exact { S with G:=S.G.keep kb λc zs e=>b _ _ e (cj e hl nofun),hd:=b _ _ S.hd dl }
theorem Ia{m:Nat}{ps qs:aH}(ep:ps.map (·.1)=cK.take m)(Q:Qs ps qs):(cK.take m).Perm (qs.map (·.1)):=by
 rw[Q.MC,ep];exact (zW _).symm
theorem qj.so{K:af}{CG CW g p d:Addr}{H:Hp}{m:Nat}{hs:Xa}{ps qs:aH}{fp:ai}{f:aq}(S:qj K CG CW H g p d m hs ps qs fp f):Ow hs qs (cK.take m) f:=#[Ia S.ep S.Q,λx hx=>by rw[S.eh];exact S.fm x hx]
theorem qj.Fs{K:af}{CG CW g p d:Addr}{H:Hp}{m:Nat}{hs:Xa}{ps qs:aH}{fp:ai}{f:aq}(S:qj K CG CW H g p d m hs ps qs fp f):qs.length=m:=by
 have:=(Ia S.ep S.Q).length_eq;rw[(J1 S.hm).2.2,aB] at this;exact this.symm
theorem qj.wd{K:af}{CG CW g p d:Addr}{H:Hp}{m:Nat}{hs:Xa}{ps qs:aH}{fp:ai}{f:aq}(S:qj K CG CW H g p d m hs ps qs fp f):Wd hs si qs f:=by
 let pm:=Ia S.ep S.Q;apply#[uY S.eh S.hb,pm.nodup_iff.mp (J1 S.hm).2.1,by rw[S.Fs];have:=S.hm;omega,λx hx=>by rw[S.eh];exact S.fm x (pm.mem_iff.mpr hx),λq hq=>?_];let#[q',hq',rfl]:=S.Q.mem q hq;let b:=S.pb q' hq';have e:(Bf q').2.1=q'.2.1:=rfl;rw[e];omega
theorem yn.no{K:af}{CG CW g p d l:Addr}{H H':Hp}{m:Nat}{hs:Xa}{ps qs:aH}{fp rC:ai}{f:aq}{v:V}(S:qj K CG CW H g p d m hs ps qs fp f)(has:∀b∈rC,∃o,H b\o/\∀vs,o≠.tbl vs)(b:yn K H H' m l v):i7 K H' hs qs rC v:=by
 rcases b with b|⟨d',ns,g',x,e,hn,dl,hd,hv,h⟩|⟨d',es,ep,ns,f',z,e,hn,dl,hd,en,hm⟩
 ·exact .inl (.inl b)
 ·apply .inl (.inr #[d',ns,g',x,e,λz=>?_,hd,hv,?_])
  ·let#[o,ho,_]:=has _ z;rw[hn] at ho;cases ho
  rcases h with⟨y,hy,h⟩|h
  ·apply .inl #[y,hy,?_];rw[S.eh];exact h.imp (λz w=>z ((Ia S.ep S.Q).mem_iff.mpr w)) id
  exact .inr (by rw[S.Fs];exact h)
 exact .inr #[d',es,ep,ns,f',.bl true,z,_,e,hd,en,λn hn=>#[(Ia S.ep S.Q).mem_iff.mp (hm n hn).1,by rw[S.eh];exact (hm n hn).2],.bl true,Z]
structure GF (K:af) (CG CW:Addr) (H:Hp) (g p d:Addr) (m:Nat) (hs:Xa) (ps qs:aH) (fp:ai) (f:aq) (l:Addr):Prop where
 S:qj K CG CW H g p d m hs ps qs fp f
 has:∀b∈fp,∃o,H b\o/\∀vs,o≠.tbl vs
 lfp:l∉fp
 ic:d∉fp
 dl:d≠l
 st:cB H l
theorem GF.mv{K:af}{CG CW g p d l:Addr}{H G:Hp}{m:Nat}{hs:Xa}{ps qs:aH}{fp:ai}{f:aq}(S:GF K CG CW H g p d m hs ps qs fp f l)(b:bb l H G)(st:cB G l):GF K CG CW G g p d m hs ps qs fp f l:=#[S.S.mv b S.st S.lfp S.dl,λc hc=>by
 let#[o,e,q]:=S.has c hc;exact#[o,b _ _ e (λz=>S.lfp (z▸hc)),q],S.lfp,S.ic,S.dl,st]
theorem GF.same{K:af}{CG CW g p d l:Addr}{H G:Hp}{m:Nat}{hs:Xa}{ps qs:aH}{fp:ai}{f:aq}(S:GF K CG CW H g p d m hs ps qs fp f l)(s:aa H G):GF K CG CW G g p d m hs ps qs fp f l:=by
 let#[a,b,c,e]:=S.st;have st:cB G l:=#[a,b,c,s _ _ e];exact S.mv (λb o e _=>s b o e) st
theorem qj.gf{K:af}{CG CW g p d l:Addr}{H:Hp}{m:Nat}{hs:Xa}{ps qs:aH}{fp:ai}{f:aq}(S:qj K CG CW H g p d m hs ps qs fp f)(lfp:l∉fp)(ic:d∉fp)(dl:d≠l)(st:cB H l):∃rC,GF K CG CW H g p d m hs ps qs rC f l:=by
 let#[rC,G',sub,has]:=S.G.B6;exact#[rC,{ S with G:=G' },has,λz=>lfp (sub _ z),λz=>ic (sub _ z),dl,st]
theorem GF.no{K:af}{CG CW g p d l:Addr}{H:Hp}{m:Nat}{hs:Xa}{ps qs:aH}{fp:ai}{f:aq}{a:Addr}(S:GF K CG CW H g p d m hs ps qs fp f l)(n0:H a=none):a∉fp/\a≠l/\a≠d:=by
 apply#[λz=>?_,λz=>?_,λz=>?_]
 ·let#[o,e,_]:=S.has _ z;rw[n0] at e;cases e
 ·let#[x,y,w,e]:=S.st;rw[<- z,n0] at e;cases e
 let e:=S.S.hd;rw[<- z,n0] at e;cases e
theorem bp.mv{K:af}{H G:Hp}{l:Addr}{v:V}{t:Aa}(b:bb l H G)(s1:cB H l)(s2:cB G l)(h:bp K H v t):bp K G v t:=by
 let#[xs,hl]:=s1.some;let#[ys,gl]:=s2.some;cases h with
 |non=>exact .non
 |bl x=>exact .bl x
 |int x=>exact .int x
 |str x=>exact .str x
 |flt x=>exact .flt x
 |@lst a xs' e=>
  by_cases z:a=l
  ·rw[z];exact .lst gl
  ·exact .lst (b _ _ e z)
 |frz e=>exact .frz (b _ _ e (cj e hl nofun))
 |tup e=>exact .tup (b _ _ e (cj e hl nofun))
 |dK e=>exact .dK (b _ _ e (cj e hl nofun))
 |dT e=>exact .dT (b _ _ e (cj e hl nofun))
 |ins e a0 b0 c d f=>exact .ins (b _ _ e (cj e hl nofun)) a0 b0 c d f
theorem bp.pI{K:af}{H G:Hp}{v:V}{t:Aa}(s:NT H G)(h:bp K H v t):bp K G v t:=by
 cases h with
 |non=>exact .non
 |bl x=>exact .bl x
 |int x=>exact .int x
 |str x=>exact .str x
 |flt x=>exact .flt x
 |lst e=>exact .lst (s _ _ e nofun)
 |frz e=>exact .frz (s _ _ e nofun)
 |tup e=>exact .tup (s _ _ e nofun)
 |dK e=>exact .dK (s _ _ e nofun)
 |dT e=>exact .dT (s _ _ e nofun)
 |ins e a0 b0 c d f=>exact .ins (s _ _ e nofun) a0 b0 c d f
def hV(K:af)(H:Hp)(x:Bool)(v:V):Prop:=(x=true/\jP K H du v)∨(x=false/\∃r∈rl,v=.str r.1)
theorem hV.mv{K:af}{H G:Hp}{l:Addr}{x:Bool}{v:V}(h:hV K H x v)(b:bb l H G)(s1:cB H l)(s2:cB G l):hV K G x v:=h.imp (λ⟨e,h⟩=>#[e,h.imp id λ⟨ty,a,q⟩=>#[ty,bp.mv b s1 s2 a,q]]) id
theorem hV.nt{K:af}{H G:Hp}{x:Bool}{v:V}(h:hV K H x v)(s:NT H G):hV K G x v:=h.imp (λ⟨e,h⟩=>#[e,h.imp id λ⟨ty,a,q⟩=>#[ty,bp.pI s a,q]]) id
theorem Zn{r:Int}(h0:0<=r)(h1:r<17):∃q∈rl,oC ((rh 3).map V.str) r\.str q.1:=by
 have len:(rh 3).length=17:=by decide +kernel
 let#[k,rfl]:=zY h0;have hk:k<(rh 3).length:=by omega
 let#[q,hq,e]:=ZD _ (oH hk);apply#[q,hq,?_];rw[e];exact L2.qM (by rw[dQ,dE hk];rfl)
theorem wg.mv{K:af}{H G:Hp}{l:Addr}{hs:Xa}{qs:aH}{fp:ai}{v:V}(h:wg K H hs qs fp v)(b:bb l H G)(s1:cB H l)(s2:cB G l):wg K G hs qs fp v:=by
 let#[xs,hl]:=s1.some;rcases h with⟨t,a,q⟩|⟨d,ns,g,x,e,df,hd,hv,h⟩
 ·exact .inl #[t,bp.mv b s1 s2 a,q]
 exact .inr #[d,ns,g,x,e,df,b _ _ hd (cj hd hl nofun),λy hy=>#[(hv y hy).1.same λa=>bp.mv b s1 s2 a,(hv y hy).2],h]
theorem wg.pI{K:af}{H G:Hp}{hs:Xa}{qs:aH}{fp:ai}{v:V}(h:wg K H hs qs fp v)(s:NT H G):wg K G hs qs fp v:=by
 rcases h with⟨t,a,q⟩|⟨d,ns,g,x,e,df,hd,hv,h⟩
 ·exact .inl #[t,bp.pI s a,q]
 exact .inr #[d,ns,g,x,e,df,s.dK hd,λy hy=>#[(hv y hy).1.same λa=>bp.pI s a,(hv y hy).2],h]
theorem i7.mv{K:af}{H G:Hp}{l:Addr}{hs:Xa}{qs:aH}{fp:ai}{v:V}(h:i7 K H hs qs fp v)(b:bb l H G)(s1:cB H l)(s2:cB G l):i7 K G hs qs fp v:=by
 let#[xs,hl]:=s1.some;rcases h with h|⟨d,es,ep,ns,f,y,x,t,e,hd,en,hm,ty,q⟩
 ·exact .inl (wg.mv h b s1 s2)
 exact .inr #[d,es,ep,ns,f,y,x,t,e,b _ _ hd (cj hd hl nofun),en,hm,bp.mv b s1 s2 ty,q]
theorem i7.pI{K:af}{H G:Hp}{hs:Xa}{qs:aH}{fp:ai}{v:V}(h:i7 K H hs qs fp v)(s:NT H G):i7 K G hs qs fp v:=by
 rcases h with h|⟨d,es,ep,ns,f,y,x,t,e,hd,en,hm,ty,q⟩
 ·exact .inl (wg.pI h s)
 exact .inr #[d,es,ep,ns,f,y,x,t,e,s _ _ hd nofun,en,hm,bp.pI s ty,q]
def iG(K:af)(H:Hp)(hs:Xa)(qs:aH)(fp:ai)(d:Addr)(y:Bool)(v:V):Prop:=(y=true/\i7 K H hs qs fp v)∨(y=false/\v=.ref d)
theorem iG.mv{K:af}{H G:Hp}{l d:Addr}{hs:Xa}{qs:aH}{fp:ai}{y:Bool}{v:V}(h:iG K H hs qs fp d y v)(b:bb l H G)(s1:cB H l)(s2:cB G l):iG K G hs qs fp d y v:=h.imp (λ⟨e,h⟩=>#[e,h.mv b s1 s2]) id
theorem iG.nt{K:af}{H G:Hp}{d:Addr}{hs:Xa}{qs:aH}{fp:ai}{y:Bool}{v:V}(h:iG K H hs qs fp d y v)(s:NT H G):iG K G hs qs fp d y v:=h.imp (λ⟨e,h⟩=>#[e,h.pI s]) id
theorem iE.mv{K:af}{H G:Hp}{l:Addr}{v:V}(h:iE K H v)(b:bb l H G)(s1:cB H l)(s2:cB G l):iE K G v:=h.imp id (λh=>h.imp id λ⟨ty,a,q⟩=>#[ty,bp.mv b s1 s2 a,q])
theorem iE.pI{K:af}{H G:Hp}{v:V}(h:iE K H v)(s:NT H G):iE K G v:=h.imp id (λh=>h.imp id λ⟨ty,a,q⟩=>#[ty,bp.pI s a,q])
def qW(K:af)(H:Hp)(z:Bool)(v:V):Prop:=(z=true/\iE K H v)∨(z=false/\∃q:Nat,q<=3000/\v=.int q)
theorem qW.nt{K:af}{H G:Hp}{z:Bool}{v:V}(h:qW K H z v)(s:NT H G):qW K G z v:=h.imp (λ⟨e,h⟩=>#[e,h.pI s]) id
theorem GF.nt{K:af}{CG CW g p d l:Addr}{H G:Hp}{m:Nat}{hs:Xa}{ps qs:aH}{fp:ai}{f:aq}(S:GF K CG CW H g p d m hs ps qs fp f l)(s:NT H G):GF K CG CW G g p d m hs ps qs fp f l:=#[{ S.S with G:=S.S.G.nt s,hd:=s.dK S.S.hd },λc hc=>by
 let#[o,e,q]:=S.has c hc;exact#[o,s _ _ e q,q],S.lfp,S.ic,S.dl,S.st.nt s]
theorem GF.XU{K:af}{CG CW g p d l:Addr}{H:Hp}{m:Nat}{hs:Xa}{ps qs:aH}{fp:ai}{f:aq}(S:GF K CG CW H g p d m hs ps qs fp f l):Wt K CG CW H g p d hs si qs fp (cK.take m) f:=#[S.S.G,S.ic,S.S.hd,S.S.so,S.has]
def vc(bs:List Bool)(i:Nat):Prop:=bs[i]? = some true/\∀j,j<i->bs[j]? = some false
end Ev
namespace L2
open PySem PySem.Spec PyProof.Rows
theorem Mn{P:Ad}{w:Af}{K:af}{mg:Str->Option Aa}{base:Heap}{k:Nat}{f:Addr}{name qual:Str}{params:Ai}{body:List Stmt}{scope:Scope}{dV kV doc pm aD ct oc:Aa}{an od:Option Addr}
  {iI:Array (Option Aa)} {N ps:ae} {sp:Sp} (lk:K.lookup f=some #[oc,od,.func (PySem.W.fnOf name qual params body scope dV kV doc pm an aD ct),iI]) (fL:PySem.W.codeIn K aD qual=true) (S:bq N ps scope)
  (len:∀vs H Q E,sp vs H Q E->vs.length=ps.length)
  (bR:∀(A:Ag) (outer:List Env) (s:Ab) (H:Hp) (vs:aj) (Q:VK) (E:XK),aK k (A.deeper (envOfC qual scope s.heap.objs.size f aD))->sp vs H Q E->
   ∃t,ig (dP bc P w K mg base N qual scope f aD A outer s H E).uo body t/\t { nx:=λ_ H'=>Q .non H',rt:=Q } (start N vs) H) :
  ag P w K mg base bc (k+1) f (PySem.W.fnOf name qual params body scope dV kV doc pm an aD ct) ps sp:=
 Jr lk fL S len λA outer s H vs Q E hr gn=>by
  let#[t,h,q]:=bR A outer s H vs Q E hr gn;exact#[t,h.uo,q]
end L2
namespace Ev
open PySem L2
def On:Stmt->List Stmt
 |.For _ _ b _ _=>b
 |_=>[]
def Dc:Stmt->Expr
 |.Assign _ v _=>v
 |.Expr v _=>v
 |_=>.Constant .none 0 #[0,0,0,0]
def D4:Expr->Expr
 |.Call _ (e::_) _ _=>e
 |.List (e::_) _=>e
 |e=>e
def Bt:List Stmt:=On (qw (eY dn) 1)
def jy:Expr:=D4 (D4 (Dc (qw Bt 8)))
def jx:Expr:=D4 (D4 (Dc (qw Bt 9)))
def jw:Expr:=D4 (D4 (Dc (qw Bt 10)))
abbrev kJ:ae:=["_law_goods","_law_handed","_law_rule","_law_many"]
theorem GR:∀y∈(cX jy).names,y.2=.free->y.1∈kJ:=by decide +kernel
theorem GQ:∀y∈(cX jx).names,y.2=.free->y.1∈kJ:=by decide +kernel
theorem GP:∀y∈(cX jw).names,y.2=.free->y.1∈kJ:=by decide +kernel
theorem AV:zS [] kJ (cX jy):=#[by decide +kernel,Z,Z,Z,λp h=>(by cases h),by decide +kernel,λx h=>GR (x,.free) (jW h) Z,by decide +kernel]
theorem AU:zS [] kJ (cX jx):=#[by decide +kernel,Z,Z,Z,λp h=>(by cases h),by decide +kernel,λx h=>GQ (x,.free) (jW h) Z,by decide +kernel]
theorem AS:zS [] kJ (cX jw):=#[by decide +kernel,Z,Z,Z,λp h=>(by cases h),by decide +kernel,λx h=>GP (x,.free) (jW h) Z,by decide +kernel]
def mz(K:af)(CG CW T1 T2 CR CN CM:Addr)(U:UU):Sp:=λvs H Q E=>yI K CG CW T1 T2 CR CN CM U vs H Q (λcls _ H'=>∀dd,E cls dd H')
def yH(K:af)(CG CW T1 T2 CR CN CM:Addr)(U:UU):ID:=λvs gs H Q E=>∃(g v vr vm:V),vs=[]/\gs=[g,v,vr,vm]/\mz K CG CW T1 T2 CR CN CM U [g,v,vr,vm] H Q E
theorem DZ{K:af}{CG CW T1 T2 CR CN CM:Addr}{U:UU}:vL (yH K CG CW T1 T2 CR CN CM U):=λvs gs H Q Q' E E' ⟨g,v,vr,vm,a,b,h⟩ hQ hE=>#[g,v,vr,vm,a,b,yI.mono h hQ λc d H h dd=>hE _ _ _ (h dd)]
section
variable{P:Ad}{w:Af}{K:af}{mg:Str->Option Aa}{base:Heap}{CG CW T1 T2 CR CN CM:Addr}{qual:Str}
theorem ka_{U:UU}(c:!i9 10 "stand_after" zI (mz K CG CW T1 T2 CR CN CM U)):vw P w K mg base 11 qual (kA jy) (kz jy) (cX jy) [] kJ (yH K CG CW T1 T2 CR CN CM U):=by
 apply ku AV (λpm c' iB cl us hl=>?_) (λA outer s H f cd cl vs gs Q E hr h hp=>?_)
 ·cases us with
  |nil=>rfl
  |cons u us=>cases hl
 let#[g,v,vr,vm,rfl,rfl,h]:=h;exact#[_,M7 c hr hp %[0,1,2,3|0],_,Z,_,Z,_,Z,_,Z,h]
theorem _z{U:UU}(c:!i9 10 "sums_of" zI (mz K CG CW T1 T2 CR CN CM U)):vw P w K mg base 11 qual (kA jx) (kz jx) (cX jx) [] kJ (yH K CG CW T1 T2 CR CN CM U):=by
 apply ku AU (λpm c' iB cl us hl=>?_) (λA outer s H f cd cl vs gs Q E hr h hp=>?_)
 ·cases us with
  |nil=>rfl
  |cons u us=>cases hl
 let#[g,v,vr,vm,rfl,rfl,h]:=h;exact#[_,M7 c hr hp %[0,1,2,3|0],_,Z,_,Z,_,Z,_,Z,h]
theorem ke_{U:UU}(c:!i9 10 "run_of" qh (mz K CG CW T1 T2 CR CN CM U)):vw P w K mg base 11 qual (kA jw) (kz jw) (cX jw) [] kJ (yH K CG CW T1 T2 CR CN CM U):=by
 apply ku AS (λpm c' iB cl us hl=>?_) (λA outer s H f cd cl vs gs Q E hr h hp=>?_)
 ·cases us with
  |nil=>rfl
  |cons u us=>cases hl
 let#[g,v,vr,vm,rfl,rfl,h]:=h;exact#[_,M7 c hr hp %[0,1,2,3|0],_,Z,_,Z,_,Z,_,Z,h]
end
def Kd(H G:Hp):Prop:=(∀a xs,H a\.tup xs->G a\.tup xs)/\(∀a kvs,H a\.dK kvs->G a\.dK kvs)/\∀a xs,H a\.lst xs->∃ys,G a\.lst ys
theorem Kd.of{H G:Hp}(s:NT H G):Kd H G:=#[λa xs e=>s.tup e,λa xs e=>s.dK e,λa xs e=>#[xs,s.lst e]]
theorem Kd.but{lt:Addr}{H G:Hp}{xs ys:aj}(h:H lt\.lst xs)(b:bb lt H G)(g:G lt\.lst ys):Kd H G:=#[λa zs e=>b _ _ e (cj e h nofun),λa zs e=>b _ _ e (cj e h nofun),λa zs e=>by
 by_cases c:a=lt
 ·rw[c];exact#[ys,g]
 exact#[zs,b _ _ e c]]
def Dj(U:V->Hp->Prop):Prop:=∀v H G,Kd H G->U v H->U v G
def dV(v:V)(H:Hp):Prop:=∃d kvs,v=.ref d/\H d\.dK kvs
def lV(v:V)(H:Hp):Prop:=∃l xs,v=.ref l/\H l\.lst xs
def rV(v:V)(H:Hp):Prop:=∃(t:Addr) (x:Str) (r:aj),v=.ref t/\H t\.tup (.str x::r)/\x≠"refused"
theorem DO:Dj dV:=λv H G k ⟨d,kvs,e,h⟩=>#[d,kvs,e,k.2.1 _ _ h]
theorem Jp:Dj lV:=λv H G k ⟨d,xs,e,h⟩=>let #[ys,g]:=k.2.2 _ _ h;#[d,ys,e,g]
theorem R4:Dj rV:=λv H G k ⟨t,x,r,e,h,n⟩=>#[t,x,r,e,k.1 _ _ h,n]
theorem _l{r:Rl}{hs:Xa}{ts:Xb}{qs:aH}{f:aq}{n:Nat}{v:V}{H:Hp}(h:xc r hs ts qs f n v H):rV v H:=by
 rcases h with⟨t,d,i,e,_,_,_,h,_⟩|⟨t,i,j,e,_,_,_,_,_,h⟩|⟨t,e,_,h⟩
 ·exact#[t,_,_,e,h,by decide +kernel]
 ·exact#[t,_,_,e,h,by decide +kernel]
 exact#[t,_,_,e,h,by decide +kernel]
theorem FW{cs:List (Addr × Obj)}{H1 H2 H3:Hp}(n:jQ cs H1)(s:aa H1 H2)(s3:aa (lend cs H2) H3):aa H1 (gP cs H3):=λb o e=>by
 let q:=CH n e;rw[mh q];exact s3 _ _ (by rw[jO q];exact s _ _ e)
theorem MS{cs:List (Addr × Obj)}{H2 H3:Hp}(s3:aa (lend cs H2) H3):i8 H3 cs:=λc o e=>s3 _ _ (HJ e)
theorem Lz{cs:List (Addr × Obj)}{H2 H3:Hp}{l:Addr}{xs:aj}(s3:aa (lend cs H2) H3)(e:H3 l\.tup xs):gP cs H3 l\.tup xs:=by
 cases q:cs.lookup l with
 |none=>rw[mh q];exact e
 |some o=>
  rw[s3 _ _ (HJ q)] at e;cases e
theorem Hw{bh:ae}{cl:List (Str × Addr)}{is:List Nat}{sp:Sp}{tl:TE}{σ:St}{H:Hp}{Q:VK}(h:tl σ H (λv H1=>∃gs:aj,is.map (λi=>σ[i]?)=gs.map (λv=>some (some v))/\∀cs,C8 bh cl cs gs->(∀c o,cs.lookup c\o->H1 c=none)->sp [v] (lend cs H1) (λv H2=>i8 H2 cs/\Q v (gP cs H2)) E0)):Kc bh cl is sp (gy tl dJ) σ H Q:=h
def hJ(H:Hp)(v:V)(U:V->Hp->Prop)(b:Nat->Prop):Prop:=U v H∨∃(t:Addr) (i:Nat),i<4/\v=.ref t/\H t\.tup [.str "refused",.int i,.int 1,.bl true]/\b i
theorem hJ.kd{H G:Hp}{v:V}{U:V->Hp->Prop}{b:Nat->Prop}(us:Dj U)(h:hJ H v U b)(k:Kd H G):hJ G v U b:=h.imp (us _ _ _ k) λ⟨t,i,a,e,q,z⟩=>#[t,i,a,e,k.1 _ _ q,z]
theorem Ol{CR CN CM CQ T T1 T2:Addr}{qual q':Str}{a a':Ai}{b b':Expr}{sc A1:Scope}{pos:Pos}{cl:List (Str × Addr)}{bh:ae}{is:List Nat}{sp:ID}{σ:St}{H:Hp}{Q:VK}{gs:aj}{U:V->Hp->Prop}{bd:Nat->Prop}(mo:vL sp)(e1:q'=qual)(e2:a'=a)(e3:b'=b)(e4:A1=sc)(tab:bL H T qual)(tb:Tb H T1 T2)(n1:T≠T1)(n2:T≠T2)(uQ:is.map (λi=>σ[i]?)=gs.map (λv=>some (some v)))(us:Dj U)
  (gn:∀H1,NT H H1->Tb H1 T1 T2->sp [] gs H1 (λv H2=>BT T1 T2 H1 H2/\Tb H2 T1 T2/\U v H2) (λcls _ H2=>BT T1 T2 H1 H2/\Tb H2 T1 T2/\∃(i:Nat) (Cx:Addr),[CR,CN,CM,CQ][i]? = some Cx/\cls=.ref Cx/\bd i)) (k:∀v H',NT H H'->bL H' T qual->Tb H' T1 T2->hJ H' v U bd->Q v H') :
  Kc bh cl is (Hb CR CN CM CQ qual a b sc bh sp) (gy (As T q' a' b' A1 pos cl) dJ) σ H Q:=by
 apply Hw (N9 tab e1 e2 e3 e4 (λf c' H1 bT qm hf hc=>?_));let#[vs,hT]:=g_ tab;let nt:=bT.nt hT;have EK:Tb H1 T1 T2:=#[bL.but tb.a bT #[_,hT] n1.symm,bL.but tb.b bT #[_,hT] n2.symm,tb.ne];apply#[gs,uQ,λcs Cs MF=>?_];apply#[f,c',_,cs,_,Z,by rw[jO (CH MF hf)];exact hf,by rw[jO (CH MF hc)];exact hc,λc o e=>HJ e,Cs,?_];rw[je_ MF]
 have last:∀{H2 H':Hp},jQ cs H2->BT T1 T2 H1 H2->Tb H2 T1 T2->aa (lend cs H2) H'->aa H2 (gP cs H')/\NT H (gP cs H')/\bL (gP cs H') T qual/\Tb (gP cs H') T1 T2:=λ{H2 H'} nc b2 t2 s3=>by
  let s:=FW nc (aa.refl _) s3;apply#[s,(nt.trans (b2.nt EK)).trans (NT.of s),?_,#[t2.a.same s,t2.b.same s,t2.ne]];let#[es,a1,a2]:=qm;have c2:∀b o,H1 b\o->(∀vs,o≠.tbl vs)->gP cs H' b\o:=λb o e n=>s _ _ (b2.nt EK b o e n);exact#[es,s _ _ (b2 _ _ a1 n1 n2),λx hx=>c2 _ _ (a2 x hx) nofun]
 apply mo _ _ _ _ _ _ _ (gn _ nt EK) (λv H2 ⟨b2,t2,u2⟩ nc=>#[λc o e=>HJ e,?_]) (λcls d H2 ⟨b2,t2,i,Cx,hC,ec,z1⟩ nc=>#[i,Cx,hC,ec,λt H' s3 ht=>#[MS s3,?_]])
 ·let#[s,x1,x2,x3]:=last nc b2 t2 (aa.refl _);exact k _ _ x1 x2 x3 (.inl (us _ _ _ (Kd.of (NT.of s)) u2))
 let#[s,x1,x2,x3]:=last nc b2 t2 s3;exact k _ _ x1 x2 x3 (.inr #[t,i,(dj.mp hC).1,Z,Lz s3 ht,z1])
def UX(x y z:Bool)(U:V->Hp->Prop)(v:V)(H:Hp):Prop:=(x=false/\y=false/\z=false)/\U v H
theorem rG{x y z:Bool}{U:V->Hp->Prop}(u:Dj U):Dj (UX x y z U):=λv H G k ⟨a,h⟩=>#[a,u _ _ _ k h]
def Cn(last k:Nat):Nat:=if k=2 then last else k
def rT(x y z:Bool)(last i:Nat):Prop:=∃k,vc [x,y,z] k/\i=Cn last k
theorem Da{K:af}{CG CW g p d l:Addr}{H:Hp}{m:Nat}{hs:Xa}{ps qs:aH}{fp:ai}{f:aq}{T1 T2 CR CN CM CQ CX:Addr}{x y z:Bool}{vr vh vm:V}{U:UU}{U0:V->Hp->Prop}{last:Nat}(hU:∀r hs ts qs f n v H,U r hs ts qs f n v H->U0 v H)(hC:[CR,CN,CM,CQ][last]? = some CX)(S:GF K CG CW H g p d m hs ps qs fp f l)(ru:hV K H x vr)(ha:iG K H hs qs fp d y vh)(mo:qW K H z vm)(tb:Tb H T1 T2) :
  yH K CG CW T1 T2 CR CN CX U [] [.ref g,vh,vr,vm] H (λv H2=>BT T1 T2 H H2/\Tb H2 T1 T2/\UX x y z U0 v H2) (λcls _ H2=>BT T1 T2 H H2/\Tb H2 T1 T2/\∃(i:Nat) (Cx:Addr),[CR,CN,CM,CQ][i]? = some Cx/\cls=.ref Cx/\rT x y z last i):=by
 apply#[_,_,_,_,Z,Z,g,p,vh,vr,vm,hs,si,qs,fp,Z,S.S.G,?_];rcases ru with⟨rfl,no⟩|⟨rfl,r,hr,rfl⟩
 ·exact .inl #[no,λdd=>#[BT.of (aa.refl H),tb,0,CR,Z,Z,0,#[Z,λj hj=>by omega],Z]]
 apply .inr #[r,hr,Z,?_];rcases ha with⟨rfl,no⟩|⟨rfl,rfl⟩
 ·apply .inl #[no,λH' s dd=>#[BT.of s,tb.same s,1,CN,Z,Z,1,#[Z,λj hj=>?_],Z]];obtain rfl:j=0:=by omega
  rfl
 apply .inr #[d,_,f,Z,S.XU,S.S.wd,tb,?_];rcases mo with⟨rfl,no⟩|⟨rfl,q,q0,rfl⟩
 ·apply .inr #[λH' s=>no.pI s,λH' b t dd=>#[b,t,last,CX,hC,Z,2,#[Z,λj hj=>?_],Z]];have:j=0∨j=1:=by omega
  rcases this with rfl|rfl<;>rfl
 exact .inl #[q,Z,q0,λv' H' b t u=>#[b,t,#[Z,Z,Z],hU _ _ _ _ _ _ _ _ u]]
theorem TR(x y z:Bool):true∉[x,y,z]∨∃i,vc [x,y,z] i:=by
 cases x
 ·cases y
  ·cases z
   ·exact .inl (by decide)
   exact .inr #[2,Z,λj hj=>by
    have:j=0∨j=1:=by omega
    rcases this with rfl|rfl<;>rfl]
  exact .inr #[1,Z,λj hj=>by
   obtain rfl:j=0:=by omega
   rfl]
 exact .inr #[0,Z,λj hj=>by omega]
theorem Kt{bs:List Bool}{i:Nat}(h:vc bs i):true∈bs:=dD h.1
theorem _P{bs:List Bool}{i j:Nat}(h:vc bs i)(g:vc bs j):i=j:=by
 rcases Nat.lt_trichotomy i j with c|c|c
 ·have:=g.2 _ c;rw[h.1] at this;cases this
 ·exact c
 have:=h.2 _ c;rw[g.1] at this;cases this
theorem RI(H:Hp):∀bs:List Bool,Paired (rB H) (bs.map V.bl) bs
 |[]=>.nil
 |_::bs=>.cons Z (RI H bs)
end Ev
namespace L2
open PySem PySem.Spec PyProof.Rows PySem.W qk dI
section
variable{X:Cx}
end
end L2
namespace Ev
open PySem L2
def Fl:V->V->Hp->VK->Prop:=λx y H Q=>∃(a b:Addr) (ms ns:ae) (f:aq),x=.ref a/\y=.ref b/\H a\.dK (cE ms f)/\H b\.dK (cE ns f)/\ms.length=ns.length/\(∀m∈ms,m∈ns)/\Q (.bl false) H
theorem kN_{X:Cx}(hu:X.A.units<cLine):eW X (compareOp .NotEq) Fl:=by
 intro pins s σ H x y v u Q I rx ry h;let#[a,b,ms,ns,f,rfl,rfl,ha,hb,le,sub,q]:=h;cases rx;cases ry;let#[za,na,va,ra,da]:=oq I.au (.inl ha);let#[zb,nb,vb,rb,db]:=oq I.au (.inl hb);let la:=ra.length;let lb:=rb.length;rw[fY] at la lb;apply PySem.W.keq_ne na nb da db hu (r:=ms.all λn=>decide (f n=f n)) (λ_=>SD rb ms va ra sub) #[.bl _,H,I,Z,?_];rw[<- la,<- lb,le];have al:(ms.all λn=>decide (f n=f n))=true:=by simp
 rw[al];simpa using q
def MB:ae:=["","least","run","turns one high","shares fall","BELOW one high","least one calm\n"]
theorem Z3:∀x∈MB,x∉du:=by decide +kernel
abbrev Bj:aj:=[.str "",.str "least",.str "run",.str "turns one high",.str "shares fall",.str "BELOW one high",.str "least one calm\n",.non,.int 5]
theorem Z_{K:af}{H:Hp}{r:Int}(h0:0<=r)(h1:r<9):∃v,oC Bj r\v/\jP K H du v:=by
 let#[v,hv,hp]:=xJ (p:=λv:V=>(∃x∈MB,v=.str x)∨v=.non∨v=.int 5) (xs:=Bj) (r:=r) (n:=9) Z h0 h1 (λv hv=>by
  have hv:v∈MB.map V.str++[.non,.int 5]:=hv;rcases gY.mp hv with hv|hv
  ·let#[x,hx,rfl]:=bD.mp hv;exact .inl #[x,hx,Z]
  simp only[bW,vD,or_false] at hv;exact .inr hv)
 apply#[v,hv,?_];rcases hp with⟨x,hx,rfl⟩|rfl|rfl
 ·exact .inl #[x,Z,Z3 x hx]
 ·exact .inr #[_,.non,Z]
 exact .inr #[_,.int _,Z]
theorem _r{n_:Nat}{X:Cx}{k:Nat}{x:Str}{sp:Sp}{p pos:Pos}(c:bx X.prog X.w X.K X.mg X.base k x [] sp)(hr:aK n_ X.A)(hg:Gl X x:=by rfl)(gT:(x == ("__debug__":Str))=false:=by decide)(hk:k<=n_:=by decide):PE X (.Call (.Name x p) [] [] pos) (Cc sp [] E0 dJ):=by
 let#[f,fd,F,m,kp,b]:=c.ex;exact jx_ F (hr.mono hk) hg m kp b .nil kl gT
theorem NC{X:Cx}{k:Nat}{x:Str}{ps:ae}{sp:Sp}{p pos:Pos}{e:Expr}{es:List Expr}{ta:TA}{bh:ae}{cl:List (Str × Addr)}{is:List Nat}(c:bx X.prog X.w X.K X.mg X.base k x ps sp)(hr:aK k X.A)(ha:PA X (e::es) ta)
  (iK:∀q∈cl,X.env.cells.lookup q.1\q.2) (BR:∀q∈cl,X.fn q.1=true) (pQ:∀x∈bh,∃c,cl.lookup x\c) (xH:∀x∈bh,X.env.scope.names.lookup x\.cell) (SV:∀x c,cl.lookup x\c->x∈bh) (hN:is.map (λi=>X.N[i]?)=bh.map some)
  (hg:Gl X x:=by rfl) (gT:(x == ("__debug__":Str))=false:=by decide) (he:starEach (e::es) X.env=(false,eval e X.env)::starEach es X.env:=by rfl) (fJ:(backTo pos (starEach es X.env)).any (·.1)=false:=by rfl) :
  PE X (.Call (.Name x p) (e::es) [] pos) (Kc bh cl is sp ta):=by
 let#[f,fd,F,m,kp,b]:=c.ex;exact j8_ F hr hg m kp b ha iK BR pQ xH SV hN gT he fJ
abbrev lN:ae:=[xX,"_law_none","_law_k",rN,"_law_stand","_law_bad","_law_odd","_law_kept","_law_told","_law_goods","_law_handed","_law_many","_law_rule"]
theorem qK:bq lN [xX] (aL dn):=bE
def vi(L:Addr):List (Str × Addr):=[("_law_rule",L+4),("_law_many",L+3),("_law_handed",L+2),("_law_goods",L+1)]
theorem P4{L f:Addr}{cd:Aa}:closureFor (cX jy) (PyProof.Rows.envOfC "law" (aL dn) L f cd)=pure (vi L):=by rfl
theorem P3{L f:Addr}{cd:Aa}:closureFor (cX jx) (PyProof.Rows.envOfC "law" (aL dn) L f cd)=pure (vi L):=by rfl
theorem P2{L f:Addr}{cd:Aa}:closureFor (cX jw) (PyProof.Rows.envOfC "law" (aL dn) L f cd)=pure (vi L):=by rfl
theorem Cr{L f:Addr}{cd:Aa}:∀q∈vi L,(PyProof.Rows.envOfC "law" (aL dn) L f cd).cells.lookup q.1\q.2:=by
 intro q hq;simp only[vi,bW,vD,or_false] at hq;rcases hq with rfl|rfl|rfl|rfl<;>rfl
theorem Bs{L:Addr}:∀x∈kJ,∃c,(vi L).lookup x\c:=by
 intro x hx;simp only[kJ,bW,vD,or_false] at hx;rcases hx with rfl|rfl|rfl|rfl<;>exact#[_,Z]
theorem Bp{L:Addr}:∀x c,(vi L).lookup x\c->x∈kJ:=by
 intro x c h;let m:=jW h;simp only[vi,bW,vD,or_false,Prod.mk.injEq] at m;rcases m with⟨rfl,_⟩|⟨rfl,_⟩|⟨rfl,_⟩|⟨rfl,_⟩<;>simp[kJ]
theorem Bq:∀x∈kJ,(aL dn).names.lookup x\.cell:=by decide +kernel
def lq:Str:=("law":Str)++".<locals>."++"<lambda>"
def nQ(last:Int)(i:Nat):ax:=[.inr "refused",.inl (nR last i),.inl 1,.inl 1]
theorem ZM{last k:Nat}:((Cn last k:Nat):Int)=nR last k:=by
 unfold Cn nR;split<;>rfl
theorem DP{K:af}{H:Hp}{t:Addr}{last:Int}{i:Nat}(e:H t\.tup [.str "refused",.int (nR last i),.int 1,.bl true]):RH K rK H (.ref t) (nQ last i):=#[t,_,Z,.of e,.cons Z (.cons Z (.cons Z (.cons Z .nil)))]
def oZ(K:af)(T T1 T2:Addr):Sp:=λvs H Q _=>∃(a:Addr) (ns:List Int),vs=[.ref a]/\H T\.tbl #[]/\T≠T1/\T≠T2/\Tb H T1 T2/\dH K H a (ns.map V.int)/\ns.length<=63/\∀H',Q (.bl true) H'
section
variable{P:Ad}{w:Af}{K:af}{mg:Str->Option Aa}{base:Heap}{CG CW CR CN CM CQ T1 T2:Addr}
theorem ZZ{fl c T:Addr}{Mx FY G_ Ft Hh:Aa}{Mo IC:Option Addr}{LV:Array (Option Aa)}(lk:K.lookup fl=some #[Mx,Mo,.func (PySem.W.fnOf "law" "law" (gX dn) (eY dn) (aL dn) .none FY G_ Ft IC (.ref c) Hh),LV])(fL:PySem.W.codeIn K (.ref c) "law"=true)(hC:PySem.W.CodeHd base c T)(lU:base.BuiltinsAt mg T)
  (B:Bi mg) (cC:!bx 1 "_law_cell_at" qe (sV K)) (CA:!bx 1 "_law_state" ["_law_cell","_law_k"] oX) (cD:!bx 2 "_law_digit" lB Ko) (Qp:!bx 1 "_law_rules" [] Vd) (QE:!bx 9 "_law_row_of_hands" [rN] (sO K CG CW)) (Qx:!bx 3 "_law_wrong_stand" [rN,"_law_stand"] (oW K)) (HX:!bx 1 "_law_due" qd (yJ K))
  (QM:!bx 12 "_law_said" ["_law_ask"] (Hb CR CN CM CQ lq (kA jy) (kz jy) (cX jy) kJ (yH K CG CW T1 T2 CR CN CM Bx))) (QL:!bx 12 "_law_said" ["_law_ask"] (Hb CR CN CM CQ lq (kA jx) (kz jx) (cX jx) kJ (yH K CG CW T1 T2 CR CN CM Bw))) (QK:!bx 12 "_law_said" ["_law_ask"] (Hb CR CN CM CQ lq (kA jw) (kz jw) (cX jw) kJ (yH K CG CW T1 T2 CR CN CQ xc))) :
  ag P w K mg base bc 13 fl (PySem.W.fnOf "law" "law" (gX dn) (eY dn) (aL dn) .none FY G_ Ft IC (.ref c) Hh) [xX] (oZ K T T1 T2):=by
 apply Mn lk fL qK (λvs H Q E h=>?_) (λA outer s H vs Q E hr h=>?_)
 ·let#[a,ns,rfl,_]:=h;rfl
 let#[ls,ns,rfl,hT,FK,FJ,tb,BM,h63,k]:=h;let sz:=cm;refine' #[_,ay ?s0 (ay ?s1 (aI (bg jU))),?kk]
 case s0=>exact bw 1 qK.nd (dC %[bM,bM,bM,bM,bM,bM,bM,CC,aM|0])
 case' s1=>refine' f_ ie Z ?i3 (dR 2 qK.nd) ?b0
 case i3=>exact Iv (by rfl) B.range %[b_ p0 aM (cb (hw_ Z) (by rfl) B.min PyProof.Rows.Boot.«min» %[cb qR (by rfl) B.len kX %[0|0],aM|0])|0]
 case' b0=>refine' ay ?b1 ?c1
 case' c1=>refine' ay ?b2 ?c2
 case' c2=>refine' ay ?b3 ?c3
 case' c3=>refine' ay ?b4 ?c4
 case' c4=>refine' ay ?b5 ?c5
 case' c5=>refine' ay ?b6 ?c6
 case' c6=>refine' ay ?b7 ?c7
 case' c7=>refine' ay ?b8 ?c8
 case' c8=>refine' ay ?b9 ?c9
 case' c9=>refine' ay ?vB ?c10
 case' c10=>refine' ay ?Et ?c11
 case' c11=>refine' ay ?Es (ay ?Er (aI ?yf))
 case b1=>exact bw 3 qK.nd (bt CA hr %[bt cC hr %[0,2|0],2|0])
 case b2=>exact N7 (bt QE hr %[3|0]) (rQ Z (fo (dR 9 qK.nd) (fo (dR 4 qK.nd) oy)))
 case b3=>exact bw 5 qK.nd (dC %[qP i4 (bt cD hr %[3,aM|0]) aM,qP i4 (bt cD hr %[3,aM|0]) aM,qP i4 (bt cD hr %[3,aM|0]) aM|0])
 case b4=>exact bw 12 qK.nd (bP gN (dC %[bP gN (_r Qp hr) (bt cD hr %[3,aM|0]),bP gN (pv 1) (bt cD hr %[3,aM|0])|0]) (jM Qj (by rfl) B.int GY %[bP gN (pv 5) aM|0]))
 case b5=>exact bw 10 qK.nd (bP gN (dC %[4,bt Qx hr %[3,4|0]|0]) (jM Qj (by rfl) B.int GY %[bP gN (pv 5) aM|0]))
 case b6=>exact bw 6 qK.nd (bP gN (dC %[MX NW aM,MX NW aM,jU,jU,CC,bM,g0 %[aM|0],dC %[aM|0],H_|0]) (bt cD hr %[3,aM|0]))
 case b7=>exact bw 11 qK.nd (bP gN (dC %[bt cD hr %[3,aM|0],6|0]) (jM Qj (by rfl) B.int GY %[bP gN (pv 5) aM|0]))
 case b8=>exact bw 7 qK.nd (jM P6 (by rfl) B.dict p7 %[4|0])
 case b9=>exact bw 8 qK.nd (dC %[NC (cl:=vi s.heap.objs.size) (is:=[9,10,12,11]) QM hr %[G0 (P:=T) (c:=c) Z P4 Z hC lU|0] Cr (λ_ _=>rfl) Bs Bq Bp Z|0])
 case vB=>exact p_ (GV (K:=K) oo Ct Cu zR (pv 8) %[NC (cl:=vi s.heap.objs.size) (is:=[9,10,12,11]) QL hr %[G0 (P:=T) (c:=c) Z P3 Z hC lU|0] Cr (λ_ _=>rfl) Bs Bq Bp Z|0])
 case Et=>exact p_ (GV (K:=K) oo Ct Cu zR (pv 8) %[NC (cl:=vi s.heap.objs.size) (is:=[9,10,12,11]) QK hr %[G0 (P:=T) (c:=c) Z P2 Z hC lU|0] Cr (λ_ _=>rfl) Bs Bq Bp Z|0])
 case' Es=>refine' bA ?IX d0 bB
 case IX=>exact PW.pt (Ec (di (GU Cq (ow hr 0)) jU (pv 5) (by with_unfolding_all rfl)) (HV (di (Su (Hi PX) (ow hr 1)) (pv 8) (dC %[bt HX hr %[5,aM|0],bt HX hr %[5,aM|0],bt HX hr %[5,aM|0]|0]))))
 case' Er=>refine' bA ?AB (aI (bA ?AA d0 bB)) bB
 case AB=>exact di (QG Cq (ow hr 0)) jU (pv 5) (by with_unfolding_all rfl)
 case AA=>exact PW.pt (zE (eJ (eB (cb jn (by rfl) B.gm gA %[bP gN (pv 8) aM,iQ (v:=.ty "dict") (by rfl) B.dict p7 Z|0]))) (zE (eJ (eB (cb jn (by rfl) B.gm gA %[bP gN (pv 8) aM,iQ (v:=.ty "list") (by rfl) B.list zU Z|0]))) (CJ (di i4 (bP eQ (bP gN (pv 8) aM) aM) bM))))
 case yf=>exact bA (di (kN_ (Nat.lt_of_succ_lt (ow hr 0))) (pv 4) (pv 7)) d0 bB
 apply#[zl,λln RO=>?_];let#[sn,en]:=aN (o:=.lst Bj) RO;have tab:bL (upd H ln (.lst Bj)) T lq:=#[[],sn _ _ hT,λe he=>by cases he];let tb:=tb.same sn;have BM:dH K (upd H ln (.lst Bj)) ls (ns.map V.int):=Sj (NT.of sn) BM;show jL _ _ _ (upd H ln (.lst Bj)) _;generalize upd H ln (.lst Bj)=Hn at en tab tb BM ⊢;lk;have vX:(ns.map V.int).length<=63:=by rw[aB];exact h63
 apply dW (λσ H'=>True) (λσ H' _=>k _) (λN hN=>?_)
 obtain⟨cnt,c4,ec⟩:∃c:Nat,c<=16/\(1+(if (15:Int)<((ns.map V.int).length:Int) then (15:Int) else ((ns.map V.int).length:Int)))=(c:Int):=by
  by_cases c:(15:Int)<((ns.map V.int).length:Int)
  ·rw[aJ c];exact#[16,by decide,Z]
  rw[aC c];exact#[1+(ns.map V.int).length,by omega,by omega]
 apply#[_,Z,ls,_,Z,.inl BM,_,_,Z,_,_,Z,Z,(cnt:Int),eA (λz=>[V.int z]) ec,by omega,by omega,?_];apply Iy (λi σ H'=>NT Hn H'/\bL H' T lq/\Tb H' T1 T2/\∃v2 v3 v4 v5 v6 v7 v8 v9 v10 v11 Do:aV,σ=[some (.ref ls),some (.ref ln),v2,v3,v4,v5,v6,v7,v8,v9,v10,v11,Do]) #[NT.refl Hn,tab,tb,none,none,none,none,none,none,none,none,none,none,none,Z] ?_ (λσ H' _=>hN _ _ trivial);rintro i σ H0 hi ⟨Mz,LD,XG,v2,v3,v4,v5,v6,v7,v8,v9,v10,v11,Do,rfl⟩;lk;rw[wF] at hi;let UN:=Mz.lst en;apply dW (λσ H'=>∃l,aa H0 H'/\H0 l=none/\cB H' l/\σ=[some (.ref ls),some (.ref ln),some (.int i),some (.ref l),v4,v5,v6,v7,v8,v9,v10,v11,Do]) ?m2 (λN1 fM=>?m1)
 case m1=>
  apply#[_,Z,_,Z,ls,ns,_,Z,by omega,Sj Mz BM,λc=>?_];apply#[_,Z,c,i,by rw[Int.zero_add];rfl,by omega,λl H1 s1 nl st=>fM _ _ #[l,s1,nl,st,?_]];show [some (V.ref ls),some (V.ref ln),some (V.int (0+(i:Int))),some (V.ref l),v4,v5,v6,v7,v8,v9,v10,v11,Do]=_;rw[Int.zero_add]
 rintro σ H1 ⟨l,s1,nl,AF,rfl⟩;have Dy:ln≠l:=bU UN nl;apply dW (λσ H'=>∃(g p d:Addr) (m:Nat) (hs:Xa) (ps qs:aH) (fp:ai) (f:aq),aa H0 H'/\GF K CG CW H' g p d m hs ps qs fp f l/\σ=[some (.ref ls),some (.ref ln),some (.int i),some (.ref l),some (.ref d),v5,v6,v7,v8,some (.ref g),v10,v11,Do]) ?m4 (λN1 fM=>?m3)
 case m3=>
  apply#[_,Z,l,Z,AF,λt g p d m hs ps qs fp f H2 b2 gH ht S fr hd ic dl=>?_];let#[xs0,hl0]:=AF.some
  have lfp:l∉fp:=λz=>by
   let e:=fr _ z;rw[hl0] at e;cases e
  let#[rC,S]:=S.gf lfp ic dl gH;exact#[t,_,Z,.of ht,Z,_,_,Z,_,_,Z,Z,fM _ _ #[g,p,d,m,hs,ps,qs,rC,f,b2.same nl s1,S,Z]]
 clear AF s1;rintro σ H2 ⟨g,p,d,m,hs,ps,qs,fp,f,s2,S2,rfl⟩;apply dW (λσ H'=>∃(lb:Addr) (x y z:Bool),aa H0 H'/\GF K CG CW H' g p d m hs ps qs fp f l/\lb≠l/\lb∉fp/\H' lb\.lst [.bl x,.bl y,.bl z]/\σ=[some (.ref ls),some (.ref ln),some (.int i),some (.ref l),some (.ref d),some (.ref lb),v6,v7,v8,some (.ref g),v10,v11,Do]) ?m6 (λN1 fM=>?m5)
 case m5=>
  apply#[_,Z,l,3,Z,by decide,by decide,S2.st,λr1 H3 _ _ b3 j8=>?_];apply#[Z,_,Z,l,3,Z,by decide,by decide,j8,λr2 H4 _ _ b4 iS=>?_];apply#[Z,_,Z,l,2,Z,by decide,by decide,iS,λr3 H5 _ _ b5 fq=>?_];apply#[Z,zl,λlb nb=>?_];let S5:=((S2.mv b3 j8).mv b4 iS).mv b5 fq;let s5:=b5.same nl (b4.same nl (b3.same nl s2));apply setG ?_;exact fM _ _ #[lb,_,_,_,s5.trans (aa.new nb),S5.same (aa.new nb),(S5.no nb).2.1,(S5.no nb).1,az,Z]
 clear s2 S2;rintro σ H3 ⟨lb,x,y,z,s3,S3,FQ,lbf,lQ,rfl⟩;apply dW (λσ H'=>∃vr:V,aa H0 H'/\GF K CG CW H' g p d m hs ps qs fp f l/\H' lb\.lst [.bl x,.bl y,.bl z]/\hV K H' x vr/\σ=[some (.ref ls),some (.ref ln),some (.int i),some (.ref l),some (.ref d),some (.ref lb),v6,v7,v8,some (.ref g),v10,v11,some vr]) ?m8 (λN1 fM=>?m7)
 case m7=>
  apply#[Z,λlr H4 s4 YY e4=>?_];let S4:=S3.same s4;apply#[_,Z,l,17,Z,by decide,by decide,S4.st,λr H5 r0 Yq b5 fq=>?_];let S5:=S4.mv b5 fq;have ZI:lr≠l:=(S3.no YY).2.1;let#[q,hq,at5]:=Zn r0 Yq;apply#[lr,_,r,_,Z,Z,.inl (.inl (b5 _ _ e4 ZI)),at5,?_];apply#[_,Z,_,Z,l,9,Z,by decide,by decide,fq,λr' H6 q0 q9 b6 gG=>?_];let S6:=S5.mv b6 gG;let s6:=b6.same nl (b5.same nl (s3.trans s4));let#[v,hv,no]:=Z_ (K:=K) (H:=H6) q0 q9;apply#[ln,_,r',v,Z,Z,.inl (.inl (s6 _ _ UN)),hv,?_];apply#[zl,λa2 n2=>?_];let uB:=b6 _ _ (b5 _ _ (s4 _ _ lQ) FQ) FQ;let#[s7,e7]:=aN (o:=.lst [.str q.1,v]) n2;generalize upd H6 a2 (.lst [.str q.1,v])=H7 at s7 e7 ⊢;apply#[_,Z,lb,_,0,.bl x,Z,Z,.inl (.inl (s7 _ _ uB)),Z,.inr #[x,Z,?_]];cases x with
  |true=>exact#[a2,_,1,v,Z,Z,.inl (.inl e7),Z,setG (fM _ _ #[v,s6.trans s7,S6.same s7,s7 _ _ uB,.inl #[Z,no.same s7],Z])]
  |false=>exact#[a2,_,0,.str q.1,Z,Z,.inl (.inl e7),Z,setG (fM _ _ #[.str q.1,s6.trans s7,S6.same s7,s7 _ _ uB,.inr #[Z,q,hq,Z],Z])]
 clear s3 S3 lQ;rintro σ H3 ⟨vr,s3,S3,lQ,nj,rfl⟩;apply dW (λσ H'=>∃vh:V,aa H0 H'/\GF K CG CW H' g p d m hs ps qs fp f l/\H' lb\.lst [.bl x,.bl y,.bl z]/\hV K H' x vr/\iG K H' hs qs fp d y vh/\σ=[some (.ref ls),some (.ref ln),some (.int i),some (.ref l),some (.ref d),some (.ref lb),v6,v7,v8,some (.ref g),some vh,v11,some vr]) ?RX (λN1 fM=>?m9)
 case m9=>
  apply#[_,Z,_,Z,_,Z,l,d,m,f,Z,S3.st,S3.dl,S3.S.hm,S3.S.hd,S3.S.fm,λv H6 b6 gG bad=>?_];apply#[zl,λa2 n2=>?_];let no:=yn.no S3.S S3.has bad;let S6:=S3.mv b6 gG;let s6:=b6.same nl s3;let uB:=b6 _ _ lQ FQ;let Fj:=nj.mv b6 S3.st gG;let#[s7,e7]:=aN (o:=.lst [.ref d,v]) n2;generalize upd H6 a2 (.lst [.ref d,v])=H7 at s7 e7 ⊢;apply#[_,Z,lb,_,1,.bl y,Z,Z,.inl (.inl (s7 _ _ uB)),Z,.inr #[y,Z,?_]];cases y with
  |true=>exact#[a2,_,1,v,Z,Z,.inl (.inl e7),Z,setG (fM _ _ #[v,s6.trans s7,S6.same s7,s7 _ _ uB,Fj.nt (NT.of s7),.inl #[Z,no.pI (NT.of s7)],Z])]
  |false=>exact#[a2,_,0,.ref d,Z,Z,.inl (.inl e7),Z,setG (fM _ _ #[.ref d,s6.trans s7,S6.same s7,s7 _ _ uB,Fj.nt (NT.of s7),.inr #[Z,Z],Z])]
 clear s3 S3 lQ nj;rintro σ H3 ⟨vh,s3,S3,lQ,nj,gU,rfl⟩;apply dW (λσ H'=>∃vo:V,aa H0 H'/\GF K CG CW H' g p d m hs ps qs fp f l/\H' lb\.lst [.bl x,.bl y,.bl z]/\hV K H' x vr/\iG K H' hs qs fp d y vh/\iE K H' vo/\σ=[some (.ref ls),some (.ref ln),some (.int i),some (.ref l),some (.ref d),some (.ref lb),some vo,v7,v8,some (.ref g),some vh,v11,some vr]) ?RW (λN1 fM=>?MM)
 case MM=>
  apply#[1,Z,3000,Z,zl,λt1 m1=>?_];let#[a1,c1]:=aN (o:=.tup [.int 2]) m1;generalize upd H3 t1 (.tup [.int 2])=G1 at a1 c1 ⊢;apply#[zl,λt2 m2=>?_];let#[a2,c2]:=aN (o:=.lst [.int 2]) m2;generalize upd G1 t2 (.lst [.int 2])=G2 at a2 c2 ⊢;intro t4 m4;let#[a4,c4]:=aN (o:=.dK []) m4;show _/\_;generalize upd G2 t4 (.dK [])=G4 at a4 c4 ⊢;apply#[zl,λt3 m3=>?_];let a3:=aa.new (o:=.lst [.int (-1),.int (-3000),.bl true,.bl false,.non,.str "2",.ref t1,.ref t2,.ref t4]) m3;have c3:upd G4 t3 (.lst [.int (-1),.int (-3000),.bl true,.bl false,.non,.str "2",.ref t1,.ref t2,.ref t4]) t3\_:=az;generalize upd G4 t3 (.lst [.int (-1),.int (-3000),.bl true,.bl false,.non,.str "2",.ref t1,.ref t2,.ref t4])=G3 at a3 c3 ⊢;have Fh:aa H3 G3:=((a1.trans a2).trans a4).trans a3;let SG:=S3.same Fh;apply#[_,Z,l,9,Z,by decide,by decide,SG.st,λr H6 r0 r8 b6 gG=>?_];let S6:=SG.mv b6 gG;have XO:t3≠l:=((S3.same ((a1.trans a2).trans a4)).no m3).2.1
  let#[vo,at6,no]:=xJ (p:=λvo:V=>iE K G3 vo) (xs:=[V.int (-1),.int (-3000),.bl true,.bl false,.non,.str "2",.ref t1,.ref t2,.ref t4]) (r:=r) (n:=9) Z r0 r8 (λv hv=>by
   simp only[bW,vD,or_false] at hv;rcases hv with rfl|rfl|rfl|rfl|rfl|rfl|rfl|rfl|rfl
   ·exact .inl #[_,Z,by decide]
   ·exact .inl #[_,Z,by decide]
   ·exact .inr (.inl #[_,Z])
   ·exact .inr (.inl #[_,Z])
   ·exact .inr (.inr #[_,.non,Z])
   ·exact .inr (.inr #[_,.str _,Z])
   ·exact .inr (.inr #[_,.tup (a3 _ _ (a4 _ _ (a2 _ _ c1))),Z])
   ·exact .inr (.inr #[_,.lst (a3 _ _ (a4 _ _ c2)),Z])
   exact .inr (.inr #[_,.dK (a3 _ _ c4),Z]))
  apply#[t3,_,r,vo,Z,Z,.inl (.inl (b6 _ _ c3 XO)),at6,setG (fM _ _ #[vo,b6.same nl (s3.trans Fh),S6,b6 _ _ (Fh _ _ lQ) FQ,(nj.nt (NT.of Fh)).mv b6 SG.st gG,(gU.nt (NT.of Fh)).mv b6 SG.st gG,no.mv b6 SG.st gG,Z])]
 clear s3 S3 lQ nj gU;rintro σ H3 ⟨vo,s3,S3,lQ,nj,gU,RN,rfl⟩;apply dW (λσ H'=>∃vm:V,aa H0 H'/\GF K CG CW H' g p d m hs ps qs fp f l/\H' lb\.lst [.bl x,.bl y,.bl z]/\hV K H' x vr/\iG K H' hs qs fp d y vh/\qW K H' z vm/\σ=[some (.ref ls),some (.ref ln),some (.int i),some (.ref l),some (.ref d),some (.ref lb),some vo,v7,v8,some (.ref g),some vh,some vm,some vr]) ?RV (λN1 fM=>?ML)
 case ML=>
  apply#[_,Z,l,30,Z,by decide,by decide,S3.st,λr H6 r0 r30 b6 gG=>?_];apply#[_,Z,zl,λa2 n2=>?_];let S6:=S3.mv b6 gG;let s6:=b6.same nl s3;let uB:=b6 _ _ lQ FQ;let Fj:=nj.mv b6 S3.st gG;let DK:=gU.mv b6 S3.st gG;let Y2:=RN.mv b6 S3.st gG;let#[s7,e7]:=aN (o:=.lst [.int r,vo]) n2;generalize upd H6 a2 (.lst [.int r,vo])=H7 at s7 e7 ⊢;apply#[_,Z,lb,_,2,.bl z,Z,Z,.inl (.inl (s7 _ _ uB)),Z,.inr #[z,Z,?_]];cases z with
  |true=>exact#[a2,_,1,vo,Z,Z,.inl (.inl e7),Z,setG (fM _ _ #[vo,s6.trans s7,S6.same s7,s7 _ _ uB,Fj.nt (NT.of s7),DK.nt (NT.of s7),.inl #[Z,Y2.pI (NT.of s7)],Z])]
  |false=>
   let#[q,rfl]:=zY r0;exact#[a2,_,0,.int q,Z,Z,.inl (.inl e7),Z,setG (fM _ _ #[.int q,s6.trans s7,S6.same s7,s7 _ _ uB,Fj.nt (NT.of s7),DK.nt (NT.of s7),.inr #[Z,q,by omega,Z],Z])]
 clear s3 S3 lQ nj gU RN;rintro σ H3 ⟨vm,s3,S3,lQ,nj,gU,Dx,rfl⟩;apply dW (λσ H'=>∃dk:Addr,aa H0 H'/\GF K CG CW H' g p d m hs ps qs fp f l/\H' lb\.lst [.bl x,.bl y,.bl z]/\hV K H' x vr/\iG K H' hs qs fp d y vh/\qW K H' z vm/\H' dk\.dK (cE (cK.take m) f)/\σ=[some (.ref ls),some (.ref ln),some (.int i),some (.ref l),some (.ref d),some (.ref lb),some vo,some (.ref dk),v8,some (.ref g),some vh,some vm,some vr]) ?RU (λN1 fM=>?MK)
 case MK=>
  apply#[_,Z,d,_,Z,.inl S3.S.hd,λdk nk=>setG (fM _ _ #[dk,s3.trans (aa.new nk),S3.same (aa.new nk),aa.new nk _ _ lQ,nj.nt (NT.of (aa.new nk)),gU.nt (NT.of (aa.new nk)),Dx.nt (NT.of (aa.new nk)),az,Z])]
 clear s3 S3 lQ nj gU Dx;rintro σ H3 ⟨dk,s3,S3,lQ,nj,gU,Dx,hdk,rfl⟩;have gQ:bL H3 T lq:=LD.same s3;have Am:Tb H3 T1 T2:=XG.same s3;have xp:NT Hn H3:=Mz.trans (NT.of s3);have fr:∀{H':Hp} {lt:Addr},NT H3 H'->H' lt=none->∀b o,H3 b\o->(∀vs,o≠.tbl vs)->b≠lt:=λn nl b o e t=>bU (n b o e t) nl;apply dW (λσ H'=>∃(lt:Addr) (v1:V),(∀b o,H3 b\o->(∀vs,o≠.tbl vs)->b≠lt)/\NT H3 H'/\bL H' T lq/\Tb H' T1 T2/\H' lt\.lst [v1]/\hJ H' v1 (UX x y z dV) (rT x y z 2)/\σ=[some (.ref ls),some (.ref ln),some (.int i),some (.ref l),some (.ref d),some (.ref lb),some vo,some (.ref dk),some (.ref lt),some (.ref g),some vh,some vm,some vr]) ?m18 (λN1 fM=>?Zv)
 case Zv=>
  apply Ol (gs:=[.ref g,vh,vr,vm]) (U:=UX x y z dV) (bd:=rT x y z 2) DZ Z Z Z Z gQ Am FK FJ Z (rG DO) (λG nG tG=>Da (λ_ _ _ _ _ _ _ _ h=>h) Z (S3.nt nG) (nj.nt nG) (gU.nt nG) (Dx.nt nG) tG) (λv1 H4 n4 dg iH sd=>?_);apply#[zl,λlt Du=>?_];let s5:=aa.new (o:=.lst [v1]) Du;exact setG (fM _ _ #[lt,v1,fr n4 Du,n4.trans (NT.of s5),dg.same s5,iH.same s5,az,sd.kd (rG DO) (Kd.of (NT.of s5)),Z])
 rintro σ H4 ⟨lt,v1,fl,n4,dg,iH,rD,yL,rfl⟩
 have put:∀{H':Hp} {xs:aj} {v:V},NT H3 H'->bL H' T lq->Tb H' T1 T2->H' lt\.lst xs->∀G,G=upd H' lt (.lst (xs++[v]))->NT H3 G/\bL G T lq/\Tb G T1 T2/\G lt\.lst (xs++[v])/\Kd H' G:=λ{H' xs v} n ta tb e G eG=>by
  subst eG;have b:bb lt H' (upd H' lt (.lst (xs++[v]))):=bb.upd;have kT:∀{T qn},bL H' T qn->bL (upd H' lt (.lst (xs++[v]))) T qn:=λ⟨es,a1,a2⟩=>#[es,b _ _ a1 (λz=>by rw[z,e] at a1;cases a1),λx hx=>b _ _ (a2 x hx) (λz=>by have:=a2 x hx;rw[z,e] at this;cases this)];exact#[λc o q t=>b _ _ (n c o q t) (fl c o q t),kT ta,#[kT tb.a,kT tb.b,tb.ne],az,Kd.but e b az]
 apply dW (λσ H'=>∃w2:V,NT H3 H'/\bL H' T lq/\Tb H' T1 T2/\H' lt\.lst [v1,w2]/\hJ H' v1 (UX x y z dV) (rT x y z 2)/\hJ H' w2 (UX x y z lV) (rT x y z 2)/\σ=[some (.ref ls),some (.ref ln),some (.int i),some (.ref l),some (.ref d),some (.ref lb),some vo,some (.ref dk),some (.ref lt),some (.ref g),some vh,some vm,some vr]) ?m20 (λN1 fM=>?Zu)
 case Zu=>
  apply#[_,Z,.inl #[Z,#[_,.of rD]],?_];apply Ol (gs:=[.ref g,vh,vr,vm]) (U:=UX x y z lV) (bd:=rT x y z 2) DZ Z Z Z Z dg iH FK FJ Z (rG Jp) (λG nG tG=>Da (λ_ _ _ _ _ _ _ _ h=>h) Z (S3.nt (n4.trans nG)) (nj.nt (n4.trans nG)) (gU.nt (n4.trans nG)) (Dx.nt (n4.trans nG)) tG) (λw2 H5 n5 sj lP sd=>?_);let xV:=n5.lst rD;apply#[lt,_,_,Z,Z,xV,by show 1<sizeLine;decide,?_];let#[p1,p2,p3,p4,p5]:=put (v:=w2) (n4.trans n5) sj lP xV _ Z;exact fM _ _ #[w2,p1,p2,p3,p4,(yL.kd (rG DO) (Kd.of n5)).kd (rG DO) p5,sd.kd (rG Jp) p5,Z]
 clear n4 dg iH rD yL;rintro σ H4 ⟨w2,n4,dg,iH,rD,yL,E8,rfl⟩;apply dW (λσ H'=>∃w3:V,NT H3 H'/\bL H' T lq/\Tb H' T1 T2/\H' lt\.lst [v1,w2,w3]/\hJ H' v1 (UX x y z dV) (rT x y z 2)/\hJ H' w2 (UX x y z lV) (rT x y z 2)/\hJ H' w3 (UX x y z rV) (rT x y z 3)/\σ=[some (.ref ls),some (.ref ln),some (.int i),some (.ref l),some (.ref d),some (.ref lb),some vo,some (.ref dk),some (.ref lt),some (.ref g),some vh,some vm,some vr]) ?m22 (λN1 fM=>?Zs)
 case Zs=>
  apply#[_,Z,.inl #[Z,#[_,.of rD]],?_];apply Ol (gs:=[.ref g,vh,vr,vm]) (U:=UX x y z rV) (bd:=rT x y z 3) DZ Z Z Z Z dg iH FK FJ Z (rG R4) (λG nG tG=>Da (λ_ _ _ _ _ _ _ _ h=>_l h) Z (S3.nt (n4.trans nG)) (nj.nt (n4.trans nG)) (gU.nt (n4.trans nG)) (Dx.nt (n4.trans nG)) tG) (λw3 H5 n5 sj lP sd=>?_);let xV:=n5.lst rD;apply#[lt,_,_,Z,Z,xV,by show 2<sizeLine;decide,?_];let#[p1,p2,p3,p4,p5]:=put (v:=w3) (n4.trans n5) sj lP xV _ Z;exact fM _ _ #[w3,p1,p2,p3,p4,(yL.kd (rG DO) (Kd.of n5)).kd (rG DO) p5,(E8.kd (rG Jp) (Kd.of n5)).kd (rG Jp) p5,sd.kd (rG R4) p5,Z]
 clear n4 dg iH rD yL E8 put fr;rintro σ H4 ⟨w3,n4,dg,iH,rD,yL,E8,RC,rfl⟩;let xF:=n4.lst lQ;have pB:∀{G:Hp},aa H4 G->rL K rB G (.ref lb) [x,y,z]:=λs=>#[lb,_,Z,.inl (.inl (s _ _ xF)),RI _ [x,y,z]];apply dW (λσ H'=>aa H4 H'/\σ=[some (.ref ls),some (.ref ln),some (.int i),some (.ref l),some (.ref d),some (.ref lb),some vo,some (.ref dk),some (.ref lt),some (.ref g),some vh,some vm,some vr]) ?m24 (λN1 fM=>?Zr)
 case Zr=>
  apply#[_,Z,true,[x,y,z],Z,pB (aa.refl _),?_];rcases TR x y z with hb|⟨i1,h1⟩
  ·exact#[false,by rw[dc hb];rfl,aR (aR (fM _ _ #[aa.refl _,Z]))]
  apply#[true,by rw[cc (Kt h1)];rfl,bK ?_]
  have ref:∀{v:V} {U:V->Hp->Prop} {last:Nat},hJ H4 v (UX x y z U) (rT x y z last)->∃t,v=.ref t/\H4 t\.tup [.str "refused",.int (nR last i1),.int 1,.bl true]:=λ{v U last} h=>by
   rcases h with⟨⟨rfl,rfl,rfl⟩,_⟩|⟨t,i,_,e,ht,k1,hk,rfl⟩
   ·exact absurd (Kt h1) (by decide)
   obtain rfl:=_P h1 hk;apply#[t,e,?_];rw[ht,ZM]
  let#[t1,rfl,q1]:=ref yL;let#[t2,rfl,q2]:=ref E8;let#[t3,rfl,q3]:=ref RC;apply#[_,Z,_,Z,lb,[x,y,z],2,Z,xF,Z,.inr #[i1,h1.1,h1.2,λu1 H5 s5 r1=>?_]];apply#[_,Z,lb,[x,y,z],2,Z,s5 _ _ xF,Z,.inr #[i1,h1.1,h1.2,λu2 H6 s6 r2=>?_]];apply#[_,Z,lb,[x,y,z],3,Z,s6 _ _ (s5 _ _ xF),Z,.inr #[i1,h1.1,h1.2,λu3 H7 s7 r3=>?_]];apply#[zl,λlu Y4=>?_];let#[s8,e8]:=aN (o:=.lst [.ref u1,.ref u2,.ref u3]) Y4;generalize upd H7 lu (.lst [.ref u1,.ref u2,.ref u3])=H8 at s8 e8 ⊢;let Fg:=((s5.trans s6).trans s7).trans s8;apply#[[nQ 2 i1,nQ 2 i1,nQ 3 i1],[nQ 2 i1,nQ 2 i1,nQ 3 i1],#[lt,_,Z,.inl (.inl (Fg _ _ rD)),.cons (DP (Fg _ _ q1)) (.cons (DP (Fg _ _ q2)) (.cons (DP (Fg _ _ q3)) .nil))],#[lu,_,Z,.inl (.inl e8),.cons (DP ((s6.trans (s7.trans s8)) _ _ r1)) (.cons (DP ((s7.trans s8) _ _ r2)) (.cons (DP (s8 _ _ r3)) .nil))],false,by simp,aR (fM _ _ #[Fg,Z])]
 rintro σ H5 ⟨s5,rfl⟩;apply dW (λσ H'=>aa H4 H'/\σ=[some (.ref ls),some (.ref ln),some (.int i),some (.ref l),some (.ref d),some (.ref lb),some vo,some (.ref dk),some (.ref lt),some (.ref g),some vh,some vm,some vr]) ?m26 (λN1 fM=>?Zq)
 case Zq=>
  apply#[_,Z,true,[x,y,z],Z,pB s5,?_];rcases TR x y z with hb|⟨i1,h1⟩
  ·apply#[true,by rw[show decide (true∈[x,y,z])=false from dc hb];rfl,bK ?_]
   have bad:∀{v:V} {U:V->Hp->Prop} {last:Nat},hJ H4 v (UX x y z U) (rT x y z last)->U v H4:=λ{v U last} h=>by
    rcases h with⟨_,u⟩|⟨t,i,_,e,ht,k1,hk,_⟩
    ·exact u
    exact absurd (Kt hk) hb
   let#[a1,k1,rfl,q1]:=bad yL;let#[a2,k2,rfl,q2]:=bad E8;let#[a3,y3,r3,rfl,q3,no]:=bad RC;let xV:=s5 _ _ rD;apply#[_,Z,lt,_,0,.ref a1,Z,Z,.inl (.inl xV),Z,?_];apply#[_,_,_,true,Z,.dK (s5 _ _ q1),Z,true,Z,aR ?_];apply#[_,Z,lt,_,1,.ref a2,Z,Z,.inl (.inl xV),Z,?_];apply#[_,_,_,true,Z,.lst (s5 _ _ q2),Z,true,Z,aR ?_];apply#[_,Z,lt,_,2,.ref a3,Z,Z,.inl (.inl xV),Z,?_];apply#[a3,_,0,.str y3,Z,Z,.of (s5 _ _ q3),L2.qM (j:=0) Z,Z,?_];exact#[false,by simp[no],aR (fM _ _ #[s5,Z])]
  exact#[false,by rw[show decide (true∈[x,y,z])=true from cc (Kt h1)];rfl,aR (fM _ _ #[s5,Z])]
 clear s5;rintro σ H5 ⟨s5,rfl⟩;let JO:=s5 _ _ (n4.dK S3.S.hd);let JI:=s5 _ _ (n4.dK hdk);exact#[_,Z,_,Z,d,dk,_,_,f,Z,Z,JO,JI,Z,λ_ h=>h,false,Z,aR #[(xp.trans n4).trans (NT.of s5),dg.same s5,iH.same s5,_,_,_,_,_,_,_,_,_,_,_,Z]]
end
end Ev
namespace Ev
open PySem L2
structure Fd (K:af) (mg:Str->Option Aa) (x:Str) (st:Stmt):Prop where
 ex:∃f fd,a_ K x x st f fd/\mg x\.ref f/\PySem.W.keepIn K (.ref f)=true
theorem GT{K:af}{h:Heap}{mg:Str->Option Aa}{x:Str}{st:Stmt}(X:K.In h)(G:h.Ns mainGlobals mg){f:Addr}{oc:Aa}{od an:Option Addr}{iI:Array (Option Aa)}{kV doc pm aD ct:Aa}(a:PySem.W.nsIn K mainGlobals x\some (.ref f))
  (l:K.lookup f=some #[oc,od,.func (PySem.W.fnOf x x (gX st) (eY st) (aL st) .none kV doc pm an aD ct),iI]) (c:PySem.W.codeIn K aD x=true) (k:PySem.W.keepIn K (.ref f)=true):Fd K mg x st:=#[_,_,Sq l c k,lX X G a,k]
structure Md (K:af) (C:Addr) (m qual:Str) (st:Stmt):Prop where
 ex:∃f fd,a_ K m qual st f fd/\Meth K C m f
theorem FL{K:af}{C:Addr}{m qual:Str}{st:Stmt}{f:Addr}{oc:Aa}{od an:Option Addr}{iI:Array (Option Aa)}{kV doc pm aD ct:Aa}(a:PySem.W.findIn K (.ref C) m\some (.ref f))(i:PySem.W.isFn K (.ref f)=true)
  (l:K.lookup f=some #[oc,od,.func (PySem.W.fnOf m qual (gX st) (eY st) (aL st) .none kV doc pm an aD ct),iI]) (c:PySem.W.codeIn K aD qual=true) (k:PySem.W.keepIn K (.ref f)=true):Md K C m qual st:=#[_,_,Sq l c k,a,i,k]
theorem cal{P:Ad}{w:Af}{K:af}{mg:Str->Option Aa}{base:Heap}{x:Str}{st:Stmt}{k:Nat}{ps:ae}{sp:Sp}(d:Fd K mg x st)(ok:∀f fd,a_ K x x st f fd->!ag bc k f fd ps sp)
  (h:∀(kV doc pm:Aa) (an:Option Addr) (aD ct:Aa) (us:ak),us.length=ps.length->bindArgs (PySem.W.fnOf x x (gX st) (eY st) (aL st) .none kV doc pm an aD ct) #[us,[]]=pure (ps.zip us)):!bx k x ps sp:=by
 let#[f,fd,F,m,kp]:=d.ex;exact#[f,fd,ok f fd F,m,kp,F.binds h]
theorem P_{P:Ad}{w:Af}{K:af}{mg:Str->Option Aa}{base:Heap}{C:Addr}{m qual:Str}{st:Stmt}{k:Nat}{ps:ae}{sp:Sp}(d:Md K C m qual st)(ok:∀f fd,a_ K m qual st f fd->!ag bc k f fd ps sp)
  (h:∀(kV doc pm:Aa) (an:Option Addr) (aD ct:Aa) (us:ak),us.length=ps.length->bindArgs (PySem.W.fnOf m qual (gX st) (eY st) (aL st) .none kV doc pm an aD ct) #[us,[]]=pure (ps.zip us)):!bf C k m ps sp:=by
 let#[f,fd,F,m]:=d.ex;exact#[f,fd,ok f fd F,m,F.binds h]
theorem Qd{P:Ad}{w:Af}{K:af}{mg:Str->Option Aa}{base:Heap}{C:Addr}{x qual:Str}{st:Stmt}{k:Nat}{ps:ae}{sp:Sp}(d:Md K C "__init__" qual st)(hx:mg x\.ref C)(mk:PySem.W.makesIn K C=true)(kc:PySem.W.keepIn K (.ref C)=true)(ok:∀f fd,a_ K "__init__" qual st f fd->!ag bc k f fd ps sp)
  (h:∀(kV doc pm:Aa) (an:Option Addr) (aD ct:Aa) (us:ak),us.length=ps.length->bindArgs (PySem.W.fnOf "__init__" qual (gX st) (eY st) (aL st) .none kV doc pm an aD ct) #[us,[]]=pure (ps.zip us)):!lL C k x ps sp:=by
 let#[f,fd,F,m]:=d.ex;exact#[f,fd,ok f fd F,#[mk,m.1,m.2,kc],hx,F.binds h]
theorem Qa{P:Ad}{w:Af}{K:af}{mg:Str->Option Aa}{base:Heap}{x:Str}{st:Stmt}{k:Nat}{ps:ae}{sp:Sp}(d:Fd K mg x st)(ok:∀f fd,a_ K x x st f fd->!ag (lM P w) k f fd ps sp)
  (h:∀(kV doc pm:Aa) (an:Option Addr) (aD ct:Aa) (us:ak),us.length=ps.length->bindArgs (PySem.W.fnOf x x (gX st) (eY st) (aL st) .none kV doc pm an aD ct) #[us,[]]=pure (ps.zip us))   : i9 P w K mg base k x ps sp:=by
 let#[f,fd,F,m,kp]:=d.ex;exact#[f,fd,ok f fd F,m,kp,F.binds h]
theorem Qc{P:Ad}{w:Af}{K:af}{mg:Str->Option Aa}{base:Heap}{x:Str}{st:Stmt}{k:Nat}{ps:ae}{sp:Sp}(d:Fd K mg x st)(ok:∀f fd,a_ K x x st f fd->!ag (fe P w) k f fd ps sp)
  (h:∀(kV doc pm:Aa) (an:Option Addr) (aD ct:Aa) (us:ak),us.length=ps.length->bindArgs (PySem.W.fnOf x x (gX st) (eY st) (aL st) .none kV doc pm an aD ct) #[us,[]]=pure (ps.zip us))   : gD P w K mg base k x ps sp:=by
 let#[f,fd,F,m,kp]:=d.ex;exact#[f,fd,ok f fd F,m,kp,F.binds h]
theorem eN{K:af}{a:Addr}{od:Option Addr}{p q:Str}{x y:Tok}{z:Aa}{u:V}{n:Nat}{sl:Array (Option Aa)}(h:K.lookup a=some #[.type "tuple",od,.seq (List.toArray [.str p x,.str q y,z]) n,sl])(r:RelV u z):∀H,iD K H a [.str p,.str q,u]:=λH=>
 .inr #[_,_,_,h,Z,Z,(show 3<=sizeLine by decide),.cons #[x,Z] (.cons #[y,Z] (.cons r .nil))]
theorem rules_at{K:af}{w:Af}{mg:Str->Option Aa}{d:Addr}{es:Array Ah}{ep:Nat}{t0 t1 t2 t3 t4 t5 t6 t7 t8 t9 IZ IY IX AB AA IV Rz:Tok}{b0 b1 b2 b3 b4 b5 b6 b7 b8 b9 vB Et Es Er yf Li Lh:Addr}
  {YT YS YR YQ YO YN YM YL YK YJ Mw Mu Mt Ms Mr Mq Mp:Option Addr} {x0 y0 n0 v0 x1 y1 n1 v1 x2 y2 n2 v2 x3 y3 n3 v3 x4 y4 n4 v4 x5 y5 n5 v5 x6 y6 n6 v6 x7 y7 n7 v7 x8 y8 n8 v8 x9 y9 n9 v9 WY WQ xr v10 WX WO Zg v11 WW WN MH WV WM MG WU WL Zf Xk WT WK Ze Xj WS WJ Zd Xi:Nat} {Ye Yd I_ Yc Yb Ya X_ X9 X8 X7 L5 L4 L3 LZ LY LX LW:Array (Option Aa)}
  (m:mg "RULES"\.ref d) (hs:(d == sysModules)=false) (hl:K.lookup d=some #[.type "dict",none,.dict es ep,#[]]) (he:es.toList=Kg w [("least one high",t0,.ref b0),("least one fall",t1,.ref b1),("least one calm",t2,.ref b2),("least all high",t3,.ref b3),("least all fall",t4,.ref b4),("least all calm",t5,.ref b5),("below one high",t6,.ref b6),("below one fall",t7,.ref b7),("below one calm",t8,.ref b8),("below all high",t9,.ref b9),("below all fall",IZ,.ref vB),("below all calm",IY,.ref Et),("shares one",IX,.ref Es),("shares all",AB,.ref Er),("turns high",AA,.ref yf),("turns fall",IV,.ref Li),("turns calm",Rz,.ref Lh)])
  (u0:K.lookup b0=some #[.type "tuple",YT,.seq (List.toArray [.str "least" x0,.str "one" y0,.str "high" v0]) n0,Ye])
  (u1:K.lookup b1=some #[.type "tuple",YS,.seq (List.toArray [.str "least" x1,.str "one" y1,.str "fall" v1]) n1,Yd])
  (u2:K.lookup b2=some #[.type "tuple",YR,.seq (List.toArray [.str "least" x2,.str "one" y2,.str "calm" v2]) n2,I_])
  (u3:K.lookup b3=some #[.type "tuple",YQ,.seq (List.toArray [.str "least" x3,.str "all" y3,.str "high" v3]) n3,Yc])
  (u4:K.lookup b4=some #[.type "tuple",YO,.seq (List.toArray [.str "least" x4,.str "all" y4,.str "fall" v4]) n4,Yb])
  (u5:K.lookup b5=some #[.type "tuple",YN,.seq (List.toArray [.str "least" x5,.str "all" y5,.str "calm" v5]) n5,Ya])
  (u6:K.lookup b6=some #[.type "tuple",YM,.seq (List.toArray [.str "below" x6,.str "one" y6,.str "high" v6]) n6,X_])
  (u7:K.lookup b7=some #[.type "tuple",YL,.seq (List.toArray [.str "below" x7,.str "one" y7,.str "fall" v7]) n7,X9])
  (u8:K.lookup b8=some #[.type "tuple",YK,.seq (List.toArray [.str "below" x8,.str "one" y8,.str "calm" v8]) n8,X8])
  (u9:K.lookup b9=some #[.type "tuple",YJ,.seq (List.toArray [.str "below" x9,.str "all" y9,.str "high" v9]) n9,X7])
  (Xu:K.lookup vB=some #[.type "tuple",Mw,.seq (List.toArray [.str "below" WY,.str "all" WQ,.str "fall" v10]) xr,L5])
  (Xt:K.lookup Et=some #[.type "tuple",Mu,.seq (List.toArray [.str "below" WX,.str "all" WO,.str "calm" v11]) Zg,L4])
  (Xs:K.lookup Es=some #[.type "tuple",Mt,.seq (List.toArray [.str "shares" WW,.str "one" WN,.none]) MH,L3])
  (Xr:K.lookup Er=some #[.type "tuple",Ms,.seq (List.toArray [.str "shares" WV,.str "all" WM,.none]) MG,LZ])
  (Xq:K.lookup yf=some #[.type "tuple",Mr,.seq (List.toArray [.str "turns" WU,.str "all" WL,.str "high" Xk]) Zf,LY])
  (Xp:K.lookup Li=some #[.type "tuple",Mq,.seq (List.toArray [.str "turns" WT,.str "all" WK,.str "fall" Xj]) Ze,LX])
  (Xo:K.lookup Lh=some #[.type "tuple",Mp,.seq (List.toArray [.str "turns" WS,.str "all" WJ,.str "calm" Xi]) Zd,LW]) :
  HF K w mg d [b0,b1,b2,b3,b4,b5,b6,b7,b8,b9,vB,Et,Es,Er,yf,Li,Lh]:=by
 apply#[m,Z,#[hs,?_,[("least one high",t0,.ref b0),("least one fall",t1,.ref b1),("least one calm",t2,.ref b2),("least all high",t3,.ref b3),("least all fall",t4,.ref b4),("least all calm",t5,.ref b5),("below one high",t6,.ref b6),("below one fall",t7,.ref b7),("below one calm",t8,.ref b8),("below all high",t9,.ref b9),("below all fall",IZ,.ref vB),("below all calm",IY,.ref Et),("shares one",IX,.ref Es),("shares all",AB,.ref Er),("turns high",AA,.ref yf),("turns fall",IV,.ref Li),("turns calm",Rz,.ref Lh)],_,es,ep,hl,#[Z,Z,Z],Z,he,?_],?_]
 ·rw[Qn Z];exact ih_
 ·exact .cons #[Z,Z] (.cons #[Z,Z] (.cons #[Z,Z] (.cons #[Z,Z] (.cons #[Z,Z] (.cons #[Z,Z] (.cons #[Z,Z] (.cons #[Z,Z] (.cons #[Z,Z] (.cons #[Z,Z] (.cons #[Z,Z] (.cons #[Z,Z] (.cons #[Z,Z] (.cons #[Z,Z] (.cons #[Z,Z] (.cons #[Z,Z] (.cons #[Z,Z] (.nil)))))))))))))))))
 exact .cons (eN u0 #[_,Z]) (.cons (eN u1 #[_,Z]) (.cons (eN u2 #[_,Z]) (.cons (eN u3 #[_,Z]) (.cons (eN u4 #[_,Z]) (.cons (eN u5 #[_,Z]) (.cons (eN u6 #[_,Z]) (.cons (eN u7 #[_,Z]) (.cons (eN u8 #[_,Z]) (.cons (eN u9 #[_,Z]) (.cons (eN Xu #[_,Z]) (.cons (eN Xt #[_,Z]) (.cons (eN Xs Z) (.cons (eN Xr Z) (.cons (eN Xq #[_,Z]) (.cons (eN Xp #[_,Z]) (.cons (eN Xo #[_,Z]) (.nil)))))))))))))))))
structure Tg (P:Ad) (w:Af) (b:Heap):Prop where
theorem cu{P:Ad}{w:Af}{K:af}{mg:Str->Option Aa}{base:Heap}{x:Str}{st:Stmt}{k:Nat}{ps:ae}{sp:Sp}(q:Tg P w base)(d:Fd K mg x st)(ok:∀f fd,a_ K x x st f fd->!ag bc k f fd ps sp)(h:∀(kV doc pm:Aa) (an:Option Addr) (aD ct:Aa) (us:ak),us.length=ps.length->bindArgs (PySem.W.fnOf x x (gX st) (eY st) (aL st) .none kV doc pm an aD ct) #[us,[]]=pure (ps.zip us):=by first|(exact λ_ _ _ _ _ _ us (hl:us.length=1)=>match us,hl with | [_],_=>rfl)|(exact λ_ _ _ _ _ _ us (hl:us.length=2)=>match us,hl with | [_,_],_=>rfl)|(exact λ_ _ _ _ _ _ us (hl:us.length=3)=>match us,hl with | [_,_,_],_=>rfl)|(exact λ_ _ _ _ _ _ us (hl:us.length=4)=>match us,hl with | [_,_,_,_],_=>rfl)|(exact λ_ _ _ _ _ _ us (hl:us.length=5)=>match us,hl with | [_,_,_,_,_],_=>rfl)|(exact λ_ _ _ _ _ _ us (hl:us.length=0)=>match us,hl with | [],_=>rfl)):!bx k x ps sp:=cal d ok h
theorem Qe{P:Ad}{w:Af}{K:af}{mg:Str->Option Aa}{base:Heap}{x:Str}{st:Stmt}{k:Nat}{ps:ae}{sp:Sp}(q:Tg P w base)(d:Fd K mg x st)(ok:∀f fd,a_ K x x st f fd->!ag (lM P w) k f fd ps sp)(h:∀(kV doc pm:Aa) (an:Option Addr) (aD ct:Aa) (us:ak),us.length=ps.length->bindArgs (PySem.W.fnOf x x (gX st) (eY st) (aL st) .none kV doc pm an aD ct) #[us,[]]=pure (ps.zip us):=by first|(exact λ_ _ _ _ _ _ us (hl:us.length=1)=>match us,hl with | [_],_=>rfl)|(exact λ_ _ _ _ _ _ us (hl:us.length=2)=>match us,hl with | [_,_],_=>rfl)|(exact λ_ _ _ _ _ _ us (hl:us.length=3)=>match us,hl with | [_,_,_],_=>rfl)|(exact λ_ _ _ _ _ _ us (hl:us.length=4)=>match us,hl with | [_,_,_,_],_=>rfl)|(exact λ_ _ _ _ _ _ us (hl:us.length=5)=>match us,hl with | [_,_,_,_,_],_=>rfl)|(exact λ_ _ _ _ _ _ us (hl:us.length=0)=>match us,hl with | [],_=>rfl)):!i9 k x ps sp:=Qa d ok h
theorem nZ{P:Ad}{w:Af}{K:af}{mg:Str->Option Aa}{base:Heap}{C:Addr}{m qual:Str}{st:Stmt}{k:Nat}{ps:ae}{sp:Sp}(q:Tg P w base)(d:Md K C m qual st)(ok:∀f fd,a_ K m qual st f fd->!ag bc k f fd ps sp)(h:∀(kV doc pm:Aa) (an:Option Addr) (aD ct:Aa) (us:ak),us.length=ps.length->bindArgs (PySem.W.fnOf m qual (gX st) (eY st) (aL st) .none kV doc pm an aD ct) #[us,[]]=pure (ps.zip us):=by first|(exact λ_ _ _ _ _ _ us (hl:us.length=1)=>match us,hl with | [_],_=>rfl)|(exact λ_ _ _ _ _ _ us (hl:us.length=2)=>match us,hl with | [_,_],_=>rfl)|(exact λ_ _ _ _ _ _ us (hl:us.length=3)=>match us,hl with | [_,_,_],_=>rfl)|(exact λ_ _ _ _ _ _ us (hl:us.length=4)=>match us,hl with | [_,_,_,_],_=>rfl)|(exact λ_ _ _ _ _ _ us (hl:us.length=5)=>match us,hl with | [_,_,_,_,_],_=>rfl)|(exact λ_ _ _ _ _ _ us (hl:us.length=0)=>match us,hl with | [],_=>rfl)):!bf C k m ps sp:=P_ d ok h
theorem K3{P:Ad}{w:Af}{K:af}{mg:Str->Option Aa}{base:Heap}{x:Str}{st:Stmt}{k:Nat}{ps:ae}{sp:Sp}(q:Tg P w base)(d:Fd K mg x st)(ok:∀f fd,a_ K x x st f fd->!ag (fe P w) k f fd ps sp)(h:∀(kV doc pm:Aa) (an:Option Addr) (aD ct:Aa) (us:ak),us.length=ps.length->bindArgs (PySem.W.fnOf x x (gX st) (eY st) (aL st) .none kV doc pm an aD ct) #[us,[]]=pure (ps.zip us):=by first|(exact λ_ _ _ _ _ _ us (hl:us.length=1)=>match us,hl with | [_],_=>rfl)|(exact λ_ _ _ _ _ _ us (hl:us.length=2)=>match us,hl with | [_,_],_=>rfl)|(exact λ_ _ _ _ _ _ us (hl:us.length=3)=>match us,hl with | [_,_,_],_=>rfl)|(exact λ_ _ _ _ _ _ us (hl:us.length=4)=>match us,hl with | [_,_,_,_],_=>rfl)|(exact λ_ _ _ _ _ _ us (hl:us.length=5)=>match us,hl with | [_,_,_,_,_],_=>rfl)|(exact λ_ _ _ _ _ _ us (hl:us.length=0)=>match us,hl with | [],_=>rfl)):!gD k x ps sp:=Qc d ok h
theorem Qf{P:Ad}{w:Af}{K:af}{mg:Str->Option Aa}{base:Heap}{C:Addr}{x qual:Str}{st:Stmt}{k:Nat}{ps:ae}{sp:Sp}(q:Tg P w base)(d:Md K C "__init__" qual st)(hx:mg x\.ref C)(mk:PySem.W.makesIn K C=true)(kc:PySem.W.keepIn K (.ref C)=true)(ok:∀f fd,a_ K "__init__" qual st f fd->!ag bc k f fd ps sp)(h:∀(kV doc pm:Aa) (an:Option Addr) (aD ct:Aa) (us:ak),us.length=ps.length->bindArgs (PySem.W.fnOf "__init__" qual (gX st) (eY st) (aL st) .none kV doc pm an aD ct) #[us,[]]=pure (ps.zip us):=by first|(exact λ_ _ _ _ _ _ us (hl:us.length=1)=>match us,hl with | [_],_=>rfl)|(exact λ_ _ _ _ _ _ us (hl:us.length=2)=>match us,hl with | [_,_],_=>rfl)|(exact λ_ _ _ _ _ _ us (hl:us.length=3)=>match us,hl with | [_,_,_],_=>rfl)|(exact λ_ _ _ _ _ _ us (hl:us.length=4)=>match us,hl with | [_,_,_,_],_=>rfl)|(exact λ_ _ _ _ _ _ us (hl:us.length=5)=>match us,hl with | [_,_,_,_,_],_=>rfl)|(exact λ_ _ _ _ _ _ us (hl:us.length=0)=>match us,hl with | [],_=>rfl)):!lL C k x ps sp:=Qd d hx mk kc ok h
theorem _B(r:Rl)(hs:Xa)(ts:Xb)(qs:aH)(f:aq)(h:Str)(W:Wd hs ts qs f):(vy r hs ts qs f h).length<=1000:=by
 unfold vy;split
 ·exact oG (gF_ r hs ts qs f h) (by decide)
 split
 ·exact oG (hD_ r hs ts qs f h W) (by decide)
 exact g2_ r hs ts qs f h W
theorem all_mk{l:W.OpenLaw}{w:Af}{K:af}{h:Heap}{mg:Str->Option Aa}{fa CW CG CS CE CR CN CM CQ d fl fh fr c0 c1 c2 T T1 T2:Addr}{as:ai}(X:K.In h)(G:h.Ns mainGlobals mg)(hfa:mg "law"\.ref fa)
  (f0:Fd K mg "is_whole" xa)
  (f1:Fd K mg "is_whole_from" Kp)
  (f2:Fd K mg "is_whole_within" mG)
  (f3:Fd K mg "is_name" tO)
  (f4:Fd K mg "lesser_first" O0)
  (f5:Fd K mg "is_pair_of_names" tM)
  (f6:Fd K mg "sorted_ties" OY)
  (f7:Fd K mg "greatest_divisor" L_)
  (f8:Fd K mg "least_multiple" L9)
  (f9:Fd K mg "is_hand_with_strength" tU)
  (f10:Fd K mg "checked_strengths" A2)
  (f11:Fd K mg "checked_ties" tI)
  (f12:Fd K mg "neighbours_of_all" tN)
  (f13:Fd K mg "checked_ways" m_)
  (f14:Fd K mg "checked_piece" OH)
  (f15:Fd K mg "checked_pieces" Pq)
  (f16:Fd K mg ya HD)
  (f17:Fd K mg "loads_at" Pb)
  (f18:Fd K mg "multiple_of_strengths" tP)
  (f19:Fd K mg "levels_at" Oz)
  (UC:Fd K mg "is_rule" KM)
  (UB:Fd K mg we Ke)
  (f22:Fd K mg "fits" tX)
  (f23:Fd K mg "heaviest_move" A4)
  (f24:Fd K mg "moves_by_least" Pr)
  (f25:Fd K mg "moves_by_below" O3)
  (f26:Fd K mg "share_moves" A3)
  (f27:Fd K mg "moves_by_shares" Qr)
  (f28:Fd K mg "moves_from" HE)
  (f29:Fd K mg "ties_anew" t_)
  (f30:Fd K mg "first_row_without" QB)
  (f31:Fd K mg "moves_by_turns" O5)
  (f32:Fd K mg "moves_seen" kg)
  (f33:Fd K mg "checked_start" OI)
  (f34:Fd K mg "checked_moments" Qw)
  (f35:Fd K mg "rows_by" OG)
  (f36:Fd K mg "rests_at" Pt)
  (f37:Fd K mg "sum_at" mK)
  (f38:Fd K mg "placed_after" mQ)
  (f39:Fd K mg "stand_after" mM)
  (f40:Fd K mg "sums_of" OL)
  (f41:Fd K mg "run_of" mP)
  (f42:Fd K mg "_law_cell_at" tZ)
  (f43:Fd K mg "_law_mixed" mT)
  (f44:Fd K mg "_law_state" mL)
  (f45:Fd K mg "_law_digit" mZ)
  (f46:Fd K mg "_law_rules" OE)
  (f47:Fd K mg "_law_row_of_hands" tL)
  (f48:Fd K mg "_law_wrong_stand" mF)
  (f49:Fd K mg "_law_due" A5)
  (Ou:Fd K mg "_law_said" tK)
  (m0:Md K CW "__init__" "Web.__init__" tT)
  (m1:Md K CW "has_hand" "Web.has_hand" xb)
  (m2:Md K CW "hands" "Web.hands" mX)
  (m3:Md K CW "strength" "Web.strength" Qo)
  (m4:Md K CW "neighbours" "Web.neighbours" mR)
  (m5:Md K CW "are_tied" "Web.are_tied" tJ)
  (m6:Md K CW "ties" "Web.ties" mJ)
  (m7:Md K CW "most_neighbours" "Web.most_neighbours" tQ)
  (m8:Md K CW "turns" "Web.turns" mI)
  (m9:Md K CG "__init__" "Goods.__init__" mY)
  (RX:Md K CG "has_piece" "Goods.has_piece" tW)
  (MM:Md K CG "names" "Goods.names" Pz)
  (RW:Md K CG "weight" "Goods.weight" Pn)
  (ML:Md K CG "may_go" "Goods.may_go" tV)
  (RV:Md K CS "__init__" "Sight.__init__" mO)
  (MK:Md K CS "lead" "Sight.lead" tR)
  (RU:Md K CS "joint_strength" "Sight.joint_strength" mU)
  {Mx FY G_ Ft Hh:Aa} {Mo IC:Option Addr} {LV:Array (Option Aa)} {YV kVh dch YA cth:Aa} {YI anh:Option Addr} {X6:Array (Option Aa)} {YU kVr dcr Yz ctr:Aa} {YH anr:Option Addr} {X5:Array (Option Aa)} {t8 t9 IZ IY:Tok}
  (al:W.nsIn K mainGlobals "law"\some (.ref fl)) (ll:K.lookup fl=some #[Mx,Mo,.func (W.fnOf "law" "law" (gX dn) (eY dn) (aL dn) .none FY G_ Ft IC (.ref c0) Hh),LV]) (cl:W.codeIn K (.ref c0) "law"=true) (ch:W.codeHdIn K c0 T=true) (ah:W.nsIn K mainGlobals rM\some (.ref fh)) (lh:K.lookup fh=some #[YV,YI,.func (W.fnOf rM rM (gX iT) (eY iT) (aL iT) .none kVh dch YA anh (.ref c1) cth),X6]) (fL:W.codeIn K (.ref c1) rM=true) (kh:W.keepIn K (.ref fh)=true) (h1:W.codeHdIn K c1 T1=true) (aW:W.nsIn K mainGlobals "Web"\some (.ref CW)) (aG:W.nsIn K mainGlobals "Goods"\some (.ref CG)) (aS:W.nsIn K mainGlobals "Sight"\some (.ref CS)) (eE:W.nsIn K mainGlobals "EvenError"\some (.ref CE)) (eR:W.nsIn K mainGlobals "NoRule"\some (.ref CR)) (xR:W.excIn K CR [.type "ValueError",.type "Exception",.type "BaseException",.type "object"] "ValueError.__new__"=true) (eS:W.nsIn K mainGlobals "NoStand"\some (.ref CN)) (xS:W.excIn K CN [.type "ValueError",.type "Exception",.type "BaseException",.type "object"] "ValueError.__new__"=true) (eT:W.nsIn K mainGlobals "NoMoment"\some (.ref CM)) (xT:W.excIn K CM [.type "ValueError",.type "Exception",.type "BaseException",.type "object"] "ValueError.__new__"=true) (eU:W.nsIn K mainGlobals "NoMost"\some (.ref CQ)) (xU:W.excIn K CQ [.type "ValueError",.type "Exception",.type "BaseException",.type "object"] "ValueError.__new__"=true) (ra:ub K CE [CR,CN,CM,CQ]=true) (rn:[CR,CN,CM,CQ].Nodup) (ar:W.findIn K (.ref CS) Ce\some (.ref fr)) (ir:W.isFn K (.ref fr)=true) (lr:K.lookup fr=some #[YU,YH,.func (W.fnOf Ce "Sight.rising_neighbours" (gX wk) (eY wk) (aL wk) .none kVr dcr Yz anr (.ref c2) ctr),X5]) (Ym:W.codeIn K (.ref c2) "Sight.rising_neighbours"=true) (kr:W.keepIn K (.ref fr)=true) (h2:W.codeHdIn K c2 T2=true) (c8_:W.nsIn K mainGlobals "MOST_LETTERS"\some (.int 8 t8)) (c9_:W.nsIn K mainGlobals "MOST_HANDS"\some (.int 8 t9)) (QO:W.nsIn K mainGlobals "MOST_STRENGTH"\some (.int 1000 IZ)) (QN:W.nsIn K mainGlobals "MOST_WEIGHT"\some (.int 1000000000 IY)) (W7:W.plainGet K CW Str.empty=true) (Xe:W.hasDictIn K CW=true) (W6:W.plainOver K CW=true) (W4:W.findIn K (.ref CW) "__setattr__"\some (.builtin "object.__setattr__")) (Xc:W.makesIn K CW=true) (Xd:W.keepIn K (.ref CW)=true) (W_:W.findIn K (.ref CW) wc\none) (W9:W.findIn K (.ref CW) "sorted_pairs"\none) (W8:W.findIn K (.ref CW) Ca\none) (gpg:W.plainGet K CG Str.empty=true) (ghd:W.hasDictIn K CG=true) (gpo:W.plainOver K CG=true) (gsa:W.findIn K (.ref CG) "__setattr__"\some (.builtin "object.__setattr__")) (gmk:W.makesIn K CG=true) (gkc:W.keepIn K (.ref CG)=true) (gn0:W.findIn K (.ref CG) "web"\none) (gn1:W.findIn K (.ref CG) rH\none) (gn2:W.findIn K (.ref CG) Cp\none) (XY:W.plainGet K CS Str.empty=true) (Yg:W.hasDictIn K CS=true) (XX:W.plainOver K CS=true) (XW:W.findIn K (.ref CS) "__setattr__"\some (.builtin "object.__setattr__")) (X3:W.makesIn K CS=true) (Yf:W.keepIn K (.ref CS)=true) (X2:W.findIn K (.ref CS) "wares"\none) (X1:W.findIn K (.ref CS) jj\none) (X0:W.findIn K (.ref CS) pZ\none) (XZ:W.findIn K (.ref CS) Cf\none) (iha:W.findIn K (.ref CW) "__class__"\some (.builtin "object.__class__")) (ihn:W.specialIn K (.builtin "object.__class__") "__get__"\some (.builtin "getset_descriptor.__get__")) (itk:W.takesIn K (.builtin "object.__class__")\true) (imo:W.mroIn K CW (.type "object")\true) (EE:W.nsIn K mainGlobals "sum"\none) (zV:W.nsIn K mainGlobals "ValueError"\none) (z0:W.nsIn K mainGlobals "isinstance"\none) (z1:W.nsIn K mainGlobals "int"\none) (z2:W.nsIn K mainGlobals "bool"\none) (z3:W.nsIn K mainGlobals "str"\none) (z4:W.nsIn K mainGlobals "tuple"\none) (z5:W.nsIn K mainGlobals "list"\none) (z6:W.nsIn K mainGlobals "dict"\none) (z7:W.nsIn K mainGlobals "len"\none) (z8:W.nsIn K mainGlobals "all"\none) (z9:W.nsIn K mainGlobals "sorted"\none) (WI:W.nsIn K mainGlobals "max"\none) (WH:W.nsIn K mainGlobals "range"\none) (WG:W.nsIn K mainGlobals "any"\none) (WE:W.nsIn K mainGlobals "enumerate"\none) (WD:W.nsIn K mainGlobals "min"\none) (WC:W.nsIn K mainGlobals "abs"\none) (R:HF K w mg d as) :
  ∃fd:Ae,(∀(s:Ab) (v:Aa),BindsTo s fd #[[v],[]] [(xX,v)])/\(∀T'∈[T2,T1,T],isCodeTable h T')/\∀base:Heap,K.In base->base.Ns mainGlobals mg->(∀T'∈[T2,T1,T],base.BuiltinsAt mg T')->ag l.prog w K mg base bc 13 fa fd [xX] (oZ K T T1 T2):=by
 let e:=hfa.symm.trans (lX X G al);cases e;have B:Bi mg:=#[jh X G z0,jh X G z1,jh X G z2,jh X G z3,jh X G z4,jh X G z5,jh X G z6,jh X G z7,jh X G z8,jh X G z9,jh X G WI,jh X G WH,jh X G WG,jh X G WE,jh X G WD,jh X G WC];have TW:Txt K mg CW:=#[#[W7,Xe,W6,W4],W_,W9,W8];have TG:c_ K CG:=#[#[gpg,ghd,gpo,gsa],gn0,gn1,gn2];have TS:gB K CS:=#[#[XY,Yg,XX,XW],X2,X1,X0,XZ];have IW:IM K CW:=#[iha,ihn,itk,imo];have F3:Rf K mg CE CR CN CM CQ:=#[lX X G eE,#[lX X G eR,xR],#[lX X G eS,xS],#[lX X G eT,xT],#[lX X G eU,xU],ra,rn];have FH:lJ K rM rM iT fh c1 _:=#[#[_,_,_,_,_,_,_,_,Z,lh,fL],kh];have FR:lJ K Ce "Sight.rising_neighbours" wk fr c2 _:=#[#[_,_,_,_,_,_,_,_,Z,lr,Ym],kr];apply#[W.fnOf "law" "law" (gX dn) (eY dn) (aL dn) .none FY G_ Ft IC (.ref c0) Hh,λs v=>.of_eq Z,λT' DL=>?_,λbase KB _ lU=>?_]
 ·have cd:∀{c T0:Addr},W.codeHdIn K c T0=true->isCodeTable h T0:=λ{c _} z=>by
   let#[o,yq,file,tf,flags,tg,inF,text,tt,q1,q2,q3,q4,_]:=W.codeHd_of_K X z;exact#[c,o,yq,q1,q2,q3,q4]
  have DL:T'=T2∨T'=T1∨T'=T:=⇑DL
  rcases DL with rfl|rfl|rfl
  ·exact cd h2
  ·exact cd h1
  exact cd ch
 have q:Tg l.prog w base:=⟨⟩;let HS:=cu q f0 λ_ _ F=>ZS F B;let HR:=cu q f0 λ_ _ F=>k6_ F B;let vn:=cu q f2 λ_ _ F=>jl_ F HS;have HC:bx l.prog w K mg base 2 "is_whole_from" Cm (QH K):=cu q f1 λ_ _ F=>ag.two (h1_ F HS) (gt_ F HR) λ_ _ _ _ z=>z;let vv:=cu q f3 λ_ _ F=>kU_ F B (lX X G c8_);let CF:=cu q f4 λ_ _ F=>il_ F;let HL:=cu q f5 λ_ _ F=>_S F B vv;let zN:=cu q f6 λ_ _ F=>h7_ F B HL CF;let HU:=cu q f9 λ_ _ F=>_O F B vv vn (lX X G QO);let cStr:=cu q f10 λ_ _ F=>ZC F B HU (lX X G c9_);let HG:=cu q f11 λ_ _ F=>kH_ F B zN;let HM:=cu q f12 λ_ _ F=>_U F CF;let Qh:=Qf q m0 (lX X G aW) Xc Xd λ_ _ F=>kT_ F TW B cStr HG HM;let Bl:=nZ q m1 λ_ _ F=>ZX F TW B;let uy:=nZ q m1 λ_ _ F=>kd_ F TW B;let jv:=nZ q m2 λ_ _ F=>iY_ F TW B;let xu:=nZ q m3 λ_ _ F=>eO_ F TW Bl;let FM:=nZ q m4 λ_ _ F=>jG_ F TW B Bl;let zd:=nZ q m5 λ_ _ F=>ji_ F TW uy;let QI:=cu q f13 λ_ _ F=>iD_ F TW zN zd;let cCP:=cu q f14 λ_ _ F=>ha_ F B vv vn QI (lX X G QN);let QJ:=cu q f15 λ_ _ F=>g1_ F B cCP;let CI:=Qf q m9 (lX X G aG) gmk gkc λ_ _ F=>jo_ F TG TW IW B (lX X G aW) QJ;let u_:=nZ q RX λ_ _ F=>kL_ (CW:=CW) F TG B;let uZ:=nZ q MM λ_ _ F=>hu_ (CW:=CW) F TG B;let ib:=nZ q RW λ_ _ F=>gg_ (CP:=CW) F TG u_;let GL:=nZ q ML λ_ _ F=>Z8 (CP:=CW) F TG TW u_ zd CF;let cGd:=cu q f7 λ_ _ F=>Zj F;let cLM:=cu q f8 λ_ _ F=>_e F cGd;have gCS:gD l.prog w K mg base 2 ya D5 (QF K CG CW CN):=K3 q f16 λ_ _ F=>ag.two (hj_ F B TG TW u_ Bl uZ).up (ag.two (ge_ F B F3.s TG TW u_ uy uZ) (gm_ F B F3.s TG TW u_ uy) λ_ _ _ _ z=>z) λ_ _ _ _ z=>z;let HN:=cu q f17 λ_ _ F=>gl_ F B TG TW jv ib;let cMu:=cu q f18 λ_ _ F=>_x F TW cLM jv xu;let K4:=cu q f19 λ_ _ F=>i3_ F TG TW HN cMu xu;have QD:bx l.prog w K mg base 6 rM l7 (o6 K CG CW T1):=#[_,_,_i FH B TG TW (W.codeHd_of_K KB h1) (lU T1 Z2) jv ib,lX X G ah,kh,FH.fn.binds (λ_ _ _ _ _ _ us (hl:us.length=2)=>match us,hl with | [_,_],_=>rfl)];let vq:=Qf q RV (lX X G aS) X3 Yf λ_ _ F=>ja_ F TS HN K4 QD;let Jb:=nZ q MK λ_ _ F=>_E F TS TG TW xu;let RE:=nZ q RU λ_ _ F=>jk_ F TS TG TW xu;have RD:bf l.prog w K mg base CS 4 Ce jZ (Ha K CS CG CW T2):=#[_,_,k7_ FR B TS TG TW (W.codeHd_of_K KB h2) (lU T2 Z2) FM,#[ar,ir,kr],FR.fn.binds (λ_ _ _ _ _ _ us (hl:us.length=2)=>match us,hl with | [_,_],_=>rfl)];let Wc:=cu q UC λ_ _ F=>h5_ F B R;let QA:=cu q UC λ_ _ F=>gA_ F B R;let Qg:=cu q UB λ_ _ F=>Ux F R Wc;have gWs:gD l.prog w K mg base 2 we ["rule"] (U4 K CR):=K3 q UB λ_ _ F=>ag.two (Ux F R Wc).up (id_ F F3.r QA) λ_ _ _ _ z=>z;let cFi:=cu q f22 λ_ _ F=>kW_ F;let QC:=cu q f23 λ_ _ F=>ZQ F TS TG Jb RE cFi ib GL;let cBL:=cu q f24 λ_ _ F=>gk_ F TS RD QC;let cBB:=cu q f25 λ_ _ F=>gr_ F TS RD Jb QC;let Zi:=nZ q m7 λ_ _ F=>kG_ F TW B;let Qm:=cu q f26 λ_ _ F=>ZF F TS TG TW Jb RE Zi ib GL;let cBS:=cu q f27 λ_ _ F=>eN_ F TS TG TW FM Jb Qm;let cMF:=cu q f28 λ_ _ F=>g6_ (gw_ F cBL) (fY_ F cBB) (fU_ F cBS);let cAn:=cu q f29 λ_ _ F=>kY_ F;let Zh:=nZ q m6 λ_ _ F=>iT_ F TW cAn;let HI:=cu q f30 λ_ _ F=>_k F B;let RT:=nZ q m8 λ_ _ F=>iz_ F B TW Zh HI;let cBT:=cu q f31 λ_ _ F=>g5_ F B TS TG TW RT QC;let Ej:=cu q f32 λ_ _ F=>ip_ (_X F TS TG TW (λr z=>z) _B Qg jv cMF) (jt_ F Qg cBT);let V5:=cu q f35 λ_ _ F=>ig_ F B TW Qg RT;let cRA:=cu q f36 λ_ _ F=>jw_ F B TG vq Ej V5;let Cz:=K3 q f33 λ_ _ F=>g4_ F gWs gCS;let Ek:=K3 q f34 λ_ _ F=>_Y F F3.t HC;let Ql:=cu q f37 λ_ _ F=>iu_ F (jh X G EE) HN K4;let Qv:=cu q f38 λ_ _ F=>jD_ F B vq Ej;have gSA:i9 l.prog w K mg base 10 "stand_after" zI (mz K CG CW T1 T2 CR CN CM Bx):=Qe q f39 λ_ _ F=>(hl_ F B Cz Ek Qv).Al;have gSO:i9 l.prog w K mg base 10 "sums_of" zI (mz K CG CW T1 T2 CR CN CM Bw):=Qe q f40 λ_ _ F=>(g3_ F B Cz Ek Qv Ql).Al;have gRO:i9 l.prog w K mg base 10 "run_of" qh (mz K CG CW T1 T2 CR CN CQ xc):=Qe q f41 λ_ _ F=>(i1_ F B F3.u TG Cz HC V5 cRA Qv).Al;let HZ:=cu q f42 λ_ _ F=>_K F B;let cMx:=cu q f43 λ_ _ F=>j2_ F;let Qk:=cu q f44 λ_ _ F=>jf_ F;let CK:=cu q f45 λ_ _ F=>jA_ F cMx;let Qp:=cu q f46 λ_ _ F=>h3_ F;let QE:=cu q f47 λ_ _ F=>_L F B CK Qh CI;let Qx:=cu q f48 λ_ _ F=>iL_ F B CK;let HX:=cu q f49 λ_ _ F=>ZN F;let QM:=cu q Ou λ_ _ F=>OP (qual:=lq) F B (jh X G zV) F3 DZ (ka_ gSA);let QL:=cu q Ou λ_ _ F=>OP (qual:=lq) F B (jh X G zV) F3 DZ (_z gSO);let QK:=cu q Ou λ_ _ F=>OP (qual:=lq) F B (jh X G zV) F3 DZ (ke_ gRO);exact ZZ ll cl (W.codeHd_of_K KB ch) (lU T Z2) B HZ Qk CK Qp QE Qx HX QM QL QK
theorem S0{H:Hp}{T:Addr}{q:Str}(h:H T\.tbl #[]):bL H T q:=#[[],h,λe he=>by cases he]
theorem walk{l:PySem.W.OpenLaw}{q:Ad}{loose:ae}{XP:(Str->Option Aa)->Heap->Prop}{d:DefRec}{K:Params->af}{as:ai}{T T1 T2:Addr}{J9:∀P:Params,as=(K P).map (·.1)}(hn:l.most\63)(uU:d.params.defaults=[])(BA:([T2,T1,T].all λT=>!as.contains T)=true)(n1:T≠T1)(n2:T≠T2)(ne:T1≠T2)
  (F:∀(w:Af) (mg:Str->Option Aa) (fa:Addr) (h:Heap),(K w.params).In h->h.Ns mainGlobals mg->mg d.name\.ref fa->
   ∃fd:Ae,(∀(s:Ab) (u:Aa),BindsTo s fd #[[u],[]] [(xX,u)])/\(∀T'∈[T2,T1,T],isCodeTable h T')/\∀base:Heap,(K w.params).In base->base.Ns mainGlobals mg->(∀T'∈[T2,T1,T],base.BuiltinsAt mg T')->ag l.prog w (K w.params) mg base bc 13 fa fd [xX] (oZ (K w.params) T T1 T2)) :
  PySem.W.WalkO q loose XP (PySem.W.kmHook K as J9 [T2,T1,T]).says l.row.toRowW d [] (λf vs=>PySem.call f vs):=
 L2.se (n:=63) (k:=13) (x:=xX) (CX:=λ_=>bc) (sp:=λw=>oZ (K w.params) T T1 T2) hn (by decide) uU #[Z,by decide,by decide] BA F (λ_ _ a ns hl hT hS=>#[a,ns,Z,hT T Z2,n1,n2,#[S0 (hT T1 Z2),S0 (hT T2 Z2),ne],hS,hl,λ_=>rfl]) λ_ _ _ _ _ z=>z
end Ev
namespace PySem.W.Fast
universe tw5370311537380568161 tw1950635102777222082 tw5276129668139695267 tw12616229578530068964 tw17785180706166657285 tw8193936604238809957 tw7795737578259265542 tw3144916466092819878 tw2473674495263810374 tw14889116574087571463 tw918438155077448042 tw4041977810610301230 tw10175050243446412718 tw11221591081435936366 tw10809357662414741295 tw4538850272138458927 tw5399869846023210991 tw11767816537034291920 tw17356403002214895634 tw8890815514663137490 tw11799616902498367762 tw8215002728887225202 tw2963377072519406739 tw10030414518744102323 tw9640583239840286131 tw6109259464275360532 tw8124967099353727029 tw10796513835874141462 tw10131682957925259927 tw4454634773880173593 tw10270213963185599226 tw10459262236107835162 tw15645337368088103291 tw6139419667363450684 tw14376482475596861469 tw9654118864952832605 tw37563803392658429 tw15621977433728496478 tw10869572916988400735 tw5462217862805816735 tw11407884110856500191 tw13016367542188390895 tw15661266971074283511 tw14809226887965005416 tw5614699740086434078 tw13899858547940399797 tw2724526438829564414 tw2208833090922207945 tw4199936700468477632 tw18120947387662580013 tw4487524053712062005 tw2302974709509755179 tw11437747399601210771 tw9575783612433894487 tw15156390280867198227 tw4640996247556661621 tw5443841004144221396 tw18134424957623152738 tw17762696581021562831 tw2980898792620037493 tw6037092770535445404 tw13173601786564697383 tw12017429031012983683 tw4815461388133391793 tw13592858239836155204 tw5403120604331371648 tw16059201408100701338 tw16084912575631392082 tw14263823565320446180 tw4630392047610193873 tw10465208551299153466 tw6263962900622143393 tw17892512194261314863 tw2424043158969814780 tw7123759236162986707 tw10465579658150825355 tw1602776286101930523 tw7011602473232721864 tw18399979151897395049 tw14846637625461032291 tw13613587950408181840 tw12647314657501823937 tw8089781120478535474 tw9021998083656544453 tw9803792550393879922 tw10355041134566489360 tw18350281134804283836 tw5044054517500793197 tw1071425584405284983 tw3916696169155322338 tw16246620548113830708 tw12604821104737800460 tw17532434585928530057 tw5019456183949505055 tw7477715885127074036 tw12871240687031857396 tw309254438333323938 tw9809794850850082932 tw2571356103713982593 tw9954916283425944253 tw3523980503693937925 tw13729729797669403211 tw2831077001837161477 tw14600268212335982866 tw7157765949142704050 tw5035370535759475441 tw11255862932175190577 tw11382420363858893662 tw5325491151538716272 tw17885259107309826611 tw18406917273571086185 tw11052203148856206207 tw11748011262894070534 tw2146723791155115997 tw8138507407479692680 tw11798499054125512708 tw4326018418844110808 tw12152378854297376890 tw7089754140453762295 tw16261442147057676139 tw6328201259713949735 tw4642386529946053020 tw15761484683341350484 tw13360666550865241298 tw14620131633163710823 tw3986152913137633442 tw9861948835326717874 tw6704573105808272878 tw1574111519322134483 tw7899377285279720835 tw15078382084904979017 tw5043828809639841130 tw2741640491260483919 tw8336672139871464237 tw12777088727487250729 tw1097869126142476142 tw15410983213714108738 tw8880054975034042543 tw15907179048275505731 tw9817801342366113417 tw4518990335031341709 tw2981822914850296858 tw4849194912035830366 tw1279732167441037212 tw6699708968927610613 tw633961769771195482 tw13495556980494605507 tw11401737288373187914 tw3753019691260514058 tw2751649099341428572 tw7109729945049172943 tw9226622235501948735 tw13093765655243652956 tw7495221124984955206 tw2406132484326643353 tw4189408360146245617 tw15207164110081683845 tw15901570404515329104 tw3051654064677211884 tw5367848856723390337 tw10304359446757663168 tw12365062936786710633 tw9132379465247990448 tw6145756857331096115 tw12453030378396721598 tw16027555545260971256 tw4672038714646801081 tw11830821947858478613 tw5491570902392092787 tw136549722785271151 tw105744373307006857 tw15354220002944237142 tw2194100944078745595 tw4195494738741978350 tw1788705667841586683 tw17298548384228463219 tw15767617123033557615 tw4446208959190196871 tw6867994211170112104 tw11424554129855247558 tw14200297559993741777 tw9807387520857317206 tw12174138940781854335 tw495872916084532925 tw12808929629773617974 tw9732614996849494877 tw10789064389931553325 tw3172355687712136928 tw3143735429725886060 tw2394498854586289169 tw2706342184360978225 tw5165514002782528248 tw4681895463473359559 tw13829748940205211543 tw10060509077263565027 tw17775291435317692837 tw13964131274184341000 tw12776640143183357770 tw10901113244670244681 tw14997308931766886382 tw15729250932469434024 tw6034485096718420240 tw3100681673669889057 tw17530837150060705832 tw3491350685944153137 tw11782578547568578766 tw10355808762183255143 tw5417126589185291761 tw17797461480891632253 tw2074697159138887139 tw13351584448869478849 tw10582724892638762907 tw10617964206099547246 tw16109838161881592844 tw9530403004745371363 tw6982379422170802908 tw4401903792725963684 tw39098538952734975 tw10215368063651282222 tw8235615768664103152 tw2428283440886616840 tw7006923107325974294 tw9624205909847134754 tw17747602144862085340 tw2392490587513597576 tw2212820530546190490 tw4486843955526042009 tw474838231430064727 tw11185137596477531170 tw3010040017282953813 tw12676431272100550632 tw293739508150554147 tw12809393749116279094 tw11053654733607914897 tw3048456025176673550 tw4034256239215390567 tw16676884077578066285 tw15007071041555648141 tw8416998385389817744 tw638621181760293018 tw1717179545164212621 tw16707011171185848234 tw8155183709686867541 tw7782090205126146220 tw823173078610214522 tw1428134363897106620 tw15309200709071435679 tw4757537555236243458 tw16324581940628227563 tw12110198601356582021 tw16897523426747653749 tw15799849966503343119 tw3831349009882414785 tw6343837916986212349 tw15644015996697640439 tw7978529529284964005 tw9390778803964369089 tw8474720804548929977 tw6471953189937488761 tw3085013725309519865 tw13983529040488914476 tw2116385167657088106 tw16890185637965890384 tw1533848163120557756 tw980713496438928602 tw13747437266645046122 tw5461970692173537251 tw3432423236460491862 tw14482845079137875683 tw3543069974288939268 tw6310930836293098866 tw15440782116482365629 tw16455047625872367147 tw12581519727900274171 tw2985262989443011441 tw6688242501026740027 tw9051645898493754846 tw10301223675784959373 tw5858065006177911915 tw13008781258371334797 tw15010087408232558361 tw18390191683789677918 tw7680526136004814676 tw10251044587183645707 tw3390526012424932216 tw14739546470504315401 tw5346310694776005536 tw3142294972831505985 tw1502611543736768269 tw16543131702195827022 tw15864179289557639380 tw7114479882161847280 tw16865378735444287283 tw13473674187016161114 tw12773647510963363289 tw3844633571280436831 tw14171248085187415883 tw7790345442183110825 tw8890473181044467191 tw2749072617477198093 tw12905680330944037461 tw1568258679368060369 tw9900369172116993507 tw12934458809269649951 tw6204136730408956526 tw17412820481562004390 tw7357588383652892603 tw11037546122039048408 tw17032420947119776317 tw12516645548200310549 tw16957328185568120562 tw15260711018436371951 tw10900163287299734616 tw5100853149954078510 tw15578570740838356824 tw14697128359914721403 tw7450394501183584072 tw10522734575945412480 tw11738470046075025709 tw6189123350514222492 tw15119956107803167033 tw5530668702470560673 tw6901835901368907833 tw11260791669992177077 tw13810213637300823010 tw17738804171147718517 tw6925263925172726183 tw5274485741490650101 tw573274718824856332 tw4915902796669691259 tw10122534240357639823 tw9986240914326709346 tw3370517089307449078 tw866599232028756804 tw2266875477846049246 tw1508946172309601641 tw6439381248990095042 tw16720479784353844810 tw1527783767735600461 tw10300250762133817560 tw6567410465401435999 tw9957175027765113051 tw17557171673428014215 tw6420663969954741414 tw15440265263321172346 tw6338702606275261706 tw11547205867377763747 tw15974521248403678537 tw7392790493245608088 tw16118092716910191076 tw15927317958562069924 tw3235081204660359258 tw4412741666014932865 tw10401579689046603183 tw198605301016568938 tw12569340024791064401 tw9311246476126905715 tw5690097545421211263 tw10982793732291363258 tw7215190239354849158 tw16455883706762063013 tw16553504543137793437 tw2439092383071535274 tw4423478002994748242 tw9164604645807532446 tw13951074108111406722 tw12604616717467627699 tw13249834039730727090 tw8228074238407486477 tw8123752301861591913 tw422611342661128818 tw2836963858265123064 tw2741924551114655834 tw11289196260546347292 tw2968704047692967714 tw8965085995407653227 tw10711336684185324384 tw10470203547757257737 tw15342698374065321045 tw12623205384783609207 tw1472963929422021016 tw2492326819768640425 tw4302313484479805256 tw8198782833365792287 tw18012070615416646891 tw9241340351294893668 tw6712525545703618502 tw15666794699868973800 tw11872257349849492866 tw16526665449176981800 tw15550051622093753664 tw1002226782675585551 tw910169421282988246 tw12096383534083483599 tw12618760195015866577 tw17783278028844367939 tw8092110426864002746 tw10768941697883530243 tw12815942783563021845 tw10617702074389959413 tw385313455910106798 tw11434035278153494487 tw13558794198581997188
end PySem.W.Fast
open PySem PySem.W PyProof.Rows
set_option maxRecDepth 100000 in
local macro_rules|`(%[|$k:num])=>let i:=Lean.mkIdent;if k.getNat==1 then`(Ev.GT $(i `KX) $(i `G) ?_ ?_ ?_ ?_)else`(Ev.FL ?_ ?_ ?_ ?_ ?_)
theorem PySem.Challenge.cw_evenpieces_k48_what_runs_refuse_holds : PySem.Challenge.rw_evenpieces_k48_what_runs_refuse.Holds := by
 w_on;o_law;k_head;(case hw=>w_witness2)
 k_fill
 apply Ev.walk (l:=PySem.Challenge.rw_evenpieces_k48_what_runs_refuse) rfl rfl (by rfl) (by decide) (by decide) (by decide) ?F
 case F=>
  intro w mg fa h KX G hmg;refine' Ev.all_mk KX G hmg %[|1] %[|1] %[|1] %[|1] %[|1] %[|1] %[|1] %[|1] %[|1] %[|1] %[|1] %[|1] %[|1] %[|1] %[|1] %[|1] %[|1] %[|1] %[|1] %[|1] %[|1] %[|1] %[|1] %[|1] %[|1] %[|1] %[|1] %[|1] %[|1] %[|1] %[|1] %[|1] %[|1] %[|1] %[|1] %[|1] %[|1] %[|1] %[|1] %[|1] %[|1] %[|1] %[|1] %[|1] %[|1] %[|1] %[|1] %[|1] %[|1] %[|1] %[|1] %[|2] %[|2] %[|2] %[|2] %[|2] %[|2] %[|2] %[|2] %[|2] %[|2] %[|2] %[|2] %[|2] %[|2] %[|2] %[|2] %[|2] ?_ ?_ ?_ ?ch ?_ ?_ ?_ ?_ ?h1 ?aW ?aG ?aS ?eE ?eR ?xR ?eS ?xS ?eT ?xT ?eU ?xU ?ra ?rn ?_ ?_ ?_ ?_ ?_ ?h2 ?_ ?_ ?_ ?_ ?_ ?_ ?_ ?_ ?_ ?_ ?_ ?_ ?_ ?_ ?_ ?_ ?_ ?_ ?_ ?_ ?_ ?_ ?_ ?_ ?_ ?_ ?_ ?_ ?_ ?_ ?_ ?_ ?_ ?_ ?_ ?_ ?_ ?_ ?_ ?_ ?_ ?_ ?_ ?_ ?_ ?_ ?_ ?_ ?_ ?_ ?_ ?_ ?_ ?_ (Ev.rules_at ?rm ?rs ?rl ?re ?_ ?_ ?_ ?_ ?_ ?_ ?_ ?_ ?_ ?_ ?_ ?_ ?_ ?_ ?_ ?_ ?_)
  (case aW=>k_is);(case aG=>k_is);(case aS=>k_is);(case eE=>k_is);(case eR=>k_is);(case eS=>k_is);(case eT=>k_is);(case eU=>k_is)
  any_goals k_is
  (case ch=>kernel_rfl);(case h1=>kernel_rfl);(case xR=>k_exc);(case xS=>k_exc);(case xT=>k_exc);(case xU=>k_exc);(case ra=>kernel_rfl);(case rn=>decide);(case h2=>kernel_rfl)
  case' rm=>refine' PySem.W.mg_of KX G ?rmn
  (first|(case rmn=>k_is)|(case rm=>k_is))
  (try (case rl=>k_is))
  (case rs=>rfl)
  (case re=>rfl)
  any_goals k_is

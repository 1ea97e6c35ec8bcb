import PyProof.Rows.All
import Wide.All
import OpenK.AllK
import Wide.FinOn
import Lean
import PyProof.EqAt
import PyProof.EqKinds
import PyProof.TupleCall
import PyProof.TupleOfSeq
import PyProof.NeKinds
import KE.KLam
import KE.KSortTup
import PySem.Challenge.RW_evenpieces_k67_fewest_moves
set_option maxHeartbeats 0
set_option Elab.async false
set_option linter.all false
noncomputable section
local macro_rules|`(def $x:declId $s:optDeclSig $v:declVal)=>`(noncomputable def $x:declId $s:optDeclSig $v:declVal)
local macro_rules|`(abbrev $x:declId $s:optDeclSig $v:declVal)=>`(noncomputable abbrev $x:declId $s:optDeclSig $v:declVal)
local macro_rules|`(universe $x*)=>return Lean.mkNullNode (←x.mapM λa=>do return(←`(theorem $a:ident:True:=⟨⟩)).raw)
abbrev Xa:=List (PySem.Str × Int)
abbrev Xb:=List (PySem.Str × PySem.Str)
set_option compiler.extract_closed false
set_option maxRecDepth 100000
theorem af:type_of% @PySem.wpAny_bind:=@PySem.wpAny_bind
theorem aU:type_of% @PySem.Heap.get?_push_of_some:=@PySem.Heap.get?_push_of_some
abbrev Aa:=PySem.Value
abbrev Ab:=PySem.Shared
theorem aE:type_of% @PySem.wpAny_pure:=@PySem.wpAny_pure
theorem cK:type_of% @PySem.Heap.get?_push_size:=@PySem.Heap.get?_push_size
theorem bw:type_of% @PySem.Paired.length:=@PySem.Paired.length
theorem bz:type_of% @PySem.Heap.lt_size:=@PySem.Heap.lt_size
theorem cY:type_of% @Option.some.inj:=@Option.some.inj
abbrev Ad:=PySem.Program
theorem dc:type_of% @decide_eq_true:=@decide_eq_true
theorem d8:type_of% @PySem.PassesOwn.never:=@PySem.PassesOwn.never
theorem aB:type_of% @if_neg:=@if_neg
abbrev Ae:=PySem.FuncData
theorem cJ:type_of% @PySem.sizeLine_eq:=@PySem.sizeLine_eq
theorem eG:type_of% @decide_eq_false:=@decide_eq_false
theorem aI:type_of% @if_pos:=@if_pos
abbrev Af:=PySem.World
abbrev Ag:=PySem.Around
theorem gJ:type_of% @PySem.boot_len:=@PySem.boot_len
theorem bJ:type_of% @Ne.symm:=@Ne.symm
theorem jm:type_of% @PySem.W.mg_none_of:=@PySem.W.mg_none_of
theorem o9:type_of% @PySem.F.plainAttrs_list:=@PySem.F.plainAttrs_list
theorem fH:type_of% @PySem.wpAny_field:=@PySem.wpAny_field
theorem uR:type_of% @PySem.wpAny_callSpecial?_slot:=@PySem.wpAny_callSpecial?_slot
theorem o8:type_of% @PySem.wpAny_loadPart':=@PySem.wpAny_loadPart'
theorem pV:type_of% @PySem.mem_of_lookup:=@PySem.mem_of_lookup
theorem i7:type_of% @PySem.wpAny_holding:=@PySem.wpAny_holding
theorem d7:type_of% @congrArg:=@congrArg
theorem uL:type_of% @PySem.Heap.get?_update_other:=@PySem.Heap.get?_update_other
theorem wG:type_of% @PySem.F.type_list_append:=@PySem.F.type_list_append
theorem wF:type_of% @PySem.F.slot_list_append:=@PySem.F.slot_list_append
theorem pS:type_of% @PySem.wpAny_setField_rec:=@PySem.wpAny_setField_rec
theorem hZ:type_of% @Sum.inr.inj:=@Sum.inr.inj
theorem pR:type_of% @PySem.wpAny_newObj_type:=@PySem.wpAny_newObj_type
theorem mh:type_of% @PySem.wpAny_seqItems:=@PySem.wpAny_seqItems
theorem md:type_of% @PySem.Heap.size_push:=@PySem.Heap.size_push
theorem tF:type_of% @of_decide_eq_true:=@of_decide_eq_true
theorem BR:type_of% @PyProof.Rows.callWith_type1:=@PyProof.Rows.callWith_type1
theorem s_:type_of% @PySem.wpAny_call_entry:=@PySem.wpAny_call_entry
theorem uJ:type_of% @PySem.wpAny_truthy_bool:=@PySem.wpAny_truthy_bool
theorem tj:type_of% @PySem.W.kia_one:=@PySem.W.kia_one
theorem Z0{p:Prop}[Decidable p](h:decide p=true:=by decide +kernel):p:=of_decide_eq_true h
theorem Z1{p:Prop}(h:p:=by omega):p:=h
theorem Z2{p:Prop}(h:p:=by simp):p:=h
local macro_rules|`(tactic|let $x:ident:=$e)=>`(tactic|have $x:ident:=$e)
local macro_rules|`($a\$b)=>`($a=some $b)
local macro_rules|`(⇑$h)=>`(by simpa using $h)
local macro_rules|`(tactic|exists $e)=>let i:=Lean.mkIdent;`(tactic|refine $e λ$(i `aK) $(i `A) $(i `outer) $(i `s) $(i `H) $(i `vs) $(i `Q) $(i `E) $(i `hr) $(i `h)=>?_)
local macro_rules|`(section v)=>let i:=Lean.mkIdent;return Lean.mkNullNode #[←`(section),←`(variable{$(i `P):ident:$(i `Ad)}{$(i `w):ident:$(i `Af)}{$(i `K):ident:$(i `aj)}{$(i `mg):ident:$(i `Str)->$(i `Option) $(i `Aa)}{$(i `base):ident:$(i `Heap)})]
local macro_rules|`(tactic|apply $e)=>`(tactic|refine $e)
local macro_rules|`(#[$x,$xs,*])=>`(⟨$x,$xs,*⟩)
local macro_rules|`(tactic|let $p:term:=$e)=>let g:=λ(x:Lean.Syntax)=>(if x.isIdent then`(rcasesPat|$(⟨x⟩):ident) else if x.isOfKind ``Lean.Parser.Term.hole then`(rcasesPat|_) else pure ⟨x⟩:Lean.MacroM (Lean.TSyntax `rcasesPat));p.raw.rewriteBottomUpM (λn=>if n.isOfKind `«term#[_,]» then n[1].getSepArgs.mapM (λx=>g x>>=λy=>`(Lean.Parser.Tactic.rcasesPatLo|$y:rcasesPat))>>=λs=>`(rcasesPat|⟨$s,*⟩)>>=λt=>pure t.raw else pure n)>>=λq=>`(tactic|obtain $(⟨q⟩):rcasesPat:=$e)
theorem Z{α:Sort _}{a:α}:a=a:=rfl
abbrev aj:=PySem.W.Frag
theorem aq:type_of% @List.length_map:=@List.length_map
theorem aQ:type_of% @List.getElem?_eq_getElem:=@List.getElem?_eq_getElem
theorem bY:type_of% @List.getElem?_eq_some_iff:=@List.getElem?_eq_some_iff
theorem cX:type_of% @List.mem_of_getElem?:=@List.mem_of_getElem?
theorem cm:type_of% @List.size_toArray:=@List.size_toArray
theorem bh:type_of% @Nat.le_refl:=@Nat.le_refl
theorem dk:type_of% @List.getElem?_map:=@List.getElem?_map
theorem bC:type_of% @List.mem_map:=@List.mem_map
theorem bV:type_of% @List.mem_cons:=@List.mem_cons
theorem dG:type_of% @List.length_take:=@List.length_take
theorem d_:type_of% @List.length_append:=@List.length_append
theorem fP:type_of% @List.mem_cons_of_mem:=@List.mem_cons_of_mem
theorem eV:type_of% @List.mem_singleton:=@List.mem_singleton
theorem cj:type_of% @List.map_map:=@List.map_map
theorem eN:type_of% @List.take_length:=@List.take_length
theorem d9:type_of% @List.mem_append:=@List.mem_append
theorem gd:type_of% @List.mem_cons_self:=@List.mem_cons_self
theorem eU:type_of% @List.map_append:=@List.map_append
theorem fX:type_of% @List.not_mem_nil:=@List.not_mem_nil
theorem gK:type_of% @Bool.false_ne_true:=@Bool.false_ne_true
theorem hJ:type_of% @List.getElem_of_mem:=@List.getElem_of_mem
theorem dS:type_of% @Nat.ne_of_lt:=@Nat.ne_of_lt
theorem eI:type_of% @List.map_cons:=@List.map_cons
theorem jZ:type_of% @List.length_singleton:=@List.length_singleton
theorem ju:type_of% @Nat.lt_of_lt_of_le:=@Nat.lt_of_lt_of_le
theorem mC:type_of% @List.mem_append_right:=@List.mem_append_right
theorem tY:type_of% @List.nodup_iff_pairwise_ne:=@List.nodup_iff_pairwise_ne
theorem jt:type_of% @List.length_cons:=@List.length_cons
theorem tX:type_of% @Int.eq_ofNat_of_zero_le:=@Int.eq_ofNat_of_zero_le
theorem js:type_of% @List.nodup_cons:=@List.nodup_cons
theorem tW:type_of% @List.take_of_length_le:=@List.take_of_length_le
theorem kK:type_of% @List.getElem_mem:=@List.getElem_mem
theorem jY:type_of% @List.mem_filter:=@List.mem_filter
theorem gR:type_of% @Nat.zero_le:=@Nat.zero_le
theorem iD:type_of% @Int.le_of_lt:=@Int.le_of_lt
theorem iK:type_of% @Nat.le_trans:=@Nat.le_trans
theorem pZ:type_of% @Bool.false_eq_true:=@Bool.false_eq_true
theorem tU:type_of% @Array.length_toList:=@Array.length_toList
theorem yx:type_of% @List.getElem?_append_left:=@List.getElem?_append_left
theorem jb:type_of% @Nat.ne_of_gt:=@Nat.ne_of_gt
theorem pY:type_of% @List.take_add_one:=@List.take_add_one
theorem Bg:type_of% @List.getElem?_append_right:=@List.getElem?_append_right
theorem uY:type_of% @List.map_congr_left:=@List.map_congr_left
theorem pX:type_of% @List.lookup_cons:=@List.lookup_cons
theorem tT:type_of% @Nat.le_add_right:=@Nat.le_add_right
theorem uX:type_of% @List.pairwise_map:=@List.pairwise_map
theorem Be:type_of% @List.length_filter_le:=@List.length_filter_le
theorem yu:type_of% @List.mem_filterMap:=@List.mem_filterMap
theorem B4:type_of% @Option.map_eq_some_iff:=@Option.map_eq_some_iff
theorem yA:type_of% @Int.toNat_natCast:=@Int.toNat_natCast
theorem tZ:type_of% @Nat.lt_irrefl:=@Nat.lt_irrefl
theorem u5:type_of% @List.forIn_nil:=@List.forIn_nil
theorem u4:type_of% @List.take_succ:=@List.take_succ
theorem B5:type_of% @List.length_replicate:=@List.length_replicate
theorem wZ:type_of% @List.forIn_cons:=@List.forIn_cons
theorem yz:type_of% @List.length_drop:=@List.length_drop
theorem yy:type_of% @List.find?_cons:=@List.find?_cons
abbrev ag:=List PySem.Value
abbrev bo:=PySem.Str->PySem.Str
abbrev au:=List PySem.Addr
abbrev ae:=List PySem.Str
namespace L2
open PySem PySem.Spec PyProof.Rows
abbrev Key:=Sum Int Str
def wJ:Key->Aa->Bool
 |.inl k,v=>Value.isInt k v
 |.inr x,v=>Value.isStrOf x v
def Lv(w:Af):Key->Int
 |.inl k=>hashInt k
 |.inr x=>hashStr w x
theorem p0:∀{k:Key} {v:Aa},wJ k v=true->(∃i t,k=Sum.inl i/\v=Value.int i t)∨(∃x t,k=Sum.inr x/\v=Value.str x t)
 |.inl i,v,h=>by
  let#[t,e]:=Value.isInt_shape (k:=i) (v:=v) h;exact .inl #[i,t,Z,e]
 |.inr x,v,h=>by
  let#[t,e]:=Value.isStrOf_shape (x:=x) (v:=v) h;exact .inr #[x,t,Z,e]
theorem gq_(i:Int)(t:Tok):wJ (.inl i) (.int i t)=true:=by simp[wJ,Value.isInt]
theorem gI_(x:Str)(t:Tok):wJ (.inr x) (.str x t)=true:=by simp[wJ,Value.isStrOf]
theorem YN(a b:Int):decide ((Sum.inl a:Key)=Sum.inl b)=(a == b):=by
 by_cases e:a=b
 ·subst e;simp
 have h:¬(Sum.inl a:Key)=Sum.inl b:=λq=>e (Sum.inl.inj q);rw[eG h];exact (beq_eq_false_iff_ne.mpr e).symm
theorem YR(a b:Str):decide ((Sum.inr a:Key)=Sum.inr b)=decide (a=b):=by
 by_cases e:a=b
 ·subst e;simp
 have h:¬(Sum.inr a:Key)=Sum.inr b:=λq=>e (hZ q);rw[eG h,eG e]
theorem Zr(a:Int)(b:Str):decide ((Sum.inl a:Key)=Sum.inr b)=false:=eG (λq=>nomatch q)
theorem Zt(a:Str)(b:Int):decide ((Sum.inr a:Key)=Sum.inl b)=false:=eG (λq=>nomatch q)
def fj(prog:Ad)(w:Af):PySem.KeyKind prog w Key where
 is:=wJ
 hash:=Lv w
 inj:=λv a b ha hb=>by
  rcases p0 ha with⟨i,t,rfl,rfl⟩|⟨x,t,rfl,rfl⟩
  ·rcases p0 hb with⟨j,u,rfl,e⟩|⟨y,u,rfl,e⟩
   ·injection e with e1 _;rw[e1]
   exact nomatch e
  rcases p0 hb with⟨j,u,rfl,e⟩|⟨y,u,rfl,e⟩
  ·exact nomatch e
  injection e with e1 _;rw[e1]
 byValue:=λk v h=>by
  rcases p0 h with⟨i,t,rfl,rfl⟩|⟨x,t,rfl,rfl⟩<;>rfl
 pyHash:=λhv h=>by
  rcases p0 hv with⟨i,t,rfl,rfl⟩|⟨x,t,rfl,rfl⟩
  ·exact wpAny_pyHash_int h
  exact wpAny_pyHash_str h
 eqBool:=λhu hv h=>by
  rcases p0 hu with⟨i,t,rfl,rfl⟩|⟨x,t,rfl,rfl⟩
  ·rcases p0 hv with⟨j,u,rfl,rfl⟩|⟨y,u,rfl,rfl⟩
   ·rw[YN] at h;exact wpAny_eqBool_int h
   rw[Zr] at h;exact SeqAt.EqAt.int_str i t y u _ _ _ _ h
  rcases p0 hv with⟨j,u,rfl,rfl⟩|⟨y,u,rfl,rfl⟩
  ·rw[Zt] at h;exact SeqAt.EqAt.str_int x t j u _ _ _ _ h
  rw[YR] at h;exact wpAny_eqBool_str h
 «strs»:=λk x t v h=>by
  rcases p0 h with⟨i,u,rfl,e⟩|⟨y,u,rfl,e⟩
  ·exact nomatch e
  injection e with e1 _
  subst e1;cases v<;>rfl
theorem ee_(prog:Ad)(w:Af)(i:Int)(t:Tok):(fj prog w).is (.inl i) (.int i t)=true:=gq_ i t
theorem e9_(prog:Ad)(w:Af)(x:Str)(t:Tok):(fj prog w).is (.inr x) (.str x t)=true:=gI_ x t
end L2
abbrev av:=List L2.Key
namespace L2
open PySem PySem.Spec PyProof.Rows
inductive V where
 |non|bl (b:Bool)|int (i:Int)|str (x:Str)|byt (b:Array UInt8)|flt (b:UInt64)|ref (a:Addr)|ty (n:String)
 deriving DecidableEq
def RelV:V->Aa->Prop
 |.non,u=>u=Value.none
 |.bl b,u=>u=Value.bool b
 |.int i,u=>∃t,u=Value.int i t
 |.str x,u=>∃t,u=Value.str x t
 |.byt b,u=>∃t,u=Value.bytes b t
 |.flt b,u=>∃t,u=Value.float b t
 |.ref a,u=>u=Value.ref a
 |.ty n,u=>u=Value.type n
abbrev Vals:List V->ag->Prop:=Paired RelV
theorem Vals.length{xs:List V}{us:ag}(r:Vals xs us):xs.length=us.length:=bw r
theorem Vals.get:∀{xs:List V} {us:ag} {i:Nat} {x:V},Vals xs us->xs[i]? = some x->∃u,us[i]? = some u/\RelV x u
 |_,_,_,_,.nil,e=>by simp at e
 |_,_,0,_,.cons r _,e=>by simp at e;subst e;exact#[_,Z,r]
 |_,_,i+1,x,.cons _ t,e=>by
  let#[u,h1,h2]:=Vals.get (i:=i) (x:=x) t ⇑e;exact#[u,by simpa using h1,h2]
theorem Vals.set{x:V}{u:Aa}(r:RelV x u):∀{xs:List V} {us:ag} (i:Nat),Vals xs us->Vals (xs.set i x) (us.set i u)
 |_,_,_,.nil=>.nil
 |_,_,0,.cons _ t=>.cons r t
 |_,_,i+1,.cons q t=>.cons q (Vals.set r i t)
theorem Vals.append:∀{xs ys:List V} {us ws:ag},Vals xs us->Vals ys ws->Vals (xs++ys) (us++ws)
 |_,_,_,_,.nil,s=>s
 |_,_,_,_,.cons r t,s=>.cons r (Vals.append t s)
theorem Vals.take:∀{xs:List V} {us:ag} (n:Nat),Vals xs us->Vals (xs.take n) (us.take n)
 |_,_,0,_=>.nil
 |_,_,_+1,.nil=>.nil
 |_,_,n+1,.cons r t=>.cons r (Vals.take n t)
theorem Vals.drop:∀{xs:List V} {us:ag} (n:Nat),Vals xs us->Vals (xs.drop n) (us.drop n)
 |_,_,0,r=>r
 |_,_,_+1,.nil=>.nil
 |_,_,n+1,.cons _ t=>Vals.drop n t
def eR:Option V->Option Aa->Prop
 |some v,some u=>RelV v u
 |none,none=>True
 |_,_=>False
def KV{κ:Type}:List (κ × V)->List (κ × Aa)->Prop:=Paired λ(p:κ × V) (q:κ × Aa)=>p.1=q.1/\RelV p.2 q.2
def kV:Key->V
 |.inl i=>.int i
 |.inr x=>.str x
inductive HO where
  |lst (xs:List V)
  |tup (xs:List V)
  |dK (kvs:List (Key × V))|dT (kvs:List (av × V))
  |set (S:Int->Bool) (n:Nat)
  |ins (C dx:Addr) (fs:List (Str × V))
  |own (x:Addr)
  |xd (fs:List (Str × V))
  |met (f x:Addr)
  |rng (lo hi:Int)
  |frz (o:Obj) (u:HO)
  |tbl (ps:Array Aa)
  |ext (φ:Heap->Prop)
abbrev Hp:=Addr->Option HO
def upd(H:Hp)(a:Addr)(o:HO):Hp:=λb=>if b=a then some o else H b
theorem ay{H:Hp}{a:Addr}{o:HO}:upd H a o a\o:=by unfold upd;rw[aI Z]
theorem ax{H:Hp}{a b:Addr}{o:HO}(h:b≠a):upd H a o b=H b:=by unfold upd;rw[aB h]
theorem Y7{H:Hp}{a:Addr}{o u:HO}:upd (upd H a o) a u=upd H a u:=by
 funext b;unfold upd;split<;>rfl
theorem bK{H:Hp}{a b:Addr}{o u:HO}(h:H a\o)(h':H b\u)(d:o≠u):a≠b:=by
 intro e;subst e;rw[h] at h';exact d (cY h')
theorem bu{H:Hp}{a b:Addr}{o:HO}(h:H a\o)(h':H b=none):a≠b:=by
 intro e;subst e;rw[h] at h';cases h'
section
variable(P:Ad)(w:Af)
def fw(H:Hp)(h:Heap)(a:Addr):HO->Prop
 |.lst xs=>xs.length<=sizeLine/\∃(its:ag) (n:Nat),Vals xs its/\h.get? a=some { cls:=.type "list",data:=.seq its.toArray n }
 |.tup xs=>xs.length<=sizeLine/\∃its:ag,Vals xs its/\IsTup h a its.toArray/\∃o,h.get? a\o/\o.dict=none
 |.dK kvs=>kvs.length<=sizeLine/\(a == sysModules)=false/\∃vs,KV kvs vs/\h.DictOf (fj P w) a vs
 |.dT kvs=>kvs.length<=sizeLine/\(a == sysModules)=false/\∃xs:List (av × Addr × Aa),
   Paired (λ(p:av × V) (q:av × Addr × Aa)=>p.1=q.1/\H q.2.1\.tup (p.1.map kV)/\RelV p.2 q.2.2) kvs xs /\
   ∃o es ep,h.get? a\o/\o.ExactDict/\o.data=.dict es ep/\es.toList=xs.map (entryOfKey (tupleKind (fj P w)))/\(xs.map (·.1)).Nodup
 |.set S n=>h.SetOf (intKind P w) a S n
 |.ins C dx fs=>H dx\.own a/\fs.length<=1000/\dx≠a/\h.get? a\PySem.W.instObj C dx /\
   ∃mA,h.Ns1 dx mA/\(∀f,eR (fs.lookup f) (mA f))/\PySem.Within mA (fs.map (·.1))
 |.own _=>∃o,h.get? a\o
 |.xd fs=>∃mA,h.Ns1 a mA/\∀f,eR (fs.lookup f) (mA f)
 |.rng lo hi=>∃t u v,h.get? a=some { cls:=.type "range",data:=.fields (List.toArray [.int lo t,.int hi u,.int 1 v]) }
 |.frz o u=>h.get? a\o/\fw H h a u
 |.tbl ps=>h.get? a=some { cls:=.none,data:=.fields ps }
 |.met f x=>h.get? a\PySem.W.methodObj (.ref f) (.ref x)
 |.ext φ=>φ h/\(∃o,h.get? a\o)/\∀h1 h2:Heap,φ h1->(∀o,h1.get? a\o->h2.get? a\o)->φ h2
def fR(H:Hp)(h:Heap):Prop:=∀a o,H a\o->fw P w H h a o
end
section
variable{P:Ad}{w:Af}{H H':Hp}{h h':Heap}{a:Addr}{o:HO}
theorem fw.lt(x:fw P w H h a o):a<h.objs.size:=by
 cases o with
 |lst xs=>let#[_,_,_,_,e]:=x;exact bz e
 |tup xs=>let#[_,_,_,p,_]:=x;exact p.lt
 |dK kvs=>let#[_,_,_,_,o,_,_,e,_]:=x;exact bz e
 |dT kvs=>let#[_,_,_,_,o,_,_,e,_]:=x;exact bz e
 |set S n=>let#[o,_,_,_,e,_]:=x;exact bz e
 |ins C dx fs=>let#[_,_,_,e,_]:=x;exact bz e
 |own y=>let#[_,e]:=x;exact bz e
 |xd fs=>let#[_,#[_,_,_,e,_],_]:=x;exact bz e
 |rng lo hi=>let#[_,_,_,e]:=x;exact bz e
 |frz ob u=>let#[e,_]:=x;exact bz e
 |tbl ps=>exact bz (show h.get? a\_ from x)
 |met f y=>exact bz (show h.get? a\_ from x)
 |ext φ=>let#[_,#[_,e],_]:=x;exact bz e
theorem Paired.aV{α β:Type}{F G:α->β->Prop}:∀{DB:List α} {Dz:List β},Paired F DB Dz->(∀a b,F a b->G a b)->Paired G DB Dz
 |_,_,.nil,_=>.nil
 |_,_,.cons r t,f=>.cons (f _ _ r) (Paired.aV t f)
theorem fw.er(x:fw P w H h a o)(k:∀b u,(b=a∨H b\.own a)->h.get? b\u->h'.get? b\u)
  (ho:∀b,H b\.own a->H' b\.own a) (ht:∀b xs,H b\.tup xs->H' b\.tup xs):fw P w H' h' a o:=by
 induction o with
 |lst xs=>let#[z,its,n,r,e]:=x;exact#[z,its,n,r,k _ _ (.inl Z) e]
 |tup xs=>let#[z,its,r,#[ob,e,c],o2,e2,c2]:=x;exact#[z,its,r,#[ob,k _ _ (.inl Z) e,c],o2,k _ _ (.inl Z) e2,c2]
 |dK kvs=>let#[z,y,vs,r,ob,es,ep,e,c]:=x;exact#[z,y,vs,r,ob,es,ep,k _ _ (.inl Z) e,c]
 |dT kvs=>
  let#[z,y,xs,r,ob,es,ep,e,c]:=x;exact#[z,y,xs,Paired.aV r λp q z=>#[z.1,ht _ _ z.2.1,z.2.2],ob,es,ep,k _ _ (.inl Z) e,c]
 |set S n=>let#[ob,es,ep,t,e,c]:=x;exact#[ob,es,ep,t,k _ _ (.inl Z) e,c]
 |ins C dx fs=>
  let#[d,z,ne,e,mA,#[od,es,ep,e2,c],r]:=x;exact#[ho _ d,z,ne,k _ _ (.inl Z) e,mA,#[od,es,ep,k _ _ (.inr d) e2,c],r]
 |own y=>let#[ob,e]:=x;exact#[ob,k _ _ (.inl Z) e]
 |xd fs=>let#[mA,#[od,es,ep,e,c],r]:=x;exact#[mA,#[od,es,ep,k _ _ (.inl Z) e,c],r]
 |rng lo hi=>let#[t,u,v,e]:=x;exact#[t,u,v,k _ _ (.inl Z) e]
 |frz ob u ih=>let#[e,q]:=x;exact#[k _ _ (.inl Z) e,ih q]
 |tbl ps=>
  have e:h.get? a=some { cls:=.none,data:=.fields ps }:=x;show h'.get? a=some { cls:=.none,data:=.fields ps };exact k a _ (.inl Z) e
 |met f y=>
  have e:h.get? a\PySem.W.methodObj (.ref f) (.ref y):=x;show h'.get? a\PySem.W.methodObj (.ref f) (.ref y);exact k a _ (.inl Z) e
 |ext φ=>let#[p,#[o,e],st]:=x;exact#[st _ _ p λo q=>k _ _ (.inl Z) q,#[o,k _ _ (.inl Z) e],st]
theorem fR.lt(x:fR P w H h)(e:H a\o):a<h.objs.size:=(x a o e).lt
theorem fR.fresh(x:fR P w H h)(e:h.objs.size<=a):H a=none:=by
 cases q:H a with
 |none=>rfl
 |some u=>exact absurd (ju (x.lt q) e) (tZ _)
theorem fR.kept(x:fR P w H h)(k:∀b u,h.get? b\u->h'.get? b\u):fR P w H h':=λa o e=>
 (x a o e).er (λb u _ q=>k b u q) (λ_ q=>q) λ_ _ q=>q
theorem fR.laid(x:fR P w H h)(k:∀b u,h.get? b\u->h'.get? b\u)(hp:h.objs.size<=a)(new:fw P w (upd H a o) h' a o):fR P w (upd H a o) h':=λb u e=>by
 let hn:=x.fresh hp;by_cases hb:b=a
 ·subst hb;rw[ay] at e;cases e;exact new
 rw[ax hb] at e;exact (x b u e).er (λc v _ q=>k c v q) (λc q=>by rw[ax (bu q hn)];exact q) λc xs q=>by rw[ax (bu q hn)];exact q
end
def Rd(H:Hp)(a:Addr)(u:HO):Prop:=H a=some u∨∃o,H a\.frz o u
theorem Rd.of{H:Hp}{a:Addr}{u:HO}(h:H a\u):Rd H a u:=.inl h
theorem Rd.ok{P:Ad}{w:Af}{H:Hp}{h:Heap}{a:Addr}{u:HO}(r:Rd H a u)(x:fR P w H h):fw P w H h a u:=by
 rcases r with r|⟨o,r⟩
 ·exact x a u r
 let#[_,q]:=x a _ r;exact q
def F3:Option HO->Prop
 |some (.lst _)=>True
 |some (.dK _)=>True
 |some (.dT _)=>True
 |some (.set _ _)=>True
 |some (.ins _ _ _)=>True
 |some (.ext _)=>True
 |_=>False
section
variable{P:Ad}{w:Af}{H:Hp}{h h':Heap}{x e:Addr}{o':HO}
theorem fR.write(ok:fR P w H h)(mu:F3 (H x))(he:e=x∨H e\.own x)(k:∀b u,b≠e->h.get? b\u->h'.get? b\u)(BB:∃u,h'.get? e\u)
  (new:fw P w (upd H x o') h' x o'):fR P w (upd H x o') h':=λb u q=>by
 have Dg:∀c y,H c\.own y->c≠x:=λc y r z=>by subst z;rw[r] at mu;exact mu
 have KY:∀c xs,H c\.tup xs->c≠x:=λc xs r z=>by subst z;rw[r] at mu;exact mu
 by_cases hb:b=x
 ·subst hb;rw[ay] at q;cases q;exact new
 rw[ax hb] at q;by_cases Ao:b=e
 ·have q':H b\.own x:=by
   rcases he with z|z
   ·exact absurd (Ao.trans z) hb
   rw[Ao];exact z
  rw[q] at q';cases q';let#[v,hv]:=BB;exact#[v,by rw[Ao];exact hv]
 apply (ok b u q).er (λc v hc r=>k c v ?_ r) (λc r=>by rw[ax (Dg c b r)];exact r) λc xs r=>by rw[ax (KY c xs r)];exact r
 rcases hc with rfl|hc
 ·exact Ao
 rintro rfl;rcases he with z|z
 ·exact Dg c b hc z
 rw[hc] at z;cases z;exact hb Z
end
structure Un (fs ex:au) (H H':Hp) (h h':Heap):Prop where
 keep:∀b o,h.get? b\o->H b=none->b∉fs->b∉ex->h'.get? b\o
 slot:∀b o,h.get? b\o->H b=none->b∈fs->b∉ex->∃sl,h'.get? b=some { o with slots:=sl }
 free:∀b o,h.get? b\o->H b=none->b∉ex->H' b=none
 there:∀b o,h.get? b\o->b∉ex->∃o',h'.get? b\o'
 gS:∀b xs,H b\.tup xs->H' b\.tup xs
 g8:∀b o u,H b\.frz o u->H' b\.frz o u
 ig:∀b ps,H b\.tbl ps->∃more,H' b\.tbl (ps++more)
section
variable{fs fs' ex ex':au}{H H1 H2:Hp}{h h1 h2 h':Heap}{a x e:Addr}{o:HO}
theorem Un.any(u:Un fs ex H H1 h h1){b:Addr}{ob:Obj}(q:h.get? b\ob)(n:H b=none)(hx:b∉ex):∃sl,h1.get? b=some { ob with slots:=sl }:=by
 by_cases hb:b∈fs
 ·exact u.slot b ob q n hb hx
 exact#[ob.slots,u.keep b ob q n hb hx]
theorem Un.kept(k:∀b u,h.get? b\u->h'.get? b\u):Un fs ex H H h h':=
 #[λb ob q _ _ _=>k b ob q,λb ob q _ _ _=>#[ob.slots,k b ob q],λ_ _ _ n _=>n,λb ob q _=>#[ob,k b ob q],λ_ _ q=>q,λ_ _ _ q=>q,λ_ ps q=>#[#[],by rw[q];simp]]
theorem Un.refl:Un fs ex H H h h:=Un.kept λ_ _ q=>q
theorem Un.laid(k:∀b u,h.get? b\u->h'.get? b\u)(hp:h.objs.size<=a)(hn:H a=none):Un fs ex H (upd H a o) h h' where
 keep:=λb u q _ _ _=>k b u q
 slot:=λb u q _ _ _=>#[u.slots,k b u q]
 free:=λb u q n _=>by rw[ax (dS (ju (bz q) hp))];exact n
 there:=λb u q _=>#[u,k b u q]
 gS:=λb xs q=>by rw[ax (bu q hn)];exact q
 g8:=λb u xs q=>by rw[ax (bu q hn)];exact q
 ig:=λb ps q=>#[#[],by rw[ax (bu q hn),q];simp]
theorem Un.write(mu:F3 (H x))(he:e=x∨H e\.own x)(k:∀b u,b≠e->h.get? b\u->h'.get? b\u)(BB:∃u,h'.get? e\u):Un fs ex H (upd H x o) h h':=by
 have hx:∀b,H b=none->b≠x:=λb n z=>by subst z;rw[n] at mu;exact mu
 have hb:∀b,H b=none->b≠e:=λb n z=>by
  subst z;rcases he with r|r
  ·exact hx b n r
  rw[n] at r;cases r
 have hm:∀b u,H b\u->¬F3 (some u)->b≠x:=λb u q nm z=>by subst z;rw[q] at mu;exact nm mu
 apply#[λb u q n _ _=>k b u (hb b n) q,λb u q n _ _=>#[u.slots,k b u (hb b n) q],λb u q n _=>by rw[ax (hx b n)];exact n,λb u q _=>?_,
  λb xs q=>by rw[ax (hm b _ q λz=>z)];exact q,λb u xs q=>by rw[ax (hm b _ q λz=>z)];exact q,λb ps q=>#[#[],by rw[ax (hm b _ q λz=>z),q];simp]]
 by_cases Ao:b=e
 ·subst Ao;exact BB
 exact#[u,k b u Ao q]
end
def Ge(h:Heap)(H:Hp):au:=(List.range h.objs.size).filter λa=>(H a).isSome
def iu(h:Heap)(H:Hp):Heap:=PySem.W.hideAll h (Ge h H)
theorem gC_(h:Heap)(H:Hp):(iu h H).objs.size=h.objs.size:=PySem.W.hideAll_size _ _
theorem hR_{h:Heap}{H:Hp}{b:Addr}{o:Obj}(e:h.get? b\o)(n:H b=none):(iu h H).get? b\o:=
 PySem.W.hideAll_get _ e λhm=>by
  have q:(H b).isSome=true:=(jY.mp hm).2;rw[n] at q;simp at q
theorem Y6{h:Heap}{H:Hp}{b:Addr}{o:Obj}(e:(iu h H).get? b\o):h.get? b\o/\H b=none:=by
 have e':h.get? b\o:=PySem.W.of_hideAll (Ge h H) e;apply#[e',?_];cases q:H b with
 |none=>rfl
 |some x=>
  have hm:b∈Ge h H:=jY.mpr #[List.mem_range.mpr (bz e'),by simp[q]];have z:(iu h H).get? b=none:=PySem.W.hideAll_none (Ge h H) hm;rw[z] at e;cases e
end L2
abbrev ai:=List L2.V
abbrev aJ:=Option L2.V
namespace L2
open PySem PySem.Spec PyProof.Rows
structure Mod (K:aj) (mg:Str->Option Aa) (base:Heap):Prop where
 DQ:K.In base
 glob:base.Ns mainGlobals mg
 blt:∃mb,base.Ns builtinsNs mb/\∀x:Str,x≠"__name__"->mb x=bootBuiltins x
 nolimit:base.NoLimit
structure Cx where
 prog:Ad
 w:Af
 K:aj
 mg:Str->Option Aa
 base:Heap
 A:Ag
 N:ae
 df:Ab
 kg:Hp
 env:Env
 outer:List Env
 stack:List Env
 ex:au
 fn:Str->Bool
 calm:Bool
 pn:List (Addr × Obj)
 xe:Aa->Ab->Prop
def oX(l:List Env):au:=l.filterMap (·.frame)
abbrev Cx.fs(X:Cx):au:=oX X.outer
def PF(sc:Scope)(x:Str):Prop:=sc.names.lookup x=some .local∨sc.names.lookup x\.cell∨sc.names.lookup x\.free
def Loc(sc:Scope)(x:Str):Prop:=sc.names.lookup x=some .local∨sc.names.lookup x\.cell
def Look(env:Env)(h:Heap)(m:Str->Option Aa)(x:Str)(u:Aa):Prop:=
 (env.kindOf x\.local/\m x\u)∨((env.kindOf x\.cell∨env.kindOf x\.free)/\∃c,env.cells.lookup x\c/\h.IsCell c (some u))
structure Cx.Ok (X:Cx):Prop where
 mod:Mod X.K X.mg X.base
 kind:X.env.scope.kind=.function
 glob:X.env.globals=mainGlobals
 blt:X.env.builtins=builtinsNs
 above:X.df.heap.objs.size<=X.env.locals
 inj:∀x y c,X.env.cells.lookup x\c->X.env.cells.lookup y\c->x=y
 has:∀x,(X.env.kindOf x\.cell∨X.env.kindOf x\.free)->∃c,X.env.cells.lookup x\c
 BQ:∀x c,X.fn x=true->X.env.cells.lookup x\c->X.df.heap.objs.size<=c
 hd:X.calm=true->X.A.handled=none
 frames:X.A.frames\X.stack
 Gk:X.stack=X.outer∨(X.stack=X.env::X.outer/\X.env.frame\X.env.locals)
 Ig:∀b∈X.ex,b≠X.env.locals/\∀x c,X.env.cells.lookup x\c->c≠b
 bs:∀b o,X.base.get? b\o->X.df.heap.get? b\o/\X.kg b=none
 tL:X.base.objs.size<=X.df.heap.objs.size
 rQ:∀b o,X.base.get? b\o->b∉X.ex
 sX:∀b∈X.ex,b∉X.fs
 fW:X.df.heap.FunFrames X.base X.outer
 wk:∀b∈X.fs,X.kg b=none
structure Inv (X:Cx) (pins:List (Addr × Obj)) (σ:List aJ) (H:Hp) (s:Ab):Prop where
 ok:X.Ok
 os:s.os=X.df.os
 bare:AllBare s.gens
 base:Un X.fs X.ex X.kg H X.df.heap s.heap
 loc:∃m,s.heap.Ns X.env.locals m/\∀(i:Nat) (x:Str) (v:V),X.N[i]? = some x->σ[i]? = some (some v)->PF X.env.scope x->∃u,RelV v u/\Look X.env s.heap m x u
 cell:∀x c,X.env.cells.lookup x\c->∃v,s.heap.IsCell c v
 free:H X.env.locals=none
 d6:∀x c,X.env.cells.lookup x\c->H c=none
 pin:∀p∈X.pn++pins,s.heap.get? p.1\p.2/\H p.1=none/\p.1≠X.env.locals/\p.1∉X.fs/\∀v,p.2.data≠.cell v
 aA:fR X.prog X.w H s.heap
 len:σ.length=X.N.length
section
variable{X:Cx}{pins:List (Addr × Obj)}{σ:List aJ}{H H':Hp}{s:Ab}{h':Heap}
theorem Cx.Ok.K0(ok:X.Ok){b:Addr}{o:Obj}(e:X.base.get? b\o):b∉X.fs:=λhb=>by
 have:=(ok.fW.mem hb).1;rw[e] at this;cases this
theorem Inv.bs(I:Inv X pins σ H s):∀b o,X.base.get? b\o->s.heap.get? b\o/\H b=none:=λb o e=>
 #[I.base.keep b o (I.ok.bs b o e).1 (I.ok.bs b o e).2 (I.ok.K0 e) (I.ok.rQ b o e),I.base.free b o (I.ok.bs b o e).1 (I.ok.bs b o e).2 (I.ok.rQ b o e)]
theorem Inv.bk(I:Inv X pins σ H s):∀b o,X.base.get? b\o->s.heap.get? b\o:=λb o e=>(I.bs b o e).1
theorem Inv.mod(I:Inv X pins σ H s):Mod X.K X.mg X.base:=I.ok.mod
theorem Inv.gE(I:Inv X pins σ H s):X.K.In s.heap:=I.ok.mod.DQ.keeps I.bk
theorem Inv.lt(I:Inv X pins σ H s):X.env.locals<s.heap.objs.size:=let #[_,hn,_]:=I.loc;hn.lt
theorem Inv.sz(I:Inv X pins σ H s):X.df.heap.objs.size<=s.heap.objs.size:=iK I.ok.above (Nat.le_of_lt I.lt)
theorem Inv.KZ(I:Inv X pins σ H s){a:Addr}(h:s.heap.objs.size<=a):a∉X.fs:=λhb=>by
 let#[_,o,ho,_]:=I.ok.fW.mem hb;exact absurd (ju (bz ho) (iK I.sz h)) (tZ _)
theorem Inv.uK(I:Inv X pins σ H s):∀x c,X.env.cells.lookup x\c->c≠X.env.locals:=λx c e z=>by
 let#[v,o,ho,hd]:=I.cell x c e;let#[m,#[o',es,ep,nO,iV,_],_]:=I.loc;rw[z,nO] at ho;cases ho;rw[iV] at hd;cases hd
theorem Inv.fW(I:Inv X pins σ H s):s.heap.FunFrames X.base X.outer:=by
 have all:∀(l:List Env),(∀b∈oX l,b∈X.fs)->X.df.heap.FunFrames X.base l->s.heap.FunFrames X.base l:=by
  intro l
  induction l with
  |nil=>intro _ _;trivial
  |cons env r ih=>
   intro hs hl;let#[hk,#[L,o,hf,hn,ho,hd],hr]:=hl;have hL:L∈X.fs:=hs L (by unfold oX;rw[List.filterMap_cons,hf];exact gd);let#[sl,e]:=I.base.slot L o ho (I.ok.wk L hL) hL λz=>I.ok.sX L z hL;exact#[hk,#[L,_,hf,hn,e,hd],ih (λb hb=>hs b (by unfold oX;rw[List.filterMap_cons,hf];exact fP _ hb)) hr]
 exact all X.outer (λ_ hb=>hb) I.ok.fW
theorem Inv.stack(I:Inv X pins σ H s):s.heap.FunFrames X.base X.stack:=by
 rcases I.ok.Gk with e|⟨e,hf⟩
 ·rw[e];exact I.fW
 rw[e];let#[m,hn,_]:=I.loc;apply .cons (by rw[I.ok.kind];decide) hf hn ?_ I.fW;exact Heap.get?_none_of_le (iK I.ok.tL I.ok.above)
theorem Inv.kQ(I:Inv X pins σ H s):∀b∈oX X.stack,b∈X.env.locals::X.fs:=λb hb=>by
 rcases I.ok.Gk with e|⟨e,hf⟩
 ·rw[e] at hb;exact fP _ hb
 rw[e] at hb;unfold oX at hb;rw[List.filterMap_cons,hf] at hb;exact hb
theorem Inv.mR(I:Inv X pins σ H s):∀b∈oX X.stack,H b=none:=λb hb=>by
 rcases bV.mp (I.kQ b hb) with e|hb
 ·rw[e];exact I.free
 let#[_,o,ho,_]:=I.ok.fW.mem hb;exact I.base.free b o ho (I.ok.wk b hb) λz=>I.ok.sX b z hb
theorem Inv.step{g':Array GenState}{t':Nat}{d':Drawn}{ch:au}(I:Inv X pins σ H s)
  (uF:∀b∈ch,(b∈X.ex∨X.df.heap.objs.size<=b)/\b≠X.env.locals/\(∀x c,X.env.cells.lookup x\c->c≠b)/\∀p∈X.pn++pins,p.1≠b)
  (keep:∀b o,b≠X.env.locals->b∉X.fs->b∉ch->s.heap.get? b\o->H b=none->h'.get? b\o)
  (slot:∀b o,b≠X.env.locals->b∈X.fs->b∉ch->s.heap.get? b\o->H b=none->∃sl,h'.get? b=some { o with slots:=sl }) (free:∀b o,b∉ch->s.heap.get? b\o->H b=none->H' b=none)
  (there:∀b o,b∉ch->s.heap.get? b\o->∃o',h'.get? b\o')
  (gS:∀b xs,H b\.tup xs->H' b\.tup xs) (g8:∀b o u,H b\.frz o u->H' b\.frz o u) (ig:∀b ps,H b\.tbl ps->∃more,H' b\.tbl (ps++more))
  (ns:∀m,s.heap.Ns X.env.locals m->h'.Ns X.env.locals m) (aA:fR X.prog X.w H' h') (hg:AllBare g') :
  Inv X pins σ H' { s with heap:=h',gens:=g',drawn:=d',toks:=t' }:=by
 have QH:∀b o,X.df.heap.get? b\o->b≠X.env.locals:=λb o e=>dS (ju (bz e) I.ok.above)
 have GO:∀b o,X.df.heap.get? b\o->b∉X.ex->b∉ch:=λb o e hx hb=>by
  rcases (uF b hb).1 with z|z
  ·exact hx z
  exact absurd (ju (bz e) z) (tZ _)
 have cellK:∀x c,X.env.cells.lookup x\c->∀v,s.heap.IsCell c v->h'.IsCell c v:=λx c e v ⟨o,ho,hd⟩=>by
  have Dm:c∉ch:=λz=>(uF c z).2.2.1 x c e Z;by_cases hc:c∈X.fs
  ·let#[sl,q]:=slot c o (I.uK x c e) hc Dm ho (I.d6 x c e);exact#[_,q,hd]
  exact#[o,keep c o (I.uK x c e) hc Dm ho (I.d6 x c e),hd]
 apply#[I.ok,I.os,hg,#[λb o e n hb hx=>?_,λb o e n hb hx=>?_,λb o e n hx=>?_,λb o e hx=>?_,λb xs e=>gS b xs (I.base.gS b xs e),λb o xs e=>g8 b o xs (I.base.g8 b o xs e),λb ps e=>?_],?_,λx c e=>?_,?_,λx c e=>?_,λp hp=>?_,aA,I.len]
 ·exact keep b o (QH b o e) hb (GO b o e hx) (I.base.keep b o e n hb hx) (I.base.free b o e n hx)
 ·let#[sl,e1]:=I.base.slot b o e n hb hx;let#[WM,e2]:=slot b _ (QH b o e) hb (GO b o e hx) e1 (I.base.free b o e n hx);exact#[WM,e2]
 ·let#[o',e1]:=I.base.there b o e hx;exact free b o' (GO b o e hx) e1 (I.base.free b o e n hx)
 ·let#[o',e1]:=I.base.there b o e hx;exact there b o' (GO b o e hx) e1
 ·let#[m1,e1]:=I.base.ig b ps e;let#[m2,e2]:=ig b _ e1;exact#[m1++m2,by rw[e2,Array.append_assoc]]
 ·let#[m,hn,hl]:=I.loc;apply#[m,ns m hn,λi x v e1 e2 e3=>?_];let#[u,r,l]:=hl i x v e1 e2 e3;apply#[u,r,?_];rcases l with l|⟨k,c,e,z⟩
  ·exact .inl l
  exact .inr #[k,c,e,cellK x c e _ z]
 ·let#[v,z]:=I.cell x c e;exact#[v,cellK x c e v z]
 ·let#[m,#[o,_,_,ho,_],_]:=I.loc;exact free _ o (λz=>(uF _ z).2.1 Z) ho I.free
 ·let#[v,o,ho,hd]:=I.cell x c e;exact free c o (λz=>(uF c z).2.2.1 x c e Z) ho (I.d6 x c e)
 let#[e,n,ne,nf,d]:=I.pin p hp;have Dm:p.1∉ch:=λz=>(uF p.1 z).2.2.2 p hp Z;exact#[keep p.1 p.2 ne nf Dm e n,free p.1 p.2 Dm e n,ne,nf,d]
theorem Inv.un{t':Nat}(I:Inv X pins σ H s)(u:Un X.fs [] H H' s.heap h')(aA:fR X.prog X.w H' h'):Inv X pins σ H' { s with heap:=h',toks:=t' }:=by
 let#[m,#[o,es,ep,ho,r],_]:=id I.loc;let#[sl,hL]:=u.any ho I.free Z2
 exact I.step (g':=s.gens) (d':=s.drawn) (ch:=[]) (λ_ z=>nomatch z) (λb o _ hb _ e n=>u.keep b o e n hb Z2) (λb o _ hb _ e n=>u.slot b o e n hb Z2) (λb o _ e n=>u.free b o e n Z2) (λb o _ e=>u.there b o e Z2) u.gS u.g8 u.ig (λm' hm=>by
  let#[o',Ii,Ij,nO,r']:=hm;rw[ho] at nO;cases nO;exact#[_,Ii,Ij,hL,r']) aA I.bare
theorem Inv.call{g':Array GenState}{t':Nat}{d':Drawn}{ch:au}(I:Inv X pins σ H s)(u:Un (oX X.stack) ch H H' s.heap h')(aA:fR X.prog X.w H' h')(hg:AllBare g')
  (uF:∀b∈ch,(b∈X.ex∨X.df.heap.objs.size<=b)/\b≠X.env.locals/\(∀x c,X.env.cells.lookup x\c->c≠b)/\∀p∈X.pn++pins,p.1≠b) :
  Inv X pins σ H' { s with heap:=h',gens:=g',drawn:=d',toks:=t' }:=by
 let#[m,#[o,es,ep,ho,r],_]:=id I.loc;let#[sl,hL]:=u.any ho I.free λz=>(uF _ z).2.1 Z
 exact I.step (ch:=ch) uF (λb o hL hb hc e n=>u.keep b o e n (λz=>(bV.mp (I.kQ b z)).elim hL hb) hc) (λb o _ _ hc e n=>u.any e n hc) (λb o hc e n=>u.free b o e n hc) (λb o hc e=>u.there b o e hc) u.gS u.g8 u.ig (λm' hm=>by
  let#[o',Ii,Ij,nO,r']:=hm;rw[ho] at nO;cases nO;exact#[_,Ii,Ij,hL,r']) aA hg
theorem Inv.turned{t':Nat}{it:Addr}(I:Inv X pins σ H s)(k:∀b o,b≠it->s.heap.get? b\o->h'.get? b\o)(hn:H it=none)(hL:it≠X.env.locals)
  (h1:it∈X.ex∨X.df.heap.objs.size<=it) (h2:∀x c,X.env.cells.lookup x\c->c≠it) (h3:∀p∈X.pn++pins,p.1≠it):Inv X pins σ H { s with heap:=h',toks:=t' }:=by
 have QG:∀b u,H b\u->b≠it:=λb u e z=>by rw[z,hn] at e;cases e
 apply I.step (g':=s.gens) (d':=s.drawn) (ch:=[it]) (λb hb=>?_) (λb o _ _ hc e _=>k b o (λz=>hc (by simp[z])) e) (λb o _ _ hc e _=>#[o.slots,k b o (λz=>hc (by simp[z])) e]) (λ_ _ _ _ n=>n)
  (λb o hc e=>#[o,k b o (λz=>hc (by simp[z])) e]) (λ_ _ e=>e) (λ_ _ _ e=>e) (λb ps e=>#[#[],by rw[e];simp]) (λm hm=>?_) (λb u e=>?_) I.bare
 ·have e:b=it:=⇑hb
  subst e;exact#[h1,hL,h2,h3]
 ·let#[o,es,ep,ho,r]:=hm;exact#[o,es,ep,k _ o (bJ hL) ho,r]
 apply (I.aA b u e).er (λc v hc q=>k c v ?_ q) (λ_ q=>q) λ_ _ q=>q;rcases hc with z|z
 ·rw[z];exact QG b u e
 exact QG c _ z
theorem Inv.tok(I:Inv X pins σ H s)(t:Nat):Inv X pins σ H { s with toks:=t }:=I.un (h':=s.heap) (t':=t) Un.refl I.aA
theorem Inv.kept{t':Nat}(I:Inv X pins σ H s)(k:∀b u,s.heap.get? b\u->h'.get? b\u):Inv X pins σ H { s with heap:=h',toks:=t' }:=I.un (Un.kept k) (I.aA.kept k)
theorem Inv.laid{a:Addr}{o:HO}{t':Nat}(I:Inv X pins σ H s)(k:∀b u,s.heap.get? b\u->h'.get? b\u)(hp:s.heap.objs.size<=a)(new:fw X.prog X.w (upd H a o) h' a o) :
  Inv X pins σ (upd H a o) { s with heap:=h',toks:=t' }:=I.un (Un.laid k hp (I.aA.fresh hp)) (I.aA.laid k hp new)
theorem Inv.write{x e:Addr}{o:HO}{t':Nat}(I:Inv X pins σ H s)(mu:F3 (H x))(he:e=x∨H e\.own x)(k:∀b u,b≠e->s.heap.get? b\u->h'.get? b\u)(BB:∃u,h'.get? e\u)
  (new:fw X.prog X.w (upd H x o) h' x o):Inv X pins σ (upd H x o) { s with heap:=h',toks:=t' }:=I.un (Un.write mu he k BB) (I.aA.write mu he k BB new)
theorem Inv.nD{xG:List (Addr × Obj)}(I:Inv X pins σ H s)(h:∀p∈xG,s.heap.get? p.1\p.2/\H p.1=none/\p.1≠X.env.locals/\p.1∉X.fs/\∀v,p.2.data≠.cell v):Inv X xG σ H s:=
 #[I.ok,I.os,I.bare,I.base,I.loc,I.cell,I.free,I.d6,λp hp=>(d9.mp hp).elim (λz=>I.pin p (List.mem_append_left _ z)) (h p),I.aA,I.len]
theorem TL{N:ae}(hN:N.Nodup){i j:Nat}{x:Str}(a:N[i]? = some x)(b:N[j]? = some x):i=j:=by
 let#[h1,e1]:=bY.mp a;let#[h2,e2]:=bY.mp b;exact (List.getElem_inj hN).mp (e1.trans e2.symm)
theorem Uh{M:Model}{A:Ag}{E:Aa->Ab->Prop}{i:Nat}{x:Str}{v:V}{u:Aa}{Q:Unit->Ab->Prop}(I:Inv X pins σ H s)(hN:X.N.Nodup)(hi:X.N[i]? = some x)(hx:Loc X.env.scope x)(r:RelV v u)
  (h:∀s',Inv X pins (σ.set i (some v)) H s'->(∃a,Heap.SameBut a s.heap s'.heap/\(a=X.env.locals∨X.env.cells.lookup x\a))->Q () s') (hf:X.fn x=true∨X.env.scope.names.lookup x\.local:=by first|exact .inl Z|exact .inr Z|assumption):wpAny M A (storeName X.env x u) Q E s:=by
 let#[m,hn,hl]:=id I.loc;have Ms:(X.env.scope.kind == .class || (X.env.scope.kind == .module&&X.env.locals != X.env.globals))=false:=by rw[I.ok.kind];rfl
 have EA:i<σ.length:=by rw[I.len];exact (bY.mp hi).1
 let uK:=I.uK
 have tracked:∀{a:Addr} {h':Heap},(∃o,s.heap.get? a\o/\H a=none)->Heap.SameBut a s.heap h'->fR X.prog X.w H h':=λ{a h'} ha hs b ob e=>by
  let#[_,_,xV]:=ha;apply (I.aA b ob e).er (λc w' hc q=>(hs.2 c ?_).trans q) (λ_ q=>q) λ_ _ q=>q;rintro rfl;rcases hc with rfl|hc
  ·rw[xV] at e;cases e
  rw[xV] at hc;cases hc
 rcases hx with hk|hk
 ·apply wpAny_storeName_local hk hn (λh' Em hs=>?_) Ms;let#[oL,_,_,Hh,_]:=id hn;apply h _ #[I.ok,I.os,I.bare,#[λb o e n hb hx=>?_,λb o e n hb hx=>?_,I.base.free,λb o e hx=>?_,I.base.gS,I.base.g8,I.base.ig],#[_,Em,λj y v' e1 e2 e3=>?_],λy c e=>?_,I.free,I.d6,λp hp=>?_,tracked #[oL,Hh,I.free] hs,by simpa using I.len] #[_,hs,.inl Z]
  ·exact (hs.2 b (dS (ju (bz e) I.ok.above))).trans (I.base.keep b o e n hb hx)
  ·let#[sl,e1]:=I.base.slot b o e n hb hx;exact#[sl,(hs.2 b (dS (ju (bz e) I.ok.above))).trans e1]
  ·let#[o',e1]:=I.base.there b o e hx;exact#[o',(hs.2 b (dS (ju (bz e) I.ok.above))).trans e1]
  ·by_cases hj:j=i
   ·subst hj;rw[hi] at e1;cases e1;rw[List.getElem?_set_self EA] at e2;cases e2;exact#[u,r,.inl #[hk,by simp]]
   rw[List.getElem?_set_ne (bJ hj)] at e2;let#[u',r',q]:=hl j y v' e1 e2 e3;apply#[u',r',?_];rcases q with⟨k,e⟩|⟨k,c,e,z⟩
   ·apply .inl #[k,?_];have:y≠x:=λe=>hj (TL hN e1 (e▸hi));simp[this,e]
   exact .inr #[k,c,e,z.sameBut hs (uK y c e)]
  ·let#[w',z]:=I.cell y c e;exact#[w',z.sameBut hs (uK y c e)]
  let#[e,n,ne,nf,d]:=I.pin p hp;exact#[(hs.2 p.1 ne).trans e,n,ne,nf,d]
 have Mg:X.fn x=true:=by
  rcases hf with z|z
  ·exact z
  rw[z] at hk;cases hk
 let#[c,hc]:=I.ok.has x (.inl hk);let#[w',z]:=I.cell x c hc;apply wpAny_storeName_cell I.ok.kind hk hc z (λh' Hu hs=>?_);let#[oc,El,LS]:=id z;apply h { s with heap:=h' } #[I.ok,I.os,I.bare,#[λb o e n hb hx=>?_,λb o e n hb hx=>?_,I.base.free,λb o e hx=>?_,I.base.gS,I.base.g8,I.base.ig],#[m,hn.sameBut hs (bJ (uK x c hc)),λj y v' e1 e2 e3=>?_],λy c' e=>?_,I.free,I.d6,λp hp=>?_,tracked #[oc,El,I.d6 x c hc] hs,by simpa using I.len] #[c,hs,.inr hc]
 ·exact (hs.2 b (dS (ju (bz e) (I.ok.BQ x c Mg hc)))).trans (I.base.keep b o e n hb hx)
 ·let#[sl,e1]:=I.base.slot b o e n hb hx;exact#[sl,(hs.2 b (dS (ju (bz e) (I.ok.BQ x c Mg hc)))).trans e1]
 ·let#[o',e1]:=I.base.there b o e hx;exact#[o',(hs.2 b (dS (ju (bz e) (I.ok.BQ x c Mg hc)))).trans e1]
 ·by_cases hj:j=i
  ·subst hj;rw[hi] at e1;cases e1;rw[List.getElem?_set_self EA] at e2;cases e2;exact#[u,r,.inr #[.inl hk,c,hc,Hu]]
  rw[List.getElem?_set_ne (bJ hj)] at e2;let#[u',r',q]:=hl j y v' e1 e2 e3;apply#[u',r',?_];rcases q with q|⟨k,c',e,z'⟩
  ·exact .inl q
  apply .inr #[k,c',e,z'.sameBut hs ?_];rintro rfl;exact hj (TL hN e1 (I.ok.inj _ _ _ e hc▸hi))
 ·by_cases R8:c'=c
  ·subst R8;exact#[_,Hu]
  let#[w2,z2]:=I.cell y c' e;exact#[w2,z2.sameBut hs R8]
 let#[e,n,ne,nf,d]:=I.pin p hp;apply#[(hs.2 p.1 ?_).trans e,n,ne,nf,d];intro q;rw[q,El] at e;have q':oc=p.2:=cY e;exact d w' (by rw[<- q'];exact LS)
theorem S4{M:Model}{A:Ag}{E:Aa->Ab->Prop}{i:Nat}{x:Str}{v:V}{u:Aa}{Q:Unit->Ab->Prop}(I:Inv X pins σ H s)(hN:X.N.Nodup)(hi:X.N[i]? = some x)(hx:Loc X.env.scope x)(r:RelV v u)
  (h:∀s',Inv X pins (σ.set i (some v)) H s'->Q () s') (hf:X.fn x=true∨X.env.scope.names.lookup x\.local:=by first|exact .inl Z|exact .inr Z|assumption):wpAny M A (storeName X.env x u) Q E s:=
 Uh I hN hi hx r (λs' I' _=>h s' I') hf
theorem Inv.Fq{s':Ab}{ch:au}(I:Inv X pins σ H s)(ho:s'.os=s.os)(u:Un (oX X.stack) ch H H' s.heap s'.heap)(aA:fR X.prog X.w H' s'.heap)(hg:AllBare s'.gens)
  (uF:∀b∈ch,(b∈X.ex∨X.df.heap.objs.size<=b)/\b≠X.env.locals/\(∀x c,X.env.cells.lookup x\c->c≠b)/\∀p∈X.pn++pins,p.1≠b):Inv X pins σ H' s':=by
 let#[h',g',d',t',o']:=s';have e:o'=s.os:=ho;subst e;exact I.call (g':=g') (t':=t') (d':=d') u aA hg uF
end
abbrev XK:=Aa->Option Addr->Hp->Prop
abbrev St:=List aJ
abbrev VK:=V->Hp->Prop
abbrev TE:=St->Hp->VK->Prop
abbrev TT:=St->Hp->(Bool->Hp->Prop)->Prop
abbrev TA:=St->Hp->(ai->Hp->Prop)->Prop
structure Ends where
 nx:St->Hp->Prop
 rt:VK
 bk:St->Hp->Prop:=λ_ _=>False
 ct:St->Hp->Prop:=λ_ _=>False
abbrev TS:=Ends->St->Hp->Prop
def EP(X:Cx)(pins:List (Addr × Obj))(σ:St)(Q:VK)(u:Aa)(s':Ab):Prop:=∃v H',Inv X pins σ H' s'/\RelV v u/\Q v H'
def TP(X:Cx)(pins:List (Addr × Obj))(σ:St)(Q:Bool->Hp->Prop)(b:Bool)(s':Ab):Prop:=∃H',Inv X pins σ H' s'/\Q b H'
def AP(X:Cx)(pins:List (Addr × Obj))(σ:St)(Q:ai->Hp->Prop)(us:ag)(s':Ab):Prop:=∃vs H',Inv X pins σ H' s'/\Vals vs us/\Q vs H'
def SP(X:Cx)(pins:List (Addr × Obj))(D:Ends)(f:Flow)(s':Ab):Prop:=
 match f with
 |.next=>∃aY H',Inv X pins aY H' s'/\D.nx aY H'
 |.brk=>∃aY H',Inv X pins aY H' s'/\D.bk aY H'
 |.cont=>∃aY H',Inv X pins aY H' s'/\D.ct aY H'
 |.ret u=>∃v aY H',Inv X pins aY H' s'/\RelV v u/\D.rt v H'
def PE(X:Cx)(e:Expr)(t:TE):Prop:=
 ∀(pins:List (Addr × Obj)) (s:Ab) (σ:St) (H:Hp) (Q:VK),Inv X pins σ H s->t σ H Q->wpAny (model X.prog X.w) X.A (eval e X.env) (EP X pins σ Q) X.xe s
def PT(X:Cx)(e:Expr)(t:TT):Prop:=
 ∀(pins:List (Addr × Obj)) (s:Ab) (σ:St) (H:Hp) (Q:Bool->Hp->Prop),Inv X pins σ H s->t σ H Q->wpAny (model X.prog X.w) X.A (isTrue e X.env (eval e X.env)) (TP X pins σ Q) X.xe s
def PW(X:Cx)(e:Expr)(t:TT):Prop:=
 ∀(whole:Sem Aa) (pins:List (Addr × Obj)) (s:Ab) (σ:St) (H:Hp) (Q:Bool->Hp->Prop),Inv X pins σ H s->t σ H Q->wpAny (model X.prog X.w) X.A (isTrue e X.env whole) (TP X pins σ Q) X.xe s
theorem PW.pt{X:Cx}{e:Expr}{t:TT}(h:PW X e t):PT X e t:=h _
def PA(X:Cx)(es:List Expr)(t:TA):Prop:=
 ∀(pos:Pos) (pins:List (Addr × Obj)) (s:Ab) (σ:St) (H:Hp) (Q:ai->Hp->Prop),Inv X pins σ H s->t σ H Q->wpAny (model X.prog X.w) X.A (spliced (backTo pos (starEach es X.env))) (AP X pins σ Q) X.xe s
def PS(X:Cx)(st:Stmt)(t:TS):Prop:=
 ∀(pins:List (Addr × Obj)) (s:Ab) (σ:St) (H:Hp) (D:Ends),Inv X pins σ H s->t D σ H->wpAny (model X.prog X.w) X.A (exec st X.env) (SP X pins D) X.xe s
def j9(X:Cx)(st:List Stmt)(t:TS):Prop:=
 ∀(pins:List (Addr × Obj)) (s:Ab) (σ:St) (H:Hp) (D:Ends),Inv X pins σ H s->t D σ H->wpAny (model X.prog X.w) X.A (execs st X.env) (SP X pins D) X.xe s
theorem aO{α:Type}{t:Sem α}{Q Q':α->Ab->Prop}{M:Model}{A:Ag}{E:Aa->Ab->Prop}{s:Ab}(h:wpAny M A t Q E s)(hQ:∀a s,Q a s->Q' a s):wpAny M A t Q' E s:=wpAny_mono h hQ λ_ _ x=>x
end L2
abbrev pe:=L2.St->L2.Hp->Prop
abbrev b_:=Nat->L2.St->L2.Hp->Prop
namespace L2
open PySem PySem.Spec PyProof.Rows
section
variable{X:Cx}
inductive oF (i:Nat) (σ:St) (H:Hp) (Q:VK):Prop
 |mk:∀v,σ[i]? = some (some v)->Q v H->oF i σ H Q
def tC(v:V):TE:=λ_ H Q=>Q v H
theorem Zw{i:Nat}{x:Str}{pos:Pos}(hN:X.N[i]? = some x)(hv:PF X.env.scope x)(hd:(x == ("__debug__":Str))=false:=by decide)(iw:(x == ("__classdict__":Str))=false:=by decide):PE X (.Name x pos) (oF i):=by
 intro pins s σ H Q I h;let#[v,e,h]:=h;let#[m,hn,hl]:=I.loc;let#[u,r,l]:=hl i x v hN e hv;have fin:EP X pins σ Q u s:=#[v,H,I,r,h];rcases l with⟨hk,hm⟩|⟨hk,c,hc,nU⟩
 ·exact wpAny_Name (wpAny_loadName_local I.ok.kind hk hn hm fin) hd
 rcases hk with hk|hk
 ·exact wpAny_Name (wpAny_loadName_cell I.ok.kind hk hc nU fin) hd
 exact wpAny_Name (wpAny_loadName_free I.ok.kind hk hc nU fin iw) hd
theorem aC{i j pos}:PE X (.Constant (.int i) j pos) (tC (.int i)):=λ_ _ _ H _ I h=>wpAny_Constant_int #[.int i,H,I.tok _,#[_,Z],h]
theorem i5{b j pos}:PE X (.Constant (.bool b) j pos) (tC (.bl b)):=λ_ _ _ H _ I h=>Constant_bool #[.bl b,H,I,Z,h]
theorem uS{j pos}:PE X (.Constant .none j pos) (tC .non):=λ_ _ _ H _ I h=>Constant_none #[.non,H,I,Z,h]
theorem tP{x j pos}:PE X (.Constant (.str x) j pos) (tC (.str x)):=λ_ _ _ H _ I h=>Calls.Constant_str #[.str x,H,I.tok _,#[_,Z],h]
def Gl(X:Cx)(x:Str):Prop:=X.env.kindOf x=some .globalImplicit
theorem M7{E:Aa->Ab->Prop}{pins:List (Addr × Obj)}{s:Ab}{σ:St}{H:Hp}{x:Str}{u:Aa}{pos:Pos}{Q:Aa->Ab->Prop}(I:Inv X pins σ H s)(hg:Gl X x)(hm:X.mg x\u)(h:Q u s)
  (hd:(x == ("__debug__":Str))=false:=by decide):wpAny (model X.prog X.w) X.A (eval (.Name x pos) X.env) Q E s:=
 Calls.Name_function_global I.ok.kind hg (Calls.loadGlobal_global (by rw[I.ok.glob];exact I.mod.glob.keeps I.bk) hm h) hd
theorem wM{E:Aa->Ab->Prop}{pins:List (Addr × Obj)}{s:Ab}{σ:St}{H:Hp}{x:Str}{u:Aa}{pos:Pos}{Q:Aa->Ab->Prop}(I:Inv X pins σ H s)(hg:Gl X x)(hm:X.mg x=none)(hv:bootBuiltins x\u)(h:Q u s)
  (hn:x≠"__name__":=by decide) (hd:(x == ("__debug__":Str))=false:=by decide):wpAny (model X.prog X.w) X.A (eval (.Name x pos) X.env) Q E s:=by
 let#[mb,h1,h2]:=I.mod.blt;exact Calls.Name_function_global I.ok.kind hg (Calls.loadGlobal_builtin (by rw[I.ok.glob];exact I.mod.glob.keeps I.bk) hm (by rw[I.ok.blt];exact h1.keeps I.bk) ((h2 x hn).trans hv) h) hd
theorem FI{x:Str}{v:V}{u:Aa}{pos:Pos}(hg:Gl X x)(hm:X.mg x\u)(r:RelV v u)(hd:(x == ("__debug__":Str))=false:=by decide):PE X (.Name x pos) (tC v):=
 λ_ _ _ H _ I h=>M7 I hg hm #[v,H,I,r,h] hd
theorem jW{x:Str}{v:V}{u:Aa}{pos:Pos}(hg:Gl X x)(hm:X.mg x=none)(hv:bootBuiltins x\u)(r:RelV v u)(hn:x≠"__name__":=by decide)(hd:(x == ("__debug__":Str))=false:=by decide):PE X (.Name x pos) (tC v):=
 λ_ _ _ H _ I h=>wM I hg hm hv #[v,H,I,r,h] hn hd
variable{a b:Expr}{ta tb:TE}{pos:Pos}
def PC(X:Cx)(op:CmpOp)(a b:Expr)(t:TE):Prop:=
 ∀(pins:List (Addr × Obj)) (s:Ab) (σ:St) (H:Hp) (Q:VK),Inv X pins σ H s->t σ H Q->
  wpAny (model X.prog X.w) X.A (eval a X.env) (λv aL=>wpAny (model X.prog X.w) X.A (eval b X.env) (λu jw=>wpAny (model X.prog X.w) X.A (compareOp op v u) (EP X pins σ Q) X.xe jw) X.xe aL) X.xe s
theorem jC(b:Expr){op:CmpOp}(h:op≠.In)(h2:op≠.NotIn):behindInMarks op b=false:=by
 have e1:(op == CmpOp.In)=false:=by cases op<;>first|rfl|exact absurd Z h
 have e2:(op == CmpOp.NotIn)=false:=by cases op<;>first|rfl|exact absurd Z h2
 cases b<;>simp[behindInMarks,e1,e2]
def Kh(ta:TE):TE:=λσ H Q=>ta σ H λx H1=>Q (.bl (decide (x=.non))) H1
def CF(ta:TE):TE:=λσ H Q=>ta σ H λx H1=>Q (.bl (!decide (x=.non))) H1
theorem RelV.jB{x:V}{v:Aa}(r:RelV x v):(v == Value.none)=decide (x=.non):=by
 cases x with
 |non=>cases r;rfl
 |bl _=>cases r;rfl
 |int _=>let#[t,rfl]:=r;rfl
 |str _=>let#[t,rfl]:=r;rfl
 |byt _=>let#[t,rfl]:=r;rfl
 |flt _=>let#[t,rfl]:=r;rfl
 |ref _=>cases r;rfl
 |ty _=>cases r;rfl
theorem IB{j pos'}(ha:PE X a ta):PC X .Is a (.Constant .none j pos') (Kh ta):=by
 intro pins s σ H Q I h;apply aO (ha pins s σ H _ I h) λv s1 ⟨x,H1,I1,r1,q1⟩=>?_;exact Constant_none (is_none_gen #[.bl _,H1,I1,by rw[r1.jB];rfl,q1])
theorem Zm{j pos'}(ha:PE X a ta):PC X .IsNot a (.Constant .none j pos') (CF ta):=by
 intro pins s σ H Q I h;apply aO (ha pins s σ H _ I h) λv s1 ⟨x,H1,I1,r1,q1⟩=>?_;exact Constant_none (isnot_none_gen #[.bl _,H1,I1,by rw[r1.jB];rfl,q1])
inductive Qg (Q:Bool->Hp->Prop) (x:V) (H1:Hp):Prop
 |mk:∀c,x=.bl c->Q c H1->Qg Q x H1
def tB(t:TE):TT:=λσ H Q=>t σ H λx H1=>Qg Q x H1
theorem ID{op:CmpOp}{t:TE}(h:PC X op a b t)(h1:behindInMarks op b=false:=by first|exact jC _ (by decide) (by decide)|rfl):PE X (.Compare a [op] [b] pos) t:=λpins s σ H Q I hw=>wpAny_Compare1 (h pins s σ H Q I hw) h1
theorem tO{op:CmpOp}{t:TE}(h:PC X op a b t)(h1:behindInMarks op b=false:=by first|exact jC _ (by decide) (by decide)|rfl):PT X (.Compare a [op] [b] pos) (tB t):=by
 intro pins s σ H Q I hw;apply wpAny_isTrue_Compare1 (aO (h pins s σ H _ I hw) λv s1 h1=>aO h1 λu s2 h2=>aO h2 λc s3 ⟨x,H1,I1,r1,q1⟩=>?_) h1;let#[d,rfl,q]:=q1;cases r1;exact uJ #[H1,I1,q]
theorem eP{e:Expr}{t:TE}(h:PE X e t)(he:∀whole,isTrue e X.env whole=(do let v <- whole;standAt e.pos;holding [v] (truthy v)):=by intro _;rfl):PT X e (tB t):=by
 intro pins s σ H Q I hw;apply isTrue_plain (aO (h pins s σ H _ I hw) λv s1 ⟨x,H1,I1,r1,q1⟩=>?_) (he _);let#[d,rfl,q]:=q1;cases r1;exact uJ #[H1,I1,q]
variable{tA Gi:TT}{rest:List Expr}
def Kn(t u:TT):TT:=λσ H Q=>t σ H λc H1=>if c=true then u σ H1 Q else Q false H1
def Wu(t u:TT):TT:=λσ H Q=>t σ H λc H1=>if c=true then Q true H1 else u σ H1 Q
def Kf(t:TT):TT:=λσ H Q=>t σ H λc H1=>Q (!c) H1
theorem SW(ha:PT X a tA):PW X (.BoolOp .And [a] pos) tA:=by
 intro wh pins s σ H Q I h;apply isTrue_and (aO (ha pins s σ H Q I h) λc s1 e=>?_);cases c with
 |true=>exact isTrue_and_nil e
 |false=>exact e
theorem pT(ha:PT X a tA):PW X (.BoolOp .Or [a] pos) tA:=by
 intro wh pins s σ H Q I h;apply isTrue_or (aO (ha pins s σ H Q I h) λc s1 e=>?_);cases c with
 |false=>exact isTrue_or_nil e
 |true=>exact e
theorem Rw(ha:PT X a tA)(hb:PW X (.BoolOp .And (b::rest) pos) Gi):PW X (.BoolOp .And (a::b::rest) pos) (Kn tA Gi):=by
 intro wh pins s σ H Q I h;apply isTrue_and (aO (ha pins s σ H _ I h) λc s1 ⟨H1,I1,q1⟩=>?_);cases c with
 |true=>exact hb wh pins s1 σ H1 Q I1 q1
 |false=>exact#[H1,I1,q1]
theorem o6(ha:PT X a tA)(hb:PW X (.BoolOp .Or (b::rest) pos) Gi):PW X (.BoolOp .Or (a::b::rest) pos) (Wu tA Gi):=by
 intro wh pins s σ H Q I h;apply isTrue_or (aO (ha pins s σ H _ I h) λc s1 ⟨H1,I1,q1⟩=>?_);cases c with
 |true=>exact#[H1,I1,q1]
 |false=>exact hb wh pins s1 σ H1 Q I1 q1
theorem eX(ha:PT X a tA):PT X (.UnaryOp .Not a pos) (Kf tA):=by
 intro pins s σ H Q I h;exact isTrue_not (ha pins s σ H (λc H1=>Q (!c) H1) I h)
inductive ql (tb:TE) (σ:St) (Q:VK) (x:V) (H1:Hp):Prop
 |mk:∀c,x=.bl c->(if c=true then tb σ H1 Q else Q (.bl false) H1)->ql tb σ Q x H1
def CM(ta tb:TE):TE:=λσ H Q=>ta σ H λx H1=>ql tb σ Q x H1
inductive xg (tb:TE) (σ:St) (Q:VK) (x:V) (H1:Hp):Prop
 |mk:∀c,x=.bl c->(if c=true then Q (.bl true) H1 else tb σ H1 Q)->xg tb σ Q x H1
def Ke(ta tb:TE):TE:=λσ H Q=>ta σ H λx H1=>xg tb σ Q x H1
inductive qg (Q:VK) (x:V) (H1:Hp):Prop
 |mk:∀c,x=.bl c->Q (.bl (!c)) H1->qg Q x H1
def CD(ta:TE):TE:=λσ H Q=>ta σ H λx H1=>qg Q x H1
theorem uT{op}{t:TE}(h:PE X a t):PE X (.BoolOp op [a] pos) t:=λpins s σ H Q I hw=>BoolOp_one (h pins s σ H Q I hw)
theorem tJ(ha:PE X a ta)(hb:PE X (.BoolOp .And (b::rest) pos) tb):PE X (.BoolOp .And (a::b::rest) pos) (CM ta tb):=by
 intro pins s σ H Q I h;apply BoolOp_and (aO (ha pins s σ H _ I h) λv s1 ⟨x,H1,I1,r1,q1⟩=>?_);let#[c,rfl,q1]:=q1;cases r1;apply uJ ?_;cases c with
 |true=>exact hb pins s1 σ H1 Q I1 q1
 |false=>exact#[.bl false,H1,I1,Z,q1]
theorem Yz(ha:PE X a ta)(hb:PE X (.BoolOp .Or (b::rest) pos) tb):PE X (.BoolOp .Or (a::b::rest) pos) (Ke ta tb):=by
 intro pins s σ H Q I h;apply BoolOp_or (aO (ha pins s σ H _ I h) λv s1 ⟨x,H1,I1,r1,q1⟩=>?_);let#[c,rfl,q1]:=q1;cases r1;apply uJ ?_;cases c with
 |false=>exact hb pins s1 σ H1 Q I1 q1
 |true=>exact#[.bl true,H1,I1,Z,q1]
theorem Ro(ha:PE X a ta):PE X (.UnaryOp .Not a pos) (CD ta):=by
 intro pins s σ H Q I h;apply UnaryOp_ (aO (ha pins s σ H _ I h) λv s1 ⟨x,H1,I1,r1,q1⟩=>?_);let#[c,rfl,q1]:=q1;cases r1;exact not_of (uJ #[.bl (!c),H1,I1,Z,q1])
def Ww(t:TT)(ta tb:TE):TE:=λσ H Q=>t σ H λc H1=>if c=true then ta σ H1 Q else tb σ H1 Q
theorem hG_{c:Expr}(hc:PT X c tA)(ha:PE X a ta)(hb:PE X b tb):PE X (.IfExp c a b pos) (Ww tA ta tb):=by
 intro pins s σ H Q I h;apply wpAny_IfExp (aO (hc pins s σ H _ I h) λd s1 ⟨H1,I1,q1⟩=>?_);cases d with
 |true=>exact ha pins s1 σ H1 Q I1 q1
 |false=>exact hb pins s1 σ H1 Q I1 q1
end
end L2
namespace L2
open PySem PySem.Spec PyProof.Rows
def dY(K:aj)(H:Hp)(a:Addr)(xs:ai):Prop:=
 Rd H a (.lst xs) ∨
  ∃(o:Obj) (its:Array Aa) (n:Nat),K.lookup a\o/\o.cls=.type "list"/\o.dict=none/\o.data=.seq its n/\its.size<=sizeLine/\Vals xs its.toList
def ft(K:aj)(H:Hp)(a:Addr)(xs:ai):Prop:=
 Rd H a (.tup xs) ∨
  ∃(o:Obj) (its:Array Aa) (n:Nat),K.lookup a\o/\o.cls=.type "tuple"/\o.data=.seq its n/\its.size<=sizeLine/\Vals xs its.toList
def PD:Aa->aJ
 |.none=>some .non
 |.bool b=>some (.bl b)
 |.int i _=>some (.int i)
 |.str x _=>some (.str x)
 |.bytes b _=>some (.byt b)
 |.float b _=>some (.flt b)
 |.ref a=>some (.ref a)
 |.type n=>some (.ty n)
 |_=>none
theorem RelV.abs{x:V}{u:Aa}(r:RelV x u):PD u\x:=by
 cases x with
 |non=>cases r;rfl
 |bl _=>cases r;rfl
 |int _=>let#[t,rfl]:=r;rfl
 |str _=>let#[t,rfl]:=r;rfl
 |byt _=>let#[t,rfl]:=r;rfl
 |flt _=>let#[t,rfl]:=r;rfl
 |ref _=>cases r;rfl
 |ty _=>cases r;rfl
theorem RelV.inj{x y:V}{u:Aa}(r:RelV x u)(q:RelV y u):x=y:=cY (r.abs.symm.trans q.abs)
theorem Vals.inj:∀{xs ys:ai} {us:ag},Vals xs us->Vals ys us->xs=ys
 |_,_,_,.nil,.nil=>rfl
 |_,_,_,.cons r t,.cons r' t'=>by rw[r.inj r',Vals.inj t t']
section
variable{X:Cx}{pins:List (Addr × Obj)}{σ:St}{H:Hp}{s:Ab}{a:Addr}{xs ys:ai}
theorem dY.of{K:aj}(h:H a\.lst xs):dY K H a xs:=.inl (.inl h)
theorem ft.of{K:aj}(h:H a\.tup xs):ft K H a xs:=.inl (.inl h)
theorem Inv.list(I:Inv X pins σ H s)(h:dY X.K H a xs):∃its:ag,Vals xs its/\PlainL s.heap a its.toArray/\xs.length<=sizeLine:=by
 rcases h with h|⟨o,its,n,hk,hc,hd,hs,hz,r⟩
 ·let#[z,its,n,r,e]:=h.ok I.aA;exact#[its,r,#[_,n,e,Z,Z,Z],z]
 apply#[its.toList,r,#[o,n,I.gE a o hk,hc,hd,by simpa using hs],?_];let e:=r.length;simp only[tU] at e;omega
theorem Inv.tuple(I:Inv X pins σ H s)(h:ft X.K H a xs):∃its:ag,Vals xs its/\IsTup s.heap a its.toArray/\xs.length<=sizeLine:=by
 rcases h with h|⟨o,its,n,hk,hc,hs,hz,r⟩
 ·let#[z,its,r,p,_]:=h.ok I.aA;exact#[its,r,p,z]
 apply#[its.toList,r,#[o,I.gE a o hk,hc,n,by simpa using hs],?_];let e:=r.length;simp only[tU] at e;omega
theorem Inv.jF(I:Inv X pins σ H s)(h:dY X.K H a xs)(h':dY X.K H a ys):xs=ys:=by
 let#[its,r,#[o,n,e,_,_,d],_]:=I.list h;let#[its',r',#[o',n',e',_,_,d'],_]:=I.list h';rw[e] at e';cases e';rw[d] at d'
 injection d' with d1 _
 have:its=its':=⇑(d7 Array.toList d1)
 subst this;exact r.inj r'
theorem Inv.dN(I:Inv X pins σ H s)(h:ft X.K H a xs)(h':ft X.K H a ys):xs=ys:=by
 let#[its,r,#[o,e,_,n,d],_]:=I.tuple h;let#[its',r',#[o',e',_,n',d'],_]:=I.tuple h';rw[e] at e';cases e';rw[d] at d'
 injection d' with d1 _
 have:its=its':=⇑(d7 Array.toList d1)
 subst this;exact r.inj r'
end
abbrev Cx.ic(X:Cx)(E:Aa->Ab->Prop):Cx:={ X with xe:=E }
abbrev Cx.xH(X:Cx):Cx:=X.ic λ_ _=>False
theorem Cx.Ok.ic{X:Cx}(ok:X.Ok)(E:Aa->Ab->Prop):(X.ic E).Ok:=
 #[ok.mod,ok.kind,ok.glob,ok.blt,ok.above,ok.inj,ok.has,ok.BQ,ok.hd,ok.frames,ok.Gk,ok.Ig,ok.bs,ok.tL,ok.rQ,ok.sX,ok.fW,ok.wk]
theorem Cx.Ok.ee{X:Cx}{E:Aa->Ab->Prop}(ok:(X.ic E).Ok):X.Ok:=
 #[ok.mod,ok.kind,ok.glob,ok.blt,ok.above,ok.inj,ok.has,ok.BQ,ok.hd,ok.frames,ok.Gk,ok.Ig,ok.bs,ok.tL,ok.rQ,ok.sX,ok.fW,ok.wk]
section
variable{X:Cx}{pins:List (Addr × Obj)}{σ:St}{H:Hp}{s:Ab}{E:Aa->Ab->Prop}
theorem Inv.ic(I:Inv X pins σ H s)(E:Aa->Ab->Prop):Inv (X.ic E) pins σ H s:=#[I.ok.ic E,I.os,I.bare,I.base,I.loc,I.cell,I.free,I.d6,I.pin,I.aA,I.len]
theorem Inv.ee(I:Inv (X.ic E) pins σ H s):Inv X pins σ H s:=#[I.ok.ee,I.os,I.bare,I.base,I.loc,I.cell,I.free,I.d6,I.pin,I.aA,I.len]
theorem SP.ee{D:Ends}{f:Flow}{s':Ab}(h:SP (X.ic E) pins D f s'):SP X pins D f s':=by
 cases f with
 |next=>let#[aY,H',I,q]:=h;exact#[aY,H',I.ee,q]
 |brk=>let#[aY,H',I,q]:=h;exact#[aY,H',I.ee,q]
 |cont=>let#[aY,H',I,q]:=h;exact#[aY,H',I.ee,q]
 |ret u=>let#[v,aY,H',I,r,q]:=h;exact#[v,aY,H',I.ee,r,q]
theorem j9.xH{st:List Stmt}{t:TS}(h:j9 X.xH st t):j9 X st t:=λpins s σ H D I hw=>
 wpAny_mono (h pins s σ H D (I.ic _) hw) (λ_ _ q=>q.ee) λ_ _ z=>False.elim z
end
section
variable{X:Cx}{st:Stmt}{rest:List Stmt}{t u:TS}{e:Expr}{te:TE}{pos:Pos}
def CH:TS:=λD σ H=>D.nx σ H
def yK(t u:TS):TS:=λD σ H=>t { D with nx:=u D } σ H
theorem cq:j9 X [] CH:=λ_ _ σ H _ I h=>wpAny_execs_nil #[σ,H,I,h]
theorem aw(h1:PS X st t)(h2:j9 X rest u):j9 X (st::rest) (yK t u):=by
 intro pins s σ H D I h;apply wpAny_execs_cons (aO (h1 pins s σ H { D with nx:=u D } I h) λf s1 q=>?_);cases f with
 |next=>
  let#[aY,H',I',q]:=q;exact h2 pins s1 aY H' D I' q
 |ret v=>exact q
 |brk=>exact q
 |cont=>exact q
theorem aF(h1:PS X st t):j9 X [st] t:=by
 intro pins s σ H D I h;apply wpAny_execs_cons (aO (h1 pins s σ H D I h) λf s1 q=>?_);cases f with
 |next=>exact wpAny_execs_nil q
 |ret v=>exact q
 |brk=>exact q
 |cont=>exact q
theorem Inv.quiet{pins:List (Addr × Obj)}{σ:St}{H:Hp}{s:Ab}(I:Inv X pins σ H s):interactive X.env=false:=by simp[interactive,I.ok.kind]
def CJ(te:TE):TS:=λD σ H=>te σ H λ_ H1=>D.nx σ H1
theorem mB(he:PE X e te)(hs:swapsWith e none pos.line X.env=pure false:=by rfl):PS X (.Expr e pos) (CJ te):=by
 intro pins s σ H D I h;exact wpAny_Expr_any (aO (he pins s σ H _ I h) λv s1 ⟨x,H1,I1,r1,q1⟩=>#[σ,H1,I1,q1]) I.quiet hs
def Kd(te:TE):TS:=λD σ H=>te σ H D.rt
theorem bx(he:PE X e te):PS X (.Return (some e) pos) (Kd te):=by
 intro pins s σ H D I h;exact wpAny_Return_some (aO (he pins s σ H _ I h) λv s1 ⟨x,H1,I1,r1,q1⟩=>#[x,σ,H1,I1,r1,q1])
def Ki(c:TT)(t u:TS):TS:=λD σ H=>c σ H λb H1=>if b=true then t D σ H1 else u D σ H1
theorem cg{c:Expr}{a b:List Stmt}{tc:TT}(hc:PT X c tc)(ha:j9 X a t)(hb:j9 X b u):PS X (.If c a b pos) (Ki tc t u):=by
 intro pins s σ H D I h;apply wpAny_If (aO (hc pins s σ H _ I h) λd s1 ⟨H1,I1,q1⟩=>?_);cases d with
 |true=>exact ha pins s1 σ H1 D I1 q1
 |false=>exact hb pins s1 σ H1 D I1 q1
def yM:TS:=λ_ _ _=>False
theorem gA{WD:List Stmt}:j9 X WD yM:=λ_ _ _ _ _ _ h=>h.elim
end
abbrev TG:=V->St->Hp->(St->Hp->Prop)->Prop
abbrev Bj:=ai->St->Hp->(St->Hp->Prop)->Prop
def PG(X:Cx)(target:Expr)(t:TG):Prop:=
 ∀(pins:List (Addr × Obj)) (s:Ab) (σ:St) (H:Hp) (v:V) (u:Aa) (Q:pe),Inv X pins σ H s->RelV v u->t v σ H Q->
  wpAny (model X.prog X.w) X.A (assign target X.env u) (λ_ s'=>∃aY H',Inv X pins aY H' s'/\Q aY H') X.xe s
def F1(X:Cx)(ts:List Expr)(t:Bj):Prop:=
 ∀(pins:List (Addr × Obj)) (s:Ab) (σ:St) (H:Hp) (vs:ai) (us:ag) (Q:pe),Inv X pins σ H s->Vals vs us->t vs σ H Q->
  wpAny (model X.prog X.w) X.A (assignInOrder ((assignEach ts X.env).map (·.2)) us) (λ_ s'=>∃aY H',Inv X pins aY H' s'/\Q aY H') X.xe s
abbrev Bh:=V->V->V->Hp->(Hp->Prop)->Prop
def F0(X:Cx)(t:Bh):Prop:=
 ∀(pins:List (Addr × Obj)) (s:Ab) (σ:St) (H:Hp) (o i v:V) (ov iv u:Aa) (Q:Hp->Prop),Inv X pins σ H s->RelV o ov->RelV i iv->RelV v u->t o i v H Q->
  wpAny (model X.prog X.w) X.A (setItem ov iv u) (λ_ s'=>∃H',Inv X pins σ H' s'/\Q H') X.xe s
section
variable{X:Cx}{pos:Pos}
def kI(i:Nat):TG:=λv σ H Q=>Q (σ.set i (some v)) H
theorem eO{i:Nat}{x:Str}(hN:X.N.Nodup)(hi:X.N[i]? = some x)(hx:Loc X.env.scope x)(hf:X.fn x=true∨X.env.scope.names.lookup x\.local:=by first|exact .inl Z|exact .inr Z|assumption):PG X (.Name x pos) (kI i):=by
 intro pins s σ H v u Q I r h;exact wpAny_assign_Name (S4 I hN hi hx r (λs' I'=>#[_,H,I',h]) hf)
theorem jq:type_of% PyProof.Rows.Boot.«isinstance»:=PyProof.Rows.Boot.«isinstance»
theorem ML:type_of% PyProof.Rows.Boot.«int»:=PyProof.Rows.Boot.«int»
theorem Ic:type_of% PyProof.Rows.Boot.«str»:=PyProof.Rows.Boot.«str»
theorem uV:type_of% PyProof.Rows.Boot.«tuple»:=PyProof.Rows.Boot.«tuple»
theorem yo:type_of% PyProof.Rows.Boot.«list»:=PyProof.Rows.Boot.«list»
theorem Jz:type_of% PyProof.Rows.Boot.«sorted»:=PyProof.Rows.Boot.«sorted»
theorem tQ:type_of% PyProof.Rows.Boot.«dict»:=PyProof.Rows.Boot.«dict»
theorem Qw(i:Nat){x:Str}(hN:X.N.Nodup:=by first|(show ([_]:List Str).Nodup;decide +kernel)|(show ([_,_]:List Str).Nodup;decide +kernel)|(show ([_,_,_]:List Str).Nodup;decide +kernel)|(show ([_,_,_,_]:List Str).Nodup;decide +kernel))(hi:X.N[i]? = some x:=by rfl)(hx:Loc X.env.scope x:=by first|exact Or.inl Z|exact Or.inr Z)(hf:X.fn x=true∨X.env.scope.names.lookup x\.local:=by first|exact .inl Z|exact .inr Z|assumption):PG X (.Name x pos) (kI i):=eO hN hi hx hf
theorem cz(i:Nat){x:Str}(hN:X.N.Nodup)(hi:X.N[i]? = some x:=by rfl)(hx:Loc X.env.scope x:=by first|exact Or.inl Z|exact Or.inr Z)(hf:X.fn x=true∨X.env.scope.names.lookup x\.local:=by first|exact .inl Z|exact .inr Z|assumption):PG X (.Name x pos) (kI i):=eO hN hi hx hf
def sr:Bj:=λvs σ H Q=>vs=[]/\Q σ H
inductive pN (t:TG) (u:Bj) (vs:ai) (σ:St) (H:Hp) (Q:pe):Prop
 |mk:∀v r,vs=v::r->(t v σ H λaY H'=>u r aY H' Q)->pN t u vs σ H Q
theorem jc:F1 X [] sr:=by
 intro pins s σ H vs us Q I r h;let#[e,h]:=h;subst e;cases r;exact assignInOrder_nil ⟨σ,H,I,h⟩
theorem dE{e:Expr}{es:List Expr}{t:TG}{u:Bj}(h1:PG X e t)(h2:F1 X es u)
  (hs:(assignEach (e::es) X.env).map (·.2)=assign e X.env::(assignEach es X.env).map (·.2):=by rfl):F1 X (e::es) (pN t u):=by
 intro pins s σ H vs us Q I r h;let#[v,vr,e1,h]:=h;subst e1;cases r with
 |cons r rr=>
  rw[hs];apply assignInOrder_cons (aO (h1 pins s σ H _ _ _ I r h) λ_ s1 ⟨mL,H1,I1,q1⟩=>?_);exact h2 pins s1 mL H1 _ _ Q I1 rr q1
inductive gF (K:aj) (n:Nat) (t:Bj) (v:V) (σ:St) (H:Hp) (Q:pe):Prop
 |mk:∀a xs,v=.ref a->ft K H a xs->xs.length=n->t xs σ H Q->gF K n t v σ H Q
theorem o7{es:List Expr}{k:Nat}{t:Bj}{n:Nat}(hc:X.calm=true)(h:F1 X es t)
  (hn:(assignEach es X.env).length=n:=by rfl) (zU:(assignEach es X.env).findIdx? (·.1)=none:=by rfl):PG X (.Tuple es k pos) (gF X.K n t):=by
 intro pins s σ H v u Q I r hw;let#[a,xs,e1,hq,hl,hw]:=hw;subst e1;cases r;let#[its,rv,ht,hz]:=I.tuple hq;apply assign_Tuple_tuple (I.ok.hd hc) ht (by simp[hn,<- hl,rv.length]) zU λh' hx=>?_;have I1:Inv X pins σ H { s with heap:=h' }:=I.kept (t':=s.toks) λb o e=>hx b o (dS (bz e)) e;exact h pins _ σ H xs _ Q I1 ⇑rv hw
def MO(to ti:TE)(t:Bh):TG:=λv σ H Q=>to σ H λo H1=>ti σ H1 λi H2=>t o i v H2 λH3=>Q σ H3
theorem Rz{o i:Expr}{to ti:TE}{t:Bh}(ho:PE X o to)(hi:PE X i ti)(hs:F0 X t)
  (ha:∀v,assign (.Subscript o i pos) X.env v=(do
   let ov <- holding [v] (eval o X.env)
   let iv <- holding [v,ov] (eval i X.env)
   standAt pos
   holding [v,ov,iv] (setItem ov iv v)
   release [v,ov,iv] []):=by intro _;rfl):PG X (.Subscript o i pos) (MO to ti t):=by
 intro pins s σ H v u Q I r h;rw[ha];apply af (i7 (aO (ho pins s σ H _ I h) λov s1 ⟨x,H1,I1,r1,q1⟩=>?_));apply af (i7 (aO (hi pins s1 σ H1 _ I1 q1) λiv s2 ⟨y,H2,I2,r2,q2⟩=>?_));apply af (wpAny_standAt (af (i7 (aO (hs pins s2 σ H2 x y v ov iv u _ I2 r1 r2 r q2) λ_ s3 ⟨H3,I3,q3⟩=>?_))));exact wpAny_release #[σ,H3,I3,q3]
def yQ(te:TE)(g:TG):TS:=λD σ H=>te σ H λx H1=>g x σ H1 D.nx
theorem IC{tg e:Expr}{te:TE}{g:TG}(he:PE X e te)(hg:PG X tg g)(hs:swapsWithSole [tg] e pos.line X.env=pure false:=by rfl)(hw:swappedStores [tg] e X.env=pure none:=by rfl)
  (h1:(assignEach [tg] X.env).map (·.2)=[assign tg X.env]:=by rfl):PS X (.Assign [tg] e pos) (yQ te g):=by
 intro pins s σ H D I h;apply wpAny_Assign_stores (aO (he pins s σ H _ I h) λv s1 ⟨x,H1,I1,r1,q1⟩=>?_) hs hw;rw[h1];exact aO (hg pins s1 σ H1 x v _ I1 r1 q1) λ_ s2 q=>q
theorem YV{i:Nat}{x:Str}{e:Expr}{te:TE}{pos':Pos}(hN:X.N.Nodup)(hi:X.N[i]? = some x)(hx:Loc X.env.scope x)(he:PE X e te)(hs:swapsWith e (some (.Name x pos')) pos.line X.env=pure false:=by rfl)(hf:X.fn x=true∨X.env.scope.names.lookup x\.local:=by first|exact .inl Z|exact .inr Z|assumption) :
  PS X (.Assign [.Name x pos'] e pos) (yQ te (kI i)):=by
 intro pins s σ H D I h;apply wpAny_Assign_Name (aO (he pins s σ H _ I h) λv s1 ⟨y,H1,I1,r1,q1⟩=>?_) hs;exact S4 I1 hN hi hx r1 (λs2 I2=>#[_,H1,I2,q1]) hf
theorem bq(i:Nat){x:Str}{e:Expr}{te:TE}{pos':Pos}(hN:X.N.Nodup)(he:PE X e te)(hi:X.N[i]? = some x:=by rfl)(hx:Loc X.env.scope x:=by first|exact Or.inl Z|exact Or.inr Z)(hs:swapsWith e (some (.Name x pos')) pos.line X.env=pure false:=by rfl)(hf:X.fn x=true∨X.env.scope.names.lookup x\.local:=by first|exact .inl Z|exact .inr Z|assumption):PS X (.Assign [.Name x pos'] e pos) (yQ te (kI i)):=YV hN hi hx he hs hf
end
section
variable{X:Cx}{pos:Pos}
def qb(c:TT)(tb:TS):TS:=λD σ H=>∃W:Nat->St->Hp->Prop,(∃m,W m σ H)/\∀m σ H,W m σ H->
 c σ H λb H1=>if b=true then ∃N:St->Hp->Prop,(∀aY H',N aY H'->∃m',m'<m/\W m' aY H')/\tb { D with nx:=N,ct:=N,bk:=D.nx } σ H1 else D.nx σ H1
theorem Jl{c:Expr}{body:List Stmt}{tc:TT}{tb:TS}(hp:PassesOwn (model X.prog X.w) X.A X.env X.xe)(hc:PT X c tc)(hb:j9 X body tb):PS X (.While c body [] pos) (qb tc tb):=by
 intro pins s σ H D I h;let#[W,#[m0,w0],turn]:=h;apply wpAny_While (codeAny_whileLoop (λn s'=>∃aY H',Inv X pins aY H' s'/\W n aY H') ?_ m0 #[σ,H,I,w0]);rintro n s1 ⟨mL,H1,I1,w1⟩;apply wpAny_passesOwn hp (aO (hc pins s1 mL H1 _ I1 (turn n mL H1 w1)) λb s2 ⟨H2,I2,q2⟩=>?_);cases b with
 |true=>
  let#[N,hN,q2]:=q2;rw[aI Z];apply wpAny_passesOwn hp (aO (hb pins s2 mL H2 _ I2 q2) λf s3 q3=>?_);cases f with
  |next=>
   let#[kj,H3,I3,n3]:=q3;let#[m',hm,w3]:=hN kj H3 n3;exact#[m',hm,kj,H3,I3,w3]
  |cont=>
   let#[kj,H3,I3,n3]:=q3;let#[m',hm,w3]:=hN kj H3 n3;exact#[m',hm,kj,H3,I3,w3]
  |brk=>exact q3
  |ret v=>exact q3
 |false=>
  rw[aB gK];exact wpAny_execs_nil #[mL,H2,I2,q2]
end
structure It where
 go:Nat->Hp->Prop
 u9:Nat->Hp->V->Hp->Prop
 stop:Nat->Hp->Prop
def dA(X:Cx)(pins:List (Addr × Obj))(H:Hp)(b:Addr):Prop:=
 H b=none/\b≠X.env.locals/\b∉X.fs/\(b∈X.ex∨X.df.heap.objs.size<=b)/\(∀x c,X.env.cells.lookup x\c->c≠b)/\∀p∈X.pn++pins,p.1≠b
theorem Inv.jN{X:Cx}{pins:List (Addr × Obj)}{σ:St}{H H':Hp}{s:Ab}{b:Addr}(I:Inv X pins σ H s)(hb:s.heap.objs.size<=b)(hn:H' b=none):dA X pins H' b:=by
 apply#[hn,jb (ju I.lt hb),I.KZ hb,.inr (iK I.sz hb),λx c e z=>?_,λp hp z=>?_]
 ·let#[v,q]:=I.cell x c e;exact absurd (ju q.lt (by rw[z];exact hb)) (tZ _)
 exact absurd (ju (bz (I.pin p hp).1) (by rw[z];exact hb)) (tZ _)
structure Turn (P:Ad) (w:Af) (K:aj) (tg:Expr) (J:It) (fp:au) (it:Addr) (tn:Nat->Heap->Prop):Prop where
 mem:it∈fp
 obj:∀i h,tn i h->∀b∈fp,∃o,h.get? b\o/\∀v,o.data≠.cell v
 keep:∀i h h',tn i h->(∀b∈fp,∀o,h.get? b\o->h'.get? b\o)->tn i h'
 item:∀(X:Cx),X.prog=P->X.w=w->X.K=K->X.calm=true->∀(i:Nat) (pins:List (Addr × Obj)) (s:Ab) (σ:St) (H:Hp) (E:Aa->Ab->Prop),Inv X pins σ H s->(∀b∈fp,dA X pins H b)->tn i s.heap->J.go i H->
  wpAny (model P w) X.A (pyNext (.ref it)) (λr s1=>∃u,r\u /\
   wpAny (model P w) X.A (letOwnedTupleGo tg (.ref it) u) (λ_ s2=>∃x H',Inv X pins σ H' s2/\RelV x u/\J.u9 i H x H'/\tn (i+1) s2.heap/\∀b∈fp,H' b=none) E s1) E s
 done:∀(X:Cx),X.prog=P->X.w=w->X.K=K->X.calm=true->∀(i:Nat) (pins:List (Addr × Obj)) (s:Ab) (σ:St) (H:Hp) (E:Aa->Ab->Prop),Inv X pins σ H s->(∀b∈fp,dA X pins H b)->tn i s.heap->J.stop i H->
  wpAny (model P w) X.A (pyNext (.ref it)) (λr s1=>r=none/\Inv X pins σ H s1) E s
 self:∀(A:Ag) (i:Nat) (s:Ab) (Q:Aa->Ab->Prop) (E:Aa->Ab->Prop),tn i s.heap->Q (.ref it) s->wpAny (model P w) A (pyIter (.ref it)) Q E s
abbrev TI:=St->Hp->(It->Hp->Prop)->Prop
def Vn(X:Cx)(pins:List (Addr × Obj))(σ:St)(tg:Expr)(R:It->Hp->Prop)(G7:Aa)(s2:Ab):Prop:=
 ∃(it:Addr) (fp:au) (tn:Nat->Heap->Prop) (J:It) (H':Hp),G7=.ref it/\Inv X pins σ H' s2/\Turn X.prog X.w X.K tg J fp it tn/\tn 0 s2.heap/\(∀b∈fp,dA X pins H' b)/\R J H'
def PI(X:Cx)(tg iter:Expr)(wi:TI):Prop:=
 ∀(pins:List (Addr × Obj)) (s:Ab) (σ:St) (H:Hp) (R:It->Hp->Prop),Inv X pins σ H s->wi σ H R->
  wpAny (model X.prog X.w) X.A (eval iter X.env) (λv s1=>wpAny (model X.prog X.w) X.A (pyIter v) (Vn X pins σ tg R) X.xe s1) X.xe s
theorem G8{M:Model}{A:Ag}{E:Aa->Ab->Prop}{s:Ab}{tg:Expr}{it:Addr}{u:Aa}{o:Obj}{n:String}{vs:Array Aa}{Q:Unit->Ab->Prop}(ho:s.heap.get? it\o)(hc:o.cls=.type n)(hd:o.data=.fields vs)
  (hn:["enumerate","zip","dict_itemiterator","dict_reverseitemiterator","odict_iterator","itertools.zip_longest","itertools.pairwise"].contains n=false) (hQ:Q () s):wpAny M A (letOwnedTupleGo tg (.ref it) u) Q E s:=by
 unfold letOwnedTupleGo
 cases tg<;>first
  |exact aE hQ
  |(cases u<;>first
    |exact aE hQ
    |(apply af (wpAny_load ho ?_)
      rw[hc,hd];show wpAny M A (if (["enumerate","zip","dict_itemiterator","dict_reverseitemiterator","odict_iterator","itertools.zip_longest","itertools.pairwise"].contains n&&vs[0]? == some (rawInt _))=true then _ else _) Q E s;rw[aB (by intro h;rw[hn,Bool.false_and] at h;cases h)];exact aE hQ))
def yD(K:aj)(a:Addr):It:=
 ⟨λi H=>∃xs x,dY K H a xs/\xs[i]? = some x,λi H x H'=>H'=H/\∀xs,dY K H a xs->xs[i]? = some x,λi H=>∃xs,dY K H a xs/\xs.length<=i⟩
def B8(lo:Int)(n:Nat):It:=⟨λi _=>i<n,λi H x H'=>H'=H/\x=.int (lo+i),λi _=>n<=i⟩
theorem gd_{P:Ad}{w:Af}{K:aj}{tg:Expr}(a it:Addr):Turn P w K tg (yD K a) [it] it (λi h=>h.IsListIter it a i) where
 mem:=by simp
 obj:=λi h st b hb=>by
  have e:b=it:=⇑hb
  subst e;let#[o,e,c,d]:=st;exact#[o,e,λv z=>by rw[d] at z;cases z]
 keep:=λi h h' st k=>st.at λo e=>k it Z2 o e
 item:=by
  intro X hP hw hK hc i pins s σ H E I hf st hg;subst hP hw hK;let#[xs,x,hq,hx]:=hg;let#[its,rv,p,hz]:=I.list hq;let#[u,hu,ru]:=rv.get hx;let#[f0,f1,f2,f3,f4,f5]:=hf it Z2;apply wpAny_pyNext_list_item st p.isList (x:=u) ⇑hu λh' fC sb=>?_;have I1:Inv X pins σ H { s with heap:=h' }:=I.turned (t':=s.toks) (λb o hb e=>(sb.2 b hb).trans e) f0 f1 f3 f4 f5;let#[o,e,c,d]:=id fC;exact#[u,Z,G8 (s:={ s with heap:=h' }) e c d (by decide) #[x,H,I1,ru,#[Z,λys hy=>by rw[I.jF hy hq];exact hx],fC,λb hb=>(hf b hb).1]]
 done:=by
  intro X hP hw hK hc i pins s σ H E I hf st hg;subst hP hw hK;let#[xs,hq,hx]:=hg;let#[its,rv,p,hz]:=I.list hq;let#[f0,f1,f2,f3,f4,f5]:=hf it Z2;let hl:=rv.length;exact wpAny_pyNext_list_end (I.ok.hd hc) st p.isList (by simp;omega) λh' eb=>#[Z,I.turned (t':=s.toks) (λb o hb e=>eb b o hb e) f0 f1 f3 f4 f5]
 self:=λ_ _ _ _ _ st h=>wpAny_pyIter_listiter st h
theorem fn_{P:Ad}{w:Af}{K:aj}{tg:Expr}(it:Addr)(lo:Int)(n:Nat):Turn P w K tg (B8 lo n) [it] it (λi h=>IsRangeIter h it (lo+(i:Nat) * 1) ((n:Int) - (i:Nat)) 1) where
 mem:=by simp
 obj:=λi h st b hb=>by
  have e:b=it:=⇑hb
  subst e
  exact#[_,st,λv z=>by
   have z':Data.fields _=Data.cell v:=z;cases z']
 keep:=λi h h' st k=>k it Z2 _ st
 item:=by
  intro X hP hw hK hc i pins s σ H E I hf st hg;subst hP hw hK;let#[f0,f1,f2,f3,f4,f5]:=hf it Z2;let W:=Walks.range (prog:=X.prog) (w:=X.w) (I.ok.hd hc) it lo 1 n;apply W.item i s _ _ hg st λv h' tk hv fC kk=>?_;let#[t,rfl]:=hv;have I1:Inv X pins σ H { s with heap:=h',toks:=tk }:=I.turned (λb o hb e=>kk b o ⇑hb e) f0 f1 f3 f4 f5;apply#[_,Z,G8 (s:={ s with heap:=h',toks:=tk }) (n:="range_iterator") fC Z Z (by decide) #[.int (lo+i),H,I1,#[t,?_],#[Z,Z],fC,λb hb=>(hf b hb).1]];rw[Int.mul_one]
 done:=by
  intro X hP hw hK hc i pins s σ H E I hf st hg;subst hP hw hK;let#[f0,f1,f2,f3,f4,f5]:=hf it Z2;exact wpAny_pyNext_range_end (I.ok.hd hc) st (by have:n<=i:=hg;omega) λh' eb=>#[Z,I.turned (t':=s.toks) (λb o hb e=>eb b o hb e) f0 f1 f3 f4 f5]
 self:=λ_ _ _ _ _ st h=>wpAny_pyIter_rangeiter st h
end L2
namespace L2
open PySem PySem.Spec PyProof.Rows
section
variable{X:Cx}{tg:Expr}
inductive r_ (K:aj) (R:It->Hp->Prop) (x:V) (H1:Hp):Prop
 |mk:∀a,x=.ref a->(∃xs,dY K H1 a xs)->R (yD K a) H1->r_ K R x H1
def DW(K:aj)(tl:TE):TI:=λσ H R=>tl σ H λx H1=>r_ K R x H1
theorem dI{l:Expr}{tl:TE}(hl:PE X l tl):PI X tg l (DW X.K tl):=by
 intro pins s σ H R I h;apply aO (hl pins s σ H _ I h) λv s1 ⟨x,H1,I1,r1,q1⟩=>?_;let#[a,e,#[xs,hq],q]:=q1;subst e;cases r1;let#[its,rv,p,hz]:=I1.list hq;apply wpAny_pyIter_list p.isList ?_;apply#[s1.heap.objs.size,[s1.heap.objs.size],_,_,H1,Z,I1.kept (t':=s1.toks) λb o e=>aU _ e,gd_ a _,#[_,cK _ Z,Z,Z],λb hb=>?_,q];have e:b=s1.heap.objs.size:=⇑hb
 subst e;exact I1.jN (bh _) (I1.aA.fresh (bh _))
theorem _G{pins:List (Addr × Obj)}{σ:St}{H:Hp}{s:Ab}{R:It->Hp->Prop}{E:Aa->Ab->Prop}{lo hi:Int}{t u v:Tok}{tk:Nat}(I:Inv X pins σ H s)(h1:-(2 ^ 62)<=lo)(h2:lo<2 ^ 62)(h3:-(2 ^ 62)<=hi)(h4:hi<2 ^ 62)
  (q:R (B8 lo (hi - lo).toNat) H):wpAny (model X.prog X.w) X.A (pyIter (.ref s.heap.objs.size)) (Vn X pins σ tg R) E { s with heap:=s.heap.push { cls:=.type "range",data:=.fields (List.toArray [.int lo t,.int hi u,.int 1 v]) },toks:=tk }:=by
 apply wpAny_pyIter_range (IsRange.new ..) (small_one h1 h2 h3 h4) ?_;have I1:Inv X pins σ H { s with heap:=s.heap.push { cls:=.type "range",data:=.fields (List.toArray [.int lo t,.int hi u,.int 1 v]) },toks:=tk }:=I.kept λb o e=>aU _ e
 apply#[(s.heap.push { cls:=.type "range",data:=.fields (List.toArray [.int lo t,.int hi u,.int 1 v]) }).objs.size,[(s.heap.push { cls:=.type "range",data:=.fields (List.toArray [.int lo t,.int hi u,.int 1 v]) }).objs.size],_,_,H,Z,
  I1.kept (t':=tk) λb o e=>aU _ e,fn_ _ lo (hi - lo).toNat,?_,λb hb=>?_,q]
 ·have e1:lo+((0:Nat):Int) * 1=lo:=by simp
  have e2:(((hi - lo).toNat:Nat):Int) - ((0:Nat):Int)=Builtin.Range.rangeSize lo hi 1:=by rw[rangeSize_one];split<;>omega
  show IsRangeIter _ _ (lo+((0:Nat):Int) * 1) ((((hi - lo).toNat:Nat):Int) - ((0:Nat):Int)) 1;rw[e1,e2];exact cK _ Z
 have e:b=(s.heap.push { cls:=.type "range",data:=.fields (List.toArray [.int lo t,.int hi u,.int 1 v]) }).objs.size:=⇑hb
 subst e;exact I1.jN (bh _) (I1.aA.fresh (bh _))
inductive r6 (R:It->Hp->Prop) (vs:ai) (H1:Hp):Prop
 |mk:∀j:Int,vs=[.int j]->-(2 ^ 62)<=j->j<2 ^ 62->R (B8 0 j.toNat) H1->r6 R vs H1
def DV(ta:TA):TI:=λσ H R=>ta σ H λvs H1=>r6 R vs H1
theorem wX{a:Expr}{ta:TA}{p pos:Pos}(hg:Gl X "range")(hm:X.mg "range"=none)(ha:PA X [a] ta)(hs:starEach [a] X.env=[(false,eval a X.env)]:=by rfl):PI X tg (.Call (.Name "range" p) [a] [] pos) (DV ta):=by
 intro pins s σ H R I h;apply Call_ (wM I hg hm boot_range (BR (aO (ha pos pins s σ H _ I h) λus s1 ⟨vs,H1,I1,r1,q1⟩=>?_) hs Z));let#[j,e,q1,q2,q]:=q1;subst e;cases r1 with
 |cons r rr=>
  cases rr;let#[t,rfl]:=r;exact call_range_1 (_G I1 Z1 Z1 q1 q2 ⇑q)
def Kj(wi:TI)(g:TG)(tb:TS):TS:=λD σ H=>wi σ H λJ H1=>∃W:Nat->Nat->St->Hp->Prop,(∃m,W 0 m σ H1)/\∀i m σ H,W i m σ H->
 (J.stop i H/\D.nx σ H)∨(J.go i H/\∃N:St->Hp->Prop,(∀aY H',N aY H'->∃m',m'<m/\W (i+1) m' aY H')/\∀x H',J.u9 i H x H'->g x σ H' λgg H2=>tb { D with nx:=N,ct:=N,bk:=D.nx } gg H2)
def wB(fp:au)(h:Heap):List (Addr × Obj):=fp.filterMap λb=>(h.get? b).map λo=>(b,o)
theorem JD{fp:au}{h:Heap}{b:Addr}{o:Obj}(hb:b∈fp)(e:h.get? b\o):(b,o)∈wB fp h:=yu.mpr #[b,hb,by rw[e];rfl]
theorem g9_{fp:au}{h:Heap}{p:Addr × Obj}(hp:p∈wB fp h):p.1∈fp/\h.get? p.1\p.2:=by
 let#[b,hb,e]:=yu.mp hp;cases q:h.get? b with
 |none=>rw[q] at e;cases e
 |some o=>
  rw[q] at e;have e':(b,o)=p:=cY e;subst e';exact#[hb,q]
theorem Inv.pinned{pins:List (Addr × Obj)}{σ:St}{H:Hp}{s:Ab}{fp:au}(I:Inv X pins σ H s)(hf:∀b∈fp,dA X pins H b)(ho:∀b∈fp,∃o,s.heap.get? b\o/\∀v,o.data≠.cell v):Inv X (pins++wB fp s.heap) σ H s:=
 I.nD λp hp=>(d9.mp hp).elim (λz=>I.pin p (mC _ z)) λz=>by
  let#[hb,e]:=g9_ z;let#[f0,f1,f2,_]:=hf p.1 hb;let#[o,e',d]:=ho p.1 hb;rw[e] at e';cases e';exact#[e,f0,f1,f2,d]
theorem Inv.eg{pins pl:List (Addr × Obj)}{σ:St}{H:Hp}{s:Ab}(I:Inv X (pins++pl) σ H s):Inv X pins σ H s:=I.nD λp hp=>I.pin p (mC _ (List.mem_append_left _ hp))
theorem eW{iter:Expr}{body:List Stmt}{wi:TI}{g:TG}{tb:TS}{pos:Pos}(hp:PassesOwn (model X.prog X.w) X.A X.env X.xe)(hc:X.calm=true)(hi:PI X tg iter wi)(hg:PG X tg g)(hb:j9 X body tb)
  (hs:∀x,foldedSetIterable iter X.env x=pure x:=by intro _;rfl):PS X (.For tg iter body [] pos) (Kj wi g tb):=by
 intro pins s σ H D I h;apply wpAny_For (aO (hi pins s σ H _ I h) λv s1 h1=>aO h1 λG7 s2 h2=>?_) hs;let#[it,fp,tn,J,H2,e,I2,T,fL,f2,W,#[m0,w0],turn]:=h2;subst e;have yR:∀{H':Hp},(∀b∈fp,H' b=none)->∀b∈fp,dA X pins H' b:=λhn b hb=>#[hn b hb,(f2 b hb).2];apply codeAny_forLoop_any (λn s'=>∃i aY H',Inv X pins aY H' s'/\tn i s'.heap/\(∀b∈fp,H' b=none)/\W i n aY H') ?_ m0 #[0,σ,H2,I2,fL,λb hb=>(f2 b hb).1,w0];rintro n s3 ⟨i,kj,H3,I3,iF,SN,w3⟩;rcases turn i n kj H3 w3 with⟨stop,qn⟩|⟨go,N,hN,step⟩
 ·apply wpAny_passesOwn hp (aO (T.done X Z Z Z hc i pins s3 kj H3 X.xe I3 (yR SN) iF stop) λr s4 ⟨hr,I4⟩=>?_);subst hr;exact wpAny_execs_nil #[kj,H3,I4,qn]
 apply wpAny_passesOwn hp (aO (T.item X Z Z Z hc i pins s3 kj H3 X.xe I3 (yR SN) iF go) λr s4 ⟨u,hr,h4⟩=>?_);subst hr;apply wpAny_passesOwn hp (aO h4 λ_ s5 ⟨x,H5,I5,r5,y5,hX,oY⟩=>?_);let I5':=I5.pinned (yR oY) (T.obj _ _ hX);apply wpAny_passesOwn hp (aO (hg _ s5 kj H5 x u _ I5' r5 (step x H5 y5)) λ_ s6 ⟨Vq,H6,I6,q6⟩=>?_);apply wpAny_passesOwn hp (aO (hb _ s6 Vq H6 _ I6 q6) λf s7 q7=>?_)
 have again:∀{p7:St} {H7:Hp},Inv X (pins++wB fp s5.heap) p7 H7 s7->N p7 H7->∃m,m<n/\∃i aY H',Inv X pins aY H' s7/\tn i s7.heap/\(∀b∈fp,H' b=none)/\W i m aY H':=λ{p7 H7} I7 n7=>by
  let#[m',hm,w7]:=hN p7 H7 n7;apply#[m',hm,i+1,p7,H7,I7.eg,T.keep _ _ _ hX λb hb o e=>(I7.pin (b,o) (mC _ (mC _ (JD hb e)))).1,λb hb=>?_,w7];let#[o,e,d]:=T.obj _ _ hX b hb;exact (I7.pin (b,o) (mC _ (mC _ (JD hb e)))).2.1
 cases f with
 |next=>let#[p7,H7,I7,n7]:=q7;exact again I7 n7
 |cont=>let#[p7,H7,I7,n7]:=q7;exact again I7 n7
 |brk=>let#[p7,H7,I7,q7]:=q7;exact#[p7,H7,I7.eg,q7]
 |ret v=>let#[x7,p7,H7,I7,r7,q7]:=q7;exact#[x7,p7,H7,I7.eg,r7,q7]
end
theorem ib{K:aj}{a:Addr}{xs:ai}{g:TG}{tb:TS}{D:Ends}{σ:St}{H:Hp}(Pv:b_)(h0:Pv 0 σ H)(hl:∀i σ H,i<=xs.length->Pv i σ H->dY K H a xs)
  (hs:∀i x σ H,xs[i]? = some x->Pv i σ H->g x σ H λgg H2=>tb { D with nx:=Pv (i+1),ct:=Pv (i+1),bk:=D.nx } gg H2) (hd:∀σ H,Pv xs.length σ H->D.nx σ H) :
  ∃W:Nat->Nat->St->Hp->Prop,(∃m,W 0 m σ H)/\∀i m σ H,W i m σ H->
   ((yD K a).stop i H/\D.nx σ H)∨((yD K a).go i H/\∃N:St->Hp->Prop,(∀aY H',N aY H'->∃m',m'<m/\W (i+1) m' aY H')/\∀x H',(yD K a).u9 i H x H'->g x σ H' λgg H2=>tb { D with nx:=N,ct:=N,bk:=D.nx } gg H2):=by
 apply#[λi m σ H=>m=xs.length - i/\i<=xs.length/\Pv i σ H,#[xs.length,by simp,gR _,h0],?_];rintro i m σ H ⟨rfl,hi,p⟩;let q:=hl i σ H hi p;by_cases d5:i<xs.length
 ·apply .inr #[#[xs,xs[i],q,by simp[d5]],Pv (i+1),λaY H' p'=>#[xs.length - (i+1),by omega,Z,d5,p'],λx H' y=>?_];let#[e,y]:=y;subst e;exact hs i x σ _ (y xs q) p
 have e:i=xs.length:=by omega
 subst e;exact .inl #[#[xs,q,bh _],hd σ H p]
theorem A4{lo:Int}{n:Nat}{g:TG}{tb:TS}{D:Ends}{σ:St}{H:Hp}(Pv:b_)(h0:Pv 0 σ H)
  (hs:∀i σ H,i<n->Pv i σ H->g (.int (lo+i)) σ H λgg H2=>tb { D with nx:=Pv (i+1),ct:=Pv (i+1),bk:=D.nx } gg H2) (hd:∀σ H,Pv n σ H->D.nx σ H) :
  ∃W:Nat->Nat->St->Hp->Prop,(∃m,W 0 m σ H)/\∀i m σ H,W i m σ H->
   ((B8 lo n).stop i H/\D.nx σ H)∨((B8 lo n).go i H/\∃N:St->Hp->Prop,(∀aY H',N aY H'->∃m',m'<m/\W (i+1) m' aY H')/\∀x H',(B8 lo n).u9 i H x H'->g x σ H' λgg H2=>tb { D with nx:=N,ct:=N,bk:=D.nx } gg H2):=by
 apply#[λi m σ H=>m=n - i/\i<=n/\Pv i σ H,#[n,by simp,gR _,h0],?_];rintro i m σ H ⟨rfl,hi,p⟩;by_cases d5:i<n
 ·apply .inr #[d5,Pv (i+1),λaY H' p'=>#[n - (i+1),by omega,Z,d5,p'],λx H' y=>?_];let#[e,y]:=y;subst e y;exact hs i σ _ d5 p
 have e:i=n:=by omega
 subst e;exact .inl #[bh _,hd σ H p]
theorem _E{c:TT}{tb:TS}{D:Ends}{σ:St}{H:Hp}(Pv:pe)(μ:St->Hp->Nat)(h0:Pv σ H)
  (hs:∀σ H,Pv σ H->c σ H λb H1=>if b=true then tb { D with nx:=λaY H'=>Pv aY H'/\μ aY H'<μ σ H,ct:=λaY H'=>Pv aY H'/\μ aY H'<μ σ H,bk:=D.nx } σ H1 else D.nx σ H1)
  (mono:∀σ H Q Q',(∀b H1,Q b H1->Q' b H1)->c σ H Q->c σ H Q'):qb c tb D σ H:=by
 apply#[λm σ H=>m=μ σ H/\Pv σ H,#[_,Z,h0],?_];rintro m σ H ⟨rfl,p⟩;apply mono σ H _ _ (λb H1 q=>?_) (hs σ H p);cases b with
 |true=>exact#[_,λaY H' ⟨p',l⟩=>#[_,l,Z,p'],q]
 |false=>exact q
end L2
namespace L2
open PySem PySem.Spec PyProof.Rows
abbrev R2:=V->V->Hp->VK->Prop
def dJ(X:Cx)(f:Aa->Aa->Sem Aa)(r:R2):Prop:=
 ∀(pins:List (Addr × Obj)) (s:Ab) (σ:St) (H:Hp) (x y:V) (v u:Aa) (Q:VK),Inv X pins σ H s->RelV x v->RelV y u->r x y H Q->
  wpAny (model X.prog X.w) X.A (f v u) (EP X pins σ Q) X.xe s
def PH(X:Cx)(f:Aa->Sem Aa)(r:V->Hp->VK->Prop):Prop:=
 ∀(pins:List (Addr × Obj)) (s:Ab) (σ:St) (H:Hp) (x:V) (v:Aa) (Q:VK),Inv X pins σ H s->RelV x v->r x H Q->
  wpAny (model X.prog X.w) X.A (f v) (EP X pins σ Q) X.xe s
def gy(X:Cx)(f:Aa)(r:ai->Hp->VK->Prop):Prop:=
 ∀(pins:List (Addr × Obj)) (s:Ab) (σ:St) (H:Hp) (xs:ai) (us:ag) (Q:VK),Inv X pins σ H s->Vals xs us->r xs H Q->
  wpAny (model X.prog X.w) X.A (call f us) (EP X pins σ Q) X.xe s
def Gh(r:R2)(ta tb:TE):TE:=λσ H Q=>ta σ H λx H1=>tb σ H1 λy H2=>r x y H2 Q
def Ws(r:V->Hp->VK->Prop)(ta:TE):TE:=λσ H Q=>ta σ H λx H1=>r x H1 Q
inductive rI (C:Int->Int->Prop) (g:Int->Int->V) (x:V) (y:V) (H:Hp) (Q:VK):Prop
 |mk:∀i j,x=.int i->y=.int j->C i j->Q (g i j) H->rI C g x y H Q
inductive vE (g:Int->Int->V) (x:V) (y:V) (H:Hp) (Q:VK):Prop
 |mk:∀i j,x=.int i->y=.int j->Q (g i j) H->vE g x y H Q
inductive rU (g:Int->V) (x:V) (H:Hp) (Q:VK):Prop
 |mk:∀i,x=.int i->Q (g i) H->rU g x H Q
section
variable{X:Cx}{a b c:Expr}{ta tb tc:TE}{pos:Pos}
theorem A2(ha:PE X a ta)(hb:PE X b tb){pins:List (Addr × Obj)}{s:Ab}{σ:St}{H:Hp}{R:V->V->Hp->Prop}(I:Inv X pins σ H s)
  (h:ta σ H λx H1=>tb σ H1 λy H2=>R x y H2) {Q:Aa->Ab->Prop} {f:Aa->Aa->Sem Aa}
  (hf:∀v u s2 x y H2,Inv X pins σ H2 s2->RelV x v->RelV y u->R x y H2->wpAny (model X.prog X.w) X.A (f v u) Q X.xe s2) :
  wpAny (model X.prog X.w) X.A (eval a X.env) (λv aL=>wpAny (model X.prog X.w) X.A (eval b X.env) (λu jw=>wpAny (model X.prog X.w) X.A (f v u) Q X.xe jw) X.xe aL) X.xe s:=by
 apply aO (ha pins s σ H _ I h) λv s1 ⟨x,H1,I1,r1,q1⟩=>?_;apply aO (hb pins s1 σ H1 _ I1 q1) λu s2 ⟨y,H2,I2,r2,q2⟩=>?_;exact hf v u s2 x y H2 I2 r1 r2 q2
theorem bN{op:Operator}{r:R2}(ho:dJ X (binaryOp op) r)(ha:PE X a ta)(hb:PE X b tb):PE X (.BinOp a op b pos) (Gh r ta tb):=by
 intro pins s σ H Q I h;exact wpAny_BinOp (A2 ha hb I h λv u s2 x y H2 I2 rx ry q=>ho pins s2 σ H2 x y v u Q I2 rx ry q)
theorem Lx{op:UnaryOp}{r:V->Hp->VK->Prop}(ho:PH X (unaryOp op) r)(ha:PE X a ta):PE X (.UnaryOp op a pos) (Ws r ta):=by
 intro pins s σ H Q I h;exact UnaryOp_ (aO (ha pins s σ H _ I h) λv s1 ⟨x,H1,I1,r1,q1⟩=>ho pins s1 σ H1 x v Q I1 r1 q1)
theorem Bt{f:Aa->Aa->Sem Aa}{C:Int->Int->Prop}{g:Int->Int->Int}
  (rule:∀(i j:Int) (t u:Tok) (s:Ab) (Q:Aa->Ab->Prop) (E:Aa->Ab->Prop),C i j->Q (.int (g i j) s.toks) { s with toks:=s.toks+1 }->wpAny (model X.prog X.w) X.A (f (.int i t) (.int j u)) Q E s) :
  dJ X f (rI C λi j=>.int (g i j)):=by
 intro pins s σ H x y v u Q I rx ry h;let#[i,j,rfl,rfl,hc,q]:=h;let#[t,rfl]:=rx;let#[t',rfl]:=ry;exact rule i j t t' s _ _ hc #[.int (g i j),H,I.tok _,#[_,Z],q]
theorem Dc{f:Aa->Aa->Sem Aa}{g:Int->Int->Int}
  (rule:∀(i j:Int) (t u:Tok) (s:Ab) (Q:Aa->Ab->Prop) (E:Aa->Ab->Prop),Q (.int (g i j) s.toks) { s with toks:=s.toks+1 }->wpAny (model X.prog X.w) X.A (f (.int i t) (.int j u)) Q E s) :
  dJ X f (vE λi j=>.int (g i j)):=by
 intro pins s σ H x y v u Q I rx ry h;let#[i,j,rfl,rfl,q]:=h;let#[t,rfl]:=rx;let#[t',rfl]:=ry;exact rule i j t t' s _ _ #[.int (g i j),H,I.tok _,#[_,Z],q]
theorem vG{f:Aa->Aa->Sem Aa}{g:Int->Int->Bool}
  (rule:∀(i j:Int) (t u:Tok) (s:Ab) (Q:Aa->Ab->Prop) (E:Aa->Ab->Prop),Q (.bool (g i j)) s->wpAny (model X.prog X.w) X.A (f (.int i t) (.int j u)) Q E s) :
  dJ X f (vE λi j=>.bl (g i j)):=by
 intro pins s σ H x y v u Q I rx ry h;let#[i,j,rfl,rfl,q]:=h;let#[t,rfl]:=rx;let#[t',rfl]:=ry;exact rule i j t t' s _ _ #[.bl (g i j),H,I,Z,q]
def P3(i j:Int):Prop:=0<j/\j<1073741824
def P2(i j:Int):Prop:=0<=j/\j<=1000000/\i.natAbs<2 ^ 64
def Bl(i j:Int):Prop:=(-(2 ^ 64)<i/\i<2 ^ 64)∨(-(2 ^ 64)<j/\j<2 ^ 64)
theorem Bl.ok{i j:Int}(h:Bl i j):IntMulOk i j:=by
 rcases h with⟨h1,h2⟩|⟨h1,h2⟩
 ·exact .of_left (intBits_le_64 h1 h2)
 exact .of_right (intBits_le_64 h1 h2)
theorem gM:dJ X (binaryOp .Add) (vE λi j=>.int (i+j)):=Dc λ_ _ _ _ _ _ _ q=>add_int q
theorem Iz:dJ X (binaryOp .Sub) (vE λi j=>.int (i - j)):=Dc λ_ _ _ _ _ _ _ q=>sub_int q
theorem pU:dJ X (binaryOp .Mult) (rI Bl λi j=>.int (i * j)):=Bt λ_ _ _ _ _ _ _ hc q=>mul_int q hc.ok
theorem FE:dJ X (binaryOp .FloorDiv) (rI P3 λi j=>.int (i / j)):=Bt λi j _ _ _ _ _ hc q=>by
 have h1:(0:Int)<j:=hc.1;have h2:j<1073741824:=hc.2;exact floordiv_int Z1 (by rw[Int.fdiv_eq_ediv_of_nonneg i Z1];exact q) (.inl (PyProof.noPylong_small Z1))
theorem yj:dJ X (binaryOp .Mod) (rI (λ_ j=>0<j) λi j=>.int (i % j)):=Bt λi j _ _ _ _ _ hc q=>by
 have h1:(0:Int)<j:=hc;exact mod_int' Z1 (by rw[Int.fmod_eq_emod_of_nonneg i Z1];exact q)
theorem Y2:dJ X (binaryOp .Pow) (rI P2 λi j=>.int (i ^ j.toNat)):=Bt λ_ _ _ _ _ _ _ hc q=>pow_int_small hc.1 hc.2.1 hc.2.2 q
theorem V7{f:Aa->Sem Aa}{g:Int->Int}
  (rule:∀(i:Int) (t:Tok) (s:Ab) (Q:Aa->Ab->Prop) (E:Aa->Ab->Prop),Q (.int (g i) s.toks) { s with toks:=s.toks+1 }->wpAny (model X.prog X.w) X.A (f (.int i t)) Q E s) :
  PH X f (rU λi=>.int (g i)):=by
 intro pins s σ H x v Q I rx h;let#[i,rfl,q]:=h;let#[t,rfl]:=rx;exact rule i t s _ _ #[.int (g i),H,I.tok _,#[_,Z],q]
theorem MN:PH X (unaryOp .USub) (rU λi=>.int (-i)):=V7 λ_ _ _ _ _ q=>neg_int q
end
def CU:V->V->Bool
 |.non,.non=>true | .non,.int _=>true | .int _,.non=>true | .non,.bl _=>true | .bl _,.non=>true | .non,.str _=>true | .str _,.non=>true
 |.int _,.int _=>true | .bl _,.bl _=>true | .str _,.str _=>true | .byt _,.byt _=>true
 |.int _,.str _=>true | .str _,.int _=>true | .bl _,.str _=>true | .str _,.bl _=>true
 |_,_=>false
def Xc:R2:=λx y H Q=>CU x y=true/\Q (.bl (decide (x=y))) H
def W9:R2:=λx y H Q=>CU x y=true/\Q (.bl (!decide (x=y))) H
theorem SC{i j:Int}:decide (V.int i=V.int j)=(i == j):=by
 rw[Bool.eq_iff_iff];simp
theorem Rx{i j:Bool}:decide (V.bl i=V.bl j)=(i == j):=by
 rw[Bool.eq_iff_iff];simp
theorem Sr{i j:Str}:decide (V.str i=V.str j)=(i == j):=by
 rw[Bool.eq_iff_iff];simp
theorem Sy{i j:Array UInt8}:decide (V.byt i=V.byt j)=(i.toList == j.toList):=by
 rw[Bool.eq_iff_iff];cases i;cases j;simp
section
variable{X:Cx}{a b c:Expr}{ta tb tc:TE}{pos:Pos}
theorem fA{pins:List (Addr × Obj)}{σ:St}{H:Hp}{s:Ab}{Q:VK}{k k':Bool}(I:Inv X pins σ H s)(q:Q (.bl k) H)(e:k=k'):EP X pins σ Q (.bool k') s:=by
 subst e;exact#[.bl k,H,I,Z,q]
theorem G_:dJ X (compareOp .Eq) Xc:=by
 intro pins s σ H x y v u Q I rx ry h;let#[hs,q]:=h;cases x with
 |non=>
  cases rx;cases y with
  |non=>cases ry;exact PySem.EqNone.eq_none_none (fA I q Z2)
  |bl j=>cases ry;exact PySem.EqNone.eq_none_bool (fA I q Z2)
  |int j=>let#[t',rfl]:=ry;exact PySem.EqNone.eq_none_int (fA I q Z2)
  |str j=>let#[t',rfl]:=ry;exact PySem.EqNone.eq_none_str (fA I q Z2)
  |_=>exact absurd (show false=true from hs) gK
 |bl i=>
  cases rx;cases y with
  |non=>cases ry;exact PySem.EqNone.eq_bool_none (fA I q Z2)
  |bl j=>cases ry;exact eq_bool (fA I q Rx)
  |str j=>let#[t',rfl]:=ry;exact PySem.EqMixed.eq_bool_str (fA I q Z2)
  |_=>exact absurd (show false=true from hs) gK
 |int i=>
  let#[t,rfl]:=rx;cases y with
  |non=>cases ry;exact PySem.EqNone.eq_int_none (fA I q Z2)
  |int j=>let#[t',rfl]:=ry;exact eq_int (fA I q SC)
  |str j=>let#[t',rfl]:=ry;exact PySem.EqMixed.eq_int_str (fA I q Z2)
  |_=>exact absurd (show false=true from hs) gK
 |str i=>
  let#[t,rfl]:=rx;cases y with
  |non=>cases ry;exact PySem.EqNone.eq_str_none (fA I q Z2)
  |bl j=>cases ry;exact PySem.EqMixed.eq_str_bool (fA I q Z2)
  |int j=>let#[t',rfl]:=ry;exact PySem.EqMixed.eq_str_int (fA I q Z2)
  |str j=>let#[t',rfl]:=ry;exact eq_str (fA I q Sr)
  |_=>exact absurd (show false=true from hs) gK
 |byt i=>
  let#[t,rfl]:=rx;cases y with
  |byt j=>let#[t',rfl]:=ry;exact PySem.W.eq_bytes (fA I q Sy)
  |_=>exact absurd (show false=true from hs) gK
 |_=>cases y<;>exact absurd (show false=true from hs) gK
theorem tH:dJ X (compareOp .NotEq) W9:=by
 intro pins s σ H x y v u Q I rx ry h;let#[hs,q]:=h;cases x with
 |non=>
  cases rx;cases y with
  |non=>cases ry;exact PySem.EqNone.ne_none_none (fA I q Z2)
  |bl j=>cases ry;exact PySem.EqNone.ne_none_bool (fA I q Z2)
  |int j=>let#[t',rfl]:=ry;exact PySem.EqNone.ne_none_int (fA I q Z2)
  |str j=>let#[t',rfl]:=ry;exact PySem.EqNone.ne_none_str (fA I q Z2)
  |_=>exact absurd (show false=true from hs) gK
 |bl i=>
  cases rx;cases y with
  |non=>cases ry;exact PySem.EqNone.ne_bool_none (fA I q Z2)
  |bl j=>cases ry;exact ne_bool (fA I q (d7 not Rx))
  |str j=>let#[t',rfl]:=ry;exact PySem.EqMixed.ne_bool_str (fA I q Z2)
  |_=>exact absurd (show false=true from hs) gK
 |int i=>
  let#[t,rfl]:=rx;cases y with
  |non=>cases ry;exact PySem.EqNone.ne_int_none (fA I q Z2)
  |int j=>let#[t',rfl]:=ry;exact ne_int (fA I q (d7 not SC))
  |str j=>let#[t',rfl]:=ry;exact PySem.EqMixed.ne_int_str (fA I q Z2)
  |_=>exact absurd (show false=true from hs) gK
 |str i=>
  let#[t,rfl]:=rx;cases y with
  |non=>cases ry;exact PySem.EqNone.ne_str_none (fA I q Z2)
  |bl j=>cases ry;exact PySem.EqMixed.ne_str_bool (fA I q Z2)
  |int j=>let#[t',rfl]:=ry;exact PySem.EqMixed.ne_str_int (fA I q Z2)
  |str j=>let#[t',rfl]:=ry;exact ne_str (fA I q (d7 not Sr))
  |_=>exact absurd (show false=true from hs) gK
 |byt i=>
  let#[t,rfl]:=rx;cases y with
  |byt j=>let#[t',rfl]:=ry;exact PySem.W.ne_bytes (fA I q (d7 not Sy))
  |_=>exact absurd (show false=true from hs) gK
 |_=>cases y<;>exact absurd (show false=true from hs) gK
theorem Q3:dJ X (compareOp .Lt) (vE λi j=>.bl (decide (i<j))):=vG λ_ _ _ _ _ _ _ q=>lt_int q
theorem x_:dJ X (compareOp .LtE) (vE λi j=>.bl (decide (i<=j))):=vG λ_ _ _ _ _ _ _ q=>le_int q
theorem Lw:dJ X (compareOp .Gt) (vE λi j=>.bl (decide (j<i))):=vG λ_ _ _ _ _ _ _ q=>gt_int q
theorem YE:dJ X (compareOp .GtE) (vE λi j=>.bl (decide (j<=i))):=vG λ_ _ _ _ _ _ _ q=>ge_int q
inductive UX (x:V) (y:V) (H:Hp) (Q:VK):Prop
 |mk:∀i j,x=.str i->y=.str j->Q (.bl (decide (i.cps.toList<j.cps.toList))) H->UX x y H Q
theorem hh_:dJ X (compareOp .Lt) UX:=by
 intro pins s σ H x y v u Q I rx ry h;let#[i,j,rfl,rfl,q]:=h;let#[t,rfl]:=rx;let#[t',rfl]:=ry;exact lt_str (fA I q rfl)
theorem RA:dJ X (compareOp .Is) (λx y H Q=>y=.non/\Q (.bl (decide (x=.non))) H):=by
 intro pins s σ H x y v u Q I rx ry h;let#[rfl,q]:=h;cases ry;apply is_none_gen (fA I q ?_)
 cases x<;>first
  |(cases rx;rfl)
  |(let#[t,rfl]:=rx;rfl)
theorem rP(b:Expr){op:CmpOp}(h:op≠.In:=by decide)(h2:op≠.NotIn:=by decide):behindInMarks op b=false:=by
 have e1:(op == CmpOp.In)=false:=by cases op<;>first|rfl|exact absurd rfl h
 have e2:(op == CmpOp.NotIn)=false:=by cases op<;>first|rfl|exact absurd rfl h2
 cases b<;>simp[behindInMarks,e1,e2]
theorem wQ{op:CmpOp}{r:R2}(ho:dJ X (compareOp op) r)(ha:PE X a ta)(hb:PE X b tb)(hm:behindInMarks op b=false:=by exact rP _):PE X (.Compare a [op] [b] pos) (Gh r ta tb):=by
 intro pins s σ H Q I h;exact wpAny_Compare1 (A2 ha hb I h λv u s2 x y H2 I2 rx ry q=>ho pins s2 σ H2 x y v u Q I2 rx ry q) hm
inductive qe (Q:Bool->Hp->Prop) (x:V) (H':Hp):Prop
 |mk:∀k,x=.bl k->Q k H'->qe Q x H'
def xf(t:TE):TT:=λσ H Q=>t σ H λx H'=>qe Q x H'
theorem fI{op:CmpOp}{r:R2}(ho:dJ X (compareOp op) r)(ha:PE X a ta)(hb:PE X b tb)(hm:behindInMarks op b=false:=by exact rP _):PT X (.Compare a [op] [b] pos) (xf (Gh r ta tb)):=by
 intro pins s σ H Q I h
 apply wpAny_isTrue_Compare1 (aO (ha pins s σ H _ I h) λv s1 ⟨x,H1,I1,r1,q1⟩=>aO (hb pins s1 σ H1 _ I1 q1) λu s2 ⟨y,H2,I2,r2,q2⟩=>
  aO (ho pins s2 σ H2 x y v u _ I2 r1 r2 q2) λc s3 ⟨z,H3,I3,r3,k,e,q3⟩=>?_) hm
 subst e;cases r3;exact uJ #[H3,I3,q3]
inductive mQ (r':R2) (tc:TE) (σ:St) (Q:VK) (y:V) (z:V) (H3:Hp):Prop
 |mk:∀k,z=.bl k->(if k=true then tc σ H3 λw' H4=>r' y w' H4 Q else Q (.bl false) H3)->mQ r' tc σ Q y z H3
def qk(r r':R2)(ta tb tc:TE):TE:=λσ H Q=>ta σ H λx H1=>tb σ H1 λy H2=>r x y H2 λz H3=>mQ r' tc σ Q y z H3
theorem TB{op zy:CmpOp}{r r':R2}(ho:dJ X (compareOp op) r)(nO:dJ X (compareOp zy) r')(ha:PE X a ta)(hb:PE X b tb)(hc:PE X c tc)
  (hm:lastMarks [op,zy] [b,c]=false:=by with_unfolding_all rfl):PE X (.Compare a [op,zy] [b,c] pos) (qk r r' ta tb tc):=by
 intro pins s σ H Q I h
 apply Compare_chain (aO (ha pins s σ H _ I h) λv s1 ⟨x,H1,I1,r1,q1⟩=>chain_link (aO (hb pins s1 σ H1 _ I1 q1) λu s2 ⟨y,H2,I2,r2,q2⟩=>
  aO (ho pins s2 σ H2 x y v u _ I2 r1 r2 q2) λd s3 ⟨z,H3,I3,r3,k,e,q3⟩=>?_)) hm
 subst e;cases r3;apply uJ ?_;cases k with
 |false=>exact ite_ff #[.bl false,H3,I3,Z,q3]
 |true=>exact ite_tt (chain_last (aO (hc pins s3 σ H3 _ I3 q3) λw' s4 ⟨z',H4,I4,r4,q4⟩=>nO pins s4 σ H4 y z' u w' Q I4 r2 r4 q4))
theorem Ts{op zy:CmpOp}{r r':R2}(ho:dJ X (compareOp op) r)(nO:dJ X (compareOp zy) r')(ha:PE X a ta)(hb:PE X b tb)(hc:PE X c tc)
  (hm:lastMarks [op,zy] [b,c]=false:=by with_unfolding_all rfl):PT X (.Compare a [op,zy] [b,c] pos) (xf (qk r r' ta tb tc)):=by
 intro pins s σ H Q I h
 apply isTrue_chain (aO (ha pins s σ H _ I h) λv s1 ⟨x,H1,I1,r1,q1⟩=>test_link (aO (hb pins s1 σ H1 _ I1 q1) λu s2 ⟨y,H2,I2,r2,q2⟩=>
  aO (ho pins s2 σ H2 x y v u _ I2 r1 r2 q2) λd s3 ⟨z,H3,I3,r3,k,e,q3⟩=>?_)) hm
 subst e;cases r3;apply uJ ?_;cases k with
 |false=>
  let#[k',e',q']:=q3;cases e';exact ite_ff #[H3,I3,q']
 |true=>
  apply ite_tt (test_last (aO (hc pins s3 σ H3 _ I3 q3) λw' s4 ⟨z',H4,I4,r4,q4⟩=>aO (nO pins s4 σ H4 y z' u w' _ I4 r2 r4 q4) λd' s5 ⟨z2,H5,I5,r5,k2,e2,q5⟩=>?_));subst e2;cases r5;exact uJ #[H5,I5,q5]
theorem gh:(sizeLine:Nat)<2 ^ 63:=by rw[cJ];decide
inductive U7 (x:V) (y:V) (H:Hp) (Q:VK):Prop
 |mk:∀i j,x=.str i->y=.str j->i.length+j.length<=sizeLine->Q (.str (i++j)) H->U7 x y H Q
theorem fw_:dJ X (binaryOp .Add) U7:=by
 intro pins s σ H x y v u Q I rx ry h;let#[i,j,rfl,rfl,hz,q]:=h;let#[t,rfl]:=rx;let#[t',rfl]:=ry;exact add_str (λt' tk=>⟨.str (i++j),H,I.tok _,⟨_,rfl⟩,q⟩) hz
theorem vals1{x:V}{us:ag}(r:Vals [x] us):∃u,us=[u]/\RelV x u:=by
 cases r with
 |cons r1 r2=>cases r2;exact#[_,Z,r1]
theorem vals2{x y:V}{us:ag}(r:Vals [x,y] us):∃u w',us=[u,w']/\RelV x u/\RelV y w':=by
 cases r with
 |cons r1 r2=>
  cases r2 with
  |cons r3 r4=>cases r4;exact#[_,_,Z,r1,r3]
inductive T6 (xs:ai) (H:Hp) (Q:VK):Prop
 |mk:∀i,xs=[.int i]->Q (.int (if i<0 then -i else i)) H->T6 xs H Q
theorem hq_:gy X (.builtin "abs") T6:=by
 intro pins s σ H xs us Q I r h;let#[i,rfl,q]:=h;let#[u,rfl,t,rfl]:=vals1 r;exact call_abs_int λu tk=>#[.int (if i<0 then -i else i),H,I.tok _,#[_,Z],q]
inductive U0 (xs:ai) (H:Hp) (Q:VK):Prop
 |mk:∀i j,xs=[.int i,.int j]->Q (.int (if j > i then j else i)) H->U0 xs H Q
theorem hg_(hc:X.calm=true):gy X (.builtin "max") U0:=by
 intro pins s σ H xs us Q I r h;let#[i,j,rfl,q]:=h;let#[u,w',rfl,#[t,rfl],#[t',rfl]]:=vals2 r;apply max_two_ints (I.ok.hd hc) λh' tk k=>#[_,H,I.kept k,?_,q];by_cases hj:j > i
 ·rw[aI hj,aI hj];exact#[_,Z]
 rw[aB hj,aB hj];exact#[_,Z]
theorem Uq:gy X (.type "int") (λxs H Q=>(∃i,xs=[.int i]/\Q (.int i) H)∨∃k,xs=[.bl k]/\Q (.int (if k then 1 else 0)) H):=by
 intro pins s σ H xs us Q I r h;rcases h with⟨i,rfl,q⟩|⟨k,rfl,q⟩
 ·let#[u,rfl,t,rfl]:=vals1 r;exact call_int_int #[.int i,H,I,#[_,Z],q]
 let#[u,rfl,r1]:=vals1 r;cases r1;exact call_int_bool #[.int (if k then 1 else 0),H,I.tok _,#[_,Z],q]
end
end L2
namespace L2
open PySem PySem.Spec PyProof.Rows
structure mF (h:Heap) (x dx C:Addr) (mA:Str->Option Aa):Prop where
 obj:h.get? x\PySem.W.instObj C dx
 ns:h.Ns1 dx mA
 ne:dx≠x
theorem gb_{h:Heap}{dx:Addr}{mA:Str->Option Aa}(n:h.Ns1 dx mA):∃od,h.get? dx\od/\∀name,PySem.W.lookIn name od\mA name:=by
 let#[o,es,ep,ho,hd,hk,_,hm]:=n;apply#[o,ho,λname=>?_];let e:=hm name;unfold nsFind findBy at e;rw[<- Array.find?_toList] at e;unfold PySem.W.lookIn;rw[hd];dsimp only;split
 ·rename_i y q
  rw[q] at e;exact d7 some e
 rename_i q
 rw[q] at e
 have a:es.toList.any (·.refKey)=false:=by
  rw[List.any_eq_false];intro y hy;let#[z,t,L4]:=hk y (Array.mem_toList_iff.mp hy);simp[DictEntry.refKey,L4]
 have a':¬es.toList.any (·.refKey)=true:=by rw[a];exact gK
 rw[aB a'];exact d7 some e
theorem mF.look{h:Heap}{x dx C:Addr}{mA:Str->Option Aa}(I:mF h x dx C mA):∃od,PySem.W.InstAt h x (PySem.W.instObj C dx) C (some od)/\∀name,PySem.W.lookIn name od\mA name:=
 let #[od,ho,hl]:=gb_ I.ns
 #[od,#[I.obj,Z,Z,ho],hl]
section
variable{prog:Ad}{w:Af}{A:Ag}{E:Aa->Ab->Prop}{s:Ab}{K:aj}{x dx C f:Addr}{mA:Str->Option Aa}{name:Str}{v:Aa}
theorem ZG{expr:Bool}{Q:Aa->Ab->Prop}(X:K.In s.heap)(I:mF s.heap x dx C mA)(hg:PySem.W.plainGet K C name=true)(hh:PySem.W.hasDictIn K C=true)
  (ha:PySem.W.findIn K (.ref C) name\none) (hv:mA name\v) (DZ:PySem.W.handedIn v=true) (h:Q v { s with toks:=s.toks+1 }) :
  wpAny (model prog w) A (getAttr (.ref x) name expr) Q E s:=by
 let#[od,J,hl]:=I.look;exact PySem.W.get_value X J (PySem.W.plainGet_of hg).1 (PySem.W.findObj_own hh ha Z (by rw[hl,hv])) DZ h
theorem hC_{pl:Sem Bool}{Q:Aa × ag->Ab->Prop}(X:K.In s.heap)(I:mF s.heap x dx C mA)(hg:PySem.W.plainGet K C name=true)
  (hf:PySem.W.findIn K (.ref C) name\some (.ref f)) (ht:PySem.W.isFn K (.ref f)=true) (hv:mA name=none) (h:Q (.ref f,[.ref x]) s) :
  wpAny (model prog w) A (getMethod (.ref x) name pl) Q E s:=by
 let#[od,J,hl]:=I.look;exact PySem.W.method_fn X J (PySem.W.plainGet_of hg).1 (PySem.W.plainGet_of hg).2 hf (beq_iff_eq.mp ht) (by show (PySem.W.lookIn name od).map (·.isSome)=some false;rw[hl,hv];rfl) h
theorem ZN{ns:ae}{Q:Unit->Ab->Prop}(X:K.In s.heap)(I:mF s.heap x dx C mA)
  (hs:PySem.W.findIn K (.ref C) "__setattr__"\some (.builtin "object.__setattr__")) (hp:PySem.W.plainOver K C=true) (ht:PySem.W.takerIn K C name\none) (hh:PySem.W.hasDictIn K C=true)
  (hw:PySem.Within mA ns) (hsz:ns.length<=sizeLine)
  (h:∀h',mF h' x dx C (λy=>if y=name then some v else mA y)->Heap.SameBut dx s.heap h'->Q () { s with heap:=h',toks:=s.toks+2 }) :
  wpAny (model prog w) A (setAttr (.ref x) name v) Q E s:=by
 let#[od,J,hl]:=I.look;apply PySem.W.set_plain X J hs (PySem.W.osa_open (s:={ s with toks:=s.toks+1 }) (r:=none) X J hp ht λb=>?_);let#[cd,hc,iV]:=PySem.W.any_some hh;have hx:s.heap.get? x=some #[.ref C,some dx,.plain,#[]]:=I.obj;apply af (aE (af (af (wpAny_loadPart hx (af (PySem.W.Looks.here (s:={ s with toks:=s.toks+1 }) (PySem.W.looks_clsIn X hc) ?_))))));rw[iV];apply aE (a:=some dx) (af (aE (af ?_)));apply wpAny_nsSet1 (s:={ s with toks:=s.toks+1 }) I.ns λh' xS vY=>?_;let#[oD,esD,epD,hoD,hdD,hcD]:=xS.count (PySem.Within.cons name v hw);apply af (wpAny_lookBehind hoD (by rw[hdD];exact pastItsLine_dict (iK hcD (by rw[jt];omega))) ?_);exact aE (h _ #[(vY.2 _ (bJ I.ne)).trans I.obj,xS,I.ne] vY)
theorem hZ_{R:Result->Ab->Prop}{vs:ag}{kw:List (Str × Aa)}(X:K.In s.heap)(hm:PySem.W.makesIn K C=true)
  (hi:PySem.W.findIn K (.ref C) "__init__"\some (.ref f)) (hf:PySem.W.typeIn K (.ref f)\.type "function")
  (h:codeAny (model prog w) (A.under (.builtin "type.__call__" #[.ref C::vs,kw])) (.call (.ref f) #[.ref (s.heap.objs.size+1)::vs,kw]) (PySem.W.InitBack (s.heap.objs.size+1) R)
   { s with heap:=(s.heap.push PySem.W.emptyDict).push (PySem.W.instObj C s.heap.objs.size) }) :
  codeAny (model prog w) A (.call (.ref C) #[vs,kw]) R s:=by
 let#[hh,g,d,t,os]:=s;exact PySem.W.make_core (PySem.W.makes_of X hm) (PySem.W.looks_findIn X hi) (λself=>PySem.W.bind_fn X self hf) (.inl Z) h
end
def az(f:Str)(v:V):List (Str × V)->List (Str × V)
 |[]=>[(f,v)]
 |(g,x)::r=>if g=f then (g,v)::r else (g,x)::az f v r
theorem gj(f g:Str)(v:V):∀fs:List (Str × V),(az f v fs).lookup g=if g=f then some v else fs.lookup g
 |[]=>by
  show List.lookup g [(f,v)]=_;by_cases h:g=f
  ·have hb:(g == f)=true:=beq_iff_eq.mpr h;simp only[List.lookup,hb,aI h]
  ·have hb:(g == f)=false:=beq_eq_false_iff_ne.mpr h;simp only[List.lookup,hb,aB h]
 |(k,x)::r=>by
  let ih:=gj f g v r;rw[show az f v ((k,x)::r)=(if k=f then (k,v)::r else (k,x)::az f v r) from Z];by_cases hk:k=f
  ·rw[aI hk];by_cases h:g=k
   ·have hb:(g == k)=true:=beq_iff_eq.mpr h;simp only[List.lookup,hb,aI (h.trans hk)]
   have hb:(g == k)=false:=beq_eq_false_iff_ne.mpr h;simp only[List.lookup,hb,aB (λe:g=f=>h (e.trans hk.symm))]
  rw[aB hk];by_cases h:g=k
  ·have hb:(g == k)=true:=beq_iff_eq.mpr h;simp only[List.lookup,hb,aB (λe:g=f=>hk (h.symm.trans e))]
  have hb:(g == k)=false:=beq_eq_false_iff_ne.mpr h;simp only[List.lookup,hb];exact ih
theorem OD(f:Str)(v:V):∀fs:List (Str × V),f∈(az f v fs).map (·.1)/\∀g,g∈fs.map (·.1)->g∈(az f v fs).map (·.1)
 |[]=>#[by simp[az],λg h=>by simp at h]
 |(k,x)::r=>by
  let#[i1,i2]:=OD f v r;rw[show az f v ((k,x)::r)=(if k=f then (k,v)::r else (k,x)::az f v r) from Z];by_cases hk:k=f
  ·rw[aI hk];subst hk;exact#[by simp,λg h=>by simpa using h]
  rw[aB hk];apply#[?_,λg h=>?_]
  ·rw[eI];exact fP _ i1
  rw[eI] at h ⊢;rcases bV.mp h with e|e
  ·exact bV.mpr (.inl e)
  exact fP _ (i2 g e)
theorem UV(f:Str)(v:V):∀fs:List (Str × V),(az f v fs).length<=fs.length+1
 |[]=>by simp[az]
 |(k,x)::r=>by
  let ih:=UV f v r;rw[show az f v ((k,x)::r)=(if k=f then (k,v)::r else (k,x)::az f v r) from Z];by_cases hk:k=f
  ·rw[aI hk,jt,jt];omega
  rw[aB hk,jt,jt];omega
theorem eR.some_of{v:V}{o:Option Aa}(r:eR (some v) o):∃u,o\u/\RelV v u:=by
 cases o with
 |none=>exact (show False from r).elim
 |some u=>exact#[u,Z,r]
theorem eR.none_of{o:Option Aa}(r:eR none o):o=none:=by
 cases o with
 |none=>rfl
 |some u=>exact (show False from r).elim
theorem gn_{v:V}{u:Aa}(r:RelV v u):PySem.W.handedIn u=true:=by
 cases v with
 |non=>cases (show u=Value.none from r);rfl
 |bl b=>cases (show u=Value.bool b from r);rfl
 |int i=>let#[t,e]:=(show ∃t,u=Value.int i t from r);cases e;rfl
 |str x=>let#[t,e]:=(show ∃t,u=Value.str x t from r);cases e;rfl
 |byt b=>let#[t,e]:=(show ∃t,u=Value.bytes b t from r);cases e;rfl
 |flt b=>let#[t,e]:=(show ∃t,u=Value.float b t from r);cases e;rfl
 |ref a=>cases (show u=Value.ref a from r);rfl
 |ty n=>cases (show u=Value.type n from r);rfl
section
variable{P:Ad}{w:Af}{H H':Hp}{h h':Heap}{a C dx:Addr}{fs fs':List (Str × V)}
theorem IL(aA:fR P w H h)(e:H a\.ins C dx fs):∃mA,mF h a dx C mA/\(∀f,eR (fs.lookup f) (mA f))/\PySem.Within mA (fs.map (·.1))/\fs.length<=1000/\H dx\.own a:=by
 let#[d,z,ne,ob,mA,n,r,q]:=(show fw P w H h a (.ins C dx fs) from aA a _ e);exact#[mA,#[ob,n,ne],r,q,z,d]
end
structure mJ (K:aj) (C:Addr):Prop where
 pg:PySem.W.plainGet K C Str.empty=true
 hd:PySem.W.hasDictIn K C=true
 po:PySem.W.plainOver K C=true
 sa:PySem.W.findIn K (.ref C) "__setattr__"\some (.builtin "object.__setattr__")
theorem mJ.get{K:aj}{C:Addr}(c:mJ K C)(f:Str):PySem.W.plainGet K C f=true:=c.pg
def mj(K:aj)(C:Addr)(f:Str):Prop:=PySem.W.findIn K (.ref C) f=some none
theorem mj.Cy{K:aj}{C:Addr}{f:Str}(n:mj K C f):PySem.W.takerIn K C f\none:=by
 unfold PySem.W.takerIn;rw[show PySem.W.findIn K (.ref C) f\none from n];rfl
structure Con (K:aj) (C:Addr) (f:Str) (v:V) (u:Aa):Prop where
 at_:PySem.W.findIn K (.ref C) f\some u
 rel:RelV v u
 get:PySem.W.specialIn K u "__get__"\none
 cp:PySem.W.copiedNames.contains f=false
structure Meth (K:aj) (C:Addr) (m:Str) (f:Addr):Prop where
 at_:PySem.W.findIn K (.ref C) m\some (.ref f)
 fn:PySem.W.isFn K (.ref f)=true
 kp:PySem.W.keepIn K (.ref f)=true
section
variable{X:Cx}{pins:List (Addr × Obj)}{σ:St}{H:Hp}{s:Ab}{a C dx:Addr}{fs:List (Str × V)}{f:Str}{v:V}{A:Ag}{E:Aa->Ab->Prop}
theorem f9_{b:Bool}{Q:Aa->Ab->Prop}(I:Inv X pins σ H s)(e:H a\.ins C dx fs)(c:mJ X.K C)(n:mj X.K C f)(l:fs.lookup f\v)
  (h:∀u s',Inv X pins σ H s'->RelV v u->Q u s'):wpAny (model X.prog X.w) A (getAttr (.ref a) f b) Q E s:=by
 let#[mA,O,r,_,_,_]:=IL I.aA e;let#[u,hu,ru]:=eR.some_of (v:=v) (o:=mA f) (by rw[<- l];exact r f);exact ZG I.gE O (c.get f) c.hd n hu (gn_ ru) (h u _ (I.tok _) ru)
theorem T9{m:Str}{g:Addr}{pl:Sem Bool}{Q:Aa × ag->Ab->Prop}(I:Inv X pins σ H s)(e:H a\.ins C dx fs)(c:mJ X.K C)(k:Meth X.K C m g)(l:fs.lookup m=none)
  (h:Q (.ref g,[.ref a]) s):wpAny (model X.prog X.w) A (getMethod (.ref a) m pl) Q E s:=by
 let#[mA,O,r,_,_,_]:=IL I.aA e;have hn:mA m=none:=eR.none_of (by rw[<- l];exact r m);exact hC_ I.gE O (c.get m) k.at_ k.fn hn h
theorem fC_{y:V}{u:Aa}{Q:Unit->Ab->Prop}(I:Inv X pins σ H s)(e:H a\.ins C dx fs)(c:mJ X.K C)(n:mj X.K C f)(hl:fs.length<1000)(ry:RelV y u)
  (h:∀s',Inv X pins σ (upd H a (.ins C dx (az f y fs))) s'->Q () s'):wpAny (model X.prog X.w) A (setAttr (.ref a) f u) Q E s:=by
 let#[mA,O,r,wi,_,ho]:=IL I.aA e;have hz:(fs.map (·.1)).length<=sizeLine:=by rw[aq,cJ];omega
 apply ZN I.gE O c.sa c.po n.Cy c.hd wi hz λh' O' sb=>h _ ?_;have hd:∃o,h'.get? dx\o:=let #[o,_,_,e',_]:=O'.ns;#[o,e'];apply I.write (x:=a) (e:=dx) (by rw[e];exact True.intro) (.inr ho) (λb q hb z=>(sb.2 b hb).trans z) hd ?_;apply#[by rw[ax O.ne];exact ho,?_,O.ne,O'.obj,_,O'.ns,λg=>?_,λg hg=>?_]
 ·have:=UV f y fs;omega
 ·show eR ((az f y fs).lookup g) (if g=f then some u else mA g);rw[gj];by_cases q:g=f
  ·rw[aI q,aI q];exact ry
  rw[aB q,aB q];exact r g
 by_cases q:g=f
 ·rw[q];exact (OD f y fs).1
 apply (OD f y fs).2 g (wi g λz=>hg ?_);show (if g=f then some u else mA g)=none;rw[aB q];exact z
theorem Inv.made(I:Inv X pins σ H s):Inv X pins σ (upd (upd H s.heap.objs.size (.own (s.heap.objs.size+1))) (s.heap.objs.size+1) (.ins C s.heap.objs.size []))
  { s with heap:=(s.heap.push PySem.W.emptyDict).push (PySem.W.instObj C s.heap.objs.size) }:=by
 have e1:(s.heap.push PySem.W.emptyDict).get? s.heap.objs.size\PySem.W.emptyDict:=cK s.heap Z
 have e2:((s.heap.push PySem.W.emptyDict).push (PySem.W.instObj C s.heap.objs.size)).get? (s.heap.objs.size+1)\PySem.W.instObj C s.heap.objs.size:=by
  have:=cK (s.heap.push PySem.W.emptyDict) (o:=PySem.W.instObj C s.heap.objs.size) Z;rwa [md] at this
 have e3:(s.heap.push PySem.W.emptyDict).Ns s.heap.objs.size (λ_=>none):=#[PySem.W.emptyDict,#[],_,e1,Z,(λe he=>absurd he Z2),λ_=>rfl];let I1:=I.laid (a:=s.heap.objs.size) (o:=.own (s.heap.objs.size+1)) (h':=s.heap.push PySem.W.emptyDict) (t':=s.toks) (λb u q=>aU _ q) (bh _) #[_,e1];apply I1.laid (a:=s.heap.objs.size+1) (o:=.ins C s.heap.objs.size []) (t':=s.toks) (λb u q=>aU _ q) (Nat.le_of_eq (md _ _)) ?_;have ne:s.heap.objs.size≠s.heap.objs.size+1:=dS (Nat.lt_succ_self _);apply#[by rw[ax ne,ay],gR _,ne,e2,λ_=>none,(Heap.Ns1.of_empty e3).at λo q=>aU _ q,λ_=>True.intro,λy hy=>absurd Z hy]
theorem Zl{prog:Ad}{w:Af}{env:Env}{e:Expr}{f:Str}{pos:Pos}{s:Ab}{Q:Aa->Ab->Prop}(hb:attributeBase e f env (eval e env)=eval e env)
  (h:wpAny (model prog w) A (eval e env) (λo aL=>wpAny (model prog w) A (getAttr o f true) Q E aL) E s):wpAny (model prog w) A (eval (.Attribute e f pos) env) Q E s:=
 Attribute_any_ h (by rw[arm_eval_Attribute,hb])
end
inductive xj (K:aj) (f:Str) (Q:VK) (x:V) (H1:Hp):Prop
 |mk:∀a C dx fs v,x=.ref a->H1 a\.ins C dx fs->mJ K C->mj K C f->fs.lookup f\v->Q v H1->xj K f Q x H1
def Kk(K:aj)(ta:TE)(f:Str):TE:=λσ H Q=>ta σ H λx H1=>xj K f Q x H1
inductive xv (K:aj) (f:Str) (D:Ends) (σ:St) (y:V) (x:V) (H2:Hp):Prop
 |mk:∀a C dx fs,x=.ref a->H2 a\.ins C dx fs->mJ K C->mj K C f->fs.length<1000->D.nx σ (upd H2 a (.ins C dx (az f y fs)))->xv K f D σ y x H2
def KC(K:aj)(ta tv:TE)(f:Str):TS:=λD σ H=>tv σ H λy H1=>ta σ H1 λx H2=>xv K f D σ y x H2
section
variable{X:Cx}{o e value:Expr}{f:Str}{pos pos' Cv:Pos}{ta tv:TE}
theorem gN(he:PE X e ta)(hb:attributeBase e f X.env (eval e X.env)=eval e X.env):PE X (.Attribute e f pos) (Kk X.K ta f):=by
 intro pins s σ H Q I h;apply Zl hb (aO (he pins s σ H _ I h) λu s1 ⟨x,H1,I1,rx,a,C,dx,fs,v,ex,ea,c,n,l,q⟩=>?_);subst ex;obtain rfl:u=Value.ref a:=rx;exact f9_ I1 ea c n l λu' s2 I2 ru=>#[v,H1,I2,ru,q]
theorem uU(ha:PE X o ta)(hv:PE X value tv)(hs:swapsWith value (some (.Attribute o f pos')) pos.line X.env=pure false):PS X (.Assign [.Attribute o f pos'] value pos) (KC X.K ta tv f):=by
 intro pins s σ H D I h;apply plainObj_wpAny_Assign_Attribute (aO (hv pins s σ H _ I h) λu s1 ⟨y,H1,I1,ry,q⟩=>aO (ha pins s1 σ H1 _ I1 q) λov s2 ⟨x,H2,I2,rx,a,C,dx,fs,ex,ea,c,n,l,q2⟩=>?_) hs;subst ex;obtain rfl:ov=Value.ref a:=rx;exact fC_ I2 ea c n l ry λs3 I3=>#[σ,_,I3,q2]
end
section
variable{X:Cx}{pins:List (Addr × Obj)}{σ:St}{H:Hp}{s:Ab}{A:Ag}{E:Aa->Ab->Prop}{Q:Aa->Ab->Prop}{c:Aa}{b:Bool}
inductive fJ (K:aj) (H:Hp):V->Aa->Prop where
 |non:fJ K H .non (.type "NoneType")
 |bl (x:Bool):fJ K H (.bl x) (.type "bool")
 |int (i:Int):fJ K H (.int i) (.type "int")
 |str (x:Str):fJ K H (.str x) (.type "str")
 |flt (x:UInt64):fJ K H (.flt x) (.type "float")
 |lst {a:Addr} {xs:ai} (e:H a\.lst xs):fJ K H (.ref a) (.type "list")
 |frz {a:Addr} {o:Obj} {xs:ai} (e:H a\.frz o (.lst xs)):fJ K H (.ref a) (.type "list")
 |tup {a:Addr} {xs:ai} (e:H a\.tup xs):fJ K H (.ref a) (.type "tuple")
 |dK {a:Addr} {kvs:List (Key × V)} (e:H a\.dK kvs):fJ K H (.ref a) (.type "dict")
 |dT {a:Addr} {kvs:List (av × V)} (e:H a\.dT kvs):fJ K H (.ref a) (.type "dict")
 |ins {a C dx:Addr} {fs:List (Str × V)} (e:H a\.ins C dx fs) (cl:mJ K C) (ha:PySem.W.findIn K (.ref C) "__class__"\some (.builtin "object.__class__"))
   (hn:PySem.W.specialIn K (.builtin "object.__class__") "__get__"\some (.builtin "getset_descriptor.__get__")) (Hd:PySem.W.takesIn K (.builtin "object.__class__")\true)
   (hm:PySem.W.mroIn K C (.type "object")\true):fJ K H (.ref a) (.ref C)
theorem Uu{x:V}{u t:Aa}(I:Inv X pins σ H s)(rx:RelV x u)(ty:fJ X.K H x t)(e:PySem.W.kitOne X.K t c\b)(h:∀tk,Q (.bool b) { s with toks:=tk }) :
  wpAny (model X.prog X.w) A (call (.builtin "isinstance") [u,c]) Q E s:=by
 cases ty with
 |non=>cases (show u=Value.none from rx);exact tj PySem.W.kitx_none I.gE True.intro e nofun h
 |bl y=>cases (show u=Value.bool y from rx);exact tj PySem.W.kitx_bool I.gE True.intro e nofun h
 |int i=>let#[t,q]:=(show ∃t,u=Value.int i t from rx);cases q;exact tj PySem.W.kitx_int I.gE True.intro e nofun h
 |str y=>let#[t,q]:=(show ∃t,u=Value.str y t from rx);cases q;exact tj PySem.W.kitx_str I.gE True.intro e nofun h
 |flt y=>let#[t,q]:=(show ∃t,u=Value.float y t from rx);cases q;exact tj PySem.W.kitx_float I.gE True.intro e nofun h
 |@lst a xs ea=>
  cases (show u=Value.ref a from rx);let#[_,_,n,_,h1]:=(show fw X.prog X.w H s.heap a (.lst xs) from I.aA a _ ea);exact tj PySem.W.kitx_list I.gE #[_,h1,Z] e nofun h
 |@frz a ob xs ea=>
  cases (show u=Value.ref a from rx);let#[_,_,_,n,_,h1]:=(show fw X.prog X.w H s.heap a (.frz ob (.lst xs)) from I.aA a _ ea);exact tj PySem.W.kitx_list I.gE #[_,h1,Z] e nofun h
 |@tup a xs ea=>
  cases (show u=Value.ref a from rx);let#[_,_,_,p,_]:=(show fw X.prog X.w H s.heap a (.tup xs) from I.aA a _ ea);let#[o,h1,h2,_]:=p;exact tj PySem.W.kitx_tuple I.gE #[o,h1,h2] e nofun h
 |@dK a kvs ea=>
  cases (show u=Value.ref a from rx);let#[_,_,vs,_,p]:=(show fw X.prog X.w H s.heap a (.dK kvs) from I.aA a _ ea);let#[o,es,ep,h1,h2,_]:=p;exact tj PySem.W.kitx_dict I.gE #[o,h1,h2.1] e nofun h
 |@dT a kvs ea=>
  cases (show u=Value.ref a from rx);let#[_,_,xs,_,o,es,ep,h1,h2,_]:=(show fw X.prog X.w H s.heap a (.dT kvs) from I.aA a _ ea);exact tj PySem.W.kitx_dict I.gE #[o,h1,h2.1] e nofun h
 |@ins a C dx fs ea cl ha hn Hd hm=>
  cases (show u=Value.ref a from rx);let#[mA,O,_]:=IL I.aA ea;let#[od,J,_]:=O.look;exact tj (PySem.W.kitx_own (cl.get _) cl.hd ha hn Hd hm) I.gE J e nofun h
end
end L2
namespace L2
open PySem PySem.Spec PyProof.Rows
structure aP (k:Nat) (A:Ag):Prop where
 hd:A.handled=none
 dp:A.depth+3 * k+5<recursionLimit
 un:A.units+16 * k+200<cLine
theorem aP.mono{j k:Nat}{A:Ag}(r:aP k A)(h:j<=k):aP j A:=#[r.hd,by have:=r.dp;omega,by have:=r.un;omega]
theorem aP.deeper{k:Nat}{A:Ag}(r:aP (k+1) A)(env:Env):aP k (A.deeper env):=
 #[r.hd,by have:=r.dp;show A.depth+1+3 * k+5<_;omega,by have:=r.un;show A.units+3+16 * k+200<_;omega]
theorem aP.in1{k:Nat}{A:Ag}(r:aP (k+1) A):aP k A.in1:=
 #[r.hd,by have:=r.dp;show A.depth+3 * k+5<_;omega,by have:=r.un;show A.units+1+16 * k+200<_;omega]
theorem fG_{A:Ag}{C:Addr}{us:ag}{kw:List (Str × Aa)}:(A.under (.builtin "type.__call__" #[.ref C::us,kw])).depth=A.depth+1:=by
 first|rfl|simp[Around.under,Code.weight,Code.isCreation,Code.isGuard,Code.isCaller,Code.frames,Code.isFrame,guardIds]
theorem fd_{A:Ag}{C:Addr}{us:ag}{kw:List (Str × Aa)}:(A.under (.builtin "type.__call__" #[.ref C::us,kw])).units=A.units+1:=by
 first|rfl|simp[Around.under,Code.cUnits,Code.frames,Code.isFrame]
theorem aP.make{k:Nat}{A:Ag}(r:aP (k+1) A)(C:Addr)(us:ag)(kw:List (Str × Aa)):aP k (A.under (.builtin "type.__call__" #[.ref C::us,kw])):=
 #[r.hd,by have:=r.dp;rw[fG_];omega,by have:=r.un;rw[fd_];omega]
theorem aP.depth{k:Nat}{A:Ag}(r:aP k A):A.depth<recursionLimit:=by have:=r.dp;omega
theorem aP.units{k:Nat}{A:Ag}(r:aP k A):A.units+64<cLine:=by have:=r.un;omega
def oG:TA:=λ_ H Q=>Q [] H
def jv(ta:TE)(tr:TA):TA:=λσ H Q=>ta σ H λx H1=>tr σ H1 λxs H2=>Q (x::xs) H2
section
variable{X:Cx}{e:Expr}{es:List Expr}{te:TE}{t:TA}{pos:Pos}
theorem bP:PA X [] oG:=λ_ _ _ _ H Q I h=>Calls.spliced_nil #[[],H,I,.nil,h]
theorem iQ(ha:PE X e te)(hr:PA X es t)(hs:starEach (e::es) X.env=(false,eval e X.env)::starEach es X.env:=by rfl):PA X (e::es) (jv te t):=by
 intro pos pins s σ H Q I h;rw[hs];show wpAny _ _ (spliced ((false,eval e X.env)::backTo pos (starEach es X.env))) _ _ s;apply Calls.spliced_cons (aO (ha pins s σ H _ I h) λu s1 ⟨x,H1,I1,r1,q1⟩=>?_);exact aO (hr pos pins s1 σ H1 _ I1 q1) λus s2 ⟨xs,H2,I2,r2,q2⟩=>#[x::xs,H2,I2,.cons r1 r2,q2]
def CB(t:TA):TE:=λσ H Q=>t σ H λxs H1=>xs.length<=sizeLine/\∀p,H1 p=none->Q (.ref p) (upd H1 p (.tup xs))
def Kg(t:TA):TE:=λσ H Q=>t σ H λxs H1=>xs.length<=sizeLine/\∀p,H1 p=none->Q (.ref p) (upd H1 p (.lst xs))
theorem gf{x1}(h:PA X es t):PE X (.Tuple es x1 pos) (CB t):=by
 intro pins s σ H Q I hq;apply wpAny_Tuple_spliced (aO (h pos pins s σ H _ I hq) λus s1 ⟨xs,H1,I1,r,z,q⟩=>#[by rw[<- r.length];exact z,?_]);have hf:H1 s1.heap.objs.size=none:=I1.aA.fresh (bh _);apply#[.ref s1.heap.objs.size,upd H1 s1.heap.objs.size (.tup xs),I1.laid (t':=s1.toks) (λb u e=>aU _ e) (bh _) ?_,Z,q _ hf];exact#[z,us,r,#[_,cK _ Z,Z,_,Z],_,cK _ Z,Z]
theorem fQ(h:PA X es t):PE X (.List es pos) (Kg t):=by
 intro pins s σ H Q I hq;apply wpAny_List_spliced (aO (h pos pins s σ H _ I hq) λus s1 ⟨xs,H1,I1,r,z,q⟩=>#[by rw[<- r.length];exact z,?_]);have hf:H1 s1.heap.objs.size=none:=I1.aA.fresh (bh _);apply#[.ref s1.heap.objs.size,upd H1 s1.heap.objs.size (.lst xs),I1.laid (t':=s1.toks) (λb u e=>aU _ e) (bh _) ?_,Z,q _ hf];exact#[z,us,0,r,cK _ Z]
end
abbrev Sp:=ai->Hp->VK->XK->Prop
abbrev kL:=List Env->Hp->Ab->XK->Aa->Ab->Prop
structure iE (P:Ad) (w:Af) (K:aj) (mg:Str->Option Aa) (base:Heap) (A:Ag) (outer:List Env) (s:Ab) (H:Hp):Prop where
 frames:A.frames\outer
 mod:Mod K mg base
 bs:∀b o,base.get? b\o->s.heap.get? b\o/\H b=none
 tL:base.objs.size<=s.heap.objs.size
 fW:s.heap.FunFrames base outer
 wk:∀b∈oX outer,H b=none
 aA:fR P w H s.heap
 bare:AllBare s.gens
def CE(outer:List Env)(P:Ad)(w:Af)(H:Hp)(s:Ab)(Q:VK)(u:Aa)(s':Ab):Prop:=
 ∃v H',s'.os=s.os/\AllBare s'.gens/\Un (oX outer) [] H H' s.heap s'.heap/\fR P w H' s'.heap/\RelV v u/\Q v H'
def CR(CX:kL)(outer:List Env)(P:Ad)(w:Af)(H:Hp)(s:Ab)(Q:VK)(E:XK)(r:Result)(s':Ab):Prop:=
 match r with
 |.ok (.ret u)=>CE outer P w H s Q u s'
 |.ok _=>False
 |.error e=>CX outer H s E e s'
structure ao (P:Ad) (w:Af) (K:aj) (mg:Str->Option Aa) (base:Heap) (CX:kL) (k:Nat) (f:Addr) (fd:Ae) (ps:ae) (sp:Sp):Prop where
 len:∀vs H Q E,sp vs H Q E->vs.length=ps.length
 run:∀(A:Ag) (outer:List Env) (s:Ab) (H:Hp) (args:Args) (us:ag) (vs:ai) (Q:VK) (E:XK),aP k A->iE P w K mg base A outer s H->BindsTo s fd args (ps.zip us)->Vals vs us->sp vs H Q E->
  codeAny (model P w) A (.call (.ref f) args) (CR CX outer P w H s Q E) s
theorem ao.imp{P:Ad}{w:Af}{K:aj}{mg:Str->Option Aa}{base:Heap}{CX:kL}{k:Nat}{f:Addr}{fd:Ae}{ps:ae}{sp Bq:Sp}(F:ao P w K mg base CX k f fd ps sp)
  (h:∀vs H Q E,Bq vs H Q E->sp vs H Q E):ao P w K mg base CX k f fd ps Bq:=
 #[λvs H Q E q=>F.len vs H Q E (h _ _ _ _ q),λA outer s H args us vs Q E hr he hb hv hs=>F.run A outer s H args us vs Q E hr he hb hv (h _ _ _ _ hs)]
theorem iE.make{P:Ad}{w:Af}{K:aj}{mg:Str->Option Aa}{base:Heap}{A:Ag}{outer:List Env}{s:Ab}{H:Hp}(e:iE P w K mg base A outer s H)(C:Addr)(us:ag)(kw:List (Str × Aa)) :
  iE P w K mg base (A.under (.builtin "type.__call__" #[.ref C::us,kw])) outer s H:=#[by first|exact e.frames|(simpa [Around.under,Code.envs,Code.isFrame,pushEnvs] using e.frames),e.mod,e.bs,e.tL,e.fW,e.wk,e.aA,e.bare]
section
variable{X:Cx}{pins:List (Addr × Obj)}{σ:St}{H:Hp}{s s':Ab}
theorem Inv.AD(I:Inv X pins σ H s):iE X.prog X.w X.K X.mg X.base X.A X.stack s H:=
 #[I.ok.frames,I.ok.mod,I.bs,iK I.ok.tL I.sz,I.stack,I.mR,I.aA,I.bare]
theorem Inv.after{Q:VK}{u:Aa}(I:Inv X pins σ H s)(h:CE X.stack X.prog X.w H s Q u s'):EP X pins σ Q u s':=by
 let#[v,H',os,bare,un,aA,r,q]:=h;let#[hh,g,d,t,XE]:=s';obtain rfl:XE=s.os:=os;exact#[v,H',I.call (h':=hh) (g':=g) (d':=d) (t':=t) (ch:=[]) un aA bare (λb z=>absurd z Z2),r,q]
end
def xo(sp:Sp)(gG:ai)(E:XK)(t:TA):TE:=λσ H Q=>t σ H λvs H1=>sp (vs++gG) H1 Q E
inductive qh (C:Addr) (m:Str) (sp:Sp) (gG:ai) (E:XK) (t:TA) (σ:St) (Q:VK) (x:V) (H1:Hp):Prop
 |mk:∀a dx fs,x=.ref a->H1 a\.ins C dx fs->fs.lookup m=none->(t σ H1 λvs H2=>sp (x::(vs++gG)) H2 Q E)->qh C m sp gG E t σ Q x H1
def mP(C:Addr)(m:Str)(sp:Sp)(gG:ai)(E:XK)(ta:TE)(t:TA):TE:=λσ H Q=>ta σ H λx H1=>qh C m sp gG E t σ Q x H1
def xh(C:Addr)(sp:Sp)(gG:ai)(E:XK)(t:TA):TE:=λσ H Q=>t σ H λvs H1=>∀x dx,H1 x=none->H1 dx=none->dx≠x->
 sp (.ref x::(vs++gG)) (upd (upd H1 dx (.own x)) x (.ins C dx [])) (λv H2=>v=.non/\Q (.ref x) H2) E
def pK(K:aj)(fd:Ae)(ps:ae)(ds:ag):Prop:=
 ∀(s:Ab) (us:ag),K.In s.heap->(us++ds).length=ps.length->BindsTo s fd #[us,[]] (ps.zip (us++ds))
theorem pK.all{K:aj}{fd:Ae}{ps:ae}(h:∀us:ag,us.length=ps.length->bindArgs fd #[us,[]]=pure (ps.zip us)):pK K fd ps []:=λs us _ hl=>by
 rw[List.append_nil] at hl ⊢;exact .of_eq (h us hl)
def wW(CX:kL)(X:Cx)(E:XK):Prop:=∀(pins:List (Addr × Obj)) (σ:St) (H:Hp) (s:Ab) (e:Aa) (s':Ab),Inv X pins σ H s->CX X.stack H s E e s'->X.xe e s'
section
variable{X:Cx}{CX:kL}{k:Nat}{f C:Addr}{fd:Ae}{ps:ae}{sp:Sp}{gG:ai}{ds:ag}{E:XK}{x m:Str}{p pos apos:Pos}{e o:Expr}{es:List Expr}{ta:TE}{t:TA}
theorem MQ{pins:List (Addr × Obj)}{σ:St}{H:Hp}{s:Ab}{Q:VK}{us:ag}{vs:ai}(F:ao X.prog X.w X.K X.mg X.base CX k f fd ps sp)(hr:aP k X.A)(hb:pK X.K fd ps ds)(hd:Vals gG ds)(hx:wW CX X E)
  (I:Inv X pins σ H s) (r:Vals vs us) (h:sp (vs++gG) H Q E):wpAny (model X.prog X.w) X.A (call (.ref f) us) (EP X pins σ Q) X.xe s:=by
 have r2:Vals (vs++gG) (us++ds):=r.append hd;have hl:(us++ds).length=ps.length:=by rw[<- r2.length];exact F.len _ _ _ _ h
 apply wpAny_call (codeAny_mono (F.run X.A X.stack s H #[us,[]] (us++ds) (vs++gG) Q E hr I.AD (hb s us I.gE hl) r2 h) λr s' hq=>?_);cases r with
 |error e=>exact hx pins σ H s e s' I hq
 |ok fl=>
  cases fl with
  |ret u=>exact I.after hq
  |next=>exact False.elim hq
  |brk=>exact False.elim hq
  |cont=>exact False.elim hq
theorem _n(F:ao X.prog X.w X.K X.mg X.base CX k f fd ps sp)(hr:aP k X.A)(hg:Gl X x)(hm:X.mg x\.ref f)(hk:PySem.W.keepIn X.K (.ref f)=true)(hb:pK X.K fd ps ds)(hd:Vals gG ds)(hx:wW CX X E)
  (ha:PA X (e::es) t) (si:(x == ("__debug__":Str))=false:=by decide) (he:starEach (e::es) X.env=(false,eval e X.env)::starEach es X.env:=by rfl) (iq:(backTo pos (starEach es X.env)).any (·.1)=false:=by rfl) :
  PE X (.Call (.Name x p) (e::es) [] pos) (xo sp gG E t):=by
 intro pins s σ H Q I h;apply wpAny_Call_Name_kw (M7 I hg hm ?_ si);apply PySem.W.callWith_K (h₀:=X.base) I.ok.mod.DQ hk (aO (ha pos pins s σ H _ I h) λus s1 ⟨vs,H1,I1,r,q⟩=>#[I1.gE,?_]) he iq;exact MQ F hr hb hd hx I1 r q
theorem ZS{pl:Sem Bool}(he:PE X o ta)(c:mJ X.K C)(hm:Meth X.K C m f)(F:ao X.prog X.w X.K X.mg X.base CX k f fd ps sp)(hr:aP k X.A)(hb:pK X.K fd ps ds)(hd:Vals gG ds)(hx:wW CX X E)(ha:PA X (e::es) t)
  (zU:starEach (e::es) X.env=(false,eval e X.env)::starEach es X.env:=by rfl) (iq:(backTo pos (starEach es X.env)).any (·.1)=false:=by rfl)
  (ht:eval (.Call (.Attribute o m apos) (e::es) [] pos) X.env=(do
   let ov <- eval o X.env
   standAt apos.atName
   let (f,first) <- holding [ov] (getMethod ov m pl)
   callWith pos f first (backTo pos (starEach (e::es) X.env)) (backToKw pos (keywordEach [] X.env))):=by rfl) :
  PE X (.Call (.Attribute o m apos) (e::es) [] pos) (mP C m sp gG E ta t):=by
 intro pins s σ H Q I h;apply PySem.W.methodCall_KW (pl:=pl) (aO (he pins s σ H _ I h) λu s1 ⟨x,H1,I1,rx,a,dx,fs,ex,ea,l,q⟩=>?_) ht;subst ex;obtain rfl:u=Value.ref a:=rx;apply T9 I1 ea c hm l ?_;apply PySem.W.callWith_K (first:=[.ref a]) (h₀:=X.base) I.ok.mod.DQ hm.kp (aO (ha pos pins s1 σ H1 _ I1 q) λus s2 ⟨vs,H2,I2,r,q2⟩=>#[I2.gE,?_]) zU iq;exact MQ (us:=.ref a::us) (vs:=.ref a::vs) F hr hb hd hx I2 (.cons Z r) q2
theorem _Y{pl:Sem Bool}(he:PE X o ta)(c:mJ X.K C)(hm:Meth X.K C m f)(F:ao X.prog X.w X.K X.mg X.base CX k f fd ps sp)(hr:aP k X.A)(hb:pK X.K fd ps ds)(hd:Vals gG ds)(hx:wW CX X E)
  (ht:eval (.Call (.Attribute o m apos) [] [] pos) X.env=(do
   let ov <- eval o X.env
   standAt apos.atName
   let (f,first) <- holding [ov] (getMethod ov m pl)
   callWith pos f first (backTo pos (starEach [] X.env)) (backToKw pos (keywordEach [] X.env))):=by rfl) :
  PE X (.Call (.Attribute o m apos) [] [] pos) (mP C m sp gG E ta oG):=by
 intro pins s σ H Q I h;apply PySem.W.methodCall_KW (pl:=pl) (aO (he pins s σ H _ I h) λu s1 ⟨x,H1,I1,rx,a,dx,fs,ex,ea,l,q⟩=>?_) ht;subst ex;obtain rfl:u=Value.ref a:=rx;apply T9 I1 ea c hm l ?_;exact PySem.W.callWith_K0 (first:=[.ref a]) I1.gE hm.kp (MQ (us:=[.ref a]) (vs:=[.ref a]) F hr hb hd hx I1 (.cons Z .nil) q)
structure Mk (K:aj) (C f:Addr):Prop where
 makes:PySem.W.makesIn K C=true
 init:PySem.W.findIn K (.ref C) "__init__"\some (.ref f)
 fn:PySem.W.isFn K (.ref f)=true
 kp:PySem.W.keepIn K (.ref C)=true
theorem hQ_{pins:List (Addr × Obj)}{σ:St}{H:Hp}{s:Ab}{Q:VK}{us:ag}{vs:ai}(M:Mk X.K C f)(F:ao X.prog X.w X.K X.mg X.base CX k f fd ps sp)(hr:aP (k+1) X.A)(hb:pK X.K fd ps ds)(hd:Vals gG ds)
  (hx:wW CX X E) (I:Inv X pins σ H s) (r:Vals vs us)
  (h:∀x dx,H x=none->H dx=none->dx≠x->sp (.ref x::(vs++gG)) (upd (upd H dx (.own x)) x (.ins C dx [])) (λv H2=>v=.non/\Q (.ref x) H2) E) :
  wpAny (model X.prog X.w) X.A (call (.ref C) us) (EP X pins σ Q) X.xe s:=by
 let hq:=h (s.heap.objs.size+1) s.heap.objs.size (I.aA.fresh (Nat.le_succ _)) (I.aA.fresh (bh _)) (dS (Nat.lt_succ_self _));let I2:=Inv.made (C:=C) I;have r2:Vals (V.ref (s.heap.objs.size+1)::(vs++gG)) (Value.ref (s.heap.objs.size+1)::(us++ds)):=.cons Z (r.append hd)
 have hl:(Value.ref (s.heap.objs.size+1)::us++ds).length=ps.length:=by
  let e:=r2.length;rw[F.len _ _ _ _ hq] at e;exact e.symm
 apply wpAny_call (hZ_ (f:=f) I.gE M.makes M.init (beq_iff_eq.mp M.fn) (codeAny_mono (F.run _ X.stack _ _ #[Value.ref (s.heap.objs.size+1)::us,[]] (Value.ref (s.heap.objs.size+1)::(us++ds)) _ _ E (hr.make C us [])
  (I2.AD.make C us []) (hb _ (Value.ref (s.heap.objs.size+1)::us) I2.gE hl) r2 hq) λr s' hq'=>?_))
 cases r with
 |error e=>exact hx pins σ _ _ e s' I2 hq'
 |ok fl=>
  cases fl with
  |ret u=>
   let#[v,H',I3,rv,ev,q3]:=I2.after hq';subst ev;exact#[rv,#[V.ref (s.heap.objs.size+1),H',I3,Z,q3]]
  |next=>exact False.elim hq'
  |brk=>exact False.elim hq'
  |cont=>exact False.elim hq'
theorem _j(M:Mk X.K C f)(F:ao X.prog X.w X.K X.mg X.base CX k f fd ps sp)(hr:aP (k+1) X.A)(hg:Gl X x)(hm:X.mg x\.ref C)(hb:pK X.K fd ps ds)(hd:Vals gG ds)(hx:wW CX X E)
  (ha:PA X (e::es) t) (si:(x == ("__debug__":Str))=false:=by decide) (he:starEach (e::es) X.env=(false,eval e X.env)::starEach es X.env:=by rfl) (iq:(backTo pos (starEach es X.env)).any (·.1)=false:=by rfl) :
  PE X (.Call (.Name x p) (e::es) [] pos) (xh C sp gG E t):=by
 intro pins s σ H Q I h;apply wpAny_Call_Name_kw (M7 I hg hm ?_ si);apply PySem.W.callWith_K (h₀:=X.base) I.ok.mod.DQ M.kp (aO (ha pos pins s σ H _ I h) λus s1 ⟨vs,H1,I1,r,q⟩=>#[I1.gE,?_]) he iq;exact hQ_ M F hr hb hd hx I1 r q
end
def PK(X:Cx)(Bw:List Keyword)(t:TA):Prop:=
 ∀(pos:Pos) (pins:List (Addr × Obj)) (s:Ab) (σ:St) (H:Hp) (Q:ai->Hp->Prop),Inv X pins σ H s->t σ H Q->wpAny (model X.prog X.w) X.A (evalAll ((backToKw pos (keywordEach Bw X.env)).map (·.2))) (AP X pins σ Q) X.xe s
section
variable{X:Cx}{CX:kL}{k:Nat}{f C:Addr}{fd:Ae}{ps ks:ae}{sp:Sp}{E:XK}{x m:Str}{p pos apos Lq:Pos}{e o:Expr}{es:List Expr}{Bw:List Keyword}{te ta:TE}{t tk:TA}{nm:Option Str}
theorem Zx:PK X [] oG:=λ_ _ _ _ H Q I h=>wpAny_evalAll_nil #[[],H,I,.nil,h]
theorem ZL(ha:PE X e te)(hr:PK X Bw t):PK X (#[nm,e,Lq]::Bw) (jv te t):=by
 intro pos pins s σ H Q I h;show wpAny _ _ (evalAll ((do let v <- eval e X.env;standAt pos;pure v)::(backToKw pos (keywordEach Bw X.env)).map (·.2))) _ _ s;apply wpAny_evalAll_cons (af (aO (ha pins s σ H _ I h) λu s1 ⟨x,H1,I1,r1,q1⟩=>af (wpAny_standAt (aE ?_))));exact aO (hr pos pins s1 σ H1 _ I1 q1) λus s2 ⟨xs,H2,I2,r2,q2⟩=>#[x::xs,H2,I2,.cons r1 r2,q2]
structure PU (K:aj) (fd:Ae) (ps ks:ae) (g:ag->ag->ag) (gV:ai->ai->ai):Prop where
 to:∀(s:Ab) (us ws:ag),K.In s.heap->(g us ws).length=ps.length->BindsTo s fd #[us,ks.zip ws] (ps.zip (g us ws))
 rel:∀{vs:ai} {us:ag} {zs:ai} {ws:ag},Vals vs us->Vals zs ws->Vals (gV vs zs) (g us ws)
variable{g:ag->ag->ag}{gV:ai->ai->ai}
end
structure bG (N P:ae) (sc:Scope):Prop where
 kind:sc.kind=.function
 co:sc.isCoroutine=false
 gen:sc.isGenerator=false
 nd:N.Nodup
 pre:N.take P.length=P
 par:∀x∈P,sc.names.lookup x\.local∨sc.names.lookup x\.cell
 zC:∀y∈sc.names,y.2≠.free
theorem Ug{kindOf:Str->Option NameKind}{x:Str}:∀{binds:List (Str × Aa)} {m:Str->Option Aa},(∀v,(x,v)∉binds)->bindL kindOf binds m x=m x
 |[],_,_=>rfl
 |(n,v)::r,m,h=>by
  unfold bindL;rw[Ug λw hw=>h w (fP _ hw)];split
  ·have:x≠n:=by rintro rfl;exact h v gd
   simp[this]
  rfl
theorem Us{kindOf:Str->Option NameKind}{x:Str}:∀{binds:List (Str × Aa)} {m:Str->Option Aa},(∀v,(x,v)∉binds)->bindC kindOf binds m x=m x
 |[],_,_=>rfl
 |(n,v)::r,m,h=>by
  unfold bindC;rw[Us λw hw=>h w (fP _ hw)];split
  ·rfl
  have:x≠n:=by rintro rfl;exact h v gd
  simp[this]
theorem Uo{kindOf:Str->Option NameKind}{x:Str}{v:Aa}:∀{P:ae} {vs:ag} {i:Nat} {m:Str->Option Aa},P.Nodup->P[i]? = some x->vs[i]? = some v->kindOf x\.local->
  bindL kindOf (P.zip vs) m x\v
 |[],_,_,_,_,h,_,_=>by simp at h
 |_::_,[],_,_,_,_,h,_=>by simp at h
 |p::P,w::vs,0,m,nd,h1,h2,hk=>by
  simp at h1 h2;subst h1;subst h2;show bindL kindOf ((p,w)::P.zip vs) m p=_;unfold bindL;rw[Ug λv hv=>(js.mp nd).1 (List.of_mem_zip hv).1,aI hk];simp
 |p::P,w::vs,i+1,m,nd,h1,h2,hk=>by
  show bindL kindOf ((p,w)::P.zip vs) m x=_;unfold bindL;exact Uo (i:=i) (js.mp nd).2 ⇑h1 ⇑h2 hk
theorem Ur{kindOf:Str->Option NameKind}{x:Str}{v:Aa}:∀{P:ae} {vs:ag} {i:Nat} {m:Str->Option Aa},P.Nodup->P[i]? = some x->vs[i]? = some v->kindOf x≠some .local->
  bindC kindOf (P.zip vs) m x\v
 |[],_,_,_,_,h,_,_=>by simp at h
 |_::_,[],_,_,_,_,h,_=>by simp at h
 |p::P,w::vs,0,m,nd,h1,h2,hk=>by
  simp at h1 h2;subst h1;subst h2;show bindC kindOf ((p,w)::P.zip vs) m p=_;unfold bindC;rw[Us λv hv=>(js.mp nd).1 (List.of_mem_zip hv).1,aB hk];simp
 |p::P,w::vs,i+1,m,nd,h1,h2,hk=>by
  show bindC kindOf ((p,w)::P.zip vs) m x=_;unfold bindC;exact Ur (i:=i) (js.mp nd).2 ⇑h1 ⇑h2 hk
def start(N:ae)(vs:ai):St:=vs.map some++List.replicate (N.length - vs.length) none
def iY(CX:kL)(P:Ad)(w:Af)(K:aj)(mg:Str->Option Aa)(base:Heap)(N:ae)(qual:Str)(scope:Scope)(f:Addr)(cd:Aa)(A:Ag)(outer:List Env)(s:Ab)(H:Hp)(E:XK):Cx where
 prog:=P
 w:=w
 K:=K
 mg:=mg
 base:=base
 A:=A.deeper (envOfC qual scope s.heap.objs.size f cd)
 N:=N
 df:=s
 kg:=H
 env:=envOfC qual scope s.heap.objs.size f cd
 outer:=outer
 stack:=envOfC qual scope s.heap.objs.size f cd::outer
 ex:=[]
 calm:=true
 fn:=λ_=>true
 pn:=[]
 xe:=λe s'=>wpAny (model P w) (A.deeper (envOfC qual scope s.heap.objs.size f cd)) (leaving (envOfC qual scope s.heap.objs.size f cd) e) (λ_ pB=>CX outer H s E e pB) (λe' pB=>CX outer H s E e' pB) s'
theorem Tq{sc:Scope}{n:Nat}{x:Str}(h:sc.names.lookup x\.cell):∃c,(cellsFrom n sc.names []).lookup x\c:=by
 let q:=PySem.W.cellsFrom_some sc.names n [] (.inl h);exact Option.isSome_iff_exists.mp q
theorem fM_{CX:kL}{P:Ad}{w:Af}{K:aj}{mg:Str->Option Aa}{base:Heap}{N ps:ae}{qual:Str}{scope:Scope}{f:Addr}{cd:Aa}{A:Ag}{outer:List Env}{s s1:Ab}{H:Hp}{E:XK}{us:ag}{vs:ai}
  (S:bG N ps scope) (hd:A.handled=none) (e0:iE P w K mg base A outer s H) (hl:vs.length=ps.length) (r:Vals vs us)
  (x:InCallC s s.heap.objs.size (bindL (envOfC qual scope s.heap.objs.size f cd).kindOf (ps.zip us) λ_=>none) (cellsFrom (s.heap.objs.size+1) scope.names []) (bindC (envOfC qual scope s.heap.objs.size f cd).kindOf (ps.zip us) λ_=>none) s1) :
  Inv (iY CX P w K mg base N qual scope f cd A outer s H E) [] (start N vs) H s1:=by
 have iq:ps.length<=N.length:=by have:=d7 List.length S.pre;rw[dG] at this;omega
 let#[h1,tk,rfl,hk]:=x.done;have vJ:∀b:Addr,b∉(iY CX P w K mg base N qual scope f cd A outer s H E).ex:=λb z=>absurd (show b∈([]:au) from z) Z2
 apply#[#[e0.mod,S.kind,Z,Z,bh _,λy z c h1 h2=>?_,λy hy=>?_,λy c _ h=>?_,λ_=>hd,Around.frames_deeper e0.frames,.inr #[Z,Z],λb z=>absurd z (vJ b),e0.bs,e0.tL,λb _ _=>vJ b,λb z=>absurd z (vJ b),e0.fW,e0.wk],
  rfl,e0.bare,Un.kept hk,#[_,x.toInCall.ns,λi y v h1 h2 h3=>?_],λy c h=>#[_,x.cell y c h],e0.aA.fresh (bh _),λy c h=>?_,λp hp=>absurd (show p∈([]:List (Addr × Obj)) from hp) Z2,e0.aA.kept hk,?_]
 ·exact name_of_addr x.apart (pV h1) (pV h2)
 ·have hy:scope.names.lookup y\.cell∨scope.names.lookup y\.free:=hy;rcases hy with hy|hy
  ·exact Tq hy
  exact absurd Z (S.zC _ (pV hy))
 ·exact Nat.le_of_lt (x.above y c (pV h))
 ·have hi:i<vs.length:=by
   unfold start at h2;by_cases hi:i<vs.length
   ·exact hi
   rw[Bg ⇑hi] at h2;rw[List.getElem?_replicate] at h2;split at h2<;>cases h2
  have ha:vs[i]? = some v:=by
   unfold start at h2;rw[yx ⇑hi,dk] at h2;cases e:vs[i]? with
   |none=>rw[e] at h2;cases h2
   |some a=>rw[e] at h2;cases h2;rfl
  let#[u,hu,rv]:=r.get ha
  have hp:ps[i]? = some y:=by
   rw[<- S.pre,List.getElem?_take_of_lt Z1];exact h1
  have GQ:ps.Nodup:=by rw[<- S.pre];exact S.nd.sublist (List.take_sublist _ _)
  apply#[u,rv,?_];rcases S.par y (cX hp) with k|k
  ·exact .inl #[k,Uo GQ hp hu k]
  let#[c,e]:=Tq (n:=s.heap.objs.size+1) k;apply .inr #[.inl k,c,e,?_];let q:=x.cell y c e;rw[Ur GQ hp hu (by show scope.names.lookup y≠_;rw[k];decide)] at q;exact q
 ·exact e0.aA.fresh (Nat.le_of_lt (x.above y c (pV h)))
 unfold start;show _=N.length;rw[d_,aq,B5];omega
theorem Q0{CX:kL}{P:Ad}{w:Af}{K:aj}{mg:Str->Option Aa}{base:Heap}{k:Nat}{f:Addr}{name qual:Str}{params:Arguments}{body:List Stmt}{scope:Scope}{dV kV doc pm aK ct oc:Aa}{an od:Option Addr}
  {jA:Array (Option Aa)} {N ps:ae} {sp:Sp} (lk:K.lookup f=some #[oc,od,.func (PySem.W.fnOf name qual params body scope dV kV doc pm an aK ct),jA]) (iw:PySem.W.codeIn K aK qual=true) (S:bG N ps scope)
  (len:∀vs H Q E,sp vs H Q E->vs.length=ps.length)
  (fU:∀(A:Ag) (outer:List Env) (s:Ab) (H:Hp) (vs:ai) (Q:VK) (E:XK),aP k (A.deeper (envOfC qual scope s.heap.objs.size f aK))->sp vs H Q E->
   ∃t,j9 (iY CX P w K mg base N qual scope f aK A outer s H E) body t/\t { nx:=λ_ H'=>Q .non H',rt:=Q } (start N vs) H) :
  ao P w K mg base CX (k+1) f (PySem.W.fnOf name qual params body scope dV kV doc pm an aK ct) ps sp:=by
 apply#[len,λA outer s H args us vs Q E hr e0 hb r ko=>?_];let hl:=len _ _ _ _ ko;have KX:K.In s.heap:=e0.mod.DQ.keeps λb o e=>(e0.bs b o e).1;have lim:s.heap.NoLimit:=e0.mod.nolimit.keeps λb o e=>(e0.bs b o e).1
 have Ex:∀y∈ps.zip us,scope.names.lookup y.1\.local∨(scope.names.lookup y.1\.cell/\((cellsFrom (s.heap.objs.size+1) scope.names []).lookup y.1).isSome=true):=λ⟨n,v⟩ hy=>by
  rcases S.par n (List.of_mem_zip hy).1 with q|q
  ·exact .inl q
  exact .inr #[q,PySem.W.cellsFrom_some _ _ _ (.inl q)]
 apply codeAny_call_function hr.depth (KX _ _ lk) Z S.co S.gen Z (PySem.W.codeRec_of KX iw) (hb _ _ _ _ ?_);apply wpAny_newFunctionEnv_cells S.kind Ex λenv he s1 x=>?_;subst he;apply#[lim.keeps x.toInCall.keep,codeAny_func ?_];let#[t,ht,hq]:=fU A outer s H vs Q E (hr.deeper _) ko;have I:Inv (iY CX P w K mg base N qual scope f aK A outer s H E) [] (start N vs) H s1:=fM_ S hr.hd e0 hl r x;apply wpAny_mono (ht [] s1 (start N vs) H _ I hq) (λfl s' hs=>?_) λe s' hs=>hs
 have fin:∀{aY:St} {H':Hp} {v:V} {u:Aa},Inv (iY CX P w K mg base N qual scope f aK A outer s H E) [] aY H' s'->RelV v u->Q v H'->CE outer P w H s Q u s':=
  λ{aY H' v u} J rv q=>#[v,H',J.os,J.bare,J.base,J.aA,rv,q]
 cases fl with
 |ret u=>
  let#[v,aY,H',J,rv,q]:=hs;exact fin J rv q
 |next=>
  let#[aY,H',J,q]:=hs;exact fin (v:=V.non) (u:=Value.none) J Z q
 |brk=>
  let#[_,_,_,q]:=hs;exact False.elim q
 |cont=>
  let#[_,_,_,q]:=hs;exact False.elim q
end L2
local macro_rules|`(!$f:ident $a*)=>if [`bp,`mK,`bO,`ao,`ke].contains f.getId then let i:=Lean.mkIdent;`($f $(i `P) $(i `w) $(i `K) $(i `mg) $(i `base) $a*)else Lean.Macro.throwUnsupported
namespace L2
open PySem PySem.Spec PyProof.Rows
section
variable{X:Cx}{x:Str}{p pos:Pos}{e:Expr}{es:List Expr}{t:TA}{id T:String}{r:ai->Hp->VK->Prop}
def Qf(r:ai->Hp->VK->Prop)(t:TA):TE:=λσ H Q=>t σ H λvs H1=>r vs H1 Q
theorem cO(hc:gy X (.builtin id) r)(hg:Gl X x)(hm:X.mg x=none)(hv:bootBuiltins x\.builtin id)(ha:PA X (e::es) t)(hn:x≠"__name__":=by decide)(si:(x == ("__debug__":Str))=false:=by decide)
  (he:starEach (e::es) X.env=(false,eval e X.env)::starEach es X.env:=by rfl) (iq:(backTo pos (starEach es X.env)).any (·.1)=false:=by rfl):PE X (.Call (.Name x p) (e::es) [] pos) (Qf r t):=by
 intro pins s σ H Q I h;apply wpAny_Call_Name_kw (wM I hg hm hv ?_ hn si);exact PyProof.Rows.callWith_builtin1 (aO (ha pos pins s σ H _ I h) λus s1 ⟨vs,H1,I1,r1,q1⟩=>hc pins s1 σ H1 vs us Q I1 r1 q1) he iq
theorem ja(hc:gy X (.type T) r)(hg:Gl X x)(hm:X.mg x=none)(hv:bootBuiltins x\.type T)(ha:PA X (e::es) t)(hn:x≠"__name__":=by decide)(si:(x == ("__debug__":Str))=false:=by decide)
  (he:starEach (e::es) X.env=(false,eval e X.env)::starEach es X.env:=by rfl) (iq:(backTo pos (starEach es X.env)).any (·.1)=false:=by rfl):PE X (.Call (.Name x p) (e::es) [] pos) (Qf r t):=by
 intro pins s σ H Q I h;apply wpAny_Call_Name_kw (wM I hg hm hv ?_ hn si);exact BR (aO (ha pos pins s σ H _ I h) λus s1 ⟨vs,H1,I1,r1,q1⟩=>hc pins s1 σ H1 vs us Q I1 r1 q1) he iq
end
end L2
namespace HT
open PySem PyProof.Rows
section
open PySem.SeqAt
open PySem.AutoSeq1 (wpAny_loadPart')
open PySem.MeetsSeq PySem.MeetsSeq2 PySem.MeetsSeq3
end
section
variable{prog:Ad}{w:Af}{A:Ag}{E:Aa->Ab->Prop}{s:Ab}
theorem wC{t b:Addr}{vs ws:ag}{Q:Aa->Ab->Prop}(ht:IsTup s.heap t vs.toArray)(hb:IsTup s.heap b ws.toArray)(hv:vs≠[])
  (h1:ws=[]->Q (.ref t) s) (h2:ws≠[]->Q (.ref s.heap.objs.size) { s with heap:=s.heap.push { cls:=.type "tuple",data:=.seq (vs++ws).toArray } })
  (hsz:vs.length+ws.length<=sizeLine):wpAny (model prog w) A (binaryOp .Add (.ref t) (.ref b)) Q E s:=by
 let#[#[cls,dd,data,sl],ho,hc,n,hd]:=id ht;let#[#[Om,IQ,data2,Gp],fu,kC,n2,hd2]:=id hb;simp only at hc hd kC hd2;subst hc hd kC hd2;have e:vs.toArray++ws.toArray=(vs++ws).toArray:=by simp
 by_cases hw:ws=[]
 ·exact concat_meets #[_,ho,Z] #[_,fu,Z] noFill_tuple_add seq_tuple_add PySem.F.slot_tuple_add PySem.F.entry_tuple_add (PySem.F.args_tuple_add_2 _ _)
   (tuple_addW1 t b vs.toArray ws.toArray n n2 dd IQ sl Gp ⇑hv (by simp[hw])) #[ho,fu,h1 hw]
 apply concat_meets #[_,ho,Z] #[_,fu,Z] noFill_tuple_add seq_tuple_add PySem.F.slot_tuple_add PySem.F.entry_tuple_add (PySem.F.args_tuple_add_2 _ _)
  (tuple_addW2 t b vs.toArray ws.toArray n n2 dd IQ sl Gp ⇑hv ⇑hw (by rw[cm,cm];exact hsz)) #[ho,fu,?_]
 rw[e];exact h2 hw
def cu(n d:Nat):Option Int->Nat
 |none=>d
 |some v=>if v<0 then (v+(n:Int)).toNat else min v.toNat n
theorem eD(n d:Nat):cu n d none=d:=rfl
theorem dW(n d k:Nat):cu n d (some (k:Int))=min k n:=by
 show (if (k:Int)<0 then ((k:Int)+(n:Int)).toNat else min (k:Int).toNat n)=min k n;rw[aB Z1,yA]
theorem YJ(n d:Nat)(hd:d<=n)(o:Option Int):cu n d o<=n:=by
 cases o with
 |none=>exact hd
 |some v=>
  show (if v<0 then (v+(n:Int)).toNat else min v.toNat n)<=n;by_cases hv:v<0
  ·rw[aI hv];omega
  rw[aB hv];exact Nat.min_le_right _ _
theorem R0(v:Int)(n d:Nat):(if v<0 then max (v+(n:Int)) 0 else min v (n:Int))=((cu n d (some v):Nat):Int):=by
 show (if v<0 then max (v+(n:Int)) 0 else min v (n:Int))=(((if v<0 then (v+(n:Int)).toNat else min v.toNat n):Nat):Int);by_cases hv:v<0
 ·simp only[aI hv];omega
 simp only[aB hv];omega
theorem ft_(lo hi:Option Int)(n:Nat):Builtin.Slice.sliceAdjust lo hi 1 (n:Int)=(((cu n 0 lo:Nat):Int),((cu n n hi:Nat):Int)):=by
 have h1:¬((1:Int)<0):=by omega
 unfold Builtin.Slice.sliceAdjust;simp only[h1,if_false];apply Prod.ext ?_ ?_
 ·cases lo with
  |none=>rfl
  |some v=>exact R0 v n 0
 cases hi with
 |none=>rfl
 |some v=>exact R0 v n n
theorem fu_(i j:Nat):Builtin.Slice.slicePlaces (i:Int) (j:Int) 1=j - i:=by
 unfold Builtin.Slice.slicePlaces;have h1:(1:Int) > 0:=by omega
 simp only[h1,if_true,Int.ediv_one];split<;>omega
theorem Uy{v:Aa}{o:Option Int}{Q:Option Int->Ab->Prop}(p:IsPart v o)(h:Q o s):wpAny (model prog w) A (Builtin.Slice.slicePartIndex v) Q E s:=by
 cases p with
 |none=>exact slicePart_none h
 |int i t=>exact slicePart_int h
theorem cj_{sl:Addr}{vl vu:Aa}{lo hi:Option Int}{n:Nat}{Q:Int × Int × Nat->Ab->Prop}(hs:s.heap.IsSliceOf sl vl vu .none)(pl:IsPart vl lo)(pu:IsPart vu hi)
  (h:Q (((cu n 0 lo:Nat):Int),1,cu n n hi - cu n 0 lo) s):wpAny (model prog w) A (Builtin.Slice.sliceApplied (.ref sl) (pure (n:Int))) Q E s:=by
 let#[os,Ei,R5,sf]:=id hs;unfold Builtin.Slice.sliceApplied Builtin.Slice.sliceFields;apply af (af (fH Ei sf (x:=vl) Z (af (fH Ei sf (x:=vu) Z (af (fH Ei sf (x:=.none) Z (aE ?_)))))));apply af (slicePart_none ?_);show wpAny _ _ (if ((1:Int) == 0)=true then _ else _) _ _ s;rw[aB (by decide)];apply af (Uy pl (af (Uy pu (af (aE ?_)))));show wpAny _ _ (match Builtin.Slice.sliceAdjust lo hi 1 (n:Int) with|(lo,hi)=>pure (lo,(1:Int),Builtin.Slice.slicePlaces lo hi 1)) _ _ s;rw[ft_ lo hi n];show wpAny _ _ (pure (((cu n 0 lo:Nat):Int),(1:Int),Builtin.Slice.slicePlaces ((cu n 0 lo:Nat):Int) ((cu n n hi:Nat):Int) 1)) _ _ s;rw[fu_];exact aE h
theorem _H(xs:Array Aa)(i k:Nat):((List.range k).filterMap λ(m:Nat)=>xs[((i:Int)+(m:Int) * 1).toNat]?).toArray=((xs.toList.drop i).take k).toArray:=by
 have e:(λ(m:Nat)=>xs[((i:Int)+(m:Int) * 1).toNat]?)=λm=>xs[i+m]?:=by
  funext m
  have:((i:Int)+(m:Int) * 1).toNat=i+m:=by omega
  rw[this]
 rw[e];have:=pick_run xs i k;rw[List.filterMap_map] at this;have e2:((λx=>xs[x]?) ∘ λx=>i+x)=λm=>xs[i+m]?:=rfl;rw[e2] at this;rw[this]
theorem fV{t sl:Addr}{items:Array Aa}{vl vu:Aa}{lo hi:Option Int}{Q:Aa->Ab->Prop}(ht:IsTup s.heap t items)(hs:s.heap.IsSliceOf sl vl vu .none)(pl:IsPart vl lo)(pu:IsPart vu hi)
  (hw:¬(cu items.size 0 lo=0/\cu items.size items.size hi=items.size))
  (h:Q (.ref s.heap.objs.size) { s with heap:=s.heap.push { cls:=.type "tuple",data:=.seq ((items.toList.drop (cu items.size 0 lo)).take (cu items.size items.size hi - cu items.size 0 lo)).toArray } })
  (hsz:items.size<=sizeLine):wpAny (model prog w) A (getItem (.ref t) (.ref sl)) Q E s:=by
 have nL:sizeOk (.seq ((items.toList.drop (cu items.size 0 lo)).take (cu items.size items.size hi - cu items.size 0 lo)).toArray):=by
  show ((items.toList.drop (cu items.size 0 lo)).take (cu items.size items.size hi - cu items.size 0 lo)).toArray.size<=sizeLine;rw[cm,dG,yz,tU];omega
 have hj:cu items.size items.size hi<=items.size:=YJ _ _ (bh _) hi;let#[os,Ei,R5,sf]:=id hs;have Mz:s.TypeIs (.ref sl) "slice":=#[os,Ei,R5];unfold getItem
 try with_reducible apply i7 ?_
 first|refine af (aE ?_)|skip
 apply af (wpAny_sequenceKey ht.typeIs (by decide) ?_)
 apply af (uR (name:=Str.ofString "__getitem__") ht.typeIs PyProof.Rows.slot_tuple_getitem
  (s_ PyProof.Rows.slot_tuple_getitem ht.typeIs entry_tuple_getitem ?_ (args_tuple_getitem _ _)))
 show wpAny _ _ (Builtin.Tuple.tupleItemsOf (.ref t) >>= _) _ _ s;apply af (tupleItemsOf_ ht ?_);apply af (wpAny_typeOf Mz ?_);rw[aI (by decide)];apply af (cj_ hs pl pu ?_)
 have kr:¬((((cu items.size 0 lo:Nat):Int) == 0&&(1:Int) == 1&&(cu items.size items.size hi - cu items.size 0 lo) == items.size)=true):=by
  intro q;rw[Bool.and_eq_true,Bool.and_eq_true] at q;have q1:((cu items.size 0 lo:Nat):Int)=0:=eq_of_beq q.1.1;have q2:cu items.size items.size hi - cu items.size 0 lo=items.size:=eq_of_beq q.2;exact hw #[by omega,by omega]
 show wpAny _ _ (if (((cu items.size 0 lo:Nat):Int) == 0&&(1:Int) == 1&&(cu items.size items.size hi - cu items.size 0 lo) == items.size)=true then _ else _) _ _ s;rw[aB kr,_H]
 first
  |exact af (m:=Builtin.Tuple.tupleExact _) (pR (aE ⟨_,rfl,aE h⟩) nL)
  |exact af (m:=Builtin.Tuple.tupleExact _) (pR (af (aE (aE ⟨_,rfl,aE h⟩))) nL)
  |exact af (af (m:=Builtin.Tuple.tupleExact _) (pR (aE (aE ⟨_,rfl,aE h⟩)) nL))
  |exact af (af (m:=Builtin.Tuple.tupleExact _) (pR (aE ⟨_,rfl,aE h⟩) nL))
end
end HT
namespace L2
open PySem PySem.Spec PyProof.Rows
abbrev TO:=St->Hp->(Option Int->Hp->Prop)->Prop
def PO(X:Cx)(e:Option Expr)(t:TO):Prop:=
 ∀(pins:List (Addr × Obj)) (s:Ab) (σ:St) (H:Hp) (Q:Option Int->Hp->Prop),Inv X pins σ H s->t σ H Q->
  wpAny (model X.prog X.w) X.A (evalPart e X.env) (λu s'=>∃o H',Inv X pins σ H' s'/\IsPart u o/\Q o H') X.xe s
def vp:TO:=λ_ H Q=>Q none H
inductive qf (Q:Option Int->Hp->Prop) (x:V) (H1:Hp):Prop
 |mk:∀i,x=.int i->Q (some i) H1->qf Q x H1
def CC(t:TE):TO:=λσ H Q=>t σ H λx H1=>qf Q x H1
section
variable{X:Cx}{e:Expr}{te:TE}{lo hi:Option Expr}{tl th:TO}{pos p2:Pos}
theorem Ba:PO X none vp:=by
 intro pins s σ H Q I h;rw[evalPart_none];exact aE #[none,H,I,.none,h]
theorem A9(h:PE X e te):PO X (some e) (CC te):=by
 intro pins s σ H Q I hw;rw[evalPart_some];apply aO (h pins s σ H _ I hw) λu s1 ⟨x,H1,I1,r1,q1⟩=>?_;let#[i,rfl,q]:=q1;let#[t,rfl]:=r1;exact#[some i,H1,I1,.int i t,q]
def PP(X:Cx)(r:V->Option Int->Option Int->Hp->VK->Prop):Prop:=
 ∀(pins:List (Addr × Obj)) (s:Ab) (σ:St) (H:Hp) (x:V) (v vl vu:Aa) (lo hi:Option Int) (sl:Addr) (Q:VK),Inv X pins σ H s->RelV x v->s.heap.IsSliceOf sl vl vu .none->IsPart vl lo->IsPart vu hi->r x lo hi H Q->
  ∃T id,typeLookup (.type T) "__getitem__"=pure (some (.builtin id))/\s.TypeIs v T/\wpAny (model X.prog X.w) X.A (getItem v (.ref sl)) (EP X pins σ Q) X.xe s
def Wt(r:V->Option Int->Option Int->Hp->VK->Prop)(te:TE)(tl th:TO):TE:=λσ H Q=>te σ H λx H1=>tl σ H1 λl H2=>th σ H2 λu H3=>r x l u H3 Q
theorem A3{r:V->Option Int->Option Int->Hp->VK->Prop}(hr:PP X r)(he:PE X e te)(hl:PO X lo tl)(hu:PO X hi th):PE X (.Subscript e (.Slice lo hi none p2) pos) (Wt r te tl th):=by
 intro pins s σ H Q I h;apply Subscript_ (aO (he pins s σ H _ I h) λv s1 ⟨x,H1,I1,r1,q1⟩=>?_);apply wpAny_Slice (aO (hl pins s1 σ H1 _ I1 q1) λvl s2 ⟨l,H2,I2,pl,q2⟩=>aO (hu pins s2 σ H2 _ I2 q2) λvu s3 ⟨u,H3,I3,pu,q3⟩=>?_);rw[evalPart_none];apply aE ?_;have I4:Inv X pins σ H3 { s3 with heap:=s3.heap.push { cls:=.type "slice",data:=.fields (List.toArray [vl,vu,.none]) } }:=I3.kept (t':=s3.toks) λb ob q=>aU _ q;let#[T,id,hT,ht,hg]:=hr pins { s3 with heap:=s3.heap.push { cls:=.type "slice",data:=.fields (List.toArray [vl,vu,.none]) } } σ H3 x v vl vu l u s3.heap.objs.size Q I4 r1 (Heap.IsSliceOf.new ..) pl pu q3;show wpAny (model X.prog X.w) X.A (subscriptTail e (.Slice lo hi none p2) v (.ref s3.heap.objs.size)) (EP X pins σ Q) X.xe { s3 with heap:=s3.heap.push { cls:=.type "slice",data:=.fields (List.toArray [vl,vu,.none]) } };exact tail_any (ops:=[.ref s3.heap.objs.size,v]) ht hT hg (by with_unfolding_all rfl)
def dQ(xs:ai)(lo hi:Option Int):ai:=(xs.drop (HT.cu xs.length 0 lo)).take (HT.cu xs.length xs.length hi - HT.cu xs.length 0 lo)
theorem Pm(xs:ai)(lo hi:Option Int):(dQ xs lo hi).length<=xs.length:=by
 unfold dQ;rw[dG,yz];omega
inductive C3 (K:aj) (x:V) (lo:Option Int) (hi:Option Int) (H:Hp) (Q:VK):Prop
 |mk:∀a xs,x=.ref a->ft K H a xs->¬(HT.cu xs.length 0 lo=0/\HT.cu xs.length xs.length hi=xs.length)->(∀p,H p=none->Q (.ref p) (upd H p (.tup (dQ xs lo hi))))->C3 K x lo hi H Q
theorem IA:PP X (C3 X.K):=by
 intro pins s σ H x v vl vu lo hi sl Q I rx hs pl pu h;let#[a,xs,rfl,hx,hw,q]:=h;cases rx;let#[its,r,ht,hz]:=I.tuple hx;have hlen:its.toArray.size=xs.length:=by rw[cm];exact r.length.symm
 apply⟨"tuple",_,PyProof.Rows.slot_tuple_getitem.lookup,ht.typeIs,?_⟩;apply HT.fV ht hs pl pu (by rw[hlen];exact hw) ?_ (by rw[hlen];exact hz);rw[hlen];apply⟨.ref s.heap.objs.size,_,I.laid (t':=s.toks) (o:=.tup (dQ xs lo hi)) (λb ob q=>aU _ q) (bh _) ?_,rfl,q _ (I.aA.fresh (bh _))⟩;exact⟨iK (Pm xs lo hi) hz,_,(r.drop (HT.cu xs.length 0 lo)).take (HT.cu xs.length xs.length hi - HT.cu xs.length 0 lo),IsTup.new _ _,_,cK _ rfl,rfl⟩
theorem Vals.nI{xs:ai}{us:ag}(r:Vals xs us):us=[] ↔ xs=[]:=by
 cases r with
 |nil=>simp
 |cons _ _=>simp
end
end L2
namespace L2
open PySem PySem.Spec PyProof.Rows
def vR(n:Nat)(i:Int):Option Nat:=if 0<=i then (if i<n then some i.toNat else none) else if -(n:Int)<=i then some (i+n).toNat else none
def iB{α:Type}(xs:List α)(i:Int):Option α:=(vR xs.length i).bind λj=>xs[j]?
theorem SV{n:Nat}{i:Int}{j:Nat}(h:vR n i\j):seqIndex? i n\j/\j<n/\-(n:Int)<=i/\i<n:=by
 unfold vR at h;by_cases h0:0<=i
 ·rw[aI h0] at h;by_cases h1:i<n
  ·rw[aI h1] at h;have e:i.toNat=j:=cY h;exact#[by rw[seqIndex_of h0 h1,e],by omega,by omega,h1]
  rw[aB h1] at h;cases h
 rw[aB h0] at h;by_cases h1:-(n:Int)<=i
 ·rw[aI h1] at h;have e:(i+n).toNat=j:=cY h;exact#[by rw[seqIndex_neg Z1 h1,e],by omega,h1,by omega]
 rw[aB h1] at h;cases h
theorem Nj{α:Type}{xs:List α}{i:Int}{v:α}(h:iB xs i\v):∃j,seqIndex? i xs.length\j/\xs[j]? = some v/\j<xs.length/\-(xs.length:Int)<=i/\i<xs.length:=by
 unfold iB at h;cases e:vR xs.length i with
 |none=>rw[e] at h;cases h
 |some j=>
  rw[e] at h;let#[h1,h2,h3,h4]:=SV e;exact#[j,h1,h,h2,h3,h4]
theorem dR{α:Type}{xs:List α}{j:Nat}{v:α}(h:xs[j]? = some v):iB xs (j:Int)\v:=by
 have hj:j<xs.length:=(bY.mp h).1
 have e:vR xs.length (j:Int)\j:=by
  unfold vR;rw[aI Z1,aI Z1];simp
 unfold iB;rw[e];exact h
def w9(b:Expr):Prop:=∀o i,subscripted b false o i=operate [o,i] (getItem o i)
def B7(X:Cx)(r:R2):Prop:=
 ∀(value slice:Expr) (pins:List (Addr × Obj)) (s:Ab) (σ:St) (H:Hp) (x y:V) (v u:Aa) (Q:VK),Inv X pins σ H s->RelV x v->RelV y u->r x y H Q->
  subscripted slice false v u=operate [v,u] (getItem v u)->wpAny (model X.prog X.w) X.A (subscriptTail value slice v u) (EP X pins σ Q) X.xe s
def Vo(X:Cx)(id:String)(r:V->ai->Hp->VK->Prop):Prop:=
 ∀(pins:List (Addr × Obj)) (s:Ab) (σ:St) (H:Hp) (x:V) (xs:ai) (v:Aa) (us:ag) (Q:VK),Inv X pins σ H s->RelV x v->Vals xs us->r x xs H Q->
  wpAny (model X.prog X.w) X.A (call (.builtin id) (v::us)) (EP X pins σ Q) X.xe s
section
variable{X:Cx}{a b:Expr}{ta tb:TE}{pos:Pos}
theorem br{r:R2}(hr:B7 X r)(ha:PE X a ta)(hb:PE X b tb)(hs:w9 b:=by exact λ_ _=>rfl):PE X (.Subscript a b pos) (Gh r ta tb):=by
 intro pins s σ H Q I h;exact Subscript_ (A2 ha hb I h λv u s2 x y H2 I2 rx ry q=>hr a b pins s2 σ H2 x y v u Q I2 rx ry q (hs _ _))
inductive oN (K:aj) (x:V) (y:V) (H:Hp) (Q:VK):Prop
 |mk:∀p xs i v,x=.ref p->y=.int i->dY K H p xs->iB xs i\v->Q v H->oN K x y H Q
inductive jz (K:aj) (x:V) (y:V) (H:Hp) (Q:VK):Prop
 |mk:∀p xs i v,x=.ref p->y=.int i->ft K H p xs->iB xs i\v->Q v H->jz K x y H Q
inductive C5 (x:V) (y:V) (H:Hp) (Q:VK):Prop
 |mk:∀z i c,x=.str z->y=.int i->z.length<=sizeLine->iB z.cps.toList i\c->Q (.str ⟨(List.toArray [c])⟩) H->C5 x y H Q
theorem fO:B7 X (oN X.K):=by
 intro value slice pins s σ H x y v u Q I rx ry h hs;let#[p,xs,i,z,rfl,rfl,hq,he,q]:=h;cases rx;let#[t,rfl]:=ry;let#[its,r,pl,hz]:=I.list hq;let#[j,h1,h2,h3,h4,h5]:=Nj he;let#[w,ew,je]:=r.get h2;let hl:=r.length;let hn:=gh;have fin:EP X pins σ Q w s:=⟨z,H,I,je,q⟩;by_cases h0:0<=i
 ·have hj:i.toNat=j:=by
   rw[seqIndex_of h0 h5] at h1;exact cY h1
  exact item_listR pl.isList h0 Z1 (by rw[hj];simpa using ew) fin hs
 have hj:(i+(its.toArray.size:Int)).toNat=j:=by
  rw[seqIndex_neg Z1 h4] at h1;rw[cm,<- hl];exact cY h1
 exact subscriptTail_builtinR (x:=w) pl.isList.typeIs slot_list_getitem.lookup
  (wpAny_getItem_list_neg (Q:=λr s'=>r=w/\EP X pins σ Q r s') pl.isList Z1 (by rw[cm]<;>omega) Z1 (by rw[hj];simpa using ew) ⟨rfl,fin⟩) hs
theorem c_:B7 X (jz X.K):=by
 intro value slice pins s σ H x y v u Q I rx ry h hs;let#[p,xs,i,z,rfl,rfl,hq,he,q]:=h;cases rx;let#[t,rfl]:=ry;let#[its,r,pl,hz]:=I.tuple hq;let#[j,h1,h2,h3,h4,h5]:=Nj he;let#[w,ew,je]:=r.get h2;let hl:=r.length;let hn:=gh;have fin:EP X pins σ Q w s:=⟨z,H,I,je,q⟩
 exact subscriptTail_builtinR (x:=w) pl.typeIs slot_tuple_getitem.lookup
  (getItem_tuple (j:=j) (Q:=λr s'=>r=w/\EP X pins σ Q r s') pl Z1 Z1 (by rw[cm,<- hl];exact h1) ⇑ew ⟨rfl,fin⟩) hs
theorem Y0:B7 X C5:=by
 intro value slice pins s σ H x y v u Q I rx ry h hs;let#[z,i,c,rfl,rfl,hz,he,q]:=h;let#[t,rfl]:=rx;let#[t',rfl]:=ry;let#[j,h1,h2,h3,h4,h5]:=Nj he;have hl:z.cps.toList.length=z.length:=by simp[Str.length]
 rw[hl] at h1 h4 h5;let hn:=gh
 exact tail_any (typeIs_str s z t) slot_str_getitem.lookup (getItem_str (c:=c) (by
  have e1:decide (i < -(2 ^ 63:Int))=false:=eG Z1;have e2:decide (i ≥ 2 ^ 63)=false:=eG Z1;rw[e1,e2,Bool.or_false]) (by rw[h1];simpa using h2) ⟨.str ⟨(List.toArray [c])⟩,H,I.tok _,⟨_,rfl⟩,q⟩) hs
theorem fh_(its:ag)(n j:Nat)(u:Aa):Obj.mapSeq (·.setIfInBounds j u) { cls:=.type "list",data:=.seq its.toArray n }={ cls:=.type "list",data:=.seq (its.set j u).toArray n }:=by
 simp[Obj.mapSeq]
theorem Inv.lst{pins:List (Addr × Obj)}{σ:St}{H:Hp}{s:Ab}{p:Addr}{xs:ai}(I:Inv X pins σ H s)(h:H p\.lst xs) :
  ∃(its:ag) (n:Nat),Vals xs its/\s.heap.get? p=some { cls:=.type "list",data:=.seq its.toArray n }/\xs.length<=sizeLine:=by
 let#[z,its,n,r,e]:=I.aA p _ h;exact⟨its,n,r,e,z⟩
theorem Inv.zI{pins:List (Addr × Obj)}{σ:St}{H:Hp}{s:Ab}{p:Addr}{xs ys:ai}{its its':ag}{n n':Nat}{f:Obj->Obj}(I:Inv X pins σ H s)(h:H p\.lst xs)
  (ho:s.heap.get? p=some { cls:=.type "list",data:=.seq its.toArray n }) (hf:f { cls:=.type "list",data:=.seq its.toArray n }={ cls:=.type "list",data:=.seq its'.toArray n' }) (r:Vals ys its') (hz:ys.length<=sizeLine) (t:Nat) :
  Inv X pins σ (upd H p (.lst ys)) { s with heap:=s.heap.update p f,toks:=t }:=by
 have e:(s.heap.update p f).get? p=some { cls:=.type "list",data:=.seq its'.toArray n' }:=by
  rw[Heap.get?_update_self f ho (by rw[hf]<;>rfl),hf]
 apply I.write (x:=p) (e:=p) (by rw[h];trivial) (.inl rfl) (λb u hb q=>(uL _ _ (bJ hb)).trans q) ⟨_,e⟩ ?_;exact⟨hz,its',n',r,e⟩
inductive xA (o:V) (i:V) (v:V) (H:Hp) (Q:Hp->Prop):Prop
 |mk:∀p xs k j,o=.ref p->i=.int k->H p\.lst xs->vR xs.length k\j->Q (upd H p (.lst (xs.set j v)))->xA o i v H Q
theorem TN:F0 X xA:=by
 intro pins s σ H o i v ov iv u Q I ro ri rv h;let#[p,xs,k,j,rfl,rfl,hp,hj,q]:=h;cases ro;let#[t,rfl]:=ri;let#[its,n,r,ho,hz]:=I.lst hp;let#[h1,h2,h3,h4]:=SV hj;let hl:=r.length;let hn:=gh
 have I':Inv X pins σ (upd H p (.lst (xs.set j v))) { s with heap:=s.heap.update p (Obj.mapSeq (·.setIfInBounds j u)) }:=
  I.zI hp ho (fh_ its n j u) (r.set rv j) (by rw[List.length_set];exact hz) s.toks
 by_cases h0:0<=k
 ·have hk:k.toNat=j:=by
   rw[seqIndex_of h0 h4] at h1;exact cY h1
  exact PySem.W.ki_setAt ho h0 Z1 (by rw[cm,<- hl];exact h4) (by rw[hk];exact⟨_,I',q⟩)
 have hk:(k+(its.toArray.size:Int)).toNat=j:=by
  rw[seqIndex_neg Z1 h3] at h1;rw[cm,<- hl];exact cY h1
 exact PySem.W.ki_setBack ho Z1 (by rw[cm,<- hl];exact h3) Z1 (by rw[hk];exact⟨_,I',q⟩)
theorem dQ_(lo hi:Option Int)(n:Nat):(sliceBounds lo hi none n).1=((HT.cu n 0 lo:Nat):Int)/\(sliceBounds lo hi none n).2.1=((HT.cu n n hi:Nat):Int)/\(sliceBounds lo hi none n).2.2=1:=by
 apply⟨?_,?_,rfl⟩
 ·cases lo with
  |none=>simp[sliceBounds,HT.cu]
  |some i=>
   simp only[sliceBounds,HT.cu,Option.getD_none,show (1:Int) > 0 by decide,if_true];by_cases h:i<0
   ·simp only[h,if_true]<;>omega
   simp only[h,if_false]<;>omega
 cases hi with
 |none=>simp[sliceBounds,HT.cu]
 |some i=>
  simp only[sliceBounds,HT.cu,Option.getD_none,show (1:Int) > 0 by decide,if_true];by_cases h:i<0
  ·simp only[h,if_true]<;>omega
  simp only[h,if_false]<;>omega
theorem dr_(its:ag)(lo hi:Option Int):slicePick its.toArray lo hi none=((its.drop (HT.cu its.length 0 lo)).take (HT.cu its.length its.length hi - HT.cu its.length 0 lo)).toArray:=by
 let#[h1,h2,h3]:=dQ_ lo hi its.toArray.size;unfold slicePick;rw[h1,h2,h3];simp only[sliceRange_one,pick_run,cm]<;>rfl
inductive C4 (K:aj) (x:V) (lo:Option Int) (hi:Option Int) (H:Hp) (Q:VK):Prop
 |mk:∀a xs,x=.ref a->dY K H a xs->(∀p,H p=none->Q (.ref p) (upd H p (.lst (dQ xs lo hi))))->C4 K x lo hi H Q
theorem Nb:PP X (C4 X.K):=by
 intro pins s σ H x v vl vu lo hi sl Q I rx hs pl pu h;let#[a,xs,rfl,hx,q]:=h;cases rx;let#[its,r,ht,hz]:=I.list hx;let hlen:=r.length;apply⟨"list",_,slot_list_getitem.lookup,ht.isList.typeIs,?_⟩;apply wpAny_getItem_list_slice ht.isList hs pl pu .none Z2 ?_ (by rw[cm]<;>omega)
 rw[dr_,<- hlen];apply⟨.ref s.heap.objs.size,_,I.laid (t':=s.toks) (o:=.lst (dQ xs lo hi)) (λb ob q=>aU _ q) (bh _) ?_,rfl,q _ (I.aA.fresh (bh _))⟩;exact⟨iK (Pm xs lo hi) hz,_,0,(r.drop (HT.cu xs.length 0 lo)).take (HT.cu xs.length xs.length hi - HT.cu xs.length 0 lo),cK _ rfl⟩
def sI:V->Bool
 |.non=>true
 |.bl _=>true
 |.int _=>true
 |.str _=>true
 |_=>false
def M9:V->V->Bool
 |.non,.non=>true
 |.bl a,.bl b=>a == b
 |.bl a,.int b=>(if a then 1 else 0) == b
 |.int a,.bl b=>a == (if b then 1 else 0)
 |.int a,.int b=>a == b
 |.str a,.str b=>a == b
 |_,_=>false
theorem Rn{A:Ag}{s:Ab}{y x:V}{u v:Aa}(ry:RelV y u)(rx:RelV x v)(fy:sI y=true)(fx:sI x=true):SeqAt.EqAt A s u v (M9 y x):=by
 cases y with
 |non=>
  cases ry;cases x with
  |non=>cases rx;exact SeqAt.EqAt.same _
  |bl b=>cases rx;exact SeqAt.EqAt.none_bool b
  |int b=>let#[t,rfl]:=rx;exact SeqAt.EqAt.none_int b t
  |str b=>let#[t,rfl]:=rx;exact SeqAt.EqAt.none_str b t
  |_=>exact absurd (show false=true from fx) gK
 |bl a=>
  cases ry;cases x with
  |non=>cases rx;exact SeqAt.EqAt.bool_none a
  |bl b=>cases rx;exact SeqAt.EqAt.bool_bool a b
  |int b=>let#[t,rfl]:=rx;exact SeqAt.EqAt.bool_int a b t
  |str b=>let#[t,rfl]:=rx;exact SeqAt.EqAt.bool_str a b t
  |_=>exact absurd (show false=true from fx) gK
 |int a=>
  let#[t',rfl]:=ry;cases x with
  |non=>cases rx;exact SeqAt.EqAt.int_none a t'
  |bl b=>cases rx;exact SeqAt.EqAt.int_bool a t' b
  |int b=>let#[t,rfl]:=rx;exact SeqAt.EqAt.int_int a t' b t
  |str b=>let#[t,rfl]:=rx;exact SeqAt.EqAt.int_str a t' b t
  |_=>exact absurd (show false=true from fx) gK
 |str a=>
  let#[t',rfl]:=ry;cases x with
  |non=>cases rx;exact SeqAt.EqAt.str_none a t'
  |bl b=>cases rx;exact SeqAt.EqAt.str_bool a t' b
  |int b=>let#[t,rfl]:=rx;exact SeqAt.EqAt.str_int a t' b t
  |str b=>let#[t,rfl]:=rx;exact SeqAt.EqAt.str_str a t' b t
  |_=>exact absurd (show false=true from fx) gK
 |_=>exact absurd (show false=true from fy) gK
inductive Jr (K:aj) (xs:ai) (H:Hp) (Q:VK):Prop
 |mk:∀p ys,xs=[.ref p]->(dY K H p ys∨ft K H p ys)->Q (.int ys.length) H->Jr K xs H Q
theorem iC:gy X (.builtin "len") (Jr X.K):=by
 intro pins s σ H xs us Q I r h;let#[p,ys,rfl,hq,q]:=h;let#[u,rfl,rx]:=vals1 r;cases rx;let hn:=gh;rcases hq with hq|hq
 ·let#[its,r',pl,hz]:=I.list hq;let hlen:=r'.length;exact Calls.call_len_list pl.isList (by simp only[cm]<;>omega) ⟨.int ys.length,H,I.tok _,⟨s.toks+1,by rw[cm,hlen]⟩,q⟩
 let#[its,r',pl,hz]:=I.tuple hq;let hlen:=r'.length;exact len_tuple pl (by simp only[cm]<;>omega) ⟨.int ys.length,H,I.tok _,⟨s.toks+1,by rw[cm,hlen]⟩,q⟩
inductive Vg (xs:ai) (H:Hp) (Q:VK):Prop
 |mk:∀z,xs=[.str z]->z.length<=sizeLine->Q (.int z.length) H->Vg xs H Q
theorem e4_:gy X (.builtin "len") Vg:=by
 intro pins s σ H xs us Q I r h;let#[z,rfl,hz,q]:=h;let#[u,rfl,t,rfl]:=vals1 r;let hn:=gh;exact len_str Z1 ⟨.int z.length,H,I.tok _,⟨_,rfl⟩,q⟩
inductive Vf (K:aj) (xs:ai) (H:Hp) (Q:VK):Prop
 |mk:∀p ys,xs=[.ref p]->(dY K H p ys∨ft K H p ys)->(∀l,H l=none->Q (.ref l) (upd H l (.lst ys)))->Vf K xs H Q
theorem e8_:gy X (.type "list") (Vf X.K):=by
 intro pins s σ H xs us Q I r h;let#[p,ys,rfl,hq,q]:=h;let#[u,rfl,rx]:=vals1 r;cases rx
 have fin:∀(its:ag),Vals ys its->ys.length<=sizeLine->∀(h':Heap) (c':Nat),(∀b o',s.heap.get? b\o'->h'.get? b\o')->
   h'.get? s.heap.objs.size=some { cls:=.type "list",dict:=none,data:=.seq its.toArray c',slots:=#[] }->EP X pins σ Q (.ref s.heap.objs.size) { s with heap:=h' }:=λits r' hz h' c' kp e=>
  #[.ref s.heap.objs.size,_,I.laid (t':=s.toks) kp (bh _) (show fw X.prog X.w _ h' _ (.lst ys) from #[hz,its,c',r',e]),Z,q _ (I.aA.fresh (bh _))]
 rcases hq with hq|hq
 ·let#[its,r',pl,hz]:=I.list hq;let hlen:=r'.length;let#[o,ho,hc,n,hd]:=pl.isList;exact call_list_seq p (.inl Z) ho hc hd (λh' c' kp e=>fin its r' hz h' c' kp e) (by simp only[cm]<;>omega)
 let#[its,r',pl,hz]:=I.tuple hq;let hlen:=r'.length;let#[o,ho,hc,n,hd]:=pl;exact call_list_seq p (.inr Z) ho hc hd (λh' c' kp e=>fin its r' hz h' c' kp e) (by simp only[cm]<;>omega)
inductive Ve (K:aj) (xs:ai) (H:Hp) (Q:VK):Prop
 |mk:∀p ys,xs=[.ref p]->((dY K H p ys/\∀l,H l=none->Q (.ref l) (upd H l (.tup ys)))∨(ft K H p ys/\Q (.ref p) H))->Ve K xs H Q
theorem Pg:gy X (.type "tuple") (Ve X.K):=by
 intro pins s σ H xs us Q I r h;let#[p,ys,rfl,h]:=h;let#[u,rfl,rx]:=vals1 r;cases rx;rcases h with⟨hq,q⟩|⟨hq,q⟩
 ·let#[its,r',pl,hz]:=I.list hq;let hlen:=r'.length;apply call_tuple_list pl.isList (λh' kp=>?_) (by simp only[cm]<;>omega)
  have I1:Inv X pins σ H { s with heap:=h' }:=I.kept (t':=s.toks) kp
  have I2:Inv X pins σ (upd H h'.objs.size (.tup ys)) { s with heap:=h'.push { cls:=.type "tuple",data:=.seq its.toArray } }:=
   I1.laid (t':=s.toks) (λb o e=>aU _ e) (bh _) (show fw X.prog X.w _ _ _ (.tup ys) from ⟨hz,its,r',IsTup.new _ _,_,cK _ rfl,rfl⟩)
  exact⟨.ref h'.objs.size,_,I2,rfl,q _ (I1.aA.fresh (bh _))⟩
 let#[its,r',pl,hz]:=I.tuple hq;exact call_tuple_same pl ⟨.ref p,H,I,rfl,q⟩
def J3(K:aj)(T:String)(x:V)(H:Hp):Prop:=match x with
 |.str _=>T="str"
 |.int _=>T="int"
 |.ref p=>(T="list"/\∃xs,dY K H p xs)∨(T="tuple"/\∃o,K.lookup p\o/\o.cls=.type "tuple"/\o.dict=none) ∨
   (T="dict"/\((∃kvs,H p\.dK kvs)∨∃kvs,H p\.dT kvs))∨(T="set"/\∃S n,H p\.set S n)
 |_=>False
theorem Ry{pins:List (Addr × Obj)}{σ:St}{H:Hp}{s:Ab}{T:String}{x:V}{v:Aa}(I:Inv X pins σ H s)(r:RelV x v)(ty:J3 X.K T x H) :
  s.TypeIs v T/\∀a,v=.ref a->∃ob,s.heap.get? a\ob/\ob.dict=none:=by
 cases x with
 |str z=>
  let#[t,rfl]:=r;cases (show T="str" from ty);exact#[typeIs_str s z t,λ_ e=>nomatch e]
 |int i=>
  let#[t,rfl]:=r;cases (show T="int" from ty);exact#[typeIs_int s i t,λ_ e=>nomatch e]
 |ref p=>
  cases r;rcases ty with⟨rfl,xs,hq⟩|⟨rfl,o,hk,hc,hd⟩|⟨rfl,hk⟩|⟨rfl,S,n,hk⟩
  ·let#[its,_,pl,_]:=I.list hq;apply#[pl.isList.typeIs,λa e=>?_];cases e;let#[o,n,e,c,hd,_]:=pl;exact#[o,e,hd]
  ·apply#[#[o,I.gE p o hk,hc],λa e=>?_];cases e;exact#[o,I.gE _ o hk,hd]
  ·have z:∃o,s.heap.get? p\o/\o.ExactDict:=by
    rcases hk with⟨kvs,hk⟩|⟨kvs,hk⟩
    ·let#[_,_,_,_,o,_,_,e,ex,_]:=I.aA p _ hk;exact#[o,e,ex]
    let#[_,_,_,_,o,_,_,e,ex,_]:=I.aA p _ hk;exact#[o,e,ex]
   let#[o,e,ex]:=z;apply#[#[o,e,ex.1],λa e2=>?_];cases e2;exact#[o,e,ex.2.1]
  ·let#[o,_,_,_,e,ex,_]:=I.aA p _ hk;apply#[#[o,e,ex.1],λa e2=>?_];cases e2;exact#[o,e,ex.2.1]
 |_=>exact False.elim ty
def Km(K:aj)(T:String)(r:V->ai->Hp->VK->Prop)(to:TE):TE:=λσ H Q=>to σ H λx H1=>J3 K T x H1/\r x [] H1 Q
def Wx(K:aj)(T:String)(r:V->ai->Hp->VK->Prop)(to:TE)(t:TA):TE:=λσ H Q=>to σ H λx H1=>J3 K T x H1/\t σ H1 λxs H2=>r x xs H2 Q
variable{o e:Expr}{es:List Expr}{to:TE}{t:TA}{name:Str}{apos bZ:Pos}{T id:String}{r:V->ai->Hp->VK->Prop}
theorem YQ(pa:PlainAttrs T)(slot:Slot T name id)(LF:typeOf (.builtin id)=pure (.type "method_descriptor"))(hm:Vo X id r)(ho:PE X o to)
  (gY:attributeBase o name X.env (eval o X.env)=eval o X.env:=by rfl) (gX:(apos.endLine == bZ.line)=true:=by rfl):PE X (.Call (.Attribute o name apos) [] [] bZ) (Km X.K T r to):=by
 intro pins s σ H Q I h;apply wpAny_Call_method0_late gY gX (aO (ho pins s σ H _ I h) λv s1 ⟨x,H1,I1,r1,ty,q1⟩=>?_);let#[h1,h2]:=Ry I1 r1 ty;exact#[T,id,pa,slot,LF,h1,h2,Calls.callWith_builtin Z (PySem.evalArgs_none (hm pins s1 σ H1 x [] v [] Q I1 r1 .nil q1))]
theorem pM(pa:PlainAttrs T)(slot:Slot T name id)(LF:typeOf (.builtin id)=pure (.type "method_descriptor"))(hm:Vo X id r)(ho:PE X o to)(ha:PA X (e::es) t)
  (gY:attributeBase o name X.env (eval o X.env)=eval o X.env:=by rfl)
  (Mi:((backTo bZ (starEach (e::es) X.env)).all (λx=>!x.1)&&(backToKw bZ (keywordEach [] X.env)).all (λx=>x.1.isSome)
   && decide ((e::es).length+([]:List Keyword).length+(if ([]:List Keyword).isEmpty then 0 else 1)<30))=true:=by rfl)
  (gX:(apos.endLine == bZ.line)=true:=by rfl) (hs:starEach (e::es) X.env=(false,eval e X.env)::starEach es X.env:=by rfl) (zX:(backTo bZ (starEach es X.env)).any (·.1)=false:=by rfl) :
  PE X (.Call (.Attribute o name apos) (e::es) [] bZ) (Wx X.K T r to t):=by
 intro pins s σ H Q I h;apply wpAny_Call_method_late gY Mi gX Z (aO (ho pins s σ H _ I h) λv s1 ⟨x,H1,I1,r1,ty,q1⟩=>?_);let#[h1,h2]:=Ry I1 r1 ty;apply#[T,id,pa,slot,LF,h1,h2,?_];let hA:=ha bZ pins s1 σ H1 _ I1 q1;rw[hs] at hA ⊢;apply Calls.callWith_builtin (by show (false || (backTo bZ (starEach es X.env)).any (·.1))=false;rw[zX]<;>rfl) (Calls.evalArgs_plain ?_)
 exact aO hA λus s2 ⟨vs,H2,I2,r2,q2⟩=>hm pins s2 σ H2 x vs v us Q I2 r1 r2 q2
end
end L2
namespace L2
open PySem PySem.Spec PyProof.Rows
def JJ(X:Cx)(id:String)(r:V->ai->Hp->VK->Prop):Prop:=
 ∀(pins:List (Addr × Obj)) (s:Ab) (σ:St) (H:Hp) (x:V) (xs:ai) (v:Aa) (us:ag) (Q:VK),Inv X pins σ H s->RelV x v->Vals xs us->r x xs H Q->
  wpAny (model X.prog X.w) X.A (call (.builtin id) (v::us)) (EP X pins σ Q) X.xe s
theorem Vals.one:∀{x:V} {us:ag},Vals [x] us->∃u,us=[u]/\RelV x u
 |_,_,.cons r .nil=>#[_,Z,r]
theorem Vals.two:∀{x y:V} {us:ag},Vals [x,y] us->∃u v,us=[u,v]/\RelV x u/\RelV y v
 |_,_,_,.cons r (.cons q .nil)=>#[_,_,Z,r,q]
theorem Vals.zero:∀{us:ag},Vals [] us->us=[]
 |_,.nil=>rfl
theorem Vals.reverse{xs:ai}{us:ag}(h:Vals xs us):Vals xs.reverse us.reverse:=by
 induction h with
 |nil=>exact .nil
 |cons r t ih=>rw[List.reverse_cons,List.reverse_cons];exact Vals.append ih (.cons r .nil)
section
variable{X:Cx}{pins:List (Addr × Obj)}{σ:St}{H:Hp}{s:Ab}{l b:Addr}{xs ys zs:ai}
theorem Inv.vO{its its':ag}{n:Nat}{f:Array Aa->Array Aa}{t':Nat}(I:Inv X pins σ H s)(hH:H l\.lst xs)
  (e:s.heap.get? l=some { cls:=.type "list",data:=.seq its.toArray n }) (hf:f its.toArray=its'.toArray) (hv:Vals ys its') (hz:ys.length<=sizeLine) :
  Inv X pins σ (upd H l (.lst ys)) { s with heap:=s.heap.update l (Obj.mapSeq f),toks:=t' }:=by
 let q:=PySem.IsL.update e f;rw[hf] at q;apply I.write (x:=l) (e:=l) (by rw[hH];exact trivial) (.inl Z) (λb' u hb hu=>(uL s.heap (Obj.mapSeq f) (bJ hb)).trans hu) #[_,q] ?_;exact#[hz,its',_,hv,q]
theorem Inv.zJ{its:ag}{t':Nat}(I:Inv X pins σ H s)(hv:Vals ys its)(hz:ys.length<=sizeLine) :
  Inv X pins σ (upd H s.heap.objs.size (.lst ys)) { s with heap:=s.heap.push { cls:=.type "list",data:=.seq its.toArray },toks:=t' }:=
 I.laid (λ_ _ q=>aU _ q) (bh _) #[hz,its,0,hv,cK _ Z]
theorem Inv.fresh(I:Inv X pins σ H s):H s.heap.objs.size=none:=I.aA.fresh (bh _)
theorem Inv.jE(I:Inv X pins σ H s)(hH:H l\.lst xs):xs.length<=sizeLine/\∃(its:ag) (n:Nat),Vals xs its/\xs.length=its.length/\s.heap.get? l=some { cls:=.type "list",data:=.seq its.toArray n }:=by
 let#[z,its,n,r,e]:=I.aA l _ hH;exact#[z,its,n,r,r.length,e]
theorem rO{n:Nat}(h:n<=sizeLine):Builtin.List.listTooLong n=false:=by
 unfold Builtin.List.listTooLong;exact eG Z1
end
section
variable{X:Cx}
inductive nC (x:V) (vs:ai) (H:Hp) (Q:VK):Prop
 |mk:∀l xs y,x=.ref l->vs=[y]->H l\.lst xs->xs.length<sizeLine->Q .non (upd H l (.lst (xs++[y])))->nC x vs H Q
theorem uW:JJ X "list.append" nC:=by
 intro pins s σ H x vs v us Q I rx rv h;let#[l,xs,y,rfl,rfl,hH,hz,q]:=h;cases rx;let#[u,rfl,ru]:=rv.one;let#[z,its,n,r,hl,e]:=I.jE hH;apply call_meets F.slot_list_append ⟨_,e,rfl⟩ F.entry_list_append (F.args_list_append_2 _ _) (PySem.list_append l its.toArray n u (by rw[cm];omega)) ⟨e,?_⟩;apply⟨.non,_,I.vO (its':=its++[u]) hH e Z2 (r.append (.cons ru .nil)) ?_,rfl,q⟩;rw[d_,jZ];omega
inductive nv (x:V) (vs:ai) (H:Hp) (Q:VK):Prop
 |mk:∀l b xs zs,x=.ref l->vs=[.ref b]->H l\.lst xs->H b\.lst zs->xs.length+zs.length<=sizeLine->Q .non (upd H l (.lst (xs++zs)))->nv x vs H Q
theorem fV_:JJ X "list.extend" nv:=by
 intro pins s σ H x vs v us Q I rx rv h;let#[l,b,xs,zs,rfl,rfl,hH,hB,hz,q]:=h;cases rx;let#[u,rfl,ru]:=rv.one;cases ru;let#[z,its,n,r,hl,e]:=I.jE hH;let#[z2,ip,n2,r2,lX,e2]:=I.jE hB;have hsz:its.toArray.size+ip.toArray.size<=sizeLine:=by rw[cm,cm];omega
 have Ep:¬(!its.toArray.isEmpty&&Builtin.List.listTooLong (its.toArray.size+ip.toArray.size))=true:=by
  rw[rO hsz,Bool.and_false];exact gK
 apply call_meets F.slot_list_extend ⟨_,e,rfl⟩ F.entry_list_extend (F.args_list_extend_2 _ _)
  (AutoSeq1.list_extend_list_list_0 l its.toArray n b ip.toArray n2 Ep (by rw[cm];omega) Z1) ⟨e,e2,?_⟩
 apply⟨.non,_,I.vO (its':=its++ip) hH e Z2 (r.append r2) ?_,rfl,q⟩;rw[d_];omega
inductive UA (x:V) (vs:ai) (H:Hp) (Q:VK):Prop
 |mk:∀l xs,x=.ref l->vs=[]->H l\.lst xs->Q .non (upd H l (.lst xs.reverse))->UA x vs H Q
theorem fy_:JJ X "list.reverse" UA:=by
 intro pins s σ H x vs v us Q I rx rv h;let#[l,xs,rfl,rfl,hH,q]:=h;cases rx;let _X:=rv.zero;subst _X;let#[z,its,n,r,hl,e]:=I.jE hH;apply call_meets F.slot_list_reverse ⟨_,e,rfl⟩ F.entry_list_reverse (F.args_list_reverse_1 _) (AutoSeq1.list_reverse_list_0 l its.toArray n (by rw[cm];omega)) ⟨e,?_⟩;apply⟨.non,_,I.vO (its':=its.reverse) hH e Z2 r.reverse ?_,rfl,q⟩;rw[List.length_reverse];omega
inductive C8 (x:V) (y:V) (H:Hp) (Q:VK):Prop
 |mk:∀l b xs zs,x=.ref l->y=.ref b->H l\.lst xs->H b\.lst zs->xs.length+zs.length<=sizeLine->(∀p,H p=none->Q (.ref p) (upd H p (.lst (xs++zs))))->C8 x y H Q
theorem ZE:dJ X (binaryOp .Add) C8:=by
 intro pins s σ H x y v u Q I rx ry h;let#[l,b,xs,zs,rfl,rfl,hH,hB,hz,q]:=h;cases rx;cases ry;let#[z,its,n,r,hl,e]:=I.jE hH;let#[z2,ip,n2,r2,lX,e2]:=I.jE hB;apply PySem.P.add_list e e2 ?_ (by rw[cm,cm];omega);have ea:its.toArray++ip.toArray=(its++ip).toArray:=by simp
 rw[ea];exact⟨.ref _,_,I.zJ (t':=s.toks) (r.append r2) (by rw[d_];omega),rfl,q _ I.fresh⟩
end
section
variable{prog:Ad}{w:Af}{A:Ag}{E:Aa->Ab->Prop}{s:Ab}
end
section
variable{X:Cx}
end
end L2
namespace L2
open PySem PySem.Spec PyProof.Rows
section
variable{κ:Type}[DecidableEq κ]
def a9(kvs:List (κ × V))(k:κ):aJ:=(kvs.find? λkv=>decide (kv.1=k)).map (·.2)
def putK(kvs:List (κ × V))(k:κ)(v:V):List (κ × V):=
 if (kvs.any λkv=>decide (kv.1=k))=true then kvs.map (λkv=>if kv.1=k then (kv.1,v) else kv) else kvs++[(k,v)]
theorem AZ{p:κ × V}{r:List (κ × V)}{k:κ}(e:p.1=k):a9 (p::r) k\p.2:=by simp[a9,yy,e]
theorem A1{p:κ × V}{r:List (κ × V)}{k:κ}(e:¬p.1=k):a9 (p::r) k=a9 r k:=by simp[a9,yy,e]
theorem BX(k:κ):∀kvs:List (κ × V),(kvs.any λkv=>decide (kv.1=k))=(a9 kvs k).isSome
 |[]=>rfl
 |p::r=>by
  rw[List.any_cons];by_cases e:p.1=k
  ·simp only[AZ e,dc e,Bool.true_or,Option.isSome_some]
  rw[A1 e,eG e,Bool.false_or];exact BX k r
theorem Pn(kvs:List (κ × V))(k:κ)(v:V):(putK kvs k v).length<=kvs.length+1:=by
 unfold putK;split
 ·rw[aq];omega
 rw[d_,jt,List.length_nil];omega
theorem wV{kvs:List (κ × V)}{k:κ}(v:V)(h:a9 kvs k=none):putK kvs k v=kvs++[(k,v)]:=by
 unfold putK;rw[BX,h];exact aB (by decide)
theorem eR.dO{o:aJ}{u:Option Aa}(r:eR o u):o.isSome=u.isSome:=by
 cases o with
 |none=>cases u with
  |none=>rfl
  |some _=>exact (show False from r).elim
 |some _=>cases u with
  |none=>exact (show False from r).elim
  |some _=>rfl
theorem KV.val{kvs:List (κ × V)}{vs:List (κ × Aa)}(r:KV kvs vs)(k:κ):eR (a9 kvs k) (valueAt vs k):=by
 unfold KV at r
 induction r with
 |nil=>exact True.intro
 |@cons p q ps qs h t ih=>
  let#[h1,h2]:=h;by_cases e:p.1=k
  ·have e':q.1=k:=h1.symm.trans e;have b:valueAt (q::qs) k\q.2:=by simp[valueAt,yy,e']
   rw[AZ e,b];exact h2
  have e':¬q.1=k:=λz=>e (h1.trans z);have b:valueAt (q::qs) k=valueAt qs k:=by simp[valueAt,yy,e']
  rw[A1 e,b];exact ih
theorem KV.any{kvs:List (κ × V)}{vs:List (κ × Aa)}(r:KV kvs vs)(k:κ):(kvs.any λkv=>decide (kv.1=k))=vs.any λkv=>decide (kv.1=k):=by
 unfold KV at r
 induction r with
 |nil=>rfl
 |cons h t ih=>rw[List.any_cons,List.any_cons,ih,h.1]
theorem KV.zu{kvs:List (κ × V)}{vs:List (κ × Aa)}(r:KV kvs vs)(k:κ){y:V}{u:Aa}(ry:RelV y u) :
  KV (kvs.map λkv=>if kv.1=k then (kv.1,y) else kv) (vs.map λkv=>if kv.1=k then (kv.1,u) else kv):=by
 unfold KV at r ⊢
 induction r with
 |nil=>exact .nil
 |@cons p q ps qs h t ih=>
  rw[eI,eI];apply .cons ?_ ih;let#[h1,h2]:=h;by_cases e:p.1=k
  ·rw[aI e,aI (h1.symm.trans e)];exact#[h1,ry]
  rw[aB e,aB (λz=>e (h1.trans z))];exact#[h1,h2]
theorem KV.put{kvs:List (κ × V)}{vs:List (κ × Aa)}(r:KV kvs vs)(k:κ){y:V}{u:Aa}(ry:RelV y u):KV (putK kvs k y) (stored vs k u):=by
 unfold putK stored;rw[r.any k];by_cases e:(vs.any λkv=>decide (kv.1=k))=true
 ·rw[aI e,aI e];exact r.zu k ry
 rw[aB e,aB e];exact Paired.snoc r #[Z,ry]
theorem KV.keys{kvs:List (κ × V)}{vs:List (κ × Aa)}(r:KV kvs vs):kvs.map (·.1)=vs.map (·.1):=by
 unfold KV at r
 induction r with
 |nil=>rfl
 |cons h t ih=>rw[eI,eI,ih,h.1]
theorem KV.length{kvs:List (κ × V)}{vs:List (κ × Aa)}(r:KV kvs vs):kvs.length=vs.length:=bw r
end
theorem AG{P:Ad}{w:Af}{k:Key}{u:Aa}(r:RelV (kV k) u):(fj P w).is k u=true:=by
 cases k with
 |inl i=>let#[t,e]:=(show ∃t,u=Value.int i t from r);subst e;exact ee_ P w i t
 |inr x=>let#[t,e]:=(show ∃t,u=Value.str x t from r);subst e;exact e9_ P w x t
theorem Ut{P:Ad}{w:Af}:∀{ks:av} {us:ag},Vals (ks.map kV) us->ItemsAre (fj P w) ks us
 |[],_,r=>by rw[List.map_nil] at r;cases r;exact .nil
 |k::ks,_,r=>by
  rw[eI] at r;cases r with
  |cons h t=>exact .cons (AG h) (Ut t)
abbrev KT(H:Hp):List (av × V)->List (av × Addr × Aa)->Prop:=Paired λp q=>p.1=q.1/\H q.2.1\.tup (p.1.map kV)/\RelV p.2 q.2.2
theorem KT.val{H:Hp}{kvs:List (av × V)}{xs:List (av × Addr × Aa)}(r:KT H kvs xs)(k:av):eR (a9 kvs k) ((atKey xs k).map (·.2)):=by
 induction r with
 |nil=>exact True.intro
 |@cons p q ps qs h t ih=>
  let#[h1,_,h2]:=h;by_cases e:p.1=k
  ·have e':q.1=k:=h1.symm.trans e;have b:atKey (q::qs) k\q.2:=by simp[atKey,yy,e']
   rw[AZ e,b];exact h2
  have e':¬q.1=k:=λz=>e (h1.trans z);have b:atKey (q::qs) k=atKey qs k:=by simp[atKey,yy,e']
  rw[A1 e,b];exact ih
theorem KT.zu{H:Hp}{kvs:List (av × V)}{xs:List (av × Addr × Aa)}(r:KT H kvs xs)(k:av){y:V}{u:Aa}(ry:RelV y u) :
  KT H (kvs.map λkv=>if kv.1=k then (kv.1,y) else kv) (xs.map (putAt k u)):=by
 induction r with
 |nil=>exact .nil
 |@cons p q ps qs h t ih=>
  rw[eI,eI];apply .cons ?_ ih;let#[h1,h2,h3]:=h;unfold putAt;by_cases e:p.1=k
  ·rw[aI e,aI (h1.symm.trans e)];exact#[h1,h2,ry]
  rw[aB e,aB (λz=>e (h1.trans z))];exact#[h1,h2,h3]
theorem KT.put{H:Hp}{kvs:List (av × V)}{xs:List (av × Addr × Aa)}(r:KT H kvs xs)(k:av){b:Addr}{y:V}{u:Aa}(hb:H b\.tup (k.map kV))(ry:RelV y u) :
  KT H (putK kvs k y) (storedH xs k b u):=by
 have e:(kvs.any λkv=>decide (kv.1=k))=(atKey xs k).isSome:=by
  rw[BX,(r.val k).dO,Option.isSome_map]
 unfold putK storedH;rw[e];by_cases q:(atKey xs k).isSome=true
 ·rw[aI q,aI q];exact r.zu k ry
 rw[aB q,aB q];exact Paired.snoc r #[Z,hb,ry]
theorem KT.keeps{H H':Hp}{kvs:List (av × V)}{xs:List (av × Addr × Aa)}(r:KT H kvs xs)(ht:∀b ys,H b\.tup ys->H' b\.tup ys):KT H' kvs xs:=
 Paired.aV r λ_ _ z=>#[z.1,ht _ _ z.2.1,z.2.2]
section
variable{P:Ad}{w:Af}{H:Hp}{h:Heap}{a:Addr}
theorem Q8{u:HO}(ok:fR P w H h)(e:Rd H a u):fw P w H h a u:=e.ok ok
theorem jR{kvs:List (Key × V)}(ok:fR P w H h)(e:Rd H a (.dK kvs)):kvs.length<=sizeLine/\(a == sysModules)=false/\∃vs,KV kvs vs/\h.DictOf (fj P w) a vs:=
 show fw P w H h a (.dK kvs) from Q8 ok e
theorem E3{kvs:List (Key × V)}(ok:fR P w H h)(e:H a\.dK kvs):kvs.length<=sizeLine/\(a == sysModules)=false/\∃vs,KV kvs vs/\h.DictOf (fj P w) a vs:=jR ok (.inl e)
theorem BO{ks:av}(ok:fR P w H h)(e:H a\.tup (ks.map kV)):(tupleKind (fj P w)).is h ks a:=by
 let#[_,its,r,#[o,h1,h2,n,h3],_]:=(show fw P w H h a (.tup (ks.map kV)) from ok a _ e);exact#[o,its.toArray,n,h1,h2,h3,by simpa using Ut r]
theorem BE{kvs:List (av × V)}(ok:fR P w H h)(e:Rd H a (.dT kvs)):kvs.length<=sizeLine/\(a == sysModules)=false /\
  ∃xs,KT H kvs xs/\h.DictOfH (tupleKind (fj P w)) a xs:=by
 let#[z,y,xs,r,o,es,ep,h1,h2,h3,h4,h5]:=(show fw P w H h a (.dT kvs) from Q8 ok e);apply#[z,y,xs,r,o,es,ep,h1,h2,h3,h4,λx hx=>?_,h5]
 have all:∀{l:List (av × V)} {m:List (av × Addr × Aa)},KT H l m->∀x∈m,(tupleKind (fj P w)).is h x.1 x.2.1:=by
  intro l m q
  induction q with
  |nil=>intro x hx;exact nomatch hx
  |@cons p q ps qs hq t ih=>
   intro x hx;rcases bV.mp hx with e|hx
   ·subst e;exact BO ok (by rw[<- hq.1];exact hq.2.1)
   exact ih x hx
 exact all r x hx
theorem Q_{kvs:List (av × V)}(ok:fR P w H h)(e:H a\.dT kvs):kvs.length<=sizeLine/\(a == sysModules)=false /\
  ∃xs,KT H kvs xs/\h.DictOfH (tupleKind (fj P w)) a xs:=BE ok (.inl e)
end
def eS(H:Hp)(a:Addr)(y:V)(r:aJ):Prop:=
 (∃kvs k,Rd H a (.dK kvs)/\y=kV k/\r=a9 kvs k)∨∃kvs k b,Rd H a (.dT kvs)/\y=.ref b/\H b\.tup (k.map kV)/\r=a9 kvs k
def ph(H:Hp)(a:Addr)(y v:V)(H':Hp):Prop:=
 (∃kvs k,H a\.dK kvs/\y=kV k/\kvs.length<sizeLine/\H'=upd H a (.dK (putK kvs k v))) ∨
 ∃kvs k b,H a\.dT kvs/\y=.ref b/\H b\.tup (k.map kV)/\kvs.length<sizeLine/\H'=upd H a (.dT (putK kvs k v))
theorem eS.k{H:Hp}{a:Addr}{kvs:List (Key × V)}{k:Key}(e:H a\.dK kvs):eS H a (kV k) (a9 kvs k):=.inl #[kvs,k,.inl e,Z,Z]
theorem eS.t{H:Hp}{a b:Addr}{kvs:List (av × V)}{k:av}(e:H a\.dT kvs)(eb:H b\.tup (k.map kV)):eS H a (.ref b) (a9 kvs k):=.inr #[kvs,k,b,.inl e,Z,eb,Z]
theorem ph.k{H:Hp}{a:Addr}{kvs:List (Key × V)}{k:Key}{v:V}(e:H a\.dK kvs)(hl:kvs.length<sizeLine):ph H a (kV k) v (upd H a (.dK (putK kvs k v))):=.inl #[kvs,k,e,Z,hl,Z]
theorem ph.t{H:Hp}{a b:Addr}{kvs:List (av × V)}{k:av}{v:V}(e:H a\.dT kvs)(eb:H b\.tup (k.map kV))(hl:kvs.length<sizeLine) :
  ph H a (.ref b) v (upd H a (.dT (putK kvs k v))):=.inr #[kvs,k,b,e,Z,eb,hl,Z]
section
variable{X:Cx}{pins:List (Addr × Obj)}{σ:St}{H:Hp}{s:Ab}{a:Addr}{y v:V}{u r:Aa}{o:aJ}{A:Ag}{E:Aa->Ab->Prop}
theorem Inv.big(I:Inv X pins σ H s):sysModules<s.heap.objs.size:=by
 have h:mainGlobals<s.heap.objs.size:=(I.mod.glob.keeps I.bk).lt;exact Nat.lt_trans (by decide) h
theorem gy_{Q:Aa->Ab->Prop}(hu:A.units+1<cLine)(I:Inv X pins σ H s)(g:eS H a y (some v))(ry:RelV y u)(h:∀w' s',Inv X pins σ H s'->RelV v w'->Q w' s') :
  wpAny (model X.prog X.w) A (getItem (.ref a) u) Q E s:=by
 rcases g with⟨kvs,k,e,ey,l⟩|⟨kvs,k,b,e,ey,eb,l⟩
 ·subst ey;let#[z,hd,vs,rel,dd]:=jR I.aA e;let#[w',hw,je]:=eR.some_of (v:=v) (o:=valueAt vs k) (by rw[l];exact rel.val k);exact wpAny_getItem_of (AG ry) dd.mapOf hw (h w' _ (I.tok _) je)
 subst ey;cases (show u=Value.ref b from ry);let#[z,hd,xs,rel,dd]:=BE I.aA e;let#[w',hw,je]:=eR.some_of (v:=v) (o:=(atKey xs k).map (·.2)) (by rw[l];exact rel.val k);let#[p,hp,kq]:=B4.mp hw;apply wpAny_getItem_heap (tupleKind_room_in1 hu) (BO I.aA eb) dd hp ?_;rw[kq];exact h w' _ (I.tok _) je
theorem NK{Q:Aa->Ab->Prop}(hu:A.units+1<cLine)(I:Inv X pins σ H s)(g:eS H a y o)(ry:RelV y u)(h:∀s',Inv X pins σ H s'->Q (.bool o.isSome) s') :
  wpAny (model X.prog X.w) A (compareOp .In u (.ref a)) Q E s:=by
 rcases g with⟨kvs,k,e,ey,l⟩|⟨kvs,k,b,e,ey,eb,l⟩
 ·subst ey;let#[z,hd,vs,rel,dd]:=jR I.aA e;apply wpAny_in_of (AG ry) hd dd.mapOf ?_;rw[<- (rel.val k).dO,<- l];exact h _ (I.tok _)
 subst ey;cases (show u=Value.ref b from ry);let#[z,hd,xs,rel,dd]:=BE I.aA e;apply wpAny_in_heap (tupleKind_room_in1 hu) (BO I.aA eb) hd dd ?_;let q:=(rel.val k).dO;rw[Option.isSome_map] at q;rw[<- q,<- l];exact h _ (I.tok _)
theorem _p{Q:Aa->Ab->Prop}(hu:A.units+1<cLine)(I:Inv X pins σ H s)(g:eS H a y o)(ry:RelV y u)(h:∀s',Inv X pins σ H s'->Q (.bool (!o.isSome)) s') :
  wpAny (model X.prog X.w) A (compareOp .NotIn u (.ref a)) Q E s:=by
 rcases g with⟨kvs,k,e,ey,l⟩|⟨kvs,k,b,e,ey,eb,l⟩
 ·subst ey;let#[z,hd,vs,rel,dd]:=jR I.aA e;apply wpAny_notIn_of (AG ry) hd dd.mapOf ?_;rw[<- (rel.val k).dO,<- l];exact h _ (I.tok _)
 subst ey;cases (show u=Value.ref b from ry);let#[z,hd,xs,rel,dd]:=BE I.aA e;apply wpAny_notIn_heap (tupleKind_room_in1 hu) (BO I.aA eb) hd dd ?_;let q:=(rel.val k).dO;rw[Option.isSome_map] at q;rw[<- q,<- l];exact h _ (I.tok _)
theorem Nk{h':Heap}{t':Nat}{ob:HO}(I:Inv X pins σ H s)(mu:F3 (H a))(hs:Heap.SameBut a s.heap h')(he:∃q,h'.get? a\q)(new:fw X.prog X.w (upd H a ob) h' a ob) :
  Inv X pins σ (upd H a ob) { s with heap:=h',toks:=t' }:=
 I.write (x:=a) (e:=a) mu (.inl Z) (λb q hb z=>(hs.2 b hb).trans z) he new
theorem H_{P:Ad}{w:Af}{H':Hp}{h':Heap}{kvs:List (Key × V)}{vs:List (Key × Aa)}(z:kvs.length<=sizeLine)(hd:(a == sysModules)=false)(rel:KV kvs vs)(dd:h'.DictOf (fj P w) a vs) :
  fw P w H' h' a (.dK kvs):=#[z,hd,vs,rel,dd]
theorem fK_{H':Hp}{Q:Unit->Ab->Prop}(hu:A.units+1<cLine)(I:Inv X pins σ H s)(g:ph H a y v H')(ry:RelV y u)(rv:RelV v r)(h:∀s',Inv X pins σ H' s'->Q () s') :
  wpAny (model X.prog X.w) A (setItem (.ref a) u r) Q E s:=by
 rcases g with⟨kvs,k,e,ey,l,eH⟩|⟨kvs,k,b,e,ey,eb,l,eH⟩
 ·subst ey eH;let#[z,hd,vs,rel,dd]:=E3 I.aA e;have hz:vs.length<=sizeLine:=by rw[<- rel.length];exact z
  have hl:(putK kvs k v).length<=sizeLine:=by have:=Pn kvs k v;omega
  apply wpAny_setItem_pairs (hsz:=hz) (AG ry) dd λh' yi hs=>h _ ?_;have he:∃q,h'.get? a\q:=let #[q,_,_,hq,_]:=yi;#[q,hq];exact Nk I (by rw[e];exact True.intro) hs he (H_ hl hd (rel.put k rv) yi)
 subst ey eH;cases (show u=Value.ref b from ry);let#[z,hd,xs,rel,dd]:=Q_ I.aA e;have hz:xs.length<=sizeLine:=by rw[<- bw rel];exact z
 have hl:(putK kvs k v).length<=sizeLine:=by have:=Pn kvs k v;omega
 apply wpAny_setItem_heap (hsz:=hz) (tupleKind_room_in1 hu) (BO I.aA eb) dd λh' yi hs=>h _ ?_;let#[q,es,ep,hq,h2,h3,h4,_,h5]:=yi;apply Nk I (by rw[e];exact True.intro) hs #[q,hq] #[hl,hd,_,(rel.put k eb rv).keeps λc ys ec=>?_,q,es,ep,hq,h2,h3,h4,h5];rw[ax (bK ec e nofun)];exact ec
end
section
variable{X:Cx}{pins:List (Addr × Obj)}{σ:St}{H:Hp}{s:Ab}{a:Addr}{kvs:List (Key × V)}{k:Key}{u:Aa}{A:Ag}{E:Aa->Ab->Prop}
theorem YA{Q:Aa->Ab->Prop}(I:Inv X pins σ H s)(e:Rd H a (.dK kvs))(h:∀t s',Inv X pins σ H s'->Q (.int kvs.length t) s'):wpAny (model X.prog X.w) A (call (.builtin "len") [.ref a]) Q E s:=by
 let#[z,hd,vs,rel,dd]:=jR I.aA e;apply call_len_dict hd dd (by rw[<- rel.length];rw[cJ] at z;omega) ?_;rw[<- rel.length];exact h _ _ (I.tok _)
end
def F2(i:Expr):Prop:=∀ov iv,subscripted i false ov iv=operate [ov,iv] (getItem ov iv)
theorem _l{prog:Ad}{w:Af}{A:Ag}{E:Aa->Ab->Prop}{s:Ab}{env:Env}{value slice:Expr}{pos:Pos}{T id:String}{Q:Aa->Ab->Prop}
  (hl:typeLookup (.type T) "__getitem__"=pure (some (.builtin id))) (hs:F2 slice)
  (h:wpAny (model prog w) A (eval value env) (λo aL=>wpAny (model prog w) A (eval slice env) (λi jw=>jw.TypeIs o T/\wpAny (model prog w) A (getItem o i) Q E jw) E aL) E s) :
  wpAny (model prog w) A (eval (.Subscript value slice pos) env) Q E s:=by
 apply Subscript_ (wpAny_mono h (λo aL LA=>wpAny_mono LA (λi jw zP=>?_) λ_ _ x=>x) λ_ _ x=>x);let#[hT,zP]:=zP;unfold subscriptTail;apply af ?_;rw[getitemInPython_of_ne hT.not_modules];apply af (wpAny_specialOf hT hl ?_)
 have fin:wpAny (model prog w) A (subscripted slice false o i) (λr CN=>wpAny (model prog w) A (letTemporaryGo value o r >>= λ_=>pure r) Q E CN) E jw:=by
  rw[hs o i];exact wpAny_operating (wpAny_mono zP (λr CN Lz=>af (wpAny_letTemporaryGo (aE Lz))) λ_ _ x=>x)
 first
  |exact aE (af fin)
  |exact af (aE (af fin))
  |exact af fin
theorem ev_{X:Cx}{pins:List (Addr × Obj)}{σ:St}{H:Hp}{s:Ab}{a:Addr}{y:V}{o:aJ}(I:Inv X pins σ H s)(g:eS H a y o):s.TypeIs (.ref a) "dict":=by
 rcases g with⟨kvs,k,e,_,_⟩|⟨kvs,k,b,e,_,_,_⟩
 ·let#[_,_,vs,_,dd]:=jR I.aA e;exact dd.typeIs
 let#[_,_,xs,_,dd]:=BE I.aA e;exact dd.typeIs
inductive qj (Q:VK) (x:V) (y:V) (H2:Hp):Prop
 |mk:∀a v,x=.ref a->eS H2 a y (some v)->Q v H2->qj Q x y H2
def CK(td ty:TE):TE:=λσ H Q=>td σ H λx H1=>ty σ H1 λy H2=>qj Q x y H2
inductive xk (Q:VK) (y:V) (x:V) (H2:Hp):Prop
 |mk:∀a o,x=.ref a->eS H2 a y o->Q (.bl o.isSome) H2->xk Q y x H2
def Kl(ty td:TE):TE:=λσ H Q=>ty σ H λy H1=>td σ H1 λx H2=>xk Q y x H2
inductive Tf (Q:VK) (y:V) (x:V) (H2:Hp):Prop
 |mk:∀a o,x=.ref a->eS H2 a y o->Q (.bl (!o.isSome)) H2->Tf Q y x H2
def vq(ty td:TE):TE:=λσ H Q=>ty σ H λy H1=>td σ H1 λx H2=>Tf Q y x H2
inductive rB (D:Ends) (σ:St) (v:V) (x:V) (y:V) (H3:Hp):Prop
 |mk:∀a H4,x=.ref a->ph H3 a y v H4->D.nx σ H4->rB D σ v x y H3
def CZ(td ty tv:TE):TS:=λD σ H=>tv σ H λv H1=>td σ H1 λx H2=>ty σ H2 λy H3=>rB D σ v x y H3
section
variable{X:Cx}{o i e value:Expr}{pos pos' Cv:Pos}{td ty tv:TE}
theorem oq(hu:X.A.units+1<cLine)(ho:PE X o td)(hi:PE X i ty)(hs:F2 i:=by exact λ_ _=>rfl):PE X (.Subscript o i pos) (CK td ty):=by
 intro pins s σ H Q I h;apply _l PySem.F.slot_dict_getitem.lookup hs (aO (ho pins s σ H _ I h) λu s1 ⟨x,H1,I1,rx,q1⟩=>aO (hi pins s1 σ H1 _ I1 q1) λiv s2 ⟨y,H2,I2,ry,a,v,ex,g,q2⟩=>?_);subst ex;obtain rfl:u=Value.ref a:=rx;exact#[ev_ I2 g,gy_ hu I2 g ry λw' s3 I3 je=>#[v,H2,I3,je,q2]]
theorem BM(hu:X.A.units+1<cLine)(hi:PE X i ty)(ho:PE X o td):PC X .In i o (Kl ty td):=by
 intro pins s σ H Q I h;apply aO (hi pins s σ H _ I h) λiv s1 ⟨y,H1,I1,ry,q1⟩=>aO (ho pins s1 σ H1 _ I1 q1) λu s2 ⟨x,H2,I2,rx,a,ov,ex,g,q2⟩=>?_;subst ex;obtain rfl:u=Value.ref a:=rx;exact NK hu I2 g ry λs3 I3=>#[.bl ov.isSome,H2,I3,Z,q2]
theorem Jv(hu:X.A.units+1<cLine)(hi:PE X i ty)(ho:PE X o td):PC X .NotIn i o (vq ty td):=by
 intro pins s σ H Q I h;apply aO (hi pins s σ H _ I h) λiv s1 ⟨y,H1,I1,ry,q1⟩=>aO (ho pins s1 σ H1 _ I1 q1) λu s2 ⟨x,H2,I2,rx,a,ov,ex,g,q2⟩=>?_;subst ex;obtain rfl:u=Value.ref a:=rx;exact _p hu I2 g ry λs3 I3=>#[.bl (!ov.isSome),H2,I3,Z,q2]
theorem uQ(hu:X.A.units+1<cLine)(ho:PE X o td)(hi:PE X i ty)(hv:PE X value tv)(hs:swapsWith value (some (.Subscript o i pos')) pos.line X.env=pure false) :
  PS X (.Assign [.Subscript o i pos'] value pos) (CZ td ty tv):=by
 intro pins s σ H D I h;apply wpAny_Assign_Subscript (aO (hv pins s σ H _ I h) λr s1 ⟨v,H1,I1,rv,q1⟩=>aO (ho pins s1 σ H1 _ I1 q1) λu s2 ⟨x,H2,I2,rx,q2⟩=>aO (hi pins s2 σ H2 _ I2 q2) λiv s3 ⟨y,H3,I3,ry,a,H4,ex,g,q3⟩=>?_) hs;subst ex;obtain rfl:u=Value.ref a:=rx;exact fK_ hu I3 g ry rv λs4 I4=>#[σ,H4,I4,q3]
end
theorem hY_{P:Ad}{w:Af}{H:Hp}(h:Heap)(hb:sysModules<h.objs.size):fw P w H (h.push { cls:=.type "dict",data:=.dict #[] }) h.objs.size (.dK []):=
 #[gR _,beq_eq_false_iff_ne.mpr (bJ (dS hb)),[],.nil,Heap.DictOf.new h]
theorem Tt{P:Ad}{w:Af}{H:Hp}(h:Heap)(hb:sysModules<h.objs.size):fw P w H (h.push { cls:=.type "dict",data:=.dict #[] }) h.objs.size (.dT []):=
 #[gR _,beq_eq_false_iff_ne.mpr (bJ (dS hb)),[],.nil,_,#[],0,cK _ Z,#[Z,Z,Z],Z,Z,List.nodup_nil]
def yP:TE:=λ_ H Q=>∀p,H p=none->Q (.ref p) (upd H p (.dK []))
def yO:TE:=λ_ H Q=>∀p,H p=none->Q (.ref p) (upd H p (.dT []))
section
variable{X:Cx}{pos:Pos}
theorem FR:PE X (.Dict [] [] pos) yP:=λpins s σ H Q I h=>
 wpAny_Dict_empty #[.ref s.heap.objs.size,_,I.laid (a:=s.heap.objs.size) (o:=.dK []) (t':=s.toks) (λ_ _ q=>aU _ q) (bh _) (hY_ s.heap I.big),Z,h _ (I.aA.fresh (bh _))]
theorem hO_:PE X (.Dict [] [] pos) yO:=λpins s σ H Q I h=>
 wpAny_Dict_empty #[.ref s.heap.objs.size,_,I.laid (a:=s.heap.objs.size) (o:=.dT []) (t':=s.toks) (λ_ _ q=>aU _ q) (bh _) (Tt s.heap I.big),Z,h _ (I.aA.fresh (bh _))]
end
def wR(kvs more:List (Key × V)):List (Key × V):=more.foldl (λacc kv=>putK acc kv.1 kv.2) kvs
theorem Ph:∀(more kvs:List (Key × V)),(wR kvs more).length<=kvs.length+more.length
 |[],kvs=>by show kvs.length<=kvs.length+0;omega
 |p::r,kvs=>by
  let h1:=Ph r (putK kvs p.1 p.2);let h2:=Pn kvs p.1 p.2;show (wR (putK kvs p.1 p.2) r).length<=_;rw[jt];omega
structure M1 (X:Cx) (o:Expr) (m:Str) (apos:Pos) (e:Expr) (bZ:Pos):Prop where
 base:attributeBase o m X.env (eval o X.env)=eval o X.env
 few:((backTo bZ (starEach [e] X.env)).all (λx=>!x.1)&&(backToKw bZ (keywordEach [] X.env)).all (λx=>x.1.isSome)
  && decide (([e]:List Expr).length+([]:List Keyword).length+(if ([]:List Keyword).isEmpty then 0 else 1)<30))=true
 line:(apos.endLine == bZ.line)=true
 trees:backTo bZ (starEach [e] X.env)=[(false,eval e X.env)]
structure M2 (X:Cx) (o:Expr) (m:Str) (apos:Pos) (e f:Expr) (bZ:Pos):Prop where
 base:attributeBase o m X.env (eval o X.env)=eval o X.env
 few:((backTo bZ (starEach [e,f] X.env)).all (λx=>!x.1)&&(backToKw bZ (keywordEach [] X.env)).all (λx=>x.1.isSome)
  && decide (([e,f]:List Expr).length+([]:List Keyword).length+(if ([]:List Keyword).isEmpty then 0 else 1)<30))=true
 line:(apos.endLine == bZ.line)=true
 trees:backTo bZ (starEach [e,f] X.env)=[(false,eval e X.env),(false,eval f X.env)]
def IsD(H:Hp)(a:Addr):Prop:=(∃kvs,Rd H a (.dK kvs))∨∃kvs,Rd H a (.dT kvs)
theorem Rv{X:Cx}{pins:List (Addr × Obj)}{σ:St}{H:Hp}{s:Ab}{a:Addr}(I:Inv X pins σ H s)(d:IsD H a) :
  s.TypeIs (.ref a) "dict"/\(∀b,Value.ref a=.ref b->∃ob,s.heap.get? b\ob/\ob.dict=none)/\(a == sysModules)=false:=by
 rcases d with⟨kvs,e⟩|⟨kvs,e⟩
 ·let#[_,hd,vs,_,dd]:=jR I.aA e;apply#[dd.typeIs,λb q=>?_,hd];cases q;let#[ob,_,_,h1,h2,_]:=dd;exact#[ob,h1,h2.2.1]
 let#[_,hd,xs,_,dd]:=BE I.aA e;apply#[dd.typeIs,λb q=>?_,hd];cases q;let#[ob,_,_,h1,h2,_]:=dd;exact#[ob,h1,h2.2.1]
section
variable{X:Cx}{pins:List (Addr × Obj)}{σ:St}{H:Hp}{s:Ab}{a:Addr}{y d:V}{u r:Aa}{o:aJ}{A:Ag}{E:Aa->Ab->Prop}
end
section
variable{X:Cx}{o e f:Expr}{apos bZ:Pos}{td ty tx:TE}
end
section
variable{X:Cx}{pins:List (Addr × Obj)}{σ:St}{H:Hp}{s:Ab}{a:Addr}{kvs:List (Key × V)}{A:Ag}{E:Aa->Ab->Prop}
theorem hm_{Q:Aa->Ab->Prop}(I:Inv X pins σ H s)(e:Rd H a (.dK kvs))(h:∀p s',H p=none->Inv X pins σ (upd H p (.dK kvs)) s'->Q (.ref p) s'):wpAny (model X.prog X.w) A (call (.type "dict") [.ref a]) Q E s:=by
 let#[z,hd,vs,rel,dd]:=jR I.aA e;apply kt_call_dict hd dd (by rw[<- rel.length];exact z) λh' yi hs=>?_;apply h _ _ (I.aA.fresh (bh _)) (I.laid (a:=s.heap.objs.size) (o:=.dK kvs) (t':=s.toks) (λb q hq=>?_) (bh _) (H_ z (beq_eq_false_iff_ne.mpr (bJ (dS I.big))) rel yi));exact (hs.2 b (dS (bz hq))).trans (aU _ hq)
end
section
variable{X:Cx}{pins:List (Addr × Obj)}{σ:St}{H:Hp}{s:Ab}{a:Addr}{y:V}{u:Aa}{A:Ag}{E:Aa->Ab->Prop}
end
end L2
namespace Vp
open PySem PySem.W PySem.Calls PyProof.Rows
theorem cL_{P:Params}{h:Heap}:∀(ns:List Int) (vs:ag),WellAll P h vs (ns.map WData.int)->IntsAre vs ns:=by
 intro ns
 induction ns with
 |nil=>
  intro vs w;rw[List.map_nil] at w;cases w;exact .nil
 |cons n ns ih=>
  intro vs w;rw[eI] at w;cases w with
  |cons a b=>
   cases a;exact .cons _ _ (ih _ b)
theorem fI_{l:OpenLaw}{n:Nat}(hn:l.most\n){P:Params}{h:Heap}{args:List WData}{vals:ag}
  (v_:l.row.toRowW.claim.pre args=true) (LD:WellAll P h vals args) :
  ∃a vs ns,vals=[Value.ref a]/\args=[WData.list (ns.map WData.int)]/\h.get? a=some { cls:=.type "list",data:=.seq vs.toArray }/\IntsAre vs ns/\ns.length<=n:=by
 have hsh:WShape.hasAll [] args [.list .int]=true:=(pre_splitW v_).1;have hc:l.pre.holds [] { args:=args }=true:=(pre_splitW v_).2;let#[d,r,rfl,h1,h2]:=hasAllW_cons hsh;obtain rfl:=hasAllW_nil h2;let#[xs,rfl,h3]:=hasW_list h1;let#[ns,rfl]:=items_int h3
 have hlen:ns.length<=n:=by
  unfold OpenLaw.pre at hc
  have h4:(WTm.not (.lt (.lit (.int (n:Int))) (.len (.arg 0)))).holds [] { args:=[.list (ns.map .int)] }=true:=by
   let h4:=(holds_andW hc).1;rw[hn] at h4;exact h4
  let h5:=condW_of h4 (w_not (w_lt w_lit (w_len_list (w_arg Z))));rw[aq] at h5;apply Nat.le_of_not_lt λq=>?_;have q':(n:Int)<((ns.length:Nat):Int):=by omega
  first
   |(rw[dc q'] at h5;exact absurd h5 (by decide))
   |(simp at h5;omega)
 cases LD with
 |cons w1 w2=>
  cases w2;cases w1 with
  |list ho Ar=>exact#[_,_,ns,Z,Z,ho,cL_ ns _ Ar,hlen]
theorem gc_(l:OpenLaw)(args:List WData):l.row.toRowW.claim.post args (.bool true) args=true:=
 postW_of (r:=l.row.toRowW) (X:=(true == true))
  (show WShape.has [] (.bool true) .bool=true by first|rfl|decide|simp[WShape.has,WShape.arms,WShape.armsAll])
  (show (WTm.eq .res (.lit (.bool true))).value [] { args:=args,res:=some (.bool true),after:=args }=some (.bool (true == true)) from w_eq_bool (w_res Z) w_lit) Z
theorem jU{l:OpenLaw}{n:Nat}{q:Ad}{loose:ae}{XP:(Str->Option Aa)->Heap->Prop}{YP:Af->Heap->Prop}{d:DefRec}
  (hn:l.most\n) (EJ:d.params.defaults=[])
  (call:∀(w:Af) (df aL:Ab) (mg mb:Str->Option Aa) (fa:Addr) (o:Obj) (pm cd doc:Aa) (a:Addr) (vs:ag) (ns:List Int),
   Ground q loose [] XP w df mg mb aL.heap->YP w aL.heap->
   aL.heap.get? fa\o->o.data=.func (docDef d.name d.params d.body d.scope pm cd doc)->aL.heap.CodeRec cd d.name->mg d.name\.ref fa->
   aL.heap.get? a=some { cls:=.type "list",data:=.seq vs.toArray }->IntsAre vs ns->ns.length<=n->aL.gens=#[]->
   codeAny (model l.prog w) callerA (.call (.ref fa) #[[.ref a],[]]) (λr s'=>r=.ok (.ret (.bool true))/\OldK aL.heap s'.heap/\s'.os=aL.os/\AllBare s'.gens) aL) :
  WalkO q loose XP YP l.row.toRowW d [] (λf vs=>PySem.call f vs):=by
 intro w df aL mg mb G Y fa o pm cd doc dV kV ho hd iw hD hmg hg args vals as v_ hlay hrd LD RQ;obtain rfl:dV=.none:=Dflts.none hD EJ;obtain rfl:kV=.none:=Dflts.noKw hD;let#[a,vs,ns,rfl,rfl,z_,hints,hlen]:=fI_ hn v_ LD;apply enter_call (codeAny_mono (call w df aL mg mb fa o pm cd doc a vs ns G Y ho (fd_plain hd) iw hmg z_ hints hlen hg) λr s' hq=>?_);let#[rfl,h2,h3,h4]:=hq;exact#[.inl #[.bool true,.bool true,[],Z,λ_=>rfl,.bool true,gc_ l _,λ_=>#[List.Pairwise.nil,λ_ hm=>(nomatch hm)]],h2,h3,h4]
section
variable{prog:Ad}{w:Af}{A:Ag}{E:Aa->Ab->Prop}{s:Ab}{K:Frag}
end
end Vp
namespace L2
open PySem PySem.Spec PyProof.Rows
theorem TY:∀{vs:ag} {ns:List Int},IntsAre vs ns->Vals (ns.map V.int) vs
 |_,_,.nil=>.nil
 |_,_,.cons n t h=>.cons #[t,Z] (TY h)
end L2
namespace L2
open PySem PySem.Spec PyProof.Rows
end L2
namespace L2
open PySem PySem.Spec PyProof.Rows
def ml(s:Stmt)(j:Nat):Stmt:=match s with
 |.ClassDef _ _ _ body _ _ _ _ _ _ _=>body.getD j (.Pass #[0,0,0,0])
 |_=>.Pass #[0,0,0,0]
def gQ(s:Stmt):Arguments:=match s with
 |.FunctionDef _ a _ _ _ _ _ _ _ _=>a
 |_=>{ posonlyargs:=[],args:=[],vararg:=none,kwonlyargs:=[],kw_defaults:=[],kwarg:=none,defaults:=[] }
def f_(s:Stmt):List Stmt:=match s with
 |.FunctionDef _ _ b _ _ _ _ _ _ _=>b
 |_=>[]
def aX(s:Stmt):Scope:=match s with
 |.FunctionDef _ _ _ _ _ _ sc _ _ _=>sc
 |_=>{ kind:=.function,names:=[],isGenerator:=false,isCoroutine:=false }
abbrev aZ:kL:=λ_ _ _ _ _ _=>False
abbrev E0:XK:=λ_ _ _=>False
theorem nE{X:Cx}:wW aZ X E0:=λ_ _ _ _ _ _ _ h=>h.elim
structure bj (K:aj) (x qual:Str) (st:Stmt) (f:Addr) (fd:Ae):Prop where
 ex:∃(oc:Aa) (od:Option Addr) (kV doc pm:Aa) (an:Option Addr) (aK ct:Aa) (jA:Array (Option Aa)),
  fd=PySem.W.fnOf x qual (gQ st) (f_ st) (aX st) .none kV doc pm an aK ct/\K.lookup f=some #[oc,od,.func fd,jA]/\PySem.W.codeIn K aK qual=true
 kp:PySem.W.keepIn K (.ref f)=true
section v
theorem bj.ok{x qual:Str}{st:Stmt}{f:Addr}{fd:Ae}{N ps:ae}{k:Nat}{sp:Sp}(F:bj K x qual st f fd)(S:bG N ps (aX st))(len:∀vs H Q E,sp vs H Q E->vs.length=ps.length)
  (fU:∀(aK:Aa) (A:Ag) (outer:List Env) (s:Ab) (H:Hp) (vs:ai) (Q:VK) (E:XK),aP k (A.deeper (envOfC qual (aX st) s.heap.objs.size f aK))->sp vs H Q E->
   ∃t,j9 (iY aZ P w K mg base N qual (aX st) f aK A outer s H E).xH (f_ st) t/\t { nx:=λ_ H'=>Q .non H',rt:=Q } (start N vs) H):!ao aZ (k+1) f fd ps sp:=by
 let#[oc,od,kV,doc,pm,an,aK,ct,jA,rfl,lk,iw]:=F.ex;apply Q0 lk iw S len λA outer s H vs Q E hr ko=>?_;let#[t,h,q]:=fU aK A outer s H vs Q E hr ko;exact#[t,h.xH,q]
theorem bj.bQ{x qual:Str}{st:Stmt}{f:Addr}{fd:Ae}{N ps:ae}{k:Nat}{sp:Sp}(F:bj K x qual st f fd)(S:bG N ps (aX st)) (fU:∀(aK:Aa) (A:Ag) (outer:List Env) (s:Ab) (H:Hp) (vs:ai) (Q:VK) (E:XK),aP k (A.deeper (envOfC qual (aX st) s.heap.objs.size f aK))->sp vs H Q E->
   ∃t,j9 (iY aZ P w K mg base N qual (aX st) f aK A outer s H E).xH (f_ st) t/\t { nx:=λ_ H'=>Q .non H',rt:=Q } (start N vs) H) (len:∀vs H Q E,sp vs H Q E->vs.length=ps.length:=by intro vs H Q E h;first|(cases h;subst_vars;rfl)|(let#[rfl,_]:=h;rfl)|(let#[_,rfl,_]:=h;rfl)|(let#[_,_,rfl,_]:=h;rfl)|(let#[_,_,_,rfl,_]:=h;rfl)|(let#[_,_,_,_,rfl,_]:=h;rfl)|(let#[_,_,_,_,_,_,_,_,_,rfl,_]:=h;rfl)):!ao aZ (k+1) f fd ps sp:=F.ok S len fU
theorem bj.binds{x qual:Str}{st:Stmt}{f:Addr}{fd:Ae}{ps:ae}(F:bj K x qual st f fd)
  (h:∀(kV doc pm:Aa) (an:Option Addr) (aK ct:Aa) (us:ag),us.length=ps.length->bindArgs (PySem.W.fnOf x qual (gQ st) (f_ st) (aX st) .none kV doc pm an aK ct) #[us,[]]=pure (ps.zip us)):pK K fd ps []:=by
 let#[oc,od,kV,doc,pm,an,aK,ct,jA,rfl,lk,iw]:=F.ex;exact .all (h kV doc pm an aK ct)
theorem Ra{x qual:Str}{st:Stmt}{f:Addr}{oc:Aa}{od an:Option Addr}{jA:Array (Option Aa)}{kV doc pm aK ct:Aa}(l:K.lookup f=some #[oc,od,.func (PySem.W.fnOf x qual (gQ st) (f_ st) (aX st) .none kV doc pm an aK ct),jA])
  (c:PySem.W.codeIn K aK qual=true) (k:PySem.W.keepIn K (.ref f)=true):bj K x qual st f (PySem.W.fnOf x qual (gQ st) (f_ st) (aX st) .none kV doc pm an aK ct):=#[#[oc,od,kV,doc,pm,an,aK,ct,jA,Z,l,c],k]
end
theorem gc{A:Ag}{k:Nat}(hr:aP k A):A.units+1<cLine:=Nat.lt_of_le_of_lt (Nat.add_le_add_left (by decide:1<=64) _) hr.units
section
variable{X:Cx}
theorem pv(i:Nat){x:Str}{pos:Pos}(hN:X.N[i]? = some x:=by rfl)(hv:PF X.env.scope x:=by first|exact Or.inl Z|exact Or.inr (Or.inl Z)|exact Or.inr (Or.inr Z))(hd:(x == ("__debug__":Str))=false:=by decide)
  (iw:(x == ("__classdict__":Str))=false:=by decide):PE X (.Name x pos) (oF i):=Zw hN hv hd iw
inductive U4 (xs:ai) (H:Hp) (Q:VK):Prop
 |mk:∀a kvs,xs=[V.ref a]->H a\.dK kvs->Q (.int kvs.length) H->U4 xs H Q
theorem gf_:gy X (.builtin "len") U4:=by
 intro pins s σ H xs us Q I r h;let#[a,kvs,rfl,ha,q]:=h;let#[u,rfl,ru]:=vals1 r;cases ru;exact YA I (.inl ha) λt s' I'=>#[.int kvs.length,H,I',#[t,Z],q]
end
theorem aM{A B:Prop}(h:B):if false=true then A else B:=by
 rw[aB gK];exact h
theorem dj{A B:Prop}(h:A):if true=true then A else B:=by
 rw[aI Z];exact h
theorem cw{c A B:Prop}[Decidable c](h1:c->A)(h2:¬c->B):if c then A else B:=by
 by_cases h:c
 ·rw[aI h];exact h1 h
 rw[aB h];exact h2 h
theorem AL{c A B:Prop}[Decidable c](hc:c)(h:B):if (!decide c)=true then A else B:=by
 rw[dc hc];exact aM h
def aa(H H':Hp):Prop:=∀b o,H b\o->H' b\o
theorem aa.refl(H:Hp):aa H H:=λ_ _ h=>h
theorem aa.trans{H H1 H2:Hp}(a:aa H H1)(b:aa H1 H2):aa H H2:=λc o h=>b c o (a c o h)
theorem aa.free{H H':Hp}(e:aa H H'){l:Addr}(h:H' l=Option.none):H l=Option.none:=by
 cases q:H l with
 |none=>rfl
 |some o=>
  rw[e l o q] at h;cases h
section
variable{κ:Type}[DecidableEq κ]
theorem _q{kvs:List (κ × V)}{k:κ}{v:V}(h:a9 kvs k\v):k∈kvs.map (·.1):=by
 have q:(kvs.any λkv=>decide (kv.1=k))=true:=by
  rw[BX,h]
  all_goals rfl
 let#[p,hp,e]:=List.any_eq_true.mp q;exact bC.mpr #[p,hp,tF e]
end
end L2
local macro_rules|`(%[$x,*|$_])=>do return (<-x.getElems.foldrM (λe (a:Lean.Term)=>if e.raw.isNatLit?.isSome then`(L2.iQ (L2.pv $e) $a)else`(L2.iQ $e $a)) (<-`(L2.bP)))
namespace L2
open PySem PySem.Spec PyProof.Rows
def i0(env:Env):List (Str × NameKind)->List (Str × Addr)->List (Str × Addr)
 |[],cs=>cs
 |(n,k)::r,cs=>i0 env r (if k == .free then (n,(env.cells.lookup n).getD 0)::cs else cs)
theorem Pj{env:Env}(f:Str × NameKind->List (Str × Addr)->Sem (ForInStep (List (Str × Addr))))
  (hf:∀n k cs,f (n,k) cs=if (k == .free)=true then (do let a <- cellOf env n;pure (.yield ((n,a)::cs))) else pure (.yield cs)) :
  ∀(names:List (Str × NameKind)) (cs:List (Str × Addr)),(∀x∈names,x.2=.free->∃c,env.cells.lookup x.1\c)->forIn names cs f=(pure (i0 env names cs):Sem _)
 |[],cs,_=>by rw[u5];rfl
 |(n,k)::r,cs,h=>by
  rw[wZ,hf];have hr:∀x∈r,x.2=.free->∃c,env.cells.lookup x.1\c:=λx hx=>h x (fP _ hx);unfold i0;by_cases hk:(k == NameKind.free)=true
  ·let#[c,hc]:=h (n,k) gd ⇑hk;have hc:env.cells.lookup n\c:=hc;rw[aI hk,aI hk];have e:cellOf env n=pure c:=by unfold cellOf;rw[hc]
   rw[e];simp only[pure_bind];rw[Pj f hf r _ hr,hc];rfl
  rw[aB hk,aB hk];simp only[pure_bind];exact Pj f hf r _ hr
theorem Vd{scope:Scope}{env:Env}(h:∀x∈scope.names,x.2=.free->∃c,env.cells.lookup x.1\c):closureFor scope env=pure (i0 env scope.names []):=by
 simp only[closureFor];rw[Pj (env:=env) _ (λn k cs=>by by_cases hk:(k == NameKind.free)=true<;>simp[hk]) scope.names [] h]
 simp only[pure_bind]
theorem Uc{env:Env}:∀{names:List (Str × NameKind)} {cs:List (Str × Addr)} {x:Str} {c:Addr},(x,c)∈i0 env names cs->(x,c)∈cs∨((x,NameKind.free)∈names/\c=(env.cells.lookup x).getD 0)
 |[],cs,x,c,h=>.inl h
 |(n,k)::r,cs,x,c,h=>by
  unfold i0 at h;rcases Uc h with h|⟨h,e⟩
  ·by_cases hk:(k == NameKind.free)=true
   ·rw[aI hk] at h;rcases bV.mp h with q|q
    ·cases q;have:k=.free:=⇑hk
     subst this;exact .inr #[gd,Z]
    exact .inl q
   rw[aB hk] at h;exact .inl h
  exact .inr #[fP _ h,e]
theorem Os{env:Env}:∀{names:List (Str × NameKind)} {cs:List (Str × Addr)} {x:Str},(x,NameKind.free)∈names∨(∃c,(x,c)∈cs)->∃c,(x,c)∈i0 env names cs
 |[],cs,x,h=>by
  rcases h with h|h
  ·cases h
  ·exact h
 |(n,k)::r,cs,x,h=>by
  unfold i0;apply Os ?_;rcases h with h|⟨c,h⟩
  ·rcases bV.mp h with e|h
   ·cases e;exact .inr #[(env.cells.lookup n).getD 0,by rw[aI (by decide)];exact gd]
   exact .inl h
  apply .inr #[c,?_];split
  ·exact fP _ h
  exact h
theorem Pe:∀(names:List (Str × NameKind)) (n:Nat) (acc cl:List (Str × Addr)),cellsFrom n names (acc++cl)=cellsFrom n names acc++cl
 |[],_,_,_=>rfl
 |(x,k)::r,n,acc,cl=>by
  unfold cellsFrom;split
  ·exact Pe r (n+1) ((x,n)::acc) cl
  exact Pe r n acc cl
theorem Pd:∀{names:List (Str × NameKind)} {n:Nat} {acc:List (Str × Addr)} {x:Str} {c:Addr},(x,c)∈cellsFrom n names acc->(x,c)∈acc∨(x,NameKind.cell)∈names
 |[],_,_,_,_,h=>.inl h
 |(y,k)::r,n,acc,x,c,h=>by
  unfold cellsFrom at h;by_cases hk:(k == NameKind.cell)=true
  ·rw[aI hk] at h;rcases Pd h with h|h
   ·rcases bV.mp h with e|h
    ·cases e;have:k=.cell:=⇑hk
     subst this;exact .inr gd
    exact .inl h
   exact .inr (fP _ h)
  rw[aB hk] at h;rcases Pd h with h|h
  ·exact .inl h
  exact .inr (fP _ h)
theorem Pi{α:Type}:∀{l:List (Str × α)} {x:Str} {c:α},(x,c)∈l->∃c',l.lookup x\c'
 |(k,v)::r,x,c,h=>by
  rw[pX];cases hb:x == k with
  |true=>exact#[v,Z]
  |false=>
   rcases bV.mp h with e|h
   ·cases e;simp at hb
   exact Pi h
def jO(scope:Scope)(C:Addr)(env:Env):Env:=
 { scope:=relabel scope env,locals:=C,globals:=env.globals,cells:=cellsFrom (C+1) scope.names (i0 env scope.names []),qual:=env.qual,func:=none,code:=env.code,frame:=env.frame,builtins:=env.builtins }
theorem U_{M:Model}{A:Ag}{E:Aa->Ab->Prop}{s:Ab}{scope:Scope}{cl:List (Str × Addr)}{env:Env}{Q:Env->Ab->Prop}
  (h:Q { scope:=scope,locals:=s.heap.objs.size,globals:=env.globals,cells:=cellsFrom (s.heap.objs.size+1) scope.names cl,qual:=env.qual,func:=none,code:=env.code,frame:=env.frame,builtins:=env.builtins }
   { s with heap:=pushCells (s.heap.push { cls:=.type "dict",data:=.dict #[] }) scope.names }) :
  wpAny M A (newFunctionEnv scope env.globals cl [] env.qual none .none (some env)) Q E s:=by
 simp only[newFunctionEnv,Option.isSome_some,if_true];apply af (wpAny_alloc ?_);apply af (wpAny_layCells _ (λname kind cells=>by cases hkc:kind == NameKind.cell<;>simp[hkc]) _ _ _ _ ?_)
 rw[show ({ s with heap:=s.heap.push { cls:=.type "dict",data:=.dict #[] } }:Ab).heap.objs.size=s.heap.objs.size+1 from md ..];rw[u5];exact af (aE (aE h))
def Jn(PN:ae)(ps:Scope)(N:ae)(own:Nat)(fr:List Nat)(scope:Scope):Bool:=
 decide (scope.kind=.function)&&decide N.Nodup&&decide (own+fr.length=N.length)
 && (scope.names.all λy=>decide (scope.names.lookup y.1\y.2))
 && (scope.names.all λy=>if y.2=.free then decide (ps.names.lookup y.1\.cell) || decide (ps.names.lookup y.1\.free) else true)
 && ((fr.map λj=>PN[j]?) == (N.drop own).map some)
 && ((N.drop own).all λx=>decide (scope.names.lookup x\.free))
structure mI (PN:ae) (ps:Scope) (N:ae) (own:Nat) (fr:List Nat) (scope:Scope):Prop where
 kind:scope.kind=.function
 nd:N.Nodup
 len:own+fr.length=N.length
 look:∀y∈scope.names,scope.names.lookup y.1\y.2
 par:∀y∈scope.names,y.2=.free->ps.names.lookup y.1\.cell∨ps.names.lookup y.1\.free
 oX:(fr.map λj=>PN[j]?)=(N.drop own).map some
 frk:∀x∈N.drop own,scope.names.lookup x\.free
theorem mI.of{PN:ae}{ps:Scope}{N:ae}{own:Nat}{fr:List Nat}{scope:Scope}(h:Jn PN ps N own fr scope=true):mI PN ps N own fr scope:=by
 unfold Jn at h;simp only[Bool.and_eq_true,decide_eq_true_eq,List.all_eq_true,beq_iff_eq] at h;let#[#[#[#[#[#[h1,h2],h3],h4],h5],h6],h7]:=h;apply#[h1,h2,h3,h4,λy hy e=>?_,h6,h7];let q:=h5 y hy;rw[aI e] at q;simpa using q
def A7(own:Nat)(fr:List Nat)(σ:St):St:=List.replicate own none++fr.map λj=>(σ[j]?).join
def ia(X:Cx)(N:ae)(scope:Scope)(fp:au)(s:Ab)(H:Hp):Cx where
 prog:=X.prog
 w:=X.w
 K:=X.K
 mg:=X.mg
 base:=X.base
 A:=X.A
 N:=N
 df:=s
 kg:=H
 env:=jO scope s.heap.objs.size X.env
 outer:=X.stack
 stack:=X.stack
 ex:=fp
 fn:=λx=>decide (scope.names.lookup x\.local) || decide (scope.names.lookup x\.cell)
 calm:=X.calm
 pn:=[]
 xe:=λ_ _=>False
theorem UQ{ps:Scope}{env:Env}(he:env.scope=ps){x:Str}:∀{names:List (Str × NameKind)} {k:NameKind},names.lookup x\k->
  (names.map λ(n,k)=>if (k == NameKind.free&&env.scope.kind == .function&&env.kindOf n == some .cell) then (n,NameKind.cell) else (n,k)).lookup x =
   some (if (k == NameKind.free&&env.scope.kind == .function&&env.kindOf x == some .cell) then .cell else k)
 |(n,k')::r,k,h=>by
  rw[pX] at h;rw[eI];cases hb:x == n with
  |true=>
   rw[hb] at h;cases h;have e:x=n:=⇑hb
   subst e;dsimp only;split<;>simp[pX]
  |false=>
   rw[hb] at h;let ih:=UQ he (env:=env) h;dsimp only;split<;>(rw[pX,hb];exact ih)
theorem O7{env:Env}{x:Str}:∀{names:List (Str × NameKind)} {k:NameKind},(names.map λ(n,k)=>if (k == NameKind.free&&env.scope.kind == .function&&env.kindOf n == some .cell) then (n,NameKind.cell) else (n,k)).lookup x\k->∃k',names.lookup x\k'/\(k'=k∨(k'=.free/\k=.cell))
 |(n,k')::r,k,h=>by
  rw[eI] at h;rw[pX];dsimp only at h;cases hb:x == n with
  |true=>
   apply#[k',Z,?_];by_cases hc:(k' == NameKind.free&&env.scope.kind == .function&&env.kindOf n == some .cell)=true
   ·rw[aI hc,pX,hb] at h;cases h;simp only[Bool.and_eq_true,beq_iff_eq] at hc;exact .inr #[hc.1.1,Z]
   ·rw[aB hc,pX,hb] at h;cases h;exact .inl Z
  |false=>
   have h':(r.map λ(n,k)=>if (k == NameKind.free&&env.scope.kind == .function&&env.kindOf n == some .cell) then (n,NameKind.cell) else (n,k)).lookup x\k:=by
    split at h<;>(rw[pX,hb] at h;exact h)
   exact O7 h'
theorem dn_{α:Type}{x:Str}{c:α}:∀{l r:List (Str × α)},(l++r).lookup x\c->(x,c)∈l∨(x,c)∈r:=λh=>d9.mp (pV h)
section
variable{X:Cx}{pins:List (Addr × Obj)}{σ:St}{H:Hp}{s:Ab}{N:ae}{own:Nat}{fr:List Nat}{scope:Scope}{fp:au}
theorem UF(I:Inv X pins σ H s)(S:mI X.N X.env.scope N own fr scope){x:Str}{c:Addr}(h:(x,c)∈i0 X.env scope.names []):X.env.cells.lookup x\c/\(x,NameKind.free)∈scope.names:=by
 rcases Uc h with h|⟨h,e⟩
 ·cases h
 let#[c',hc]:=I.ok.has x (S.par _ h Z);apply#[?_,h];rw[e,hc];rfl
theorem Inv.block(I:Inv X pins σ H s)(S:mI X.N X.env.scope N own fr scope)(Hr:∀b∈fp,dA X pins H b)(hfo:∀b∈fp,∃o,s.heap.get? b\o) :
  Inv (ia X N scope fp s H) [] (A7 own fr σ) H { s with heap:=pushCells (s.heap.push { cls:=.type "dict",data:=.dict #[] }) scope.names }:=by
 have kept:∀b o,s.heap.get? b\o->(pushCells (s.heap.push { cls:=.type "dict",data:=.dict #[] }) scope.names).get? b\o:=λb o e=>pushCells_keeps _ _ b o (aU _ e);let Jc:=cellsFrom_ok scope.names (s.heap.push { cls:=.type "dict",data:=.dict #[] }) (s.heap.objs.size+1) [] #[λ_ _ hm=>(nomatch hm),List.Pairwise.nil] (by rw[md];exact bh _);rw[md] at Jc;have ecs:cellsFrom (s.heap.objs.size+1) scope.names (i0 X.env scope.names [])=cellsFrom (s.heap.objs.size+1) scope.names []++i0 X.env scope.names []:=Pe _ _ [] _
 have gU:∀{x c},(cellsFrom (s.heap.objs.size+1) scope.names (i0 X.env scope.names [])).lookup x\c->((x,c)∈cellsFrom (s.heap.objs.size+1) scope.names []/\(x,NameKind.cell)∈scope.names/\s.heap.objs.size+1<=c)∨(X.env.cells.lookup x\c/\(x,NameKind.free)∈scope.names):=λ{x c} h=>by
  rw[ecs] at h;rcases dn_ h with h|h
  ·apply .inl #[h,?_,(Jc.empty _ _ h).2];rcases Pd h with q|q
   ·cases q
   exact q
  exact .inr (UF I S h)
 have De:∀{x c},X.env.cells.lookup x\c->c<s.heap.objs.size:=λ{x c} h=>by
  let#[v,hv]:=I.cell x c h;exact hv.lt
 have hb:∀b∈fp,b<s.heap.objs.size:=λb hb=>let #[o,e]:=hfo b hb;bz e
 apply#[#[I.ok.mod,S.kind,I.ok.glob,I.ok.blt,bh _,λx y c h1 h2=>?_,λx hx=>?_,λx c hf h=>?_,I.ok.hd,I.ok.frames,.inl Z,λb x5=>#[dS (hb b x5),λx c h=>?_],I.bs,?_,λb o e x5=>?_,λb x5 hs=>?_,I.stack,I.mR],
  rfl,I.bare,Un.kept kept,#[_,(Heap.Ns.new s.heap (.type "dict")).keeps (pushCells_keeps _ _),λi x v h1 h2 h3=>?_],λx c h=>?_,I.aA.fresh (bh _),λx c h=>?_,λp hp=>absurd (show p∈([]:List (Addr × Obj)) from hp) Z2,I.aA.kept kept,?_]
 ·-- inj
  rcases gU h1 with⟨m1,k1,l1⟩|⟨m1,k1⟩<;>rcases gU h2 with⟨m2,k2,l2⟩|⟨m2,k2⟩
  ·exact name_of_addr Jc.apart m1 m2
  ·exact absurd (De m2) (Nat.not_lt.mpr (Nat.le_of_succ_le l1))
  ·exact absurd (De m1) (Nat.not_lt.mpr (Nat.le_of_succ_le l2))
  exact I.ok.inj x y c m1 m2
 ·-- has
  have key:(x,NameKind.cell)∈scope.names∨(x,NameKind.free)∈scope.names:=by
   rcases hx with hx|hx
   ·let#[k',e,q]:=O7 (env:=X.env) (show _\NameKind.cell from hx);let m:=pV e;rcases q with q|⟨q,_⟩
    ·exact .inl (q▸m)
    exact .inr (q▸m)
   let#[k',e,q]:=O7 (env:=X.env) (show _\NameKind.free from hx);let m:=pV e;rcases q with q|⟨_,q⟩
   ·exact .inr (q▸m)
   cases q
  show ∃c,(cellsFrom (s.heap.objs.size+1) scope.names (i0 X.env scope.names [])).lookup x\c
  have:((cellsFrom (s.heap.objs.size+1) scope.names (i0 X.env scope.names [])).lookup x).isSome=true:=by
   apply PySem.W.cellsFrom_some _ _ _ ?_;rcases key with q|q
   ·exact .inl (S.look _ q)
   let#[c,m]:=Os (env:=X.env) (names:=scope.names) (cs:=[]) (x:=x) (.inl q);let#[c',e]:=Pi m;exact .inr (by rw[e];rfl)
  exact Option.isSome_iff_exists.mp this
 ·-- BQ
  rcases gU h with⟨_,_,l⟩|⟨_,k⟩
  ·exact Nat.le_of_succ_le l
  let e:=S.look _ k;have hf:(decide (scope.names.lookup x\.local) || decide (scope.names.lookup x\.cell))=true:=hf;rw[show scope.names.lookup x\.free from e] at hf;exact absurd hf (by decide)
 ·rcases gU h with⟨_,_,l⟩|⟨q,_⟩
  ·exact jb (ju (hb b x5) (Nat.le_of_succ_le l))
  exact (Hr b x5).2.2.2.2.1 x c q
 ·exact iK I.ok.tL I.sz
 ·rcases (Hr b x5).2.2.2.1 with q|q
  ·exact I.ok.rQ b o e q
  exact absurd (ju (bz e) I.ok.tL) Z1
 ·rcases bV.mp (I.kQ b hs) with q|q
  ·exact (Hr b x5).2.1 q
  exact (Hr b x5).2.2.1 q
 ·-- names
  have hi:own<=i:=by
   apply Nat.le_of_not_lt λd5=>?_;unfold A7 at h2;rw[yx (by rw[B5];exact d5),List.getElem?_replicate,aI d5] at h2;cases h2
  have g7:(fr.map λj=>(σ[j]?).join)[i - own]? = some (some v):=by
   unfold A7 at h2;rw[Bg (by rw[B5];exact hi),B5] at h2;exact h2
  have h1:N[i]? = some x:=h1;have hx:(N.drop own)[i - own]? = some x:=by rw[List.getElem?_drop,show own+(i - own)=i by omega];exact h1
  rw[dk] at g7;cases ej:fr[i - own]? with
  |none=>rw[ej] at g7;cases g7
  |some j=>
   rw[ej] at g7;have g7:(σ[j]?).join\v:=cY g7
   have vU:σ[j]? = some (some v):=by
    cases q:σ[j]? with
    |none=>rw[q] at g7;cases g7
    |some o=>rw[q] at g7;exact d7 some g7
   have hN:X.N[j]? = some x:=by
    let q:=d7 (λl=>l[i - own]?) S.oX;simp only[dk,ej,hx,Option.map_some] at q;exact cY q
   let kf:=S.frk x (cX hx);let mf:=pV kf;let#[m,hm,hv]:=I.loc;let pk:=S.par _ mf Z;let#[u,ru,lk]:=hv j x v hN vU (pk.elim (λq=>.inr (.inl q)) λq=>.inr (.inr q));apply#[u,ru,?_];have Qv:X.env.kindOf x\.cell∨X.env.kindOf x\.free:=pk;rcases lk with⟨k,_⟩|⟨_,c,hc,nU⟩
   ·rw[k] at Qv;rcases Qv with q|q<;>cases q
   let#[c',m1]:=Os (env:=X.env) (names:=scope.names) (cs:=[]) (x:=x) (.inl mf);let e1:=(UF I S m1).1;rw[hc] at e1;cases e1;apply .inr #[?_,c,?_,nU.keeps kept]
   ·let q:=UQ (env:=X.env) Z kf;show (relabel scope X.env).names.lookup x\.cell∨(relabel scope X.env).names.lookup x\.free;unfold relabel;rw[q];split
    ·exact .inl Z
    exact .inr Z
   let#[c2,e2]:=Option.isSome_iff_exists.mp (PySem.W.cellsFrom_some (x:=x) scope.names (s.heap.objs.size+1) (i0 X.env scope.names []) (.inr (by let#[c',e]:=Pi m1;rw[e];rfl)));show (cellsFrom (s.heap.objs.size+1) scope.names (i0 X.env scope.names [])).lookup x\c;rcases gU e2 with⟨_,q,_⟩|⟨q,_⟩
   ·have:=S.look _ q;rw[show scope.names.lookup x\.free from kf] at this;cases this
   rw[hc] at q;cases q;exact e2
 ·-- cells
  rcases gU h with⟨q,_,_⟩|⟨q,_⟩
  ·exact#[_,(Jc.empty _ _ q).1]
  let#[v,hv]:=I.cell x c q;exact#[v,hv.keeps kept]
 ·rcases gU h with⟨q,_,l⟩|⟨q,_⟩
  ·exact I.aA.fresh Z1
  exact I.d6 x c q
 show (A7 own fr σ).length=N.length;unfold A7;rw[d_,B5,aq];exact S.len
end
def FZ(X:Cx)(ifs:List Expr)(t:TT):Prop:=
 ∀(pins:List (Addr × Obj)) (s:Ab) (σ:St) (H:Hp) (Q:Bool->Hp->Prop),Inv X pins σ H s->t σ H Q->
  wpAny (model X.prog X.w) X.A (forIn ifs true λc r=>if r=true then do let ok <- isTrue c X.env (eval c X.env);pure (ForInStep.yield ok) else pure (ForInStep.yield r)) (TP X pins σ Q) X.xe s
def qa:TT:=λ_ H Q=>Q true H
theorem ed{σ:St}{H:Hp}{A B:Hp->Prop}(h:A H):qa σ H λb H4=>if b=true then A H4 else B H4:=by
 unfold qa;exact dj h
theorem jr{X:Cx}:FZ X [] qa:=λ_ _ _ H _ I h=>wpAny_tests_nil #[H,I,h]
theorem Fm{X:Cx}{c:Expr}{t:TT}(h:PT X c t):FZ X [c] t:=λpins s σ H Q I q=>wpAny_tests_one (h pins s σ H Q I q)
def BL(J:It)(g:TG)(tc:TT)(te:TE)(oC:St)(D:Addr)(H1:Hp)(Q:VK):Prop:=∃W:Nat->Nat->St->Hp->Prop,
 (∃m,W 0 m oC (upd H1 D (.lst [])))/\∀i m aY H',W i m aY H'->(J.stop i H'/\Q (.ref D) H') ∨
  (J.go i H'/\∃Nx:St->Hp->Prop,(∀gg H2,Nx gg H2->∃m',m'<m/\W (i+1) m' gg H2) /\
   ∀x H2,J.u9 i H' x H2->g x aY H2 λkj H3=>tc kj H3 λb H4=>if b=true then te kj H4 λy H5=>∃out,H5 D\.lst out/\out.length<sizeLine/\Nx kj (upd H5 D (.lst (out++[y]))) else Nx kj H4)
def xm(wi:TI)(own:Nat)(fr:List Nat)(g:TG)(tc:TT)(te:TE):TE:=λσ H Q=>wi σ H λJ H1=>∀D,H1 D=none->BL J g tc te (A7 own fr σ) D H1 Q
section
variable{X:Cx}{tg iter elt:Expr}{ifs:List Expr}{scope:Scope}{pos:Pos}{wi:TI}{g:TG}{tc:TT}{te:TE}{N:ae}
theorem SG{R:Result->Ab->Prop}{own:Nat}{fr:List Nat}{pins:List (Addr × Obj)}{σ:St}{H1:Hp}{s2:Ab}{it:Addr}{fp:au}{tn:Nat->Heap->Prop}{J:It}{D:Addr}{Q:VK}
  (S:mI X.N X.env.scope N own fr scope) (hc:X.calm=true) (hg:∀fp s H,PG (ia X N scope fp s H) tg g) (ht:∀fp s H,FZ (ia X N scope fp s H) ifs tc) (he:∀fp s H,PE (ia X N scope fp s H) elt te)
  (I3:Inv X pins σ (upd H1 D (.lst [])) s2) (T:Turn X.prog X.w X.K tg J fp it tn) (st:tn 0 s2.heap) (f2:∀b∈fp,dA X pins (upd H1 D (.lst [])) b)
  (k:BL J g tc te (A7 own fr σ) D H1 Q)
  (hR:∀H' s',Inv X pins σ H' s'->(∃m,s'.heap.Ns s2.heap.objs.size m)->H' s2.heap.objs.size=none->Q (.ref D) H'->R (.ok .next) s') :
  codeAny (model X.prog X.w) X.A (.compStart (.ListComp elt [#[tg,iter,ifs,0]] scope pos) 0 (.ref it) (.ref D) (jO scope s2.heap.objs.size X.env)) R
   { s2 with heap:=pushCells (s2.heap.push { cls:=.type "dict",data:=.dict #[] }) scope.names }:=by
 let#[W,#[m0,w0],turn]:=k;let I4:=I3.block (N:=N) S f2 (λb hb=>let #[o,e,_]:=T.obj _ _ st b hb;#[o,e]);have kept:∀b o,s2.heap.get? b\o->(pushCells (s2.heap.push { cls:=.type "dict",data:=.dict #[] }) scope.names).get? b\o:=λb o e=>pushCells_keeps _ _ b o (aU _ e);have ij:tn 0 (pushCells (s2.heap.push { cls:=.type "dict",data:=.dict #[] }) scope.names):=T.keep _ _ _ st λb hb o e=>kept b o e
 have fx:∀{H':Hp},(∀b∈fp,H' b=none)->∀b∈fp,dA (ia X N scope fp s2 (upd H1 D (.lst []))) [] H' b:=λhn b hb=>
  #[hn b hb,(I4.ok.Ig b hb).1,I4.ok.sX b hb,.inl hb,(I4.ok.Ig b hb).2,λp hp=>absurd (show p∈([]:List (Addr × Obj)) from hp) Z2]
 have loop:codeAny (model X.prog X.w) X.A (.compLoop (.ListComp elt [#[tg,iter,ifs,0]] scope pos) 0 (.ref it) (.ref D) (jO scope s2.heap.objs.size X.env)) R
   { s2 with heap:=pushCells (s2.heap.push { cls:=.type "dict",data:=.dict #[] }) scope.names }:=by
  apply codeAny_loop Z (λn s'=>∃i aY H',Inv (ia X N scope fp s2 (upd H1 D (.lst []))) [] aY H' s'/\tn i s'.heap/\(∀b∈fp,H' b=none)/\W i n aY H') (λn s' hI=>?_) m0 #[0,_,_,I4,ij,λb hb=>(f2 b hb).1,w0];let#[i,aY,H',I5,hX,oY,w5]:=hI;show wpAny _ X.A ((compTurn (.ListComp elt [#[tg,iter,ifs,0]] scope pos) 0 (.ref it) (.ref D) (jO scope s2.heap.objs.size X.env)).onRaise (λx=>do noteFrame x (jO scope s2.heap.objs.size X.env);theTreesLotGoes x)) _ _ s';apply wpAny_noted (wpAny_mono (E:=λ_ _=>False) ?_ (λ_ _ q=>q) λ_ _ q=>q.elim);rw[compTurn_list];apply af (wpAny_standAt (af ?_));rcases turn i n aY H' w5 with⟨stop,q⟩|⟨go,Nx,hN,step⟩
  ·apply aO (T.done (ia X N scope fp s2 (upd H1 D (.lst []))) Z Z Z hc i [] s' aY H' _ I5 (fx oY) hX stop) λr s6 ⟨hr,I6⟩=>?_;subst hr;apply aE (hR H' s6 (I3.Fq I6.os I6.base I6.aA I6.bare λb hb=>?_) ?_ I6.free q)
   ·exact#[(f2 b hb).2.2.2.1,(f2 b hb).2.1,(f2 b hb).2.2.2.2.1,(f2 b hb).2.2.2.2.2]
   let#[m,hm,_]:=I6.loc;exact#[m,hm]
  apply aO (T.item (ia X N scope fp s2 (upd H1 D (.lst []))) Z Z Z hc i [] s' aY H' _ I5 (fx oY) hX go) λr s6 ⟨u,hr,h6⟩=>?_;subst hr;apply af (aO h6 λ_ s7 ⟨x,H7,I7,r7,y7,jd,E7⟩=>?_);let I7':=I7.pinned (fx E7) (T.obj _ _ jd)
  have back:∀{um:St} {H8:Hp} {s8:Ab},Inv (ia X N scope fp s2 (upd H1 D (.lst []))) ([]++wB fp s7.heap) um H8 s8->Nx um H8->∃m,m<n/\∃i aY H',Inv (ia X N scope fp s2 (upd H1 D (.lst []))) [] aY H' s8/\tn i s8.heap/\(∀b∈fp,H' b=none)/\W i m aY H':=λ{um H8 s8} I8 n8=>by
   let#[m',hm,w8]:=hN um H8 n8;apply#[m',hm,i+1,um,H8,I8.eg,T.keep _ _ _ jd λb hb o e=>(I8.pin (b,o) (mC _ (mC _ (JD hb e)))).1,λb hb=>?_,w8];let#[o,e,d]:=T.obj _ _ jd b hb;exact (I8.pin (b,o) (mC _ (mC _ (JD hb e)))).2.1
  apply af (aO (hg fp s2 (upd H1 D (.lst [])) _ s7 aY H7 x u _ I7' r7 (step x H7 y7)) λ_ s8 ⟨um,H8,I8,q8⟩=>?_);apply af (aO (ht fp s2 (upd H1 D (.lst [])) _ s8 um H8 _ I8 q8) λb s9 ⟨H9,I9,q9⟩=>?_);cases b with
  |false=>
   simp only[pZ,if_false] at q9 ⊢;exact aE #[Z,back I9 q9]
  |true=>
   simp only[if_true] at q9 ⊢;apply af (af (aO (he fp s2 (upd H1 D (.lst [])) _ s9 um H9 _ I9 q9) λy C1 ⟨yv,H10,I10,Xi,out,hD,hz,KO⟩=>?_));apply af (aO (uW (X:=ia X N scope fp s2 (upd H1 D (.lst []))) _ C1 um H10 (.ref D) [yv] (.ref D) [y] (λ_ H'=>Nx um H') I10 Z (.cons Xi .nil) #[D,out,yv,Z,Z,hD,hz,KO]) λ_ s11 ⟨_,PX,I11,_,KN⟩=>?_);exact aE (aE #[Z,back I11 KN])
 exact codeAny_compStart_list loop (T.self _ 0 _ _ _ ij loop)
theorem iL(N:ae)(own:Nat)(fr:List Nat)(hi:PI X tg iter wi)(hg:∀fp s H,PG (ia X N scope fp s H) tg g)(ht:∀fp s H,FZ (ia X N scope fp s H) ifs tc)(he:∀fp s H,PE (ia X N scope fp s H) elt te)
  (S:Jn X.N X.env.scope N own fr scope=true:=by kernel_rfl) (hc:X.calm=true:=by rfl) (hs:∀x,foldedSetIterable iter X.env x=pure x:=by intro _;rfl) :
  PE X (.ListComp elt [#[tg,iter,ifs,0]] scope pos) (xm wi own fr g tc te):=by
 intro pins s σ H Q I h;let S':=mI.of S;rw[eval_ListComp];have sj:closureFor scope X.env=pure (i0 X.env scope.names []):=Vd λx hx e=>I.ok.has x.1 (S'.par x hx e);apply wpAny_comprehension_free (use:=none) Z hs sj S'.kind (λx hx e=>by rw[S'.look x hx,e]) (aO (hi pins s σ H _ I h) λv s1 h1=>aO h1 λG7 s2 h2=>?_);let#[it,fp,tn,J,H1,rfl,I2,T,fL,f2,k]:=h2;apply pR (U_ ?_);have hD:H1 s2.heap.objs.size=none:=I2.fresh;let I3:=I2.zJ (ys:=[]) (its:=[]) (t':=s2.toks) .nil (gR _);have kept:∀b o,s2.heap.get? b\o->(s2.heap.push { cls:=.type "list",data:=.seq ([]:ag).toArray }).get? b\o:=λb o e=>aU _ e;apply SG (own:=own) (fr:=fr) (Q:=Q) S' hc hg ht he I3 T (T.keep _ _ _ fL λb hb o e=>kept b o e) (λb hb=>?_) (k _ hD) ?_
 ·apply#[?_,(f2 b hb).2];let#[o,e,_]:=T.obj _ _ fL b hb;rw[ax (dS (bz e))];exact (f2 b hb).1
 rintro H' s' I' ⟨m,hm⟩ hn q;apply#[m,hm,λh' hs'=>#[.ref s2.heap.objs.size,H',?_,Z,q]]
 exact I'.turned (t':=s'.toks) (λb o hb e=>hs'.extBut b o hb e) hn (jb I3.lt) (.inr I3.sz) (λx c Mr e=>by
  let#[v,hv]:=I3.cell x c Mr
  exact absurd hv.lt (by rw[e];exact tZ _)) λp hp e=>by
   have:=(I3.pin p hp).1;rw[e] at this;exact absurd (bz this) (tZ _)
def CL(i:Nat)(te:TE):TS:=λD σ H=>te σ H λx H1=>D.nx (σ.set i (some x)) H1
theorem Ni{i:Nat}{x:Str}{px:Pos}(N:ae)(own:Nat)(fr:List Nat)(hN:X.N.Nodup)(hi':X.N[i]? = some x)(hx:Loc X.env.scope x)
  (hi:PI X tg iter wi) (hg:∀fp s H,PG (ia X N scope fp s H) tg g) (ht:∀fp s H,FZ (ia X N scope fp s H) ifs tc) (he:∀fp s H,PE (ia X N scope fp s H) elt te) {pos':Pos}
  (S:Jn X.N X.env.scope N own fr scope=true:=by kernel_rfl) (hc:X.calm=true:=by rfl) (hs:∀x,foldedSetIterable iter X.env x=pure x:=by intro _;rfl)
  (hf:X.fn x=true∨X.env.scope.names.lookup x\.local:=by first|exact .inl Z|exact .inr Z|assumption)
  (hsw:swapsWith (.ListComp elt [#[tg,iter,ifs,0]] scope pos) (some (.Name x px)) pos'.line X.env=pure true:=by rfl) :
  PS X (.Assign [.Name x px] (.ListComp elt [#[tg,iter,ifs,0]] scope pos) pos') (CL i (xm wi own fr g tc te)):=by
 intro pins s σ H E I h;let S':=mI.of S;rw[exec_Assign_Name_used _ _ _ _ hsw];apply af (wpAny_standAt (af ?_));show wpAny _ X.A (do let _ <- comprehension (.ListComp elt [#[tg,iter,ifs,0]] scope pos) scope X.env _ (newList []) false (eval iter X.env) (some (assign (.Name x px) X.env))) _ _ s;have sj:closureFor scope X.env=pure (i0 X.env scope.names []):=Vd λx hx e=>I.ok.has x.1 (S'.par x hx e)
 apply af (wpAny_mono (wpAny_comprehension_free (use:=some (assign (.Name x px) X.env)) (Q:=λ_ s'=>SP X pins E .next s') Z hs sj S'.kind (λx hx e=>by rw[S'.look x hx,e]) (aO (hi pins s σ H _ I h) λv s1 h1=>aO h1 λG7 s2 h2=>?_))
  (λ_ s' hq=>aE (aE hq)) λ_ _ e=>e)
 let#[it,fp,tn,J,H1,rfl,I2,T,fL,f2,k]:=h2;apply pR (U_ ?_);have hD:H1 s2.heap.objs.size=none:=I2.fresh;let I3:=I2.zJ (ys:=[]) (its:=[]) (t':=s2.toks) .nil (gR _);have kept:∀b o,s2.heap.get? b\o->(s2.heap.push { cls:=.type "list",data:=.seq ([]:ag).toArray }).get? b\o:=λb o e=>aU _ e;apply SG (own:=own) (fr:=fr) (Q:=λx H1=>E.nx (σ.set i (some x)) H1) S' hc hg ht he I3 T (T.keep _ _ _ fL λb hb o e=>kept b o e) (λb hb=>?_) (k _ hD) ?_
 ·apply#[?_,(f2 b hb).2];let#[o,e,_]:=T.obj _ _ fL b hb;rw[ax (dS (bz e))];exact (f2 b hb).1
 rintro H' s' I' ⟨m,hm⟩ hn q
 have uK:∀y c,X.env.cells.lookup y\c->c≠(s2.heap.push { cls:=.type "list",data:=.seq ([]:ag).toArray }).objs.size:=λy c Mr e=>by
  let#[v,hv]:=I3.cell y c Mr;exact absurd hv.lt (by rw[e];exact tZ _)
 show wpAny _ X.A (assign (.Name x px) X.env (.ref s2.heap.objs.size)) _ _ s';apply wpAny_assign_Name (Uh (v:=V.ref s2.heap.objs.size) I' hN hi' hx Z (λpB I'' ⟨a,vY,ha⟩=>?_) hf)
 have hCa:(s2.heap.push { cls:=.type "list",data:=.seq ([]:ag).toArray }).objs.size≠a:=by
  rcases ha with e|e
  ·rw[e];exact jb I3.lt
  exact (uK x a e).symm
 apply#[m,hm.sameBut vY hCa,λh' hs'=>#[_,H',?_,q]]
 exact I''.turned (t':=pB.toks) (λb o hb e=>hs'.extBut b o hb e) hn (jb I3.lt) (.inr I3.sz) uK λp hp e=>by
   have:=(I3.pin p hp).1;rw[e] at this;exact absurd (bz this) (tZ _)
end
def F6(g:TG)(own:Nat)(fv:List aJ)(dec:V->Hp->List aJ->Prop):Prop:=
 ∀(x:V) (o:List aJ) (H:Hp) (k:pe) (o3:List aJ),o.length=own->dec x H o3->k (o3++fv) H->g x (o++fv) H k
theorem fh{fv:List aJ}:F6 (kI 0) 1 fv (λx _ o3=>o3=[some x]):=λx o H k o3 hl e h=>by
 subst e
 match o,hl with
 |[a],_=>exact h
inductive Fk (K:aj) (x:V) (H:Hp) (o3:List aJ):Prop
 |mk:∀p u v,x=.ref p->ft K H p [u,v]->o3=[some u,some v]->Fk K x H o3
inductive Fj (K:aj) (x:V) (H:Hp) (o3:List aJ):Prop
 |mk:∀p u v w,x=.ref p->ft K H p [u,v,w]->o3=[some u,some v,some w]->Fj K x H o3
theorem we{K:aj}{fv:List aJ}:F6 (gF K 2 (pN (kI 0) (pN (kI 1) sr))) 2 fv (Fk K):=λx o H k o3 hl e h=>by
 let#[p,u,v,rfl,hp,rfl]:=e
 match o,hl with
 |[a,b],_=>exact#[p,[u,v],Z,hp,Z,u,[v],Z,v,[],Z,Z,h]
theorem E2{K:aj}{fv:List aJ}:F6 (gF K 3 (pN (kI 0) (pN (kI 1) (pN (kI 2) sr)))) 3 fv (Fj K):=λx o H k o3 hl e h=>by
 let#[p,u,v,w,rfl,hp,rfl]:=e
 match o,hl with
 |[a,b,c],_=>exact#[p,[u,v,w],Z,hp,Z,u,[v,w],Z,v,[w],Z,w,[],Z,Z,h]
theorem IH{J:It}{g:TG}{tc:TT}{te:TE}{own:Nat}{fv:List aJ}{dec:V->Hp->List aJ->Prop}{D:Addr}{H:Hp}{Q:VK}{oC:St}(vU:oC=List.replicate own none++fv)(G:F6 g own fv dec)(n:Nat)(Pv:Nat->ai->Hp->Prop)
  (h0:Pv 0 [] (upd H D (.lst []))) (Ef:∀out H',Pv n out H'->J.stop n H'/\Q (.ref D) H')
  (Mb:∀i out H',i<n->Pv i out H'->J.go i H'/\∀x H2,J.u9 i H' x H2->∃o3,dec x H2 o3/\o3.length=own/\∀Nx:Hp->Prop,(∀rM H2,Pv (i+1) rM H2->Nx H2)->
   tc (o3++fv) H2 λb H4=>if b=true then te (o3++fv) H4 λy H5=>∃iR,H5 D\.lst iR/\iR.length<sizeLine/\Nx (upd H5 D (.lst (iR++[y]))) else Nx H4) :
  BL J g tc te oC D H Q:=by
 subst vU;apply#[λi m aY H'=>m=n - i/\i<=n/\(∃o:List aJ,aY=o++fv/\o.length=own)/\∃out,Pv i out H',#[n,by simp,gR _,#[_,Z,B5],_,h0],?_];rintro i m aY H' ⟨rfl,hi,⟨o,rfl,ho⟩,out,p⟩;by_cases d5:i<n
 ·let#[go,k]:=Mb i out H' d5 p;apply .inr #[go,λgg H2=>(∃o:List aJ,gg=o++fv/\o.length=own)/\∃out,Pv (i+1) out H2,λgg H2 q=>#[n - (i+1),by omega,Z,d5,q],λx H2 y=>?_];let#[o3,d,l3,q]:=k x H2 y;exact G x o H2 _ o3 ho d (q (λH2=>(∃o:List aJ,o3++fv=o++fv/\o.length=own)/\∃out,Pv (i+1) out H2) λrM H2 z=>#[#[o3,Z,l3],rM,z])
 have e:i=n:=by omega
 subst e;exact .inl (Ef out H' p)
theorem i9{K:aj}{a:Addr}{xs:ai}{g:TG}{tc:TT}{te:TE}{own:Nat}{fv:List aJ}{dec:V->Hp->List aJ->Prop}{D:Addr}{H:Hp}{Q:VK}{oC:St}(vU:oC=List.replicate own none++fv)(G:F6 g own fv dec)(Pv:Nat->ai->Hp->Prop)
  (h0:Pv 0 [] (upd H D (.lst []))) (hl:∀i out H',i<=xs.length->Pv i out H'->dY K H' a xs) (hd:∀out H',Pv xs.length out H'->Q (.ref D) H')
  (Mb:∀i x out H',xs[i]? = some x->Pv i out H'->∃o3,dec x H' o3/\o3.length=own/\∀Nx:Hp->Prop,(∀rM H2,Pv (i+1) rM H2->Nx H2)->
   tc (o3++fv) H' λb H4=>if b=true then te (o3++fv) H4 λy H5=>∃iR,H5 D\.lst iR/\iR.length<sizeLine/\Nx (upd H5 D (.lst (iR++[y]))) else Nx H4) :
  BL (yD K a) g tc te oC D H Q:=by
 apply IH vU G xs.length Pv h0 (λout H' p=>#[#[xs,hl _ _ _ (bh _) p,bh _],hd out H' p]) λi out H' hi p=>?_;let q:=hl i out H' (Nat.le_of_lt hi) p;apply#[#[xs,xs[i],q,by simp[hi]],λx H2 y=>?_];let#[e,y]:=y;subst e;exact Mb i x out _ (y xs q) p
end L2
namespace mG
open PySem PySem.W PyProof.Rows
def Ok{α:Type}(f:Nat->Nat->Bool)(n:Nat):KasT α->(α->Prop)->Prop
 |.ret a,Q=>Q a
 |.ask i j k,Q=>i<n/\j<n/\Ok f n (k (f i j)) Q
theorem Ok.bind{α β:Type}{f:Nat->Nat->Bool}{n:Nat}{g:α->KasT β}{Q:β->Prop}:∀{t:KasT α} {R:α->Prop},Ok f n t R->(∀a,R a->Ok f n (g a) Q)->Ok f n (t.bind g) Q
 |.ret a,R,h,k=>k a h
 |.ask i j t,R,h,k=>#[h.1,h.2.1,Ok.bind h.2.2 k]
theorem Ok.imp{α:Type}{f:Nat->Nat->Bool}{n:Nat}{Q R:α->Prop}(k:∀a,Q a->R a):∀{t:KasT α},Ok f n t Q->Ok f n t R
 |.ret a,h=>k a h
 |.ask i j t,h=>#[h.1,h.2.1,Ok.imp k h.2.2]
theorem Ok.wp{α:Type}{f:Nat->Nat->Bool}{n:Nat}{cmp:Nat->Nat->(Bool->Ab->Prop)->Ab->Prop}{s:Ab}(hc:∀i j C,i<n->j<n->C (f i j) s->cmp i j C s){Q:α->Prop}{G:α->Ab->Prop}(k:∀a,Q a->G a s) :
  ∀{t:KasT α},Ok f n t Q->t.kasWp cmp G s
 |.ret a,h=>k a h
 |.ask i j t,h=>hc i j _ h.1 h.2.1 (Ok.wp hc k h.2.2)
structure Ord (f:Nat->Nat->Bool):Prop where
 fD:∀i,f i i=false
 trans:∀{i j k},f j i=false->f k j=false->f k i=false
 Gf:∀{i j},f i j=true->f j i=false
section
variable{f:Nat->Nat->Bool}(O:Ord f){N:Nat}
abbrev at'(p:Array Nat)(i:Nat):Nat:=p.getD i 0
def Up(f:Nat->Nat->Bool)(p:Array Nat)(k:Nat):Prop:=∀i j,i<=j->j<k->f (at' p j) (at' p i)=false
def Down(f:Nat->Nat->Bool)(p:Array Nat)(k:Nat):Prop:=∀i j,i<=j->j<k->f (at' p i) (at' p j)=false
def pf(f:Nat->Nat->Bool)(p:Array Nat)(lo k:Nat):Prop:=∀i,lo<=i->i<k->f (at' p i) (at' p (k - 1))=false/\f (at' p (k - 1)) (at' p i)=false
def Good(N:Nat)(p:Array Nat):Prop:=p.Perm (List.range N).toArray
theorem Good.size{p:Array Nat}(h:Good N p):p.size=N:=by
 have:=h.size_eq;simpa using this
theorem Good.lt{p:Array Nat}(h:Good N p)(hN:0<N)(i:Nat):at' p i<N:=by
 unfold at';by_cases hi:i<p.size
 ·have e:p.getD i 0=p[i]:=by simp[Array.getD,hi]
  rw[e];have m:p[i]∈(List.range N).toArray:=h.mem_iff.mp (Array.getElem_mem hi);simpa using m
 have e:p.getD i 0=0:=by simp[Array.getD,hi]
 rw[e];exact hN
theorem Good.rev{p:Array Nat}(h:Good N p)(i j:Nat):Good N (kas_rev p i j):=(mirror_perm _ _ _ _).trans h
theorem Good.bub{p:Array Nat}(h:Good N p)(i j:Nat):Good N (bubble p i j):=(bubble_perm _ _ _).trans h
theorem FJ{p q:Array Nat}{i j:Nat}(h:p[i]? = q[j]?):at' p i=at' q j:=by
 unfold at';rw[Array.getD_eq_getD_getElem?,Array.getD_eq_getD_getElem?,h]
theorem AU{p:Array Nat}{i j:Nat}(hj:j<=p.size)(k:Nat):at' (kas_rev p i j) k=if i<=k/\k<j then at' p (i+j - 1 - k) else at' p k:=by
 let e:=getElem?_mirror_all (i:=i) hj k;unfold kas_rev;split
 ·rename_i c
  rw[aI c] at e;exact FJ e
 rename_i c
 rw[aB c] at e;exact FJ e
theorem Rg{p:Array Nat}{k l:Nat}(hk:k<p.size)(hl:l<=k)(i:Nat):at' (bubble p k (k - l)) i=if i=l then at' p k else if l<i/\i<=k then at' p (i - 1) else at' p i:=by
 let e:=getElem?_bubble hk (k - l) Z1 i;rw[show k - (k - l)=l by omega] at e;by_cases c:i=l
 ·rw[aI c] at e ⊢;exact FJ e
 rw[aB c] at e ⊢;split
 ·rename_i d
  rw[aI d] at e;exact FJ e
 rename_i d
 rw[aB d] at e;exact FJ e
include O
theorem Up.more{p:Array Nat}{n:Nat}(h:Up f p n)(h1:1<=n)(c:f (at' p n) (at' p (n - 1))=false):Up f p (n+1):=λi j nR hj=>by
 by_cases e:j<n
 ·exact h i j nR e
 have e:j=n:=by omega
 subst e;by_cases e2:i=j
 ·subst e2;exact O.fD _
 exact O.trans (h i (j - 1) Z1 Z1) c
theorem Down.more{p:Array Nat}{n:Nat}(h:Down f p n)(h1:1<=n)(c:f (at' p (n - 1)) (at' p n)=false):Down f p (n+1):=λi j nR hj=>by
 by_cases e:j<n
 ·exact h i j nR e
 have e:j=n:=by omega
 subst e;by_cases e2:i=j
 ·subst e2;exact O.fD _
 exact O.trans c (h i (j - 1) Z1 Z1)
theorem MM{p:Array Nat}(g:Good N p)(hN:0<N):∀(m n:Nat),1<=n->Up f p n->Ok f N (kas_asc p m n) λr=>n<=r/\r<=n+m/\Up f p r/\(r<n+m->f (at' p r) (at' p (r - 1))=true)
 |0,n,_,h=>#[bh _,bh _,h,λq=>absurd q Z1]
 |m+1,n,h1,h=>by
  apply#[g.lt hN _,g.lt hN _,?_];dsimp only;by_cases c:f (at' p n) (at' p (n - 1))=true
  ·rw[aI c];exact#[bh _,by omega,h,λ_=>c]
  rw[aB c];apply (MM g hN m (n+1) Z1 (h.more O h1 ⇑c)).imp λr ⟨a,b,u,z⟩=>#[by omega,by omega,u,λq=>z Z1]
theorem pf.rev{p:Array Nat}{lo k:Nat}(h:pf f p lo k)(hk:k<=p.size)(i:Nat):f (at' (kas_rev p lo k) i) (at' p i)=false/\f (at' p i) (at' (kas_rev p lo k) i)=false:=by
 rw[AU hk];split
 ·rename_i c
  let#[a1,a2]:=h i c.1 c.2;let#[b1,b2]:=h (lo+k - 1 - i) Z1 Z1;exact#[O.trans a2 b1,O.trans b2 a1]
 exact#[O.fD _,O.fD _]
theorem Down.rev{p:Array Nat}{lo k n:Nat}(h:Down f p n)(l:pf f p lo k)(hk:k<=p.size):Down f (kas_rev p lo k) n:=λi j nR hj=>by
 let#[a1,_]:=l.rev O hk i;let#[_,b2]:=l.rev O hk j;exact O.trans (O.trans b2 (h i j nR hj)) a1
theorem II(hN:0<N):∀(m:Nat) (p:Array Nat) (n q:Nat),Good N p->1<=n->q+1<=n->n+m<=N->Down f p n->pf f p (n - (q+1)) n->
  Ok f N (kas_desc m p n q) λr=>Good N r.1/\n<=r.2.1/\r.2.1<=n+m/\Down f r.1 r.2.1/\r.2.2+1<=r.2.1/\pf f r.1 (r.2.1 - (r.2.2+1)) r.2.1
 |0,p,n,q,g,h1,hq,hn,d,l=>#[g,bh _,bh _,d,hq,l]
 |m+1,p,n,q,g,h1,hq,hn,d,l=>by
  apply#[g.lt hN _,g.lt hN _,?_];dsimp only;by_cases c:f (at' p n) (at' p (n - 1))=true
  ·rw[aI c];have d2:Down f p (n+1):=d.more O h1 (O.Gf c)
   have one:∀p':Array Nat,pf f p' (n+1 - (0+1)) (n+1):=λp' i h2 h3=>by
    have e:i=n+1 - 1:=by omega
    subst e;exact#[O.fD _,O.fD _]
   by_cases RK:q > 0
   ·rw[aI RK];have hk:n<=p.size:=by rw[g.size];omega
    exact (II hN m _ (n+1) 0 (g.rev _ _) Z1 Z1 Z1 (d2.rev O l hk) (one _)).imp λr ⟨a,b,b2,z⟩=>#[a,by omega,by omega,z]
   rw[aB RK];exact (II hN m _ (n+1) 0 g Z1 Z1 Z1 d2 (one _)).imp λr ⟨a,b,b2,z⟩=>#[a,by omega,by omega,z]
  rw[aB c];apply#[g.lt hN _,g.lt hN _,?_];dsimp only;have c:f (at' p n) (at' p (n - 1))=false:=⇑c
  by_cases e:f (at' p (n - 1)) (at' p n)=true
  ·rw[aI e];exact#[g,bh _,by show n<=n+(m+1);omega,d,hq,l]
  rw[aB e];have e:f (at' p (n - 1)) (at' p n)=false:=⇑e
  apply (II hN m p (n+1) (q+1) g Z1 Z1 Z1 (d.more O h1 e) λi h2 h3=>?_).imp λr ⟨a,b,b2,z⟩=>#[a,by omega,by omega,z];show f (at' p i) (at' p n)=false/\f (at' p n) (at' p i)=false;by_cases ei:i=n
  ·subst ei;exact#[O.fD _,O.fD _]
  let#[a1,a2]:=l i Z1 Z1;exact#[O.trans e a1,O.trans a2 c]
def Np(f:Nat->Nat->Bool)(N di:Nat)(r:Nat × Array Nat):Prop:=Good N r.2/\1<=r.1/\r.1<=di/\Up f r.2 r.1
theorem IK(hN:0<N){p:Array Nat}{n di:Nat}(g:Good N p)(h1:1<=n)(hn:n<=di)(hr:di<=N)(d:Down f p n):Ok f N (kas_tail3 n di p) (Np f N di):=by
 unfold kas_tail3
 have u:Up f (kas_rev p 0 n) n:=λi j nR hj=>by
  rw[AU (by rw[g.size];omega),AU (by rw[g.size];omega),aI Z1,aI Z1];exact d _ _ Z1 Z1
 exact (MM O (g.rev _ _) hN (di - n) n h1 u).bind λm ⟨a,b,u,_⟩=>#[g.rev _ _,by show 1<=m;omega,by show m<=di;omega,u]
theorem UL(hN:0<N){p:Array Nat}{n di:Nat}(g:Good N p)(hn:n+1<=di)(hr:di<=N)(d:Down f p (n+1)):Ok f N (kas_descPart n di p) (Np f N di):=by
 unfold kas_descPart;apply (II O hN (di - (n+1)) p (n+1) 0 g Z1 Z1 Z1 d λi h2 h3=>?_).bind λr ⟨g',a,b,d',hq,l⟩=>?_
 ·have e:i=n+1 - 1:=by omega
  subst e;exact#[O.fD _,O.fD _]
 split
 ·exact IK O hN (g'.rev _ _) Z1 Z1 hr (d'.rev O l (by rw[g'.size];omega))
 exact IK O hN g' Z1 Z1 hr d'
theorem hA_(hN:0<N){p:Array Nat}{di:Nat}(g:Good N p)(h1:1<=di)(hr:di<=N):Ok f N (kas_count di p) (Np f N di):=by
 unfold kas_count;apply (MM O g hN (di - 1) 1 (bh _) λi j nR hj=>?_).bind λn ⟨a,b,u,st⟩=>?_
 ·have e:i=j:=by omega
  subst e;exact O.fD _
 by_cases e:(n == di)=true
 ·rw[aI e];exact#[g,a,by show n<=di;omega,u]
 rw[aB e];have e:n≠di:=⇑e
 let c:=st Z1;by_cases h2:n > 1
 ·rw[aI h2];apply#[g.lt hN _,g.lt hN _,?_];dsimp only;by_cases c2:f (at' p 0) (at' p (n - 1))=true
  ·rw[aI c2];exact#[g,a,by show n<=di;omega,u]
  rw[aB c2];have c2:f (at' p 0) (at' p (n - 1))=false:=⇑c2
  apply UL O hN (g.rev _ _) Z1 hr λi j nR hj=>?_;by_cases ej:j<n
  ·rw[AU (by rw[g.size];omega),AU (by rw[g.size];omega),aI Z1,aI Z1];exact u _ _ Z1 Z1
  have ej:j=n:=by omega
  subst ej;by_cases ei:i=j
  ·subst ei;exact O.fD _
  rw[AU (by rw[g.size];omega),AU (by rw[g.size];omega),aI Z1,aB Z1];exact O.trans (O.trans (O.Gf c) c2) (u 0 _ Z1 Z1)
 rw[aB h2];have e1:n=1:=by omega
 subst e1;apply UL O hN g Z1 hr λi j nR hj=>?_;by_cases ei:i=j
 ·subst ei;exact O.fD _
 have q1:i=0:=by omega
 have q2:j=1:=by omega
 subst q1;subst q2;exact O.Gf c
theorem N7(hN:0<N){p:Array Nat}{k:Nat}(g:Good N p)(u:Up f p k):∀(m l r:Nat),r - l<=m->l<=r->r<=k->(∀i,i<l->f (at' p k) (at' p i)=false)->(∀i,r<=i->i<k->f (at' p k) (at' p i)=true)->
  Ok f N (kas_place p k m l r) λx=>x<=k/\(∀i,i<x->f (at' p k) (at' p i)=false)/\∀i,x<=i->i<k->f (at' p k) (at' p i)=true
 |0,l,r,hm,hl,hr,h1,h2=>by
  have e:l=r:=by omega
  subst e;exact#[hr,h1,h2]
 |m+1,l,r,hm,hl,hr,h1,h2=>by
  unfold kas_place;by_cases e:l ≥ r
  ·rw[aI e];have e:l=r:=by omega
   subst e;exact#[hr,h1,h2]
  rw[aB e];apply#[g.lt hN _,g.lt hN _,?_];dsimp only;by_cases c:f (at' p k) (at' p ((l+r) / 2))=true
  ·rw[aI c];apply N7 hN g u m l _ Z1 Z1 Z1 h1 λi h3 h4=>?_;by_cases ei:f (at' p k) (at' p i)=true
   ·exact ei
   have ei:f (at' p k) (at' p i)=false:=⇑ei
   have:=O.trans (u _ i h3 h4) ei;rw[c] at this;cases this
  rw[aB c];have c:f (at' p k) (at' p ((l+r) / 2))=false:=⇑c
  exact N7 hN g u m _ r Z1 Z1 hr (λi h3=>O.trans (u i _ Z1 Z1) c) h2
theorem Re(hN:0<N):∀(m:Nat) (p:Array Nat) (k:Nat),Good N p->k+m=N->Up f p k->Ok f N (kas_bin m p k) λr=>Good N r/\Up f r N
 |0,p,k,g,e,u=>by
  have e:k=N:=by omega
  subst e;exact#[g,u]
 |m+1,p,k,g,e,u=>by
  unfold kas_bin;apply (N7 O hN g u k 0 k Z1 Z1 (bh _) (λi h=>absurd h Z1) λi h1 h2=>absurd h2 Z1).bind λl ⟨hl,h1,h2⟩=>?_;have hk:k<p.size:=by rw[g.size];omega
  apply Re hN m _ (k+1) (g.bub _ _) Z1 λi j nR hj=>?_;rw[Rg hk hl,Rg hk hl];by_cases ej:j=l
  ·rw[aI ej];by_cases ei:i=l
   ·rw[aI ei];exact O.fD _
   rw[aB ei,aB Z1];exact h1 i Z1
  rw[aB ej];by_cases Ta:l<j/\j<=k
  ·rw[aI Ta];by_cases ei:i=l
   ·rw[aI ei];exact O.Gf (h2 (j - 1) Z1 Z1)
   rw[aB ei];by_cases Tb:l<i/\i<=k
   ·rw[aI Tb];exact u _ _ Z1 Z1
   rw[aB Tb];exact u _ _ Z1 Z1
  rw[aB Ta];rw[aB (show ¬i=l by omega),aB (show ¬(l<i/\i<=k) by omega)];exact u _ _ Z1 Z1
theorem SU(hN:0<N):Ok f N (kas_sort N) λp=>Good N p/\Up f p N:=by
 unfold kas_sort;apply (hA_ O hN (p:=(List.range N).toArray) (Array.Perm.refl _) hN (bh _)).bind λr ⟨g,h1,h2,u⟩=>?_;split
 ·rename_i c
  rw[show max r.1 1=r.1 by omega];exact Re O hN _ _ _ g Z1 u
 rename_i c
 have e:r.1=N:=by omega
 exact#[g,e▸u]
end
end mG
namespace mG
open PySem PySem.W PyProof.Rows
section
variable{prog:Ad}{w:Af}{A:Ag}{E:Aa->Ab->Prop}{s:Ab}
def uk(prog:Ad)(w:Af)(A:Ag)(f:Nat->Nat->Bool)(vs:ag)(s:Ab):Prop:=
 ∃κ,(∀Q:SortKind->Ab->Prop,Q κ s->wpAny (model prog w) A (keyKind' vs.toArray) Q (λ_ _=>False) s)/\∀i j C,i<vs.length->j<vs.length->C (f i j) s->kas_ask prog w A κ vs i j C s
def Fn(a:Addr)(h h':Heap):Prop:=∀b o,b≠a->h.get? b\o->h'.get? b\o
def mw(p:Array Nat)(vs:ag):ag:=p.toList.map λi=>vs.getD i Value.none
theorem U8(vs:ag):mw (List.range vs.length).toArray vs=vs:=by
 unfold mw;apply List.ext_getElem? ?_;intro i;simp only[dk];by_cases h:i<vs.length
 ·simp[h]
 simp[Nat.le_of_not_lt h]
theorem hE_{a:Addr}{vs:ag}{n:Nat}{f:Nat->Nat->Bool}{P:Fin->Ab->Prop}(O:Ord f)(ho:s.heap.get? a\seqObj "list" vs.toArray n)(bX:vs.length<64)
  (Ap:2<=vs.length->∀h',Fn a s.heap h'->uk prog w A f vs { s with heap:=h' })
  (h:∀(p:Array Nat) (h':Heap) (e:Nat),Good vs.length p->Up f p vs.length->h'.get? a\seqObj "list" (mw p vs).toArray e->Fn a s.heap h'->P (.done (.ret .none)) { s with heap:=h' }) :
  wpAny (model prog w) A (Builtin.«list.sort» #[[.ref a],[]]) P E s:=by
 have haz:a<s.heap.objs.size:=bz ho;obtain⟨e1,uB⟩:∃e1,(s.heap.update a (Obj.mapSeq λ_=>(#[]:Array Aa))).get? a\seqObj "list" #[] e1:=#[_,get?_update_seq ho (λ_=>#[])]
 have G4:vs.length<=sizeLine:=by
  have:=cJ;omega
 rw[list_sort_plain];apply af (listItems_at ho Z (af (listUpdate_at ho Z (af (seqEpoch_at uB Z (af (wpAny_newTuple (af (wpAny_newList (i7 ?_) (gR _))) G4)))) ⇑G4 (gR _))))
 have keep:∀g:Array Aa->Array Aa,Fn a s.heap ((((s.heap.update a (Obj.mapSeq λ_=>(#[]:Array Aa))).push (seqObj "tuple" vs.toArray 0)).push (seqObj "list" #[] 0)).update a (Obj.mapSeq g)):=λg b o hb e=>by
  apply (uL _ _ (bJ hb)).trans (aU _ (aU _ ?_));exact (uL _ _ (bJ hb)).trans e
 have DS:Fn a s.heap (((s.heap.update a (Obj.mapSeq λ_=>(#[]:Array Aa))).push (seqObj "tuple" vs.toArray 0)).push (seqObj "list" #[] 0)):=λb o hb e=>
  aU _ (aU _ ((uL _ _ (bJ hb)).trans e))
 have By:(((s.heap.update a (Obj.mapSeq λ_=>(#[]:Array Aa))).push (seqObj "tuple" vs.toArray 0)).push (seqObj "list" #[] 0)).get? a\seqObj "list" #[] e1:=aU _ (aU _ uB);show wpAny (model prog w) A _ P E { s with heap:=((s.heap.update a (Obj.mapSeq λ_=>(#[]:Array Aa))).push (seqObj "tuple" vs.toArray 0)).push (seqObj "list" #[] 0) };dsimp only;by_cases h2:vs.toArray.size<2
 ·rw[aI h2,aI h2];apply af (aE ?_);rw[StateT.run_pure]
  have wx:((vs.toArray.zip vs.toArray).map λx:Keyed=>x.2)=(mw (List.range vs.length).toArray vs).toArray:=by
   rw[U8];apply Array.ext' ?_;simp[List.map_snd_zip]
  apply af (aE (af (seqEpoch_at By Z (af (listUpdate_at By Z ?_ (gR _) ?_)))))
  ·simp only[bne_self_eq_false,pZ,if_false];apply aE (h (List.range vs.length).toArray _ _ (Array.Perm.refl _) (λi j nR hj=>?_) ((get?_update_seq By _).trans (d7 (λz=>some (seqObj "list" z _)) wx)) (keep _))
   have e:i=j:=by
    simp only[cm] at h2;omega
   subst e;exact O.fD _
  have e:((vs.toArray.zip vs.toArray).map λx:Keyed=>x.2).size<=sizeLine+1:=by
   simp only[Array.size_map,Array.size_zip,cm];omega
  exact e
 rw[aB h2,aB h2]
 have g7:2<=vs.length:=by
  simp only[cm] at h2;omega
 let#[κ,hk,hc]:=Ap g7 _ DS;apply af (wpAny_mono (hk (λk s'=>k=κ/\s'=_) #[Z,Z]) (λk s' Ew=>?_) λ_ _ x=>x.elim);let#[rfl,rfl]:=Ew
 apply af (wpAny_mono (kat_run (ks:=vs) (vs:=vs) (G:=λp s'=>s'={ s with heap:=((s.heap.update a (Obj.mapSeq λ_=>(#[]:Array Aa))).push (seqObj "tuple" vs.toArray 0)).push (seqObj "list" #[] 0) }/\Good vs.length p/\Up f p vs.length)
  (Q:=λfC s'=>∃p:Array Nat,arrOf fC=p.map (kas_item (vs.toArray.zip vs.toArray))/\failedOf fC=none/\s'={ s with heap:=((s.heap.update a (Obj.mapSeq λ_=>(#[]:Array Aa))).push (seqObj "tuple" vs.toArray 0)).push (seqObj "list" #[] 0) }/\Good vs.length p/\Up f p vs.length)
  rfl g7 bX (λp fC s' _ q1 q2 q3=>#[p,q1,q2,q3]) (Ok.wp hc (λp q=>#[Z,q]) (SU O Z1))) ?_ λ_ _ x=>x)
 rintro⟨⟨⟩,fC⟩ s' ⟨p,Mu,hf,hs',g,u⟩;have hs':s'={ s with heap:=((s.heap.update a (Obj.mapSeq λ_=>(#[]:Array Aa))).push (seqObj "tuple" vs.toArray 0)).push (seqObj "list" #[] 0) }:=hs';subst hs'
 have wx:((arrOf fC).map λx:Keyed=>x.2)=(mw p vs).toArray:=by
  rw[Mu];apply Array.ext' ?_;unfold mw;simp only[Array.map_map,Array.toList_map,List.toList_toArray];apply uY λi _=>?_;show (kas_item (vs.toArray.zip vs.toArray) i).2=_;unfold kas_item;by_cases hi:i<vs.length
  ·simp[Array.getD,hi]
  simp[Array.getD,hi,Nat.le_of_not_lt hi]
 have esz:((arrOf fC).map λx:Keyed=>x.2).size=vs.length:=by
  rw[wx];unfold mw;simp only[cm,aq,tU];exact g.size
 apply af (seqEpoch_at By Z (af (listUpdate_at By Z ?_ (gR _) (by rw[esz];omega))));rw[hf];simp only[bne_self_eq_false,pZ,if_false];exact aE (h p _ _ g u ((get?_update_seq By _).trans (d7 (λz=>some (seqObj "list" z _)) wx)) (keep _))
theorem Ua{x:Aa}{f:Nat->Nat->Bool}{Q:Aa->Ab->Prop}(O:Ord f)
  (l6:wpAny (model prog w) A.in1 (collect x) (λvs s1=>vs.length<64/\(2<=vs.length->∀h':Heap,(∀b o,s1.heap.get? b\o->h'.get? b\o)->uk prog w A.in1.in1 f vs { s1 with heap:=h' }) /\
   ∀(p:Array Nat) (h':Heap) (e:Nat),Good vs.length p->Up f p vs.length->h'.get? s1.heap.objs.size\seqObj "list" (mw p vs).toArray e->(∀b o,s1.heap.get? b\o->h'.get? b\o)->Q (.ref s1.heap.objs.size) { s1 with heap:=h' }) E s) :
  wpAny (model prog w) A (call (.builtin "sorted") [x]) Q E s:=by
 apply Calls.call_function_entry kind_sorted plain_sorted entry_sorted (args_sorted1 _) ?_;unfold Builtin.«sorted»;apply af (m:=checkCount "sorted" 1 1 _) (aE (af (wpAny_mono l6 (λvs s1 q=>?_) λ_ _ z=>z)));let#[bX,Ap,hQ]:=q;apply af (wpAny_newList ?_ (by have:=cJ;omega));have hn:(s1.heap.push (seqObj "list" vs.toArray 0)).get? s1.heap.objs.size\seqObj "list" vs.toArray 0:=cK _ Z
 have old:∀h',Fn s1.heap.objs.size (s1.heap.push (seqObj "list" vs.toArray 0)) h'->∀b o,s1.heap.get? b\o->h'.get? b\o:=λh' k b o e=>
  k b o (dS (bz e)) (aU _ e)
 apply af (i7 (s_ slot_list_sort #[_,hn,Z] entry_list_sort (hE_ O hn bX (λh2 h' k=>Ap h2 h' (old h' k)) λp h' e g u q k=>#[_,Z,?_]) (args_list_sort _)));exact aE #[_,Z,hQ p h' e g u q (old h' k)]
end
end mG
namespace L2
open PySem PySem.Spec PyProof.Rows PySem.W mG
def jf:Key->Key->Bool
 |.inl i,.inl j=>decide (i<j)
 |.inl _,.inr _=>true
 |.inr _,.inl _=>false
 |.inr x,.inr y=>decide (x.cps.toList<y.cps.toList)
def bF:av->av->Bool
 |[],[]=>false
 |[],_::_=>true
 |_::_,[]=>false
 |a::r,b::q=>if a=b then bF r q else jf a b
theorem _B:∀a:Key,jf a a=false
 |.inl i=>by simp[jf]
 |.inr x=>by simp[jf,List.lt_irrefl]
theorem Um:∀{a b:Key},jf a b=true->jf b a=false
 |.inl i,.inl j,h=>by
  simp only[jf,decide_eq_true_eq,decide_eq_false_iff_not] at *;omega
 |.inl _,.inr _,_=>rfl
 |.inr _,.inl _,h=>by cases h
 |.inr x,.inr y,h=>by
  simp only[jf,decide_eq_true_eq,decide_eq_false_iff_not] at *;exact λq=>List.lt_irrefl _ (List.lt_trans h q)
theorem Sj:∀{a b:Key},jf a b=false->jf b a=false->a=b
 |.inl i,.inl j,h,h2=>by
  simp only[jf,decide_eq_false_iff_not] at *;rw[show i=j by omega]
 |.inl _,.inr _,h,_=>by cases h
 |.inr _,.inl _,_,h=>by cases h
 |.inr x,.inr y,h,h2=>by
  simp only[jf,decide_eq_false_iff_not] at *;rw[ext_toList (List.le_antisymm (List.not_lt.mp h2) (List.not_lt.mp h))]
theorem fX_:∀{a b c:Key},jf a b=true->jf b c=true->jf a c=true
 |.inl i,.inl j,.inl k,h,h2=>by
  simp only[jf,decide_eq_true_eq] at *;omega
 |.inl _,.inl _,.inr _,_,_=>rfl
 |.inl _,.inr _,.inr _,_,_=>rfl
 |.inl _,.inr _,.inl _,_,h=>by cases h
 |.inr _,.inl _,_,h,_=>by cases h
 |.inr _,.inr _,.inl _,_,h=>by cases h
 |.inr x,.inr y,.inr z,h,h2=>by
  simp only[jf,decide_eq_true_eq] at *;exact List.lt_trans h h2
theorem Ny:∀a:av,bF a a=false
 |[]=>rfl
 |a::r=>by
  unfold bF;rw[aI Z];exact Ny r
theorem OX:∀{a b:av},bF a b=true->bF b a=false
 |[],[],h=>by cases h
 |[],_::_,_=>rfl
 |_::_,[],h=>by cases h
 |a::r,b::q,h=>by
  unfold bF at h ⊢;by_cases e:a=b
  ·rw[aI e] at h;rw[aI e.symm];exact OX h
  rw[aB e] at h;rw[aB (bJ e)];exact Um h
theorem Nq:∀{a b:av},bF a b=false->bF b a=false->a=b
 |[],[],_,_=>rfl
 |[],_::_,h,_=>by cases h
 |_::_,[],_,h=>by cases h
 |a::r,b::q,h,h2=>by
  unfold bF at h h2;by_cases e:a=b
  ·rw[aI e] at h;rw[aI e.symm] at h2;rw[e,Nq h h2]
  rw[aB e] at h;rw[aB (bJ e)] at h2;exact absurd (Sj h h2) e
theorem US:∀{a b c:av},bF a b=true->bF b c=true->bF a c=true
 |[],_,[],h,h2=>by
  rename_i b
  cases b with
  |nil=>cases h
  |cons _ _=>cases h2
 |[],_,_::_,_,_=>rfl
 |_::_,[],_,h,_=>by cases h
 |_::_,_::_,[],_,h=>by cases h
 |a::r,b::q,c::t,h,h2=>by
  unfold bF at h h2 ⊢;by_cases e:a=b
  ·subst e;rw[aI Z] at h;by_cases e2:a=c
   ·rw[aI e2] at h2 ⊢;exact US h h2
   rw[aB e2] at h2 ⊢;exact h2
  rw[aB e] at h;by_cases e2:b=c
  ·subst e2;rw[aB e];exact h
  rw[aB e2] at h2;let h3:=fX_ h h2;rw[aB (λq=>by rw[q,_B] at h3;cases h3)];exact h3
theorem UH{a b c:av}(h:bF b a=false)(h2:bF c b=false):bF c a=false:=by
 cases e:bF c a with
 |false=>rfl
 |true=>
  by_cases e1:bF a b=true
  ·have:=US e e1;rw[h2] at this;cases this
  have e1:bF a b=false:=⇑e1
  have:=Nq e1 h;subst this;rw[h2] at e;cases e
def B_(ks:List av):Prop:=ks.Pairwise λa b=>bF b a=false
theorem UD:∀{a b:List av},a.Perm b->B_ a->B_ b->a=b
 |[],b,p,_,_=>by
  have:=p.length_eq;cases b with
  |nil=>rfl
  |cons _ _=>cases this
 |x::r,[],p,_,_=>by
  have:=p.length_eq;cases this
 |x::r,y::q,p,h1,h2=>by
  let#[a1,a2]:=List.pairwise_cons.mp h1;let#[b1,b2]:=List.pairwise_cons.mp h2
  have e:x=y:=by
   rcases bV.mp (p.mem_iff.mp gd) with m|m
   ·exact m
   rcases bV.mp (p.mem_iff.mpr gd) with m2|m2
   ·exact m2.symm
   exact Nq (b1 _ m) (a1 _ m2)
  subst e;rw[UD ((List.perm_cons _).mp p) a2 b2]
def bg(ks:List av):List av:=ks.mergeSort λa b=>!bF b a
theorem tV(ks:List av):(bg ks).Perm ks:=List.mergeSort_perm _ _
theorem fg_(ks:List av):B_ (bg ks):=by
 have:=List.pairwise_mergeSort (le:=λa b=>!bF b a) (λa b c h1 h2=>by
  simp only[Bool.not_eq_true'] at *;exact UH h1 h2) (λa b=>by
  simp only[Bool.or_eq_true,Bool.not_eq_true'];by_cases e:bF b a=true
  ·exact .inr (OX e)
  exact .inl ⇑e) ks
 exact this.imp λh=>by simpa using h
theorem OR{ks iT:List av}(p:iT.Perm ks)(h:B_ iT):iT=bg ks:=UD (p.trans (tV ks).symm) h (fg_ ks)
theorem FV{α:Type}{p:Array Nat}{n:Nat}(g:Good n p)(F:Nat->α):(p.toList.map F).Perm ((List.range n).map F):=by
 have e:p.toList.Perm (List.range n):=by
  have:=Array.perm_iff_toList_perm.mp g;simpa using this
 exact e.map F
theorem Ng{p:Array Nat}{ks:List av}{f:Nat->Nat->Bool}(hf:∀i j,i<ks.length->j<ks.length->f i j=bF (ks.getD i []) (ks.getD j []))(g:Good ks.length p)(u:Up f p ks.length):B_ (p.toList.map λi=>ks.getD i []):=by
 unfold B_;rw[uX,List.pairwise_iff_getElem];intro i j hi hj nR;let hs:=g.size;rw[tU] at hi hj;have hj':j<ks.length:=by omega
 let q:=u i j (Nat.le_of_lt nR) hj';have hN:0<ks.length:=by omega
 rw[hf _ _ (g.lt hN _) (g.lt hN _)] at q;have e1:at' p i=p.toList[i]:=by simp[at',Array.getD,hi]
 have e2:at' p j=p.toList[j]:=by simp[at',Array.getD,hj]
 rw[e1,e2] at q;exact q
theorem Nw(ks:List av):Ord λi j=>bF (ks.getD i []) (ks.getD j []):=#[λ_=>Ny _,λh h2=>UH h h2,λh=>OX h]
theorem FX{α:Type}(d:α)(l:List α):((List.range l.length).map λi=>l.getD i d)=l:=by
 apply List.ext_getElem? ?_;intro i;simp only[dk];by_cases h:i<l.length
 ·simp[h]
 simp[Nat.le_of_not_lt h]
theorem NA{ys:ai}{vs:ag}(r:Vals ys vs){p:Array Nat}(g:Good vs.length p):Vals (p.toList.map λi=>ys.getD i .non) (mw p vs):=by
 unfold mw
 have key:∀l:List Nat,(∀i∈l,i<vs.length)->Vals (l.map λi=>ys.getD i .non) (l.map λi=>vs.getD i Value.none):=λl=>by
  induction l with
  |nil=>exact λ_=>.nil
  |cons i l ih=>
   intro h;apply .cons ?_ (ih λj hj=>h j (fP _ hj));let hi:=h i gd;have hy:i<ys.length:=by rw[r.length];exact hi
   let#[u,hu,ru]:=r.get (aQ hy);have e1:ys.getD i .non=ys[i]:=by simp[hy]
   have e2:vs.getD i Value.none=u:=by simp[hu]
   show RelV (ys.getD i .non) (vs.getD i Value.none);rw[e1,e2];exact ru
 apply key p.toList λi hi=>?_;have m:i∈(List.range vs.length).toArray:=g.mem_iff.mp ⇑hi;simpa using m
theorem SF:∀{ss:ae} {vs:ag},Vals (ss.map V.str) vs->StrsAre vs ss
 |[],_,.nil=>.nil
 |x::r,_,.cons h t=>by
  let#[tk,rfl]:=h;exact .cons x tk (SF t)
def h_(ss:ae):ae:=(bg (ss.map λx=>[Sum.inr x])).map λk=>match k with
 |[.inr x]=>x
 |_=>⟨#[]⟩
def bH(x:Str):av:=[Sum.inr x]
theorem Uj{prog:Ad}{w:Af}{A:Ag}{s:Ab}{ss:ae}{vs:ag}(r:StrsAre vs ss)(h2:2<=vs.length):uk prog w A (λi j=>bF ((ss.map bH).getD i []) ((ss.map bH).getD j [])) vs s:=by
 apply#[oneType',λQ q=>?_,λi j C hi hj hC=>?_]
 ·match vs,h2 with
  |v₁::V0::t,_=>
   rw[keyKind_strs r];exact aE q
 unfold kas_ask;rw[keyLt'_oneType]
 have look:∀k,k<vs.length->∃x t,vs.getD k Value.none=.str x t/\(ss.map bH).getD k []=[Sum.inr x]:=λk hk=>by
  let e:=r.strs;let#[x,t,q]:=r.all vs[k] (kK hk);apply#[x,t,by simp[hk,q],?_]
  have RV:k<ss.length:=by
   rw[<- e,aq];exact hk
  have e2:ss[k]=x:=by
   have e3:(vs.map strOf)[k]? = ss[k]?:=by rw[e]
   rw[dk,aQ hk,aQ RV,q] at e3;exact (cY e3).symm
  simp[RV,e2,bH]
 let#[x,t,e1,e2]:=look i hi;let#[y,u,e3,e4]:=look j hj;rw[e1,e3];dsimp only at hC;rw[e2,e4] at hC;apply oneLt_str ?_;unfold bF at hC;by_cases e:x=y
 ·subst e;rw[aI Z] at hC;have:decide (x.cps.toList<x.cps.toList)=false:=by simp[List.lt_irrefl]
  rw[this];exact hC
 rw[aB (λq=>e (hZ q))] at hC;exact hC
def xN:Key->Bool
 |.inl _=>false
 |.inr _=>true
theorem hj_{prog:Ad}{w:Af}{A:Ag}{E:Aa->Ab->Prop}{s:Ab}{c:Bool}{a b:Key}{p q:Aa}{Q:Bool->Ab->Prop}(ra:RelV (kV a) p)(rb:RelV (kV b) q)(hk:xN a=xN b)(h:Q (jf a b) s) :
  wpAny (model prog w) A (oneLt' c p q) Q E s:=by
 cases a with
 |inl i=>
  cases b with
  |inr y=>cases hk
  |inl j=>
   let#[t,rfl]:=ra;let#[u,rfl]:=rb;cases c with
   |true=>exact oneLt_int h
   |false=>exact kat_one _ _ (lt_int (show PySem.W.BoolBack Q (.bool _) s from h))
 |inr x=>
  cases b with
  |inl j=>cases hk
  |inr y=>
   let#[t,rfl]:=ra;let#[u,rfl]:=rb;cases c with
   |true=>exact oneLt_str h
   |false=>exact kat_one _ _ (PyProof.Rows.lt_str (show PySem.W.BoolBack Q (.bool _) s from h))
theorem _o{a b:Key}(hk:xN a=xN b):M9 (kV a) (kV b)=decide (a=b):=by
 cases a with
 |inl i=>
  cases b with
  |inr y=>cases hk
  |inl j=>
   show (i == j)=_;by_cases e:i=j
   ·subst e;simp
   ·rw[eG (λq=>e (Sum.inl.inj q))];simpa using e
 |inr x=>
  cases b with
  |inl j=>cases hk
  |inr y=>
   show (x == y)=_;by_cases e:x=y
   ·subst e;simp
   rw[eG (λq=>e (hZ q))];simpa using e
theorem TF(a:Key):sI (kV a)=true:=by cases a<;>rfl
theorem UP{prog:Ad}{w:Af}{A:Ag}{s:Ab}{Q:Bool->Ab->Prop}:∀{k1 k2:av} {us vs:ag} (i:Nat),Vals (k1.map kV) us->Vals (k2.map kV) vs->k1.map xN=k2.map xN->Q (bF k1 k2) s->KatLex prog w A true false Q (us.zip vs) i s
 |[],[],_,_,i,.nil,.nil,_,h=>h
 |[],_::_,_,_,_,_,_,h,_=>by cases h
 |_::_,[],_,_,_,_,_,h,_=>by cases h
 |a::k1,b::k2,u::us,v::vs,i,.cons ra r1,.cons rb r2,hk,h=>by
  let#[e1,e2]:=List.cons.inj hk;apply kat_cons ?_;apply Rn ra rb (TF a) (TF b) prog w _ _ ?_;rw[_o e1];unfold bF at h;by_cases e:a=b
  ·rw[aI e] at h;rw[dc e];exact kat_yes (UP (i+1) r1 r2 e2 h)
  rw[aB e] at h;rw[eG e];exact kat_no (hj_ ra rb e1 h)
def bT(K:aj)(H:Hp):ai->List av->Prop:=Paired λy k=>∃a,y=V.ref a/\H a\.tup (k.map kV)
def Alike(ks:List av)(sh:List Bool):Prop:=sh≠[]/\∀k∈ks,k.map xN=sh
theorem g0_{X:Cx}{pins:List (Addr × Obj)}{σ:St}{H:Hp}{s s':Ab}{A:Ag}{ys:ai}{ks:List av}{sh:List Bool}{vs:ag}(I:Inv X pins σ H s)(r:Vals ys vs)(t:bT X.K H ys ks)(al:Alike ks sh)(h2:2<=vs.length)
  (kp:∀b o,s.heap.get? b\o->s'.heap.get? b\o):uk X.prog X.w A (λi j=>bF (ks.getD i []) (ks.getD j [])) vs s':=by
 have look:∀k,k<vs.length->∃a its,vs.getD k Value.none=.ref a/\Vals ((ks.getD k []).map kV) its/\IsTup s'.heap a its.toArray/\ks.getD k []∈ks:=λk hk=>by
  have hy:k<ys.length:=by rw[r.length];exact hk
  have Bz:k<ks.length:=by rw[<- bw t];exact hy
  let#[u,hu,ru]:=r.get (aQ hy)
  have gen:∀{ys:ai} {ks:List av} (k:Nat) (hy:k<ys.length) (Bz:k<ks.length),bT X.K H ys ks->∃a,ys[k]=V.ref a/\H a\.tup (ks[k].map kV):=λ{ys ks} k hy Bz t=>by
   induction t generalizing k with
   |nil=>exact absurd hy Z2
   |cons h t ih=>
    cases k with
    |zero=>exact h
    |succ k=>exact ih k ⇑hy ⇑Bz
  let#[a,e,sq]:=gen k hy Bz t;let#[its,ri,ti,_]:=I.tuple (ft.of sq);rw[e] at ru;cases ru;have e2:ks.getD k []=ks[k]:=by simp[Bz]
  apply#[a,its,by simp[hu],by rw[e2];exact ri,ti.keeps kp,?_];rw[e2];exact kK Bz
 let#[lW,EV]:=al
 obtain⟨c,CT,rfl⟩:∃c CT,sh=c::CT:=by
  cases sh with
  |nil=>exact absurd Z lW
  |cons c CT=>exact#[c,CT,Z]
 apply#[tuples' true,λQ q=>?_,λi j C hi hj hC=>?_]
 ·have AA:∀l:ag,(∀v∈l,∃(a:Addr) (its:ag) (k:av),v=.ref a/\Vals (k.map kV) its/\IsTup s'.heap a its.toArray/\k.map xN=c::CT)->∃fs,KatTups s'.heap l fs/\fs.length=l.length/\∀v∈fs,Looks (model X.prog X.w) s'.heap (typeOf v) (.type (if c then "str" else "int")):=λl=>by
   induction l with
   |nil=>exact λ_=>#[[],.nil,Z,λ_ h=>nomatch h]
   |cons v l ih=>
    intro h;let#[fs,h1,h2,h3]:=ih λv hv=>h v (fP _ hv);let#[a,its,k,rfl,rv,#[o,ho,hc,n,hd],hk]:=h v gd
    match k,its,rv,hk with
    |k0::k,u::its,.cons r0 _,hk=>
     apply#[u::fs,.cons ho hc hd Z2 h1,by simp[h2],λv hv=>?_];rcases bV.mp hv with e|hv
     ·subst e;let e0:=(List.cons.inj hk).1;cases k0 with
      |inl i=>
       let#[t,rfl]:=r0;rw[<- e0];exact .now
      |inr x=>
       let#[t,rfl]:=r0;rw[<- e0];exact .now
     exact h3 v hv
  let#[fs,h1,h3,h4]:=AA vs λv hv=>by
   let#[k,hk,rfl]:=hJ hv;let#[a,its,e,rv,ti,m]:=look k hk;apply#[a,its,_,?_,rv,ti,EV _ m];rw[<- e];simp[hk]
  apply kat_kind h1 Z1 h4 (by cases c<;>decide) ?_
  have e:((Value.type (if c then "str" else "int")) != Value.type "tuple")=true:=by cases c<;>decide
  rw[e];exact q
 unfold kas_ask;let#[a,its,e1,r1,#[o,ho,_,n,hd],m1]:=look i hi;let#[b,ip,e2,r2,#[o2,fu,_,n2,hd2],m2]:=look j hj;rw[e1,e2];apply kat_lt ho hd fu hd2 ?_;let l1:=r1.length;let l2:=r2.length;let l3:=d7 List.length ((EV _ m1).trans (EV _ m2).symm);simp only[aq] at l1 l2 l3;rw[show decide (its.toArray.size<ip.toArray.size)=false by simp;omega];exact UP 0 r1 r2 ((EV _ m1).trans (EV _ m2).symm) hC
end L2
namespace dM
open PySem PySem.W PyProof.Rows
section
variable{prog:Ad}{w:Af}{A:Ag}{E:Aa->Ab->Prop}{s:Ab}
def Raw(h:Heap)(d:Addr)(es:Array DictEntry)(ep:Nat):Prop:=∃o,h.get? d\o/\o.ExactDict/\o.data=.dict es ep
theorem Raw.er{h h':Heap}{d:Addr}{es:Array DictEntry}{ep:Nat}(x:Raw h d es ep)(k:∀o,h.get? d\o->h'.get? d\o):Raw h' d es ep:=let #[o,e,r]:=x;#[o,k o e,r]
theorem Raw.ty{d:Addr}{es:Array DictEntry}{ep:Nat}(x:Raw s.heap d es ep):s.TypeIs (.ref d) "dict":=let #[o,e,c,_]:=x;#[o,e,c.1]
theorem Z7{d:Addr}{es:Array DictEntry}{ep:Nat}{Q:Aa->Ab->Prop}(hd:(d == sysModules)=false)(x:Raw s.heap d es ep)
  (q:Q (.ref s.heap.objs.size) { s with heap:=s.heap.push { cls:=.type "dict_keyiterator",data:=.fields (List.toArray [.ref d,.int 0 0,.int es.size 0,.int ep 0]) } }) :
  wpAny (model prog w) A (pyIter (.ref d)) Q E s:=by
 let#[o,ho,hc,jK]:=id x;apply wpAny_pyIter_slot x.ty F.slot_dict_iter (s_ F.slot_dict_iter x.ty F.entry_dict_iter ?_ (F.args_dict_iter_1 _));unfold Builtin.«dict.__iter__» Builtin.Dict.dictSlotNone;apply af (af (wpAny_notOrdered_dict x.ty (show wpAny _ _ (pure (Value.ref d)) _ _ s from aE (show wpAny _ _ (Builtin.Dict.showsAll d >>= _) _ _ s from ?_))));unfold Builtin.Dict.showsAll;rw[aB (by rw[hd];decide)];apply af (aE (af (wpAny_dictEntries ho jK (af (wpAny_dictEpoch ho jK (af (pR (aE #[_,Z,"dict_keyiterator",_,#[_,cK _ Z,Z],F.slot_dict_keyiterator_next.lookup,?_]))))))));exact q
theorem hL_{it d:Addr}{i ep:Nat}{es:Array DictEntry}{Q:Option Aa->Ab->Prop}(hit:s.heap.IsKeyIter it d i es.size ep)(x:Raw s.heap d es ep)(hi:i<es.size)
  (q:∀h',h'.IsKeyIter it d (i+1) es.size ep->Heap.SameBut it s.heap h'->Q (some es[i].key) { s with heap:=h' }):wpAny (model prog w) A (pyNext (.ref it)) Q E s:=by
 let#[o,ho,hc,hd]:=id hit;let#[od,Ek,iw,pH]:=id x;unfold pyNext;apply af (wpAny_attempt (uR (name:=Str.ofString "__next__") hit.typeIs F.slot_dict_keyiterator_next (s_ F.slot_dict_keyiterator_next hit.typeIs F.entry_dict_keyiterator_next ?_ (F.args_dict_keyiterator_next_1 _))));apply af (aE (af (af ?_)))
 first|refine af (wpAny_typeNameOfWhole_keyiter hit.typeIs (aE (af (wpAny_fieldsOf ho hd ?_))))|refine af (wpAny_typeNameOf_keyiter hit.typeIs (aE (af (wpAny_fieldsOf ho hd ?_))))
 simp only[show Builtin.Dict_items.ownsTuple "dict_keyiterator"=false by decide,pZ,if_false];apply (show wpAny _ _ (if (Value.ref d == Value.none)=true then _ else _) _ _ s from ?_);rw[aB (λz=>by cases z)];apply af (aE (af (wpAny_dictEntries Ek pH ?_)));rw[aB Z2];apply af (aE (af (wpAny_dictEpoch Ek pH ?_)));rw[aB Z2];apply aE ?_;simp only[show ¬((i:Int)<0) from by omega,if_false,yA,Array.getElem?_eq_getElem hi];apply af ?_
 first|refine af (wpAny_typeNameOfWhole_keyiter hit.typeIs (aE (af (wpAny_isOneOf_keyiter hit.typeIs ?_))))|refine af (wpAny_typeNameOf_keyiter hit.typeIs (aE (af (wpAny_isOneOf_keyiter hit.typeIs ?_))))
 apply (show wpAny _ _ (setField (.ref it) 1 (rawInt ((i:Int)+1)) >>= _) _ _ s from af (wpAny_setField ho hd Z2 ?_))
 have turned:(s.heap.update it (Obj.mapFields (·.setIfInBounds 1 (rawInt ((i:Int)+1))))).IsKeyIter it d (i+1) es.size ep:=
  #[_,Heap.get?_update_self _ ho (Obj.isFreed_of_fields (Obj.data_mapFields hd _)),(Obj.cls_mapFields ..).trans hc,by rw[Obj.data_mapFields hd];simp[rawInt]]
 apply af (i7 (af (wpAny_isOneOf_keyiter (s:={ s with heap:=s.heap.update it (Obj.mapFields (·.setIfInBounds 1 (rawInt ((i:Int)+1)))) }) turned.typeIs ?_)));exact (show wpAny _ _ (pure es[i].key) _ _ _ from aE (aE #[_,Z,aE (q _ turned (Heap.SameBut.update ..))]))
theorem _a{it d:Addr}{ep:Nat}{es:Array DictEntry}{Q:Option Aa->Ab->Prop}(hh:A.handled=none)(hit:s.heap.IsKeyIter it d es.size es.size ep)(x:Raw s.heap d es ep)
  (q:∀h',Heap.ExtBut it s.heap h'->Q none { s with heap:=h' }):wpAny (model prog w) A (pyNext (.ref it)) Q E s:=by
 let#[o,ho,hc,hd]:=id hit;let#[od,Ek,iw,pH]:=id x;unfold pyNext;apply af (wpAny_attempt (uR (name:=Str.ofString "__next__") hit.typeIs F.slot_dict_keyiterator_next (s_ F.slot_dict_keyiterator_next hit.typeIs F.entry_dict_keyiterator_next ?_ (F.args_dict_keyiterator_next_1 _))));apply af (aE (af (af ?_)))
 first|refine af (wpAny_typeNameOfWhole_keyiter hit.typeIs (aE (af (wpAny_fieldsOf ho hd ?_))))|refine af (wpAny_typeNameOf_keyiter hit.typeIs (aE (af (wpAny_fieldsOf ho hd ?_))))
 simp only[show Builtin.Dict_items.ownsTuple "dict_keyiterator"=false by decide,pZ,if_false];apply (show wpAny _ _ (if (Value.ref d == Value.none)=true then _ else _) _ _ s from ?_);rw[aB (λz=>by cases z)];apply af (aE (af (wpAny_dictEntries Ek pH ?_)));rw[aB Z2];apply af (aE (af (wpAny_dictEpoch Ek pH ?_)));rw[aB Z2];apply aE ?_;simp only[show ¬((es.size:Int)<0) from by omega,if_false,yA,Array.getElem?_eq_none (bh _)];apply af ?_
 first|refine af (wpAny_typeNameOfWhole_keyiter hit.typeIs (aE ?g))|refine af (wpAny_typeNameOf_keyiter hit.typeIs (aE ?g))
 apply (show wpAny _ _ (setField (.ref it) 0 .none >>= _) _ _ s from af (wpAny_setField ho hd Z2 (show wpAny _ _ (newExc (.type "StopIteration") [] >>= _) _ _ _ from af ?_)));simp only[newExc,newTuple];apply af (pR (af (m:=firstArgMember _ _) (wpAny_of_eq (a:=Value.none) (by first|rfl|(simp only[firstArgMember];rfl)) (pR ?_ (by size_fits)))) (by size_fits));simp only[raiseNew];apply af (wpAny_handled ?_);rw[show A.in1.handled=none from hh];apply af (aE (wpAny_throw ?_));exact af (wpAny_isInstance (T:="StopIteration") (b:=true) #[_,cK _ Z,Z] isSubtype_stop (aE (q _ (((Heap.SameBut.update ..).extBut.push _).push _))))
theorem gY_(hh:A.handled=none)(I d:Addr)(lW:d≠I)(es:Array DictEntry)(ep:Nat) :
  Walks prog w A I [I,d] [I] es.size (λi v=>∃h:i<es.size,v=es[i].key) (λi h=>h.IsKeyIter I d i es.size ep/\Raw h d es ep) where
 sub:=λb hb=>by simp only[eV] at hb;simp[hb]
 frame:=λ_ _ _ st k=>#[st.1.at λo e=>k I Z2 o e,st.2.er λo e=>k d Z2 o e]
 item:=λi s Q E hi st hQ=>hL_ st.1 st.2 hi λh' L9 hs'=>hQ _ h' s.toks #[hi,Z] #[L9,st.2.er λo e=>hs'.extBut d o lW e] λb o hb e=>hs'.extBut b o (λh=>hb (by simp[h])) e
 done:=λs Q E st hQ=>_a hh st.1 st.2 λh' he'=>hQ h' s.toks λb o hb e=>he' b o (λh=>hb (by simp[h])) e
 self:=λ_ _ _ _ st hQ=>wpAny_pyIter_keyiter st.1 hQ
theorem _C{d:Addr}{es:Array DictEntry}{ep:Nat}(lo:(d == sysModules)=false):KdlSrc prog w "dict" d d es.size (λi v=>∃h:i<es.size,v=es[i].key) (λh=>Raw h d es ep) where
 type:=λs x=>x.ty
 there:=λh x=>let #[o,e,_]:=x;#[bz e,bz e]
 keep:=λh h' x k=>x.er λo e=>k d (.inl Z) o e
 notList:=by decide
 notTuple:=by decide
 hint:=λ_ _ s _ x q=>kdl_hint_dict x.ty q
 iter:=λA s hh x=>#[_,_,λE Q q=>Z7 lo x q,gY_ hh _ d (let #[o,e,_]:=x;dS (bz e)) es ep,#[#[_,cK _ Z,Z,Z],x.er λo e=>aU _ e]]
end
end dM
namespace dM
open PySem PySem.W PyProof.Rows
theorem cW_:typeLookup (.type "list") "keys"=pure none:=by rw[typeLookup_type,builtinLookup_eq_fast];kernel_rfl
theorem hi_{prog:Ad}{w:Af}{A:Ag}{s:Ab}{a:Addr}{xs:Array Aa}{k:Nat}{tk:Tok}{R:Result->Ab->Prop}(hx:s.heap.get? a\seqObj "list" xs k)(h:raisesAttr (.ref a) "keys" A R s) :
  codeAny (model prog w) A (.call (.builtin "list.__getattribute__") #[[.ref a,.str "keys" tk],[]]) R s:=by
 apply codeAny_call_builtin F.slot_list_getattribute.plain am_entry_list_getattribute (F.slot_list_getattribute.check _ _ _ _ _ _ _ _ #[_,hx,Z] (F.args_list_getattribute_2 _ _) ?_);exact meets_getattribute_miss_list a xs k #[] "keys" tk cW_ (by decide) (by size_fits) prog w A R s #[hx,h]
theorem zD{prog:Ad}{w:Af}{A:Ag}{E:Aa->Ab->Prop}{s:Ab}{a:Addr}{xs:Array Aa}{k:Nat}{Q:Option Aa->Ab->Prop}(hx:s.heap.get? a\seqObj "list" xs k)(hA:A.handled=none)
  (h:∀h' tk,(∀b o,s.heap.get? b\o->h'.get? b\o)->Q none { s with heap:=h',toks:=tk }):wpAny (model prog w) A (getAttr? (.ref a) "keys") Q E s:=by
 let#[hp,g,d,tk,os]:=s;have ty:∀ie,(#[hp,g,d,ie,os]:Ab).TypeIs (.ref a) "list":=λ_=>#[_,hx,Z];let f1:=sub_AttributeError;let f2:=F.slot_list_getattribute.lookup;let f3:=F.slot_list_getattribute.bind (.ref a);let f4:=am_list_getattr_none;unfold getAttr? getAttrBy? getAttrBy
 repeat (any_goals (first|assumption|exact ty _|wp_step))
 apply hi_ hx #[hA,λh' ie e vW=>?_];let#[t',u',he]:=vW.there;show wpAny _ _ (getattributeRaised _ _ _ _ _ _ _) _ _ _;unfold getattributeRaised
 repeat (any_goals (first|assumption|wp_step))
 exact h _ _ vW.keeps
end dM
namespace dM
open PySem PySem.W PyProof.Rows
theorem Jw:entryFor table "dict.update.loop"\Builtin.«dict.update.loop»:=entryFor_of_tree (by kernel_rfl)
theorem yr:plainId "dict.update.loop"=true:=by decide +kernel
theorem Ih(d it:Addr)(i:Int)(tk:Tok):Builtin.«dict.update.loop» #[[.ref d,.ref it,.int i tk,.none],[]]=(do
  let r <- pyNext (.ref it)
  match r with
  |none=>do Builtin.Dict.addKeywords d [];ret .none
  |some item=>do
   holding [item] (do
    let pair <- (Builtin.Dict.pairItems item).tryCatch λe=>do
     if !(<- isInstance e (.type "TypeError")) then throw e
     rule "dict.update.element-no-sequence"
     raiseError "TypeError" s!"cannot convert dictionary update sequence element #{i} to a sequence"
    match pair with
    |[k,v]=>holding [k,v] (dictSet d k v)
    |l=>do
     rule "dict.update.element-length"
     raiseError "ValueError" s!"dictionary update sequence element #{i} has length {l.length}; 2 is required")
   again (.builtin "dict.update.loop" #[[.ref d,.ref it,rawInt (i+1),.none],[]])):=by
 unfold Builtin.«dict.update.loop»;apply d7 (λf=>pyNext (.ref it) >>= f) (funext λr=>?_);cases r<;>rfl
section
variable{prog:Ad}{w:Af}{K:Type}[DecidableEq K]{knd:PySem.KeyKind prog w K}{A:Ag}
def NW(knd:PySem.KeyKind prog w K)(h:Heap):ag->List (K × Aa)->Prop:=Paired λv p=>∃a key,v=.ref a/\IsTup h a (List.toArray [key,p.2])/\knd.is p.1 key=true
def eF(kvs:List (K × Aa))(ps:List (K × Aa)):List (K × Aa):=ps.foldl (λacc p=>stored acc p.1 p.2) kvs
theorem Ud(kvs:List (K × Aa))(k:K)(v:Aa):(stored kvs k v).length<=kvs.length+1:=by
 unfold stored;split
 ·simp
 simp
theorem UK{h:Heap}{b it l:Addr}{i:Nat}{ys:Array Aa}(t:IsTup h b ys)(q:h.IsListIter it l i):b≠it:=λz=>by
 let#[o,ho,hc,_]:=t;let#[o2,fu,kC,_]:=q;subst z;rw[ho] at fu;cases fu;rw[hc] at kC;exact absurd kC (by decide)
theorem ec_{h:Heap}{b d:Addr}{ys:Array Aa}{kvs:List (K × Aa)}(t:IsTup h b ys)(q:h.DictOf knd d kvs):b≠d:=λz=>by
 let#[o,ho,hc,_]:=t;let#[o2,es,ep,fu,kC,_]:=q;subst z;rw[ho] at fu;cases fu;let xY:=kC.1;rw[hc] at xY;exact absurd xY (by decide)
theorem FK{h h':Heap}{d:Addr}{kvs:List (K × Aa)}(q:h.DictOf knd d kvs)(k:∀o,h.get? d\o->h'.get? d\o):h'.DictOf knd d kvs:=by
 let#[o,es,ep,ho,r]:=q;exact#[o,es,ep,k _ ho,r]
theorem hI_{it l d a:Addr}{i:Nat}{its:ag}{key x:Aa}{k:K}{kvs:List (K × Aa)}{s:Ab}{R:Result->Ab->Prop}{tk:Tok}(Am:d≠it)(hi:its.toArray[i]? = some (.ref a))(ht:IsTup s.heap a (List.toArray [key,x]))(hk:knd.is k key=true)
  (hit:s.heap.IsListIter it l i) (hl:s.heap.IsList l its.toArray) (hd:s.heap.DictOf knd d kvs) (hz:kvs.length<=1000)
  (hR:∀h2,h2.DictOf knd d (stored kvs k x)->(∀b o,b≠d->b≠it->s.heap.get? b\o->h2.get? b\o)->h2.IsListIter it l (i+1)->codeAny (model prog w) A (.builtin "dict.update.loop" #[[.ref d,.ref it,rawInt ((i:Int)+1),.none],[]]) R { s with heap:=h2,toks:=s.toks+1 }) :
  codeAny (model prog w) A (.builtin "dict.update.loop" #[[.ref d,.ref it,.int i tk,.none],[]]) R s:=by
 apply codeAny_builtin Jw ?_;rw[Around.under_plainId yr _,Ih];apply af (wpAny_pyNext_list_item hit hl hi λh1 L8 LI=>?_);let#[ot,hot,EK,nt,hdt]:=id ht;have Eh:h1.get? a\ot:=LI.extBut _ _ (UK ht hit) hot;apply af (i7 (af (wpAny_tryCatch ?_)));unfold Builtin.Dict.pairItems;apply af (wpAny_typeOf (T:="tuple") #[ot,Eh,EK] ?_);rw[aI (by decide)];unfold seqItems?;apply af (af (wpAny_load Eh ?_));rw[hdt];apply aE (aE ?_);apply (show wpAny _ _ (holding [key,x] (dictSet d key x)) _ _ _ from i7 (wpAny_dictSet_pairs hk (FK hd λo q=>LI.extBut _ _ Am q) (λh2 hd2 vY=>?_) (by have:=cJ;omega)));exact aE #[plainId_quiet yr _,hR h2 hd2 (λb o h3 h4 q=>vY.extBut _ _ h3 (LI.extBut _ _ h4 q)) (L8.extBut vY.extBut (bJ Am))]
theorem ZV{it l d:Addr}{i:Nat}{its:ag}{kvs:List (K × Aa)}{s:Ab}{R:Result->Ab->Prop}{tk:Tok}(Am:d≠it)(hh:A.handled=none)(hi:its.toArray[i]? = none)
  (hit:s.heap.IsListIter it l i) (hl:s.heap.IsList l its.toArray) (hd:s.heap.DictOf knd d kvs)
  (hR:∀h',h'.DictOf knd d kvs->(∀b o,b≠it->s.heap.get? b\o->h'.get? b\o)->R (.ok (.ret .none)) { s with heap:=h' }) :
  codeAny (model prog w) A (.builtin "dict.update.loop" #[[.ref d,.ref it,.int i tk,.none],[]]) R s:=by
 apply codeAny_builtin Jw ?_;rw[Around.under_plainId yr _,Ih];apply af (wpAny_pyNext_list_end hh hit hl hi λh' he=>?_);exact af (m:=Builtin.Dict.addKeywords d []) (aE (aE (hR h' (FK hd λo q=>he _ _ Am q) λb o hb q=>he b o hb q)))
theorem ZC{it l d:Addr}(hil:l≠it)(Am:d≠it)(Hs:d≠l)(hh:A.handled=none){its:ag}(rest:ag):∀(ps:List (K × Aa)) (i:Nat) (kvs:List (K × Aa)) (s:Ab) (R:Result->Ab->Prop) (tk:Tok),its.drop i=rest->NW knd s.heap rest ps->
  s.heap.IsListIter it l i->s.heap.IsList l its.toArray->s.heap.DictOf knd d kvs->kvs.length+ps.length<=1000->
  (∀h' ie,h'.DictOf knd d (eF kvs ps)->(∀b o,b≠d->b≠it->s.heap.get? b\o->h'.get? b\o)->R (.ok (.ret .none)) { s with heap:=h',toks:=ie })->
  codeAny (model prog w) A (.builtin "dict.update.loop" #[[.ref d,.ref it,.int i tk,.none],[]]) R s:=by
 induction rest with
 |nil=>
  intro ps i kvs s R tk e hp hit hl hd hz hR;cases hp
  have hi:its.toArray[i]? = none:=by
   have:=d7 List.length e;simp only[yz,List.length_nil] at this;simp;omega
  exact ZV Am hh hi hit hl hd λh' iV kp=>hR h' s.toks iV λb o _ hb q=>kp b o hb q
 |cons v rest ih=>
  intro ps i kvs s R tk e hp hit hl hd hz hR;cases hp with
  |@cons _ p _ ps h0 hr=>
  let#[a,key,hv,ht,hk]:=h0;let#[k,x]:=p;subst hv
  have hi:its.toArray[i]? = some (.ref a):=by
   have q:(its.drop i)[0]? = some (.ref a):=by rw[e];rfl
   rw[List.getElem?_drop] at q;simpa using q
  have e':its.drop (i+1)=rest:=by
   rw[<- List.drop_drop,e];rfl
  simp only[jt] at hz;apply hI_ Am hi ht hk hit hl hd Z1 λh2 hd2 kp Al=>?_;have c1:((i:Int)+1)=((i+1:Nat):Int):=by omega
  rw[c1];apply ih ps (i+1) (stored kvs k x) _ R 0 e' (L2.Paired.aV hr λv p ⟨b,ky,e1,t1,k1⟩=>#[b,ky,e1,?_,k1]) Al (hl.at λo q=>kp _ _ (bJ Hs) hil q) hd2 (by have:=Ud kvs k x;omega) λh' ie iV Ls=>hR h' ie iV λb o h3 h4 q=>Ls b o h3 h4 (kp b o h3 h4 q);let#[o,ho,r]:=id t1;exact#[o,kp _ _ (ec_ t1 hd) (UK t1 hit) ho,r]
theorem dM_{E:Aa->Ab->Prop}{s:Ab}{l:Addr}{its:ag}{n:Nat}{ps:List (K × Aa)}{Q:Aa->Ab->Prop}(hh:A.handled=none)(ho:s.heap.get? l\seqObj "list" its.toArray n)(hp:NW knd s.heap its ps)(hz:ps.length<=1000)
  (h:∀h' ie,h'.DictOf knd s.heap.objs.size (eF [] ps)->(∀b o,s.heap.get? b\o->h'.get? b\o)->Q (.ref s.heap.objs.size) { s with heap:=h',toks:=ie }) :
  wpAny (model prog w) A (call (.type "dict") [.ref l]) Q E s:=by
 apply callType_codes (Q₁:=λobj aL=>obj=.ref s.heap.objs.size/\aL={ s with heap:=s.heap.push { cls:=.type "dict",data:=.dict #[] } }) F.kt_called_dict (F.kt_typeCall_dict_1 _) F.entry_dict_init (kt_code_dict_new _ #[Z,Z]) ?_;rintro obj aL ⟨rfl,rfl⟩;have iU:(s.heap.push { cls:=.type "dict",data:=.dict #[] }).DictOf knd s.heap.objs.size []:=Heap.DictOf.new s.heap;have gx:(s.heap.push { cls:=.type "dict",data:=.dict #[] }).get? l\seqObj "list" its.toArray n:=aU _ ho;apply#[iU.typeIs,F.args_dict_init_2 _ _,?_];unfold Builtin.«dict.__init__» Builtin.Dict.selfAndRest;apply af (af (wpAny_notOrdered_dict iU.typeIs ?_));apply (show wpAny _ _ (pure (s.heap.objs.size,[Value.ref l])) _ _ _ from aE ?_);apply (show wpAny _ _ (Builtin.Dict.updateFrom "dict.__init__" s.heap.objs.size (.ref l) [] .none) _ _ _ from ?_);unfold Builtin.Dict.updateFrom;apply af (wpAny_typeOf (T:="list") #[_,gx,Z] ?_);rw[aI (by decide)];apply af (zD gx hh λh2 Wp k2=>?_);simp only[Option.isNone_none,if_true];have lX:h2.get? l\seqObj "list" its.toArray n:=k2 _ _ gx;apply af (wpAny_rule (af (wpAny_pyIter_list #[_,lX,Z,_,Z] ?_)));apply aE #[plainId_quiet yr _,?_];have all:∀{b o},s.heap.get? b\o->(h2.push { cls:=.type "list_iterator",data:=.fields (List.toArray [.ref l,.int 0 0]) }).get? b\o:=λq=>aU _ (k2 _ _ (aU _ q))
 have hd2:h2.DictOf knd s.heap.objs.size []:=by
  let#[o,es,ep,ho,r]:=iU;exact#[o,es,ep,k2 _ _ ho,r]
 have Ko:s.heap.objs.size<h2.objs.size:=by
  let#[o,es,ep,ho,r]:=hd2;exact bz ho
 have lz:l<s.heap.objs.size:=bz ho
 apply ZC (A:=A.in1) (knd:=knd) (its:=its) (it:=h2.objs.size) (l:=l) (d:=s.heap.objs.size) (dS (Nat.lt_trans lz Ko)) (dS Ko) (jb lz) hh its ps 0 [] _ _ 0 Z (L2.Paired.aV hp λv p ⟨b,ky,e1,t1,k1⟩=>#[b,ky,e1,t1.keeps λb o q=>all q,k1])
  #[_,cK _ Z,Z,Z] #[_,aU _ lX,Z,_,Z] (by
   let#[o,es,ep,ho,r]:=hd2;exact#[o,es,ep,aU _ ho,r]) ⇑hz λh' ie iV kp=>#[Z,h h' ie iV λb o q=>?_]
 have bl:b<s.heap.objs.size:=bz q;exact kp b o (dS bl) (dS (Nat.lt_trans bl Ko)) (all q)
end
end dM
theorem zl{n:Nat}(h:decide (n<=16777216)=true:=by rfl):n<=PySem.sizeLine:=by
 rw[PySem.sizeLine_eq];exact tF h
namespace L2
open PySem PySem.Spec PyProof.Rows PySem.W mG dM
theorem bT.same{K:aj}{H H':Hp}{ys:ai}{ks:List av}(t:bT K H ys ks)(e:aa H H'):bT K H' ys ks:=Paired.aV t λy k ⟨a,z,q⟩=>#[a,z,e _ _ q]
theorem aa.new{H:Hp}{l:Addr}{o:HO}(h:H l=none):aa H (upd H l o):=λb u e=>by rw[ax (bu e h)];exact e
section
variable{X:Cx}{pins:List (Addr × Obj)}{σ:St}{H H':Hp}{s:Ab}{h':Heap}{t':Nat}
theorem Inv.many(I:Inv X pins σ H s)(k:∀b o,s.heap.get? b\o->h'.get? b\o)(hold:aa H H')(iU:∀b,H b=none->b<s.heap.objs.size->H' b=none)
  (hob:∀b o,H' b\o->H b=none->∃xs its,o=.tup xs/\xs.length<=sizeLine/\Vals xs its/\IsTup h' b its.toArray/\∃o,h'.get? b\o/\o.dict=none):Inv X pins σ H' { s with heap:=h',toks:=t' }:=by
 apply I.un #[λb o q _ _ _=>k b o q,λb o q _ _ _=>#[o.slots,k b o q],λb o q n _=>iU b n (bz q),λb o q _=>#[o,k b o q],λb xs q=>hold b _ q,λb o u q=>hold b _ q,λb ps q=>#[#[],by rw[Array.append_empty];exact hold b _ q]] λb o q=>?_;cases e:H b with
 |some u=>
  let e2:=hold b u e;rw[q] at e2;cases e2;exact (I.aA b o e).er (λc v _ z=>k c v z) (λc z=>hold c _ z) λc xs z=>hold c _ z
 |none=>
  let#[xs,its,rfl,z,r,t]:=hob b o q e;exact#[z,its,r,t]
end
section
variable{X:Cx}{pins:List (Addr × Obj)}{σ:St}{H:Hp}{s:Ab}{A:Ag}{E:Aa->Ab->Prop}
theorem _N{p:Addr}{ys:ai}{R:ag->Ab->Prop}(I:Inv X pins σ H s)(h:dY X.K H p ys)(hz:ys.length<=100000)(q:∀vs s1,Inv X pins σ H s1->Vals ys vs->R vs s1):wpAny (model X.prog X.w) A (collect (.ref p)) R E s:=by
 let#[its,r,pl,_]:=I.list h;let hl:=r.length;apply collect_list pl.isList (q its _ ?_ r) (by have:=cJ;omega);apply I.kept (t':=s.toks) λb u e=>?_;have lt:b<s.heap.objs.size:=bz e;rw[Heap.get?_update_ne _ _ _ _ (dS lt)];exact aU _ e
theorem JE{P:Nat->Aa->Prop}{acc:Array Aa}{ys:ai}(h:ItemsOf P acc ys.length)(hp:∀(j:Nat) v,P j v->∀y,ys[j]? = some y->RelV y v):Vals ys acc.toList:=by
 have gen:∀(ys:ai) (vs:ag),ys.length=vs.length->(∀(j:Nat) y v,ys[j]? = some y->vs[j]? = some v->RelV y v)->Vals ys vs:=λys=>by
  induction ys with
  |nil=>
   intro vs hl _;cases vs with
   |nil=>exact .nil
   |cons _ _=>cases hl
  |cons y ys ih=>
   intro vs hl h;cases vs with
   |nil=>cases hl
   |cons v vs=>exact .cons (h 0 y v Z Z) (ih vs ⇑hl λj y v a b=>h (j+1) y v ⇑a ⇑b)
 apply gen ys acc.toList (by rw[tU];exact h.1.symm) λj y v a b=>hp j v (h.2 j v ?_) y a;rw[<- Array.getElem?_toList];exact b
theorem Rq{d:Addr}{kvs:List (Key × V)}(I:Inv X pins σ H s)(h:Rd H d (.dK kvs)):∃(P:Nat->Aa->Prop) (OK:Heap->Prop),KdlSrc X.prog X.w "dict" d d (kvs.map λkv=>kV kv.1).length P OK/\OK s.heap/\∀(j:Nat) v,P j v->∀y,(kvs.map λkv=>kV kv.1)[j]? = some y->RelV y v:=by
 let#[z,hd,vs,rel,dd]:=jR I.aA h;let#[ep,dat]:=dd.dictAt;let hl:=rel.length;apply#[λi v=>∃k x,vs[i]? = some (k,x)/\(fj X.prog X.w).is k v=true,λh=>h.DictAt (fj X.prog X.w) d vs ep,(by rw[aq,hl];exact kdl_dict (knd:=fj X.prog X.w) (kvs:=vs) (ep:=ep) hd),dat,λj v ⟨k,x,e,hk⟩ y hy=>?_];rw[dk] at hy;have ek:kvs.map (·.1)=vs.map (·.1):=rel.keys;have e2:(kvs.map (·.1))[j]? = (vs.map (·.1))[j]?:=by rw[ek]
 rw[dk,dk,e] at e2;cases e3:kvs[j]? with
 |none=>rw[e3] at e2;cases e2
 |some kv=>
  rw[e3] at e2 hy;have e4:kv.1=k:=cY e2;have e5:kV kv.1=y:=cY hy;rw[<- e5,e4];have hk:wJ k v=true:=hk;rcases p0 hk with⟨i,t,rfl,rfl⟩|⟨x,t,rfl,rfl⟩
  ·exact#[t,Z]
  exact#[t,Z]
theorem Rm{d:Addr}{kvs:List (Key × V)}{R:ag->Ab->Prop}(hh:A.handled=none)(I:Inv X pins σ H s)(h:Rd H d (.dK kvs))(q:∀vs s1,Inv X pins σ H s1->Vals (kvs.map λkv=>kV kv.1) vs->R vs s1):wpAny (model X.prog X.w) A (collect (.ref d)) R E s:=by
 let#[P,OK,S,ok,hp]:=Rq I h;apply kdu_collect S hh ok ?_ λh' tk acc k a=>q _ _ (I.kept k) (JE a hp);rw[aq];exact (jR I.aA h).1
theorem Zu{d:Addr}{kvs:List (av × V)}(I:Inv X pins σ H s)(h:Rd H d (.dT kvs)):∃(ys:ai) (P:Nat->Aa->Prop) (OK:Heap->Prop),bT X.K H ys (kvs.map (·.1))/\ys.length<=sizeLine/\KdlSrc X.prog X.w "dict" d d ys.length P OK/\OK s.heap/\∀(j:Nat) v,P j v->∀y,ys[j]? = some y->RelV y v:=by
 let#[z,hd,xs,rel,o,es,ep,ho,hc,jK,wa,nd]:=h.ok I.aA
 have l1:es.size=xs.length:=by
  have:=d7 List.length wa;simpa using this
 let l2:=bw rel;apply#[xs.map λx=>V.ref x.2.1,λi v=>∃h:i<es.size,v=es[i].key,λh=>Raw h d es ep,?_,by rw[aq];omega,(by rw[aq,<- l1];exact _C (es:=es) (ep:=ep) hd),#[o,ho,hc,jK],λj v ⟨hj,e⟩ y hy=>?_]
 ·have gen:∀{kvs:List (av × V)} {xs:List (av × Addr × Aa)},KT H kvs xs->bT X.K H (xs.map λx=>V.ref x.2.1) (kvs.map (·.1)):=λ{kvs xs} r=>by
   induction r with
   |nil=>exact .nil
   |cons h _ ih=>exact .cons #[_,Z,h.2.1] ih
  exact gen rel
 rw[dk] at hy;have hx:j<xs.length:=by omega
 rw[aQ hx] at hy;have e1:V.ref xs[j].2.1=y:=cY hy
 have e2:es[j]=entryOfKey (tupleKind (fj X.prog X.w)) xs[j]:=by
  have e3:es.toList[j]? = (xs.map (entryOfKey (tupleKind (fj X.prog X.w))))[j]?:=by rw[wa]
  rw[dk,aQ hx,Array.getElem?_toList,Array.getElem?_eq_getElem hj] at e3;exact cY e3
 rw[<- e1,e,e2];rfl
theorem ZA{d:Addr}{kvs:List (av × V)}{R:ag->Ab->Prop}(hh:A.handled=none)(I:Inv X pins σ H s)(h:Rd H d (.dT kvs))(q:∀ys vs s1,Inv X pins σ H s1->Vals ys vs->bT X.K H ys (kvs.map (·.1))->R vs s1):wpAny (model X.prog X.w) A (collect (.ref d)) R E s:=by
 let#[ys,P,OK,t,z,S,ok,hp]:=Zu I h;exact kdu_collect S hh ok z λh' tk acc k a=>q ys _ _ (I.kept k) (JE a hp) t
def tK(v d:Addr):HO:=.ext λh=>h.IsItemsView v d
def uP(v d:Addr):HO:=.ext λh=>h.IsValuesView v d
def jk(K:aj)(H:Hp):ai->List (Key × V)->Prop:=Paired λy p=>∃a,y=V.ref a/\H a\.tup [kV p.1,p.2]
theorem gQ_{v d:Addr}{kvs:List (Key × V)}{R:ag->Ab->Prop}(hh:A.handled=none)(I:Inv X pins σ H s)(hv:H v\tK v d)(h:Rd H d (.dK kvs))(q:∀H1 ys vs s1,Inv X pins σ H1 s1->aa H H1->Vals ys vs->jk X.K H1 ys kvs->R vs s1) :
  wpAny (model X.prog X.w) A (collect (.ref v)) R E s:=by
 let#[z,hd,vs,rel,dd]:=jR I.aA h;let#[ep,dat]:=dd.dictAt;let#[iv,_,_]:=I.aA v _ hv;let hl:=rel.length;apply kdx_collect (knd:=fj X.prog X.w) (kvs:=vs) (ep:=ep) hh iv dat Z1 λh' tk as k la G=>?_;have up:∀b,b∈as->s.heap.objs.size<b:=G.above
 have at1:∀(j:Nat) b p,as[j]? = some b->kvs[j]? = some p->∃its,Vals [kV p.1,p.2] its/\IsTup h' b its.toArray/\∃o,h'.get? b\o/\o.dict=none:=λj b p hj hp=>by
  let#[key,kk,x,e1,e2,e3]:=G.pairs j b hj
  have gen:∀{kvs:List (Key × V)} {vs:List (Key × Aa)},KV kvs vs->∀(j:Nat),vs[j]? = some (kk,x)->kvs[j]? = some p->p.1=kk/\RelV p.2 x:=λ{kvs vs} r=>by
   induction r with
   |nil=>intro j e;simp at e
   |@cons p' q _ _ h _ ih=>
    intro j e e';cases j with
    |zero=>
     have e:q=(kk,x):=⇑e
     have e':p'=p:=⇑e'
     subst e';rw[e] at h;exact h
    |succ j=>exact ih j ⇑e ⇑e'
  let#[g1,g2]:=gen rel j e1 hp;apply#[[key,x],.cons ?_ (.cons g2 .nil),#[_,e3,Z,_,Z],_,e3,Z];rw[g1];have e2:wJ kk key=true:=e2;rcases p0 e2 with⟨i,t,rfl,rfl⟩|⟨x,t,rfl,rfl⟩
  ·exact#[t,Z]
  exact#[t,Z]
 have look:∀{as:au} {kvs:List (Key × V)},as.Pairwise (· < ·)->∀(j:Nat) b p,as[j]? = some b->kvs[j]? = some p->(as.zip kvs).lookup b\p:=λ{as}=>by
  induction as with
  |nil=>intro kvs _ j b p e;simp at e
  |cons a as ih=>
   intro kvs pw j b p e e';cases kvs with
   |nil=>simp at e'
   |cons q kvs=>
    let#[p1,p2]:=List.pairwise_cons.mp pw;show ((a,q)::as.zip kvs).lookup b\p;cases j with
    |zero=>
     have e:a=b:=⇑e
     have e':q=p:=⇑e'
     subst e;subst e';rw[List.lookup_cons_self]
    |succ j=>
     have e:as[j]? = some b:=⇑e
     have e':kvs[j]? = some p:=⇑e'
     let lt:=p1 b (cX e);rw[pX,show (b == a)=false by simp only[beq_eq_false_iff_ne];exact jb lt];exact ih p2 j b p e e'
 have lk:as.length=kvs.length:=by omega
 let H1:Hp:=λb=>if b∈as then ((as.zip kvs).lookup b).map λp=>HO.tup [kV p.1,p.2] else H b
 have E1:∀(j:Nat) b p,as[j]? = some b->kvs[j]? = some p->H1 b\.tup [kV p.1,p.2]:=λj b p e e'=>by
  show (if b∈as then _ else _)=_;rw[aI (cX e),look G.rise j b p e e'];rfl
 have n0:∀b,b∉as->H1 b=H b:=λb hb=>aB hb;have old:∀b,b<s.heap.objs.size->b∉as:=λb hb m=>absurd (up b m) Z1;apply q H1 (as.map V.ref) _ _ (I.many (t':=tk) k (λb o e=>by rw[n0 b (old b (I.aA.lt e))];exact e) (λb e hb=>by rw[n0 b (old b hb)];exact e) λb o e e0=>?_) (λb o e=>by rw[n0 b (old b (I.aA.lt e))];exact e) ?_ ?_
 ·by_cases m:b∈as
  ·let#[j,hj]:=List.mem_iff_getElem?.mp m
   have jl:j<kvs.length:=by
    have:=(bY.mp hj).1;omega
   let e':=E1 j b kvs[j] hj (aQ jl);rw[e] at e';cases e';let#[its,r,t]:=at1 j b _ hj (aQ jl);exact#[_,its,Z,zl,r,t]
  rw[n0 b m,e0] at e;cases e
 ·have gen:∀as:au,Vals (as.map V.ref) (as.map Value.ref):=λas=>by
   induction as with
   |nil=>exact .nil
   |cons a as ih=>exact .cons Z ih
  exact gen as
 have gen:∀(B2:au) (fF:List (Key × V)),B2.length=fF.length->(∀(j:Nat) b p,B2[j]? = some b->fF[j]? = some p->H1 b\.tup [kV p.1,p.2])->jk X.K H1 (B2.map V.ref) fF:=λB2=>by
  induction B2 with
  |nil=>
   intro fF hl _;cases fF with
   |nil=>exact .nil
   |cons _ _=>cases hl
  |cons a B2 ih=>
   intro fF hl h;cases fF with
   |nil=>cases hl
   |cons p fF=>exact .cons #[a,Z,h 0 a p Z Z] (ih fF ⇑hl λj b p e e'=>h (j+1) b p ⇑e ⇑e')
 exact gen as kvs lk E1
end
end L2
namespace L2
open PySem PySem.Spec PyProof.Rows PySem.W mG dM
theorem Tx{a b:ae}(h:a.map bH=b.map bH):a=b:=by
 induction a generalizing b with
 |nil=>
  cases b with
  |nil=>rfl
  |cons _ _=>cases h
 |cons x a ih=>
  cases b with
  |nil=>cases h
  |cons y b=>
   let#[h1,h2]:=List.cons.inj h;have h1:[(Sum.inr x:Key)]=[Sum.inr y]:=h1;cases h1;rw[ih h2]
theorem O0(ss:ae):(h_ ss).map bH=bg (ss.map bH):=by
 have all:∀k∈bg (ss.map bH),∃x,k=bH x:=λk hk=>by
  let#[x,_,e]:=bC.mp ((tV _).mem_iff.mp hk);exact#[x,e.symm]
 have gen:∀l:List av,(∀k∈l,∃x,k=bH x)->(l.map λk=>match k with | [.inr x]=>x|_=>(⟨#[]⟩:Str)).map bH=l:=λl=>by
  induction l with
  |nil=>exact λ_=>rfl
  |cons k l ih=>
   intro h;let#[x,rfl]:=h k gd;rw[eI,eI,ih λk hk=>h k (fP _ hk)];rfl
 exact gen _ all
theorem BY(ss:ae):(h_ ss).Perm ss:=by
 have p:((h_ ss).map bH).Perm (ss.map bH):=by rw[O0];exact tV _
 have back:∀l:ae,(l.map bH).map (λk=>match k with | [.inr x]=>x|_=>(⟨#[]⟩:Str))=l:=λl=>by
  rw[cj]
  induction l with
  |nil=>rfl
  |cons x l ih=>rw[eI,ih];rfl
 let q:=p.map (λk=>match k with | [.inr x]=>x|_=>(⟨#[]⟩:Str));rwa [back,back] at q
section
variable{X:Cx}{pins:List (Addr × Obj)}{σ:St}{H:Hp}{s:Ab}
theorem dH_{u:Aa}{ss:ae}{Q:VK}(bX:ss.length<64)(l6:wpAny (model X.prog X.w) X.A.in1 (collect u) (λvs s1=>∃H1,Inv X pins σ H1 s1/\Vals (ss.map V.str) vs/\∀l,H1 l=none->Q (.ref l) (upd H1 l (.lst ((h_ ss).map V.str)))) X.xe s) :
  wpAny (model X.prog X.w) X.A (call (.builtin "sorted") [u]) (EP X pins σ Q) X.xe s:=by
 apply Ua (Nw (ss.map bH)) (aO l6 λvs s1 ⟨H1,I1,r,q⟩=>?_);have hl:vs.length=ss.length:=by rw[<- r.length,aq]
 apply#[by omega,λh2 h' _=>Uj (SF r) h2,λp h' e g up hD kp=>?_];have g':Good (ss.map bH).length p:=by rw[aq,<- hl];exact g
 let asc:=Ng (ks:=ss.map bH) (λi j _ _=>rfl) g' (by rw[aq,<- hl];exact up)
 have perm:(p.toList.map λi=>(ss.map bH).getD i []).Perm (ss.map bH):=by
  have:=FV g' λi=>(ss.map bH).getD i [];rwa [FX] at this
 let es:=OR perm asc
 have inr:∀i∈p.toList,i<ss.length:=λi hi=>by
  have m:i∈(List.range vs.length).toArray:=g.mem_iff.mp ⇑hi;rw[hl] at m;simpa using m
 have e1:(p.toList.map λi=>ss.getD i ⟨#[]⟩)=h_ ss:=by
  apply Tx ?_;rw[O0,<- es,cj];apply uY λi hi=>?_;have:=inr i hi;simp[this]
 let rv:=NA r g
 have e2:(p.toList.map λi=>(ss.map V.str).getD i .non)=(h_ ss).map V.str:=by
  rw[<- e1,cj];apply uY λi hi=>?_;have:=inr i hi;simp[this]
 rw[e2] at rv;apply#[.ref s1.heap.objs.size,_,I1.laid (t':=s1.toks) kp (bh _) (show fw X.prog X.w _ h' _ (.lst ((h_ ss).map V.str)) from #[?_,mw p vs,e,rv,hD]),Z,q _ (I1.aA.fresh (bh _))];rw[aq,(BY ss).length_eq];have:=cJ;omega
theorem Z_{K:aj}{H:Hp}{ys:ai}{ks:List av}(t:bT K H ys ks):∀l:List Nat,(∀i∈l,i<ys.length)->bT K H (l.map λi=>ys.getD i .non) (l.map λi=>ks.getD i []):=λl=>by
 induction l with
 |nil=>exact λ_=>.nil
 |cons i l ih=>
  intro h;apply .cons ?_ (ih λj hj=>h j (fP _ hj));let hi:=h i gd
  have gen:∀{ys:ai} {ks:List av} (i:Nat),i<ys.length->bT K H ys ks->∃a,ys.getD i .non=V.ref a/\H a\.tup ((ks.getD i []).map kV):=λ{ys ks} i hy t=>by
   induction t generalizing i with
   |nil=>exact absurd hy Z2
   |cons h t ih=>
    cases i with
    |zero=>exact h
    |succ i=>exact ih i ⇑hy
  exact gen i hi t
theorem UR{u:Aa}{ks:List av}{sh:List Bool}{Q:VK}(bX:ks.length<64)(al:Alike ks sh)
  (l6:wpAny (model X.prog X.w) X.A.in1 (collect u) (λvs s1=>∃H1 ys,Inv X pins σ H1 s1/\Vals ys vs/\bT X.K H1 ys ks/\∀l zs,H1 l=none->bT X.K H1 zs (bg ks)->zs.Perm ys->Q (.ref l) (upd H1 l (.lst zs))) X.xe s) :
  wpAny (model X.prog X.w) X.A (call (.builtin "sorted") [u]) (EP X pins σ Q) X.xe s:=by
 apply Ua (Nw ks) (aO l6 λvs s1 ⟨H1,ys,I1,r,t,q⟩=>?_);let l1:=r.length;let l2:=bw t;have hl:vs.length=ks.length:=by omega
 apply#[by omega,λh2 h' k=>g0_ I1 r t al h2 k,λp h' e g up hD kp=>?_];have g':Good ks.length p:=by rw[<- hl];exact g
 let asc:=Ng (ks:=ks) (λi j _ _=>rfl) g' (by rw[<- hl];exact up)
 have perm:(p.toList.map λi=>ks.getD i []).Perm ks:=by
  have:=FV g' λi=>ks.getD i [];rwa [FX] at this
 let es:=OR perm asc
 have inr:∀i∈p.toList,i<ys.length:=λi hi=>by
  have m:i∈(List.range vs.length).toArray:=g.mem_iff.mp ⇑hi;rw[<- l1] at m;simpa using m
 let tz:=Z_ t p.toList inr;rw[es] at tz;let rv:=NA r g
 have pz:(p.toList.map λi=>ys.getD i .non).Perm ys:=by
  have:=FV (n:=ys.length) (by rw[l1];exact g) λi=>ys.getD i .non;rwa [FX] at this
 apply#[.ref s1.heap.objs.size,_,I1.laid (t':=s1.toks) kp (bh _) (show fw X.prog X.w _ h' _ (.lst (p.toList.map λi=>ys.getD i .non)) from #[?_,mw p vs,e,rv,hD]),Z,q _ _ (I1.aA.fresh (bh _)) tz pz];rw[pz.length_eq];have:=cJ;omega
end
section
variable{X:Cx}
inductive nh (K:aj) (xs:ai) (H:Hp) (Q:VK):Prop
 |mk:∀d kvs sh,xs=[.ref d]->H d\.dT kvs->Alike (kvs.map (·.1)) sh->kvs.length<64->(∀l zs,H l=none->bT K H zs (bg (kvs.map (·.1)))->Q (.ref l) (upd H l (.lst zs)))->nh K xs H Q
theorem ew_(hc:X.calm=true):gy X (.builtin "sorted") (nh X.K):=by
 intro pins s σ H xs us Q I r h;let#[d,kvs,sh,rfl,hd,al,bX,q]:=h;let#[u,rfl,ru]:=vals1 r;cases ru;exact UR (by rw[aq];exact bX) al (ZA (I.ok.hd hc) I (.inl hd) λys vs s1 I1 r1 t=>⟨H,ys,I1,r1,t,λl zs n t' _=>q l zs n t'⟩)
inductive nj (xs:ai) (H:Hp) (Q:VK):Prop
 |mk:∀d kvs ss,xs=[.ref d]->H d\.dK kvs->kvs.map (·.1)=ss.map Sum.inr->ss.length<64->(∀l,H l=none->Q (.ref l) (upd H l (.lst ((h_ ss).map V.str))))->nj xs H Q
theorem ej_(hc:X.calm=true):gy X (.builtin "sorted") nj:=by
 intro pins s σ H xs us Q I r h;let#[d,kvs,ss,rfl,hd,ek,bX,q]:=h;let#[u,rfl,ru]:=vals1 r;cases ru;apply dH_ bX (Rm (I.ok.hd hc) I (.inl hd) λvs s1 I1 r1=>⟨H,I1,?_,q⟩)
 have e:(kvs.map λkv=>kV kv.1)=ss.map V.str:=by
  rw[show (kvs.map λkv=>kV kv.1)=(kvs.map (·.1)).map kV by rw[cj];rfl,ek,cj];rfl
 rwa [e] at r1
inductive rE (K:aj) (xs:ai) (H:Hp) (Q:VK):Prop
 |mk:∀(v d:Addr) (kvs:List (Key × V)) (ks:List (Key × Key)) (sh:List Bool),xs=[.ref v]->H v\tK v d->H d\.dK kvs->kvs=ks.map (λk:Key × Key=>(k.1,kV k.2))->Alike (ks.map λk=>[k.1,k.2]) sh->ks.length<64->(∀l H1 zs,aa H H1->H1 l=none->bT K H1 zs (bg (ks.map λk=>[k.1,k.2]))->Q (.ref l) (upd H1 l (.lst zs)))->rE K xs H Q
theorem fD_(hc:X.calm=true):gy X (.builtin "sorted") (rE X.K):=by
 intro pins s σ H xs us Q I r h;let#[v,d,kvs,ks,sh,rfl,hv,hd,ek,al,bX,q]:=h;let#[u,rfl,ru]:=vals1 r;cases ru;apply UR (by rw[aq];exact bX) al (gQ_ (I.ok.hd hc) I hv (.inl hd) λH1 ys vs s1 I1 sm r1 t=>⟨H1,ys,I1,r1,?_,λl zs n t' _=>q l H1 zs sm n t'⟩);subst ek
 have gen:∀(ks:List (Key × Key)) (ys:ai),jk X.K H1 ys (ks.map (λk:Key × Key=>(k.1,kV k.2)))->bT X.K H1 ys (ks.map λk=>[k.1,k.2]):=λks=>by
  induction ks with
  |nil=>
   intro ys t;cases t;exact .nil
  |cons k ks ih=>
   intro ys t;cases t with
   |cons h t=>exact .cons h (ih _ t)
 exact gen ks ys t
inductive rG (xs:ai) (H:Hp) (Q:VK):Prop
 |mk:∀d kvs,xs=[.ref d]->Rd H d (.dK kvs)->(∀l,H l=none->Q (.ref l) (upd H l (.lst (kvs.map λkv=>kV kv.1))))->rG xs H Q
theorem OY(hc:X.calm=true):gy X (.type "list") rG:=by
 intro pins s σ H xs us Q I r h;let#[d,kvs,rfl,hd,q]:=h;let#[u,rfl,ru]:=vals1 r;cases ru;let#[P,OK,S,ok,hp]:=Rq I hd;let z:=(jR I.aA hd).1;apply kdl_call S (I.ok.hd hc) ok (by rw[aq];exact z) λh' tk acc c k hD a=>?_;apply#[.ref s.heap.objs.size,_,I.laid (t':=tk) k (bh _) (show fw X.prog X.w _ h' _ (.lst (kvs.map λkv=>kV kv.1)) from #[by rw[aq];exact z,acc.toList,c,JE a hp,by rw[Array.toArray_toList];exact hD]),Z,q _ I.fresh]
theorem KV.eF{κ:Type}[DecidableEq κ]:∀{more:List (κ × V)} {rs:List (κ × Aa)} {kvs:List (κ × V)} {vs:List (κ × Aa)},KV more rs->KV kvs vs->KV (more.foldl (λacc kv=>putK acc kv.1 kv.2) kvs) (dM.eF vs rs):=λ{more rs kvs vs} h=>by
 induction h generalizing kvs vs with
 |nil=>exact λh=>h
 |@cons p q _ _ h _ ih=>
  intro h2;let#[k,y]:=p;let#[k',u]:=q;let#[h1,h3]:=h;have h1:k=k':=h1;subst h1;exact ih (h2.put k h3)
inductive nB (K:aj) (xs:ai) (H:Hp) (Q:VK):Prop
 |mk:∀p ys kvs,xs=[.ref p]->H p\.lst ys->jk K H ys kvs->kvs.length<=1000->(∀l,H l=none->Q (.ref l) (upd H l (.dK (wR [] kvs))))->nB K xs H Q
theorem yw(hc:X.calm=true):gy X (.type "dict") (nB X.K):=by
 intro pins s σ H xs us Q I r h;let#[p,ys,kvs,rfl,hp,t,hz,q]:=h;let#[u,rfl,ru]:=vals1 r;cases ru;let#[z,its,n,rv,hl,ho]:=I.jE hp
 have gen:∀{ys:ai} {its:ag} {kvs:List (Key × V)},Vals ys its->jk X.K H ys kvs->∃ps,KV kvs ps/\NW (fj X.prog X.w) s.heap its ps:=λ{ys its kvs} rv t=>by
  induction t generalizing its with
  |nil=>
   cases rv;exact#[[],.nil,.nil]
  |@cons y p ys kvs h t ih=>
   cases rv with
   |cons r0 rv=>
    let#[ps,h1,h2]:=ih rv;let#[a,e,sq]:=h;subst e;cases r0;let#[tv,rt,it,_]:=I.tuple (ft.of sq);let#[key,x,e2,rk,rx]:=vals2 rt;subst e2;apply#[(p.1,x)::ps,Paired.cons (show p.1=p.1/\RelV p.2 x from #[Z,rx]) h1,Paired.cons (show ∃a' DR,Value.ref a=.ref a'/\IsTup s.heap a' (List.toArray [DR,x])/\(fj X.prog X.w).is p.1 DR=true from #[a,key,Z,it,AG rk]) h2]
 let#[ps,h1,h2]:=gen rv t;let lp:=KV.length h1;apply dM_ (knd:=fj X.prog X.w) (I.ok.hd hc) ho h2 Z1 λh' tk hd kp=>?_;apply#[.ref s.heap.objs.size,_,I.laid (t':=tk) kp (bh _) (H_ ?_ (beq_eq_false_iff_ne.mpr (bJ (dS I.big))) (KV.eF h1 .nil) hd),Z,q _ I.fresh];have:=Ph kvs [];have:=cJ;simp only[List.length_nil] at *;show (wR [] kvs).length<=sizeLine;omega
theorem Tv:∀{bs:List Bool} {vs:ag},Vals (bs.map V.bl) vs->vs=bs.map Value.bool
 |[],_,.nil=>rfl
 |b::bs,_,.cons h t=>by
  cases h;rw[Tv t];rfl
inductive C9 (K:aj) (g:List Bool->Bool) (xs:ai) (H:Hp) (Q:VK):Prop
 |mk:∀p bs,xs=[.ref p]->dY K H p (bs.map V.bl)->Q (.bl (g bs)) H->C9 K g xs H Q
theorem _K(hc:X.calm=true):gy X (.builtin "all") (C9 X.K λbs=>bs.all id):=by
 intro pins s σ H xs us Q I r h;let#[p,bs,rfl,hp,q]:=h;let#[u,rfl,ru]:=vals1 r;cases ru;let#[its,rv,pl,z]:=I.list hp;obtain rfl:=Tv rv;let hl:=pl.isList;have lt:p<s.heap.objs.size:=by let#[_,e,_]:=hl;exact bz e
 apply call_all_walk (wpAny_pyIter_list hl ⟨s.heap.objs.size,[s.heap.objs.size,p],[s.heap.objs.size],(bs.map Value.bool).toArray.size,_,_,λi=>(bs[i]?).getD true,rfl,Walks.list (A:=X.A.in1) (I.ok.hd hc) _ p (dS lt) _,⟨⟨_,cK _ rfl,rfl,rfl⟩,hl.push _⟩,λi v s' Q' E' hP hQ=>?_,λh' tk hk=>?_⟩)
 ·have hP:(bs.map Value.bool).toArray[i]? = some v:=hP;simp only[List.getElem?_toArray,dk] at hP;cases e:bs[i]? with
  |none=>rw[e] at hP;cases hP
  |some b=>
   have hQ:Q' ((bs[i]?).getD true) s':=hQ;rw[e] at hP hQ;cases hP;exact uJ hQ
 have e:((List.range (bs.map Value.bool).toArray.size).all λi=>(bs[i]?).getD true)=bs.all id:=by
  rw[cm,aq];exact LSm.range_all bs
 rw[e];exact#[.bl _,H,I.kept (LSm.kept_iter hk),Z,q]
end
end L2
namespace JL
open PySem PySem.SeqAt PyProof.Rows
open AutoSeq1 (wpAny_loadPart')
open MeetsSeq MeetsSeq2 MeetsSeq3 SeqRoads2
theorem YB(l b:Addr)(xs ys:Array Aa)(n m:Nat)(dl db:Option Addr)(sl sb:Array (Option Aa))(hs:xs.size=ys.size)(e:Nat->Bool)(k:Nat) :
  ∀i:Nat,xs.size - i=k->Meets (Builtin.«list.__eq__.loop» #[[.ref l,.ref b,rawInt i,rawInt 3],[]])
   (λA R s=>(s.heap.get? l=some { cls:=.type "list",dict:=dl,data:=.seq xs n,slots:=sl }/\s.heap.get? b=some { cls:=.type "list",dict:=db,data:=.seq ys m,slots:=sb }) /\
    (∀j (h1:j<xs.size) (h2:j<ys.size),EqAt A.in1 s xs[j] ys[j] (e j))/\R (.ok (.ret (.bool (!((List.range xs.size).drop i).all e)))) s):=by
 induction k with
 |zero=>
  intro i hk prog w A R s ⟨⟨gl,gb⟩,he,h⟩;let#[hp,g,d,tk,os]:=s
  wp_walk using o8 gl,o8 gb
  rw[show xs[((i:Nat):Int).toNat]? = none by simp;omega,show ys[((i:Nat):Int).toNat]? = none by simp;omega];rw[show (List.range xs.size).drop i=[] by simp;omega] at h
  wp_walk using o8 gl,o8 gb
  apply (show R (.ok (.ret (.bool (xs.size != ys.size)))) _ from ?_);rw[show (xs.size != ys.size)=false by simp[hs]];exact h
 |succ k ih=>
  intro i hk prog w A R s ⟨⟨gl,gb⟩,he,h⟩;let#[hp,g,d,tk,os]:=s
  wp_walk using o8 gl,o8 gb
  have z1:i<xs.size:=by omega
  have z2:i<ys.size:=by omega
  have q1:xs[((i:Nat):Int).toNat]? = some xs[i]:=by simp[z1]
  have q2:ys[((i:Nat):Int).toNat]? = some ys[i]:=by simp[z2]
  rw[show (List.range xs.size).drop i=i::(List.range xs.size).drop (i+1) by simp[List.drop_eq_getElem_cons,z1],List.all_cons] at h;rw[q1,q2];apply af (he i z1 z2 prog w _ _ ?_);cases c:e i with
  |true=>
   rw[c] at h
   wp_walk
   rw[show ((i:Int)+1)=((i+1:Nat):Int) by omega];apply#[plainId_quiet plain_eq_loop _,codeAny_builtin entry_eq_loop ?_];rw[Around.under_plainId plain_eq_loop _];exact ih (i+1) Z1 prog w A R _ #[#[gl,gb],he,by simpa using h]
  |false=>
   rw[c] at h
   wp_walk using o8 gl,o8 gb
   rw[q1,q2]
   wp_walk
   simpa using h
theorem _J(l b:Addr)(xs ys:Array Aa)(n m:Nat)(dl db:Option Addr)(sl sb:Array (Option Aa))(hs:xs.size=ys.size)(e:Nat->Bool) :
  Meets (Builtin.«list.__ne__» #[[.ref l,.ref b],[]])
   (λA R s=>(s.heap.get? l=some { cls:=.type "list",dict:=dl,data:=.seq xs n,slots:=sl }/\s.heap.get? b=some { cls:=.type "list",dict:=db,data:=.seq ys m,slots:=sb }) /\
    (∀j (h1:j<xs.size) (h2:j<ys.size),EqAt A.in1 s xs[j] ys[j] (e j))/\R (.ok (.ret (.bool (!(List.range xs.size).all e)))) s):=by
 intro prog w A R s ⟨⟨gl,gb⟩,he,h⟩;let#[hp,g,d,tk,os]:=s;let f3:=AutoSeq1.sub_list_list;have no:¬(xs.size != ys.size)=true:=by simp[hs]
 wp_walk using o8 gl,o8 gb
 apply#[plainId_quiet plain_eq_loop _,codeAny_builtin entry_eq_loop ?_];rw[Around.under_plainId plain_eq_loop _];exact YB l b xs ys n m dl db sl sb hs e _ 0 Z prog w A R _ #[#[gl,gb],he,by simpa using h]
theorem _O(l b:Addr)(xs ys:Array Aa)(n m:Nat)(dl db:Option Addr)(sl sb:Array (Option Aa))(hs:(xs.size != ys.size)=true) :
  Meets (Builtin.«list.__ne__» #[[.ref l,.ref b],[]])
   (λA R s=>(s.heap.get? l=some { cls:=.type "list",dict:=dl,data:=.seq xs n,slots:=sl }/\s.heap.get? b=some { cls:=.type "list",dict:=db,data:=.seq ys m,slots:=sb })/\R (.ok (.ret (.bool true))) s):=
 .of_wp λprog w A R s ⟨⟨gl,gb⟩,h⟩=>by
  let#[hp,g,d,tk,os]:=s;let f3:=AutoSeq1.sub_list_list
  wp_walk using o8 gl,o8 gb
  exact#[_,Z,h]
section
variable{prog:Ad}{w:Af}{A:Ag}{E:Aa->Ab->Prop}{s:Ab}
theorem oV{l b:Addr}{xs ys:Array Aa}{e:Nat->Bool}{Q:Aa->Ab->Prop}(hl:s.heap.IsList l xs)(hb:s.heap.IsList b ys)(hs:xs.size=ys.size)(hu:A.units<cLine)
  (he:∀j (h1:j<xs.size) (h2:j<ys.size),EqAt A.in1 s xs[j] ys[j] (e j)) (h:Q (.bool (!(List.range xs.size).all e)) s):wpAny (model prog w) A (compareOp .NotEq (.ref l) (.ref b)) Q E s:=by
 let#[#[c1,d1,t1,l1],o1,k1,n1,z1]:=id hl;let#[#[c2,d2,t2,l2],o2,k2,n2,z2]:=id hb;simp only at k1 z1 k2 z2;subst k1 z1 k2 z2;exact richCompare_meets_room (op:=.NotEq) #[_,o1,Z] #[_,o2,Z] F.slot_list_ne F.entry_list_ne (F.args_list_ne_2 _ _) (_J l b xs ys n1 n2 d1 d2 l1 l2 hs e) #[#[o1,o2],he,show Value.bool (!(List.range xs.size).all e)≠Value.notImplemented/\Q (.bool (!(List.range xs.size).all e)) s from #[(λx=>nomatch x),h]] hu
theorem gT{l b:Addr}{xs ys:Array Aa}{Q:Aa->Ab->Prop}(hl:s.heap.IsList l xs)(hb:s.heap.IsList b ys)(hs:(xs.size != ys.size)=true)(hu:A.units<cLine)(h:Q (.bool true) s):wpAny (model prog w) A (compareOp .NotEq (.ref l) (.ref b)) Q E s:=by
 let#[#[c1,d1,t1,l1],o1,k1,n1,z1]:=id hl;let#[#[c2,d2,t2,l2],o2,k2,n2,z2]:=id hb;simp only at k1 z1 k2 z2;subst k1 z1 k2 z2;exact richCompare_meets_room (op:=.NotEq) #[_,o1,Z] #[_,o2,Z] F.slot_list_ne F.entry_list_ne (F.args_list_ne_2 _ _) (_O l b xs ys n1 n2 d1 d2 l1 l2 hs) #[#[o1,o2],show Value.bool true≠Value.notImplemented/\Q (.bool true) s from #[(λx=>nomatch x),h]] hu
end
end JL
namespace L2
open PySem PySem.Spec PyProof.Rows PySem.W mG dM
abbrev Rp(D:Type):=Hp->V->D->Prop
structure uj (X:Cx) (n:Nat) {D:Type} [DecidableEq D] (R:Rp D):Prop where
 eq:∀{pins:List (Addr × Obj)} {σ:St} {H:Hp} {s:Ab} {A:Ag} {x y:V} {u v:Aa} {d e:D},Inv X pins σ H s->RelV x u->RelV y v->R H x d->R H y e->A.units+n<cLine->SeqAt.EqAt A s u v (decide (d=e))
 one:∀{pins:List (Addr × Obj)} {σ:St} {H:Hp} {s:Ab} {x:V} {d e:D},Inv X pins σ H s->R H x d->R H x e->d=e
def rS:Rp Str:=λ_ x d=>x=.str d
def r2(K:aj){D1 D2:Type}(R1:Rp D1)(R2:Rp D2):Rp (D1 × D2):=λH x d=>∃a u v,x=.ref a/\ft K H a [u,v]/\R1 H u d.1/\R2 H v d.2
def rL(K:aj){D:Type}(R:Rp D):Rp (List D):=λH x ds=>∃a xs,x=.ref a/\dY K H a xs/\Paired (R H) xs ds
section
variable{X:Cx}
theorem g_:uj X 0 rS where
 eq:=λ{pins σ H s A x y u v d e} I ru rv hx hy hu=>by
  have hx:x=.str d:=hx;have hy:y=.str e:=hy;subst hx;subst hy;let q:=Rn (A:=A) (s:=s) ru rv Z Z
  have e2:M9 (.str d) (.str e)=decide (d=e):=by
   show (d == e)=_;by_cases h:d=e
   ·subst h;simp
   simp[h]
  rwa [e2] at q
 one:=λ{pins σ H s x d e} I hx hy=>by
  have hx:x=.str d:=hx;have hy:x=.str e:=hy;rw[hx] at hy;exact V.str.inj hy
theorem Bd{h:Heap}{a:Addr}{its:Array Aa}(t:IsTup h a its):h.IsTuple a its:=t
theorem Fp{n m:Nat}{D1 D2:Type}[DecidableEq D1][DecidableEq D2]{R1:Rp D1}{R2:Rp D2}(c1:uj X n R1)(c2:uj X m R2):uj X (max n m+1) (r2 X.K R1 R2) where
 one:=λ{pins σ H s x d e} I hx hy=>by
  let#[a,u,v,rfl,t,q1,q2]:=hx;let#[b,u',v',e0,t',GG,GF]:=hy;cases e0;let e1:=I.dN t t';cases e1;exact Prod.ext (c1.one I q1 GG) (c2.one I q2 GF)
 eq:=λ{pins σ H s A x y u v d e} I ru rv hx hy hu=>by
  let vW:=hx;let hy':=hy;let#[a,x1,x2,rfl,t,q1,q2]:=hx;let#[b,y1,y2,rfl,t',GG,GF]:=hy;cases ru;cases rv;by_cases x6:a=b
  ·subst x6;let e1:=I.dN t t';cases e1;have:d=e:=Prod.ext (c1.one I q1 GG) (c2.one I q2 GF);rw[dc this];exact SeqAt.EqAt.same _
  let#[its,r,it,_]:=I.tuple t;let#[its',r',Z3,_]:=I.tuple t';let#[u1,u2,rfl,r1,r2]:=vals2 r;let#[w1,w2,rfl,Xj,Xf]:=vals2 r'
  let key:=SeqAt.EqAt.of_refs x6 (SeqAt.RcAt.tuples (A:=A) (s:=s) (e:=λj=>if j=0 then decide (d.1=e.1) else decide (d.2=e.2)) (Bd it) (Bd Z3) Z1 λj h1 h2=>by
   match j,h1,h2 with
   |0,_,_=>exact c1.eq I r1 Xj q1 GG (by show A.units+1+n<cLine;omega)
   |1,_,_=>exact c2.eq I r2 Xf q2 GF (by show A.units+1+m<cLine;omega))
  have e3:((List.range (min [u1,u2].toArray.size [w1,w2].toArray.size)).all (λj=>if j=0 then decide (d.1=e.1) else decide (d.2=e.2))&&[u1,u2].toArray.size == [w1,w2].toArray.size)=decide (d=e):=by
   show (decide (d.1=e.1)&&(decide (d.2=e.2)&&true)&&true)=_;by_cases h1:d.1=e.1
   ·by_cases h2:d.2=e.2
    ·have:d=e:=Prod.ext h1 h2;simp[this]
    have:¬d=e:=λz=>h2 (by rw[z]);simp[h1,h2,this]
   have:¬d=e:=λz=>h1 (by rw[z]);simp[h1,this]
  rw[e3] at key;exact key
theorem dU{α β:Type}{F:α->β->Prop}:∀{l:List α} {m:List β},Paired F l m->∀(i:Nat) (h1:i<l.length) (h2:i<m.length),F l[i] m[i]
 |_,_,.cons h t,0,_,_=>h
 |_,_,.cons h t,i+1,h1,h2=>dU t i ⇑h1 ⇑h2
theorem Po{D:Type}[DecidableEq D]:∀{ds es:List D},ds.length=es.length->((List.range ds.length).all λj=>decide (ds[j]? = es[j]?))=decide (ds=es):=λ{ds es} hl=>by
 by_cases h:ds=es
 ·subst h;simp
 rw[eG h]
 have:∃i,i<ds.length/\ds[i]?≠es[i]?:=by
  apply Classical.byContradiction λhn=>h ?_;apply List.ext_getElem? ?_;intro i;by_cases hi:i<ds.length
  ·exact Classical.byContradiction λq=>hn #[i,hi,q]
  rw[List.getElem?_eq_none Z1,List.getElem?_eq_none Z1]
 let#[i,hi,q]:=this;rw[List.all_eq_false];exact#[i,by simpa using hi,by simpa using q]
theorem S3{D:Type}[DecidableEq D]{n:Nat}{R:Rp D}(c:uj X n R){pins:List (Addr × Obj)}{σ:St}{H:Hp}{s:Ab}{A:Ag}(I:Inv X pins σ H s){xs ys:ai}{us vs:ag}{ds es:List D}(ru:Vals xs us)(rv:Vals ys vs)(hx:Paired (R H) xs ds)(hy:Paired (R H) ys es)(hu:A.units+n<cLine) :
  ∀j (h1:j<us.toArray.size) (h2:j<vs.toArray.size),SeqAt.EqAt A s us.toArray[j] vs.toArray[j] (decide (ds[j]? = es[j]?)):=λj h1 h2=>by
 let l1:=ru.length;let l2:=rv.length;let l3:=bw hx;let l4:=bw hy;simp only[cm] at h1 h2;let q:=c.eq (A:=A) I (dU ru j Z1 h1) (dU rv j Z1 h2) (dU hx j Z1 Z1) (dU hy j Z1 Z1) hu
 have e:decide (ds[j]? = es[j]?)=decide (ds[j]' Z1=es[j]' Z1):=by
  rw[aQ Z1,aQ Z1];by_cases z:ds[j]' Z1=es[j]' Z1
  ·simp[z]
  simp[z]
 rw[e];exact q
def C7{D:Type}[DecidableEq D](R:Rp D)(neg:Bool):V->V->Hp->VK->Prop:=λx y H Q=>∃d e,R H x d/\R H y e/\Q (.bl (if neg then !decide (d=e) else decide (d=e))) H
theorem YT{n:Nat}{D:Type}[DecidableEq D]{R:Rp D}(c:uj X n R)(hu:X.A.units+n+1<cLine):dJ X (compareOp .Eq) (C7 (rL X.K R) false):=by
 intro pins s σ H x y v u Q I rx ry h;let#[d,e,#[a,xs,rfl,t,q],#[b,ys,rfl,t',q'],hq]:=h;cases rx;cases ry;let#[us,r,pl,_]:=I.list t;let#[vs,r',oR,_]:=I.list t';let l1:=r.length;let l2:=r'.length;let l3:=bw q;let l4:=bw q';by_cases hl:d.length=e.length
 ·apply SeqAt.eq_listAt pl.isList oR.isList (by simp only[cm];omega) Z1 (S3 c I r r' q q' (A:=X.A.in1) (by show X.A.units+1+n<cLine;omega)) #[.bl _,H,I,Z,?_];rw[show us.toArray.size=d.length by simp only[cm];omega,Po hl];exact hq
 apply SeqAt.eq_list_lengthsAt pl.isList oR.isList (by simp only[cm,bne_iff_ne];omega) Z1 #[.bl _,H,I,Z,?_];have hq:Q (.bl (decide (d=e))) H:=hq;rwa [eG (λz=>hl (by rw[z]))] at hq
theorem Y1{n:Nat}{D:Type}[DecidableEq D]{R:Rp D}(c:uj X n R)(hu:X.A.units+n+1<cLine):dJ X (compareOp .NotEq) (C7 (rL X.K R) true):=by
 intro pins s σ H x y v u Q I rx ry h;let#[d,e,#[a,xs,rfl,t,q],#[b,ys,rfl,t',q'],hq]:=h;cases rx;cases ry;let#[us,r,pl,_]:=I.list t;let#[vs,r',oR,_]:=I.list t';let l1:=r.length;let l2:=r'.length;let l3:=bw q;let l4:=bw q';have hq:Q (.bl (!decide (d=e))) H:=hq;by_cases hl:d.length=e.length
 ·apply JL.oV pl.isList oR.isList (by simp only[cm];omega) Z1 (S3 c I r r' q q' (A:=X.A.in1) (by show X.A.units+1+n<cLine;omega)) #[.bl _,H,I,Z,?_];rw[show us.toArray.size=d.length by simp only[cm];omega,Po hl];exact hq
 apply JL.gT pl.isList oR.isList (by simp only[cm,bne_iff_ne];omega) Z1 #[.bl _,H,I,Z,?_];rwa [eG (λz=>hl (by rw[z]))] at hq
def zw(K:aj){D:Type}[DecidableEq D](R:Rp D)(neg:Bool):V->V->Hp->VK->Prop:=λx y H Q=>∃d es,R H x d/\rL K R H y es/\Q (.bl (if neg then !decide (d∈es) else decide (d∈es))) H
theorem MZ{D:Type}[DecidableEq D]{n:Nat}{R:Rp D}(c:uj X n R){pins:List (Addr × Obj)}{σ:St}{H:Hp}{s:Ab}{A:Ag}(I:Inv X pins σ H s){x:V}{u:Aa}{d:D}(ru:RelV x u)(hx:R H x d)(hu:A.units+n<cLine):∀{ys:ai} {vs:ag} {es:List D},Vals ys vs->Paired (R H) ys es->
  ∃f:Aa->Bool,(∀w∈vs,SeqAt.EqAt A s w u (f w))/\vs.any f=decide (d∈es):=λ{ys vs es} rv hy=>by
 let f:Aa->Bool:=λw=>@decide (∃y e,RelV y w/\R H y e/\e=d) (Classical.propDecidable _)
 have sound:∀y w e,RelV y w->R H y e->f w=decide (e=d):=λy w e h1 h2=>by
  by_cases z:e=d
  ·rw[dc z];exact @dc _ (Classical.propDecidable _) #[y,e,h1,h2,z]
  rw[eG z];apply @eG _ (Classical.propDecidable _) λ⟨y',e',g1,g2,g3⟩=>z ?_;have:y'=y:=RelV.inj g1 h1;subst this;rw[<- g3];exact c.one I h2 g2
 apply#[f,?_,?_]
 ·induction rv generalizing es with
  |nil=>exact λw hw=>nomatch hw
  |cons h t ih=>
   cases hy with
   |cons g t'=>
    intro w hw;rcases bV.mp hw with rfl|hw
    ·rw[sound _ _ _ h g];exact c.eq I h ru g hx hu
    exact ih t' w hw
 induction rv generalizing es with
 |nil=>
  cases hy;simp
 |cons h t ih=>
  cases hy with
  |@cons _ e _ es g t'=>
   rw[List.any_cons,ih t',sound _ _ _ h g];by_cases z:e=d
   ·subst z;simp
   by_cases z2:d∈es
   ·simp[z2]
   have:¬d∈e::es:=λq=>by
    rcases bV.mp q with q|q
    ·exact z q.symm
    exact z2 q
   rw[eG z,eG z2,eG this];rfl
theorem MK{n:Nat}{D:Type}[DecidableEq D]{R:Rp D}(c:uj X n R)(hu:X.A.units+n+1<cLine):dJ X (compareOp .In) (zw X.K R false):=by
 intro pins s σ H x y v u Q I rx ry h;let#[d,es,hx,#[a,ys,rfl,t,q],hq]:=h;cases ry;let#[us,r,pl,_]:=I.list t;let#[f,h1,h2]:=MZ c I (A:=X.A.in1) rx hx (by show X.A.units+1+n<cLine;omega) r q;apply SeqAt.in_listAt f pl.isList (λw hw=>h1 w ⇑hw) #[.bl _,H,I,Z,?_];rw[show us.toArray.any f=us.any f by simp,h2];exact hq
theorem Ui{n:Nat}{D:Type}[DecidableEq D]{R:Rp D}(c:uj X n R)(hu:X.A.units+n+1<cLine):dJ X (compareOp .NotIn) (zw X.K R true):=by
 intro pins s σ H x y v u Q I rx ry h;let#[d,es,hx,#[a,ys,rfl,t,q],hq]:=h;cases ry;let#[us,r,pl,_]:=I.list t;let#[f,h1,h2]:=MZ c I (A:=X.A.in1) rx hx (by show X.A.units+1+n<cLine;omega) r q;apply SeqAt.notIn_listAt f pl.isList (λw hw=>h1 w ⇑hw) #[.bl _,H,I,Z,?_];rw[show us.toArray.any f=us.any f by simp,h2];exact hq
end
end L2
namespace L2
open PySem PySem.Spec PyProof.Rows PySem.W mG dM
section
variable{X:Cx}
inductive C6 (K:aj) (xs:ai) (H:Hp) (Q:VK):Prop
 |mk:∀x T t b,xs=[x,.ty T]->fJ K H x t->PySem.W.kitOne K t (.type T)\b->Q (.bl b) H->C6 K xs H Q
theorem jX:gy X (.builtin "isinstance") (C6 X.K):=by
 intro pins s σ H xs us Q I r h;let#[x,T,t,b,rfl,ty,e,q]:=h;let#[u,w',rfl,ru,je]:=vals2 r;cases (show w'=Value.type T from je);exact Uu I ru ty e λtk=>#[.bl b,H,I.tok tk,Z,q]
inductive UW (x:V) (y:V) (H:Hp) (Q:VK):Prop
 |mk:∀i j,x=.str i->y=.str j->Q (.bl (!decide (j.cps.toList<i.cps.toList))) H->UW x y H Q
theorem T1:dJ X (compareOp .LtE) UW:=by
 intro pins s σ H x y v u Q I rx ry h;let#[i,j,rfl,rfl,q]:=h;let#[t,rfl]:=rx;let#[t',rfl]:=ry;exact PySem.P.le_str ⟨.bl _,H,I,rfl,q⟩
theorem Y5{prog:Ad}{w':Af}{A:Ag}{E:Aa->Ab->Prop}{s:Ab}(l:Addr)(its:Array Aa)(n:Nat)(k:Int)(t:Tok)(w:Aa)(h1:¬(!Builtin.List.listFitsIndex k)=true)(h2:its.size<=sizeLine){Q:Aa->Ab->Prop}
 (e:s.heap.get? l=some { cls:=.type "list",data:=.seq its n }) (f:Array Aa->Array Aa) (hf:f=λxs:Array Aa=>let k:=if k<0 then (k+((xs.size:Nat):Int)).toNat else min k.toNat xs.size;(xs.extract 0 k).push w++xs.extract k)
 (q:Q .none { s with heap:=s.heap.update l (Obj.mapSeq f) }):wpAny (model prog w') A (call (.builtin "list.insert") [.ref l,.int k t,w]) Q E s:=by
 subst hf;let hm:=@PySem.AutoListH.list_insert_list_int_val_1 l its n k t w h1 h2;have ty:s.TypeIs (.ref l) "list":=⟨_,e,rfl⟩;exact wpAny_call (codeAny_call_builtin F.slot_list_insert.plain F.entry_list_insert (F.slot_list_insert.check _ _ _ _ _ _ _ _ ty (F.args_list_insert_3 _ _ _) (hm prog w' A (wants Q E) s ⟨e,q⟩)))
inductive nu (x:V) (vs:ai) (H:Hp) (Q:VK):Prop
 |mk:∀(l:Addr) (k:Nat) (xs:ai) (y:V),x=.ref l->vs=[.int k,y]->H l\.lst xs->k<=xs.length->xs.length<100000->Q .non (upd H l (.lst (xs.take k++y::xs.drop k)))->nu x vs H Q
theorem Uw:JJ X "list.insert" nu:=by
 intro pins s σ H x vs v us Q I rx rv h;let#[l,k,xs,y,rfl,rfl,hH,hk,hz,q]:=h;cases rx;let#[u,w,rfl,#[t,rfl],je]:=rv.two;let#[z,its,n,r,hl,e]:=I.jE hH;let sz:=cJ
 have fit:Builtin.List.listFitsIndex (k:Int)=true:=by
  unfold Builtin.List.listFitsIndex;rw[dc Z1,dc Z1];rfl
 apply Y5 l its.toArray n (k:Int) t w (by rw[fit];exact gK) (by rw[cm];omega) e _ rfl ?_;apply⟨.non,_,I.vO (its':=its.take k++w::its.drop k) (f:=λxs=>let k':=if (k:Int)<0 then ((k:Int)+((xs.size:Nat):Int)).toNat else min (k:Int).toNat xs.size;(xs.extract 0 k').push w++xs.extract k') hH e ?_ (Vals.append (r.take k) (.cons je (r.drop k))) ?_,rfl,q⟩
 ·have e1:(if (k:Int)<0 then ((k:Int)+((its.toArray.size:Nat):Int)).toNat else min (k:Int).toNat its.toArray.size)=k:=by
   rw[aB Z1];simp;omega
  dsimp only;rw[e1];apply Array.ext' ?_;simp[tW]
 rw[d_,jt,dG,yz];omega
inductive qc (mk:Addr->Addr->HO) (Q:VK) (x:V) (H1:Hp):Prop
 |mk:∀d kvs,x=.ref d->H1 d\.dK kvs->(∀v,H1 v=none->Q (.ref v) (upd H1 v (mk v d)))->qc mk Q x H1
def xc(mk:Addr->Addr->HO)(td:TE):TE:=λσ H Q=>td σ H λx H1=>qc mk Q x H1
theorem SY{pins:List (Addr × Obj)}{σ:St}{H:Hp}{s:Ab}{d:Addr}{cls:String}(I:Inv X pins σ H s)(φ:Heap->Prop)(_M:φ (s.heap.push { cls:=.type cls,data:=.fields (List.toArray [.ref d]) }))(hs:∀h1 h2:Heap,φ h1->(∀o,h1.get? s.heap.objs.size\o->h2.get? s.heap.objs.size\o)->φ h2) :
  Inv X pins σ (upd H s.heap.objs.size (.ext φ)) { s with heap:=s.heap.push { cls:=.type cls,data:=.fields (List.toArray [.ref d]) } }:=
 I.laid (t':=s.toks) (λ_ _ q=>aU _ q) (bh _) #[_M,#[_,cK _ Z],hs]
theorem Jf{o:Expr}{td:TE}{apos bZ:Pos}(ho:PE X o td)(gY:attributeBase o "items" X.env (eval o X.env)=eval o X.env:=by rfl)(gX:(apos.endLine == bZ.line)=true:=by rfl):PE X (.Call (.Attribute o "items" apos) [] [] bZ) (xc tK td):=by
 intro pins s σ H Q I h;apply wpAny_Call_method0_late gY gX (aO (ho pins s σ H _ I h) λv s1 ⟨x,H1,I1,r1,d,kvs,e,hd,q⟩=>?_);subst e;cases r1;let#[t1,t2,t3]:=Rv I1 (.inl #[kvs,.inl hd]);let#[_,_,vs,rel,dd]:=E3 I1.aA hd;apply#["dict","dict.items",PySem.F.plainAttrs_dict,PySem.F.slot_dict_items,PySem.F.type_dict_items,t1,t2,Calls.callWith_builtin Z (PySem.evalArgs_none ?_)];apply call_meetsIn PySem.F.slot_dict_items t1 PySem.F.entry_dict_items (PySem.F.args_dict_items_1 _) (meets_dict_items (fj X.prog X.w) d t3) #[#[vs,dd],?_];exact#[.ref _,_,SY I1 _ #[_,cK _ Z,Z,Z] λh1 h2 ⟨o,e,r⟩ k=>#[o,k o e,r],Z,q _ I1.fresh]
theorem OH{o:Expr}{td:TE}{apos bZ:Pos}(ho:PE X o td)(gY:attributeBase o "values" X.env (eval o X.env)=eval o X.env:=by rfl)(gX:(apos.endLine == bZ.line)=true:=by rfl):PE X (.Call (.Attribute o "values" apos) [] [] bZ) (xc uP td):=by
 intro pins s σ H Q I h;apply wpAny_Call_method0_late gY gX (aO (ho pins s σ H _ I h) λv s1 ⟨x,H1,I1,r1,d,kvs,e,hd,q⟩=>?_);subst e;cases r1;let#[t1,t2,t3]:=Rv I1 (.inl #[kvs,.inl hd]);let#[_,_,vs,rel,dd]:=E3 I1.aA hd;apply#["dict","dict.values",PySem.F.plainAttrs_dict,PySem.F.slot_dict_values,PySem.F.type_dict_values,t1,t2,Calls.callWith_builtin Z (PySem.evalArgs_none ?_)];apply call_meetsIn PySem.F.slot_dict_values t1 PySem.F.entry_dict_values (PySem.F.args_dict_values_1 _) (meets_dict_values (fj X.prog X.w) d t3) #[#[vs,dd],?_];exact#[.ref _,_,SY I1 _ #[_,cK _ Z,Z,Z] λh1 h2 ⟨o,e,r⟩ k=>#[o,k o e,r],Z,q _ I1.fresh]
end
section
variable{X:Cx}{pins:List (Addr × Obj)}{σ:St}{H:Hp}{s:Ab}{d:Addr}{kvs:List (Key × V)}
theorem Inv.freeze(I:Inv X pins σ H s)(h:H d\.dK kvs):∃o,s.heap.get? d\o/\Inv X pins σ (upd H d (.frz o (.dK kvs))) s:=by
 let#[z,hd,vs,rel,dd]:=E3 I.aA h;let#[o,es,ep,ho,r]:=id dd;have other:∀{b u},H b\u->u≠.dK kvs->upd H d (.frz o (.dK kvs)) b\u:=λ{b u} e ne=>by rw[ax (bK e h ne)];exact e
 apply#[o,ho,I.un (h':=s.heap) (t':=s.toks) #[λb u q _ _ _=>q,λb u q _ _ _=>#[u.slots,q],λb u q n _=>?_,λb u q _=>#[u,q],λb xs q=>other q Z2,λb u v q=>other q Z2,λb ps q=>#[#[],by rw[Array.append_empty];exact other q Z2]] λb u q=>?_]
 ·by_cases e:b=d
  ·subst e;rw[h] at n;cases n
  rw[ax e];exact n
 by_cases e:b=d
 ·subst e;rw[ay] at q;cases q;exact#[ho,z,hd,vs,rel,dd]
 rw[ax e] at q;exact (I.aA b u q).er (λc v _ z=>z) (λc z=>other z Z2) λc xs z=>other z Z2
theorem Inv.p_{o:Obj}(I:Inv X pins σ H s)(h:H d\.frz o (.dK kvs))(h0:∀o u,X.kg d≠some (.frz o u)):Inv X pins σ (upd H d (.dK kvs)) s:=by
 have other:∀{b u},H b\u->(∀o v,u≠.frz o v)->upd H d (.dK kvs) b\u:=λ{b u} e ne=>by rw[ax (bK e h (ne _ _))];exact e
 have nF:∀{b},H b=none->upd H d (.dK kvs) b=none:=λ{b} e=>by
  rw[ax (λz=>by subst z;rw[h] at e;cases e)];exact e
 apply#[I.ok,I.os,I.bare,#[I.base.keep,I.base.slot,λb u q n hx=>nF (I.base.free b u q n hx),I.base.there,λb xs q=>other (I.base.gS b xs q) Z2,λb u v q=>?_,λb ps q=>?_],I.loc,I.cell,nF I.free,λx c e=>nF (I.d6 x c e),λp hp=>?_,λb u q=>?_,I.len]
 ·have:=I.base.g8 b u v q;rw[ax (λz=>by subst z;exact h0 _ _ q)];exact this
 ·let#[more,e]:=I.base.ig b ps q;exact#[more,other e Z2]
 ·let#[a1,a2,a3]:=I.pin p hp;exact#[a1,nF a2,a3]
 by_cases e:b=d
 ·subst e;rw[ay] at q;cases q;let#[ho,z,hd,vs,rel,dd]:=I.aA b _ h;exact#[z,hd,vs,rel,dd]
 rw[ax e] at q;exact (I.aA b u q).er (λc v _ z=>z) (λc z=>other z Z2) λc xs z=>other z Z2
end
theorem UB{X:Cx}{pins:List (Addr × Obj)}{σ:St}{H:Hp}{s:Ab}{d:Addr}{kvs:List (Key × V)}{o:Obj}{es:Array DictEntry}{ep:Nat}(I:Inv X pins σ H s)(h:H d\.frz o (.dK kvs))(ho:o.data=.dict es ep):∃vs,KV kvs vs/\s.heap.DictAt (fj X.prog X.w) d vs ep:=by
 let#[e,z,hd,vs,rel,o',Ii,Ij,e',c',d',r]:=I.aA d _ h;rw[e] at e';cases e';rw[ho] at d';cases d';exact#[vs,rel,o,es,e,c',ho,r]
theorem MI{κ:Type}{kvs:List (κ × V)}{vs:List (κ × Aa)}(r:KV kvs vs):∀(i:Nat) {k:κ} {x:V},kvs[i]? = some (k,x)->∃u,vs[i]? = some (k,u)/\RelV x u:=by
 induction r with
 |nil=>intro i k x e;simp at e
 |@cons p q _ _ h _ ih=>
  intro i k x e;cases i with
  |zero=>
   have e:p=(k,x):=⇑e
   subst e;apply#[q.2,?_,h.2];rw[List.getElem?_cons_zero];have h1:k=q.1:=h.1;rw[h1]
  |succ i=>exact ih i ⇑e
def PV(x:Str):It:=#[λi _=>i<x.cps.size,λi H v H'=>H'=H/\∃c,x.cps[i]? = some c/\v=.str ⟨(List.toArray [c])⟩,λi _=>x.cps.size<=i]
theorem ff_{P:Ad}{w:Af}{K:aj}{tg:Expr}(it:Addr)(x:Str)(t:Tok):Turn P w K tg (PV x) [it] it (λi h=>i<=x.cps.size/\h.IsStrIter it "str_ascii_iterator" x t i) where
 mem:=by simp
 obj:=λi h st b hb=>by
  obtain rfl:b=it:=⇑hb
  let#[o,e,c,d]:=st.2;exact#[o,e,λv z=>by rw[d] at z;cases z]
 keep:=λi h h' st k=>#[st.1,let #[o,ho,r]:=st.2;#[o,k it Z2 o ho,r]]
 item:=by
  intro X hP hw hK hc i pins s σ H E I hf st hg;subst hP hw hK;have hg:i<x.cps.size:=hg;let#[f0,f1,f2,f3,f4,f5]:=hf it Z2;apply wpAny_pyNext_ascii_item st.2 (c:=x.cps[i]) (by simp[hg]) λh' fC sb=>?_;have I1:Inv X pins σ H { s with heap:=h',toks:=s.toks+1 }:=I.turned (t':=s.toks+1) (λb o hb e=>(sb.2 b hb).trans e) f0 f1 f3 f4 f5;let#[o',e,c,dd]:=id fC;exact#[_,Z,G8 (s:={ s with heap:=h',toks:=s.toks+1 }) e c dd (by decide) #[.str ⟨(List.toArray [x.cps[i]])⟩,H,I1,#[_,Z],#[Z,_,by simp[hg],Z],#[hg,fC],λb hb=>(hf b hb).1]]
 done:=by
  intro X hP hw hK hc i pins s σ H E I hf st hg;subst hP hw hK;have hg:x.cps.size<=i:=hg;let#[f0,f1,f2,f3,f4,f5]:=hf it Z2;exact wpAny_pyNext_ascii_end (I.ok.hd hc) st.2 (by simp[hg]) λh' eb=>#[Z,I.turned (t':=s.toks) (λb o hb e=>eb b o hb e) f0 f1 f3 f4 f5]
 self:=λ_ _ _ _ _ st h=>wpAny_pyIter_striter_ascii st.2 h
theorem ge_{P:Ad}{w:Af}{K:aj}{tg:Expr}(it:Addr)(x:Str)(t:Tok):Turn P w K tg (PV x) [it] it (λi h=>i<=x.cps.size/\h.IsStrIter it "str_iterator" x t i) where
 mem:=by simp
 obj:=λi h st b hb=>by
  obtain rfl:b=it:=⇑hb
  let#[o,e,c,d]:=st.2;exact#[o,e,λv z=>by rw[d] at z;cases z]
 keep:=λi h h' st k=>#[st.1,let #[o,ho,r]:=st.2;#[o,k it Z2 o ho,r]]
 item:=by
  intro X hP hw hK hc i pins s σ H E I hf st hg;subst hP hw hK;have hg:i<x.cps.size:=hg;let#[f0,f1,f2,f3,f4,f5]:=hf it Z2;apply wpAny_pyNext_wide_item st.2 (c:=x.cps[i]) (by simp[hg]) λh' fC sb=>?_;have I1:Inv X pins σ H { s with heap:=h',toks:=s.toks+1 }:=I.turned (t':=s.toks+1) (λb o hb e=>(sb.2 b hb).trans e) f0 f1 f3 f4 f5;let#[o',e,c,dd]:=id fC;exact#[_,Z,G8 (s:={ s with heap:=h',toks:=s.toks+1 }) e c dd (by decide) #[.str ⟨(List.toArray [x.cps[i]])⟩,H,I1,#[_,Z],#[Z,_,by simp[hg],Z],#[hg,fC],λb hb=>(hf b hb).1]]
 done:=by
  intro X hP hw hK hc i pins s σ H E I hf st hg;subst hP hw hK;have hg:x.cps.size<=i:=hg;let#[f0,f1,f2,f3,f4,f5]:=hf it Z2;exact wpAny_pyNext_wide_end (I.ok.hd hc) st.2 (by simp[hg]) λh' eb=>#[Z,I.turned (t':=s.toks) (λb o hb e=>eb b o hb e) f0 f1 f3 f4 f5]
 self:=λ_ _ _ _ _ st h=>wpAny_pyIter_striter_wide st.2 h
inductive xO (R:It->Hp->Prop) (v:V) (H1:Hp):Prop
 |mk:∀x,v=.str x->R (PV x) H1->xO R v H1
def Ly(tl:TE):TI:=λσ H R=>tl σ H λv H1=>xO R v H1
theorem YI{X:Cx}{tg l:Expr}{tl:TE}(hl:PE X l tl):PI X tg l (Ly tl):=by
 intro pins s σ H R I h;apply aO (hl pins s σ H _ I h) λv s1 ⟨y,H1,I1,r1,x,e,q⟩=>?_;subst e;let#[t,rfl]:=r1
 have fp:∀b∈[s1.heap.objs.size],dA X pins H1 b:=λb hb=>by
  obtain rfl:b=s1.heap.objs.size:=⇑hb
  exact I1.jN (bh _) (I1.aA.fresh (bh _))
 cases ha:x.cps.all (· < 128)
 ·apply wpAny_pyIter_wide ha ?_;exact#[s1.heap.objs.size,[s1.heap.objs.size],_,_,H1,Z,I1.kept (t':=s1.toks) λb o e=>aU _ e,ge_ _ x t,#[gR _,_,cK _ Z,Z,Z],fp,q]
 apply wpAny_pyIter_ascii ha ?_;exact#[s1.heap.objs.size,[s1.heap.objs.size],_,_,H1,Z,I1.kept (t':=s1.toks) λb o e=>aU _ e,ff_ _ x t,#[gR _,_,cK _ Z,Z,Z],fp,q]
end L2
namespace L2
open PySem PySem.Spec PyProof.Rows PySem.W mG dM
theorem QF{X:Cx}{f:Aa->Aa->Sem Aa}{K:aj}(r:aj->R2)(h:dJ X f (r X.K))(hK:X.K=K:=by rfl):dJ X f (r K):=by
 subst hK;exact h
theorem yk{X:Cx}{f:Aa}{K:aj}(r:aj->ai->Hp->VK->Prop)(h:gy X f (r X.K))(hK:X.K=K:=by rfl):gy X f (r K):=by
 subst hK;exact h
theorem uz{X:Cx}{K:aj}(r:aj->R2)(h:B7 X (r X.K))(hK:X.K=K:=by rfl):B7 X (r K):=by
 subst hK;exact h
theorem Bb{X:Cx}{N:ae}{scope:Scope}{fp:au}{s:Ab}{H:Hp}{es:List Expr}{k:Nat}{pos:Pos}{t:Bj}{n:Nat}(h:F1 (ia X N scope fp s H) es t)(hc:X.calm=true:=by rfl)
  (hn:(assignEach es (ia X N scope fp s H).env).length=n:=by rfl) (zU:(assignEach es (ia X N scope fp s H).env).findIdx? (·.1)=none:=by rfl):PG (ia X N scope fp s H) (.Tuple es k pos) (gF X.K n t):=o7 (X:=ia X N scope fp s H) hc h hn zU
end L2
abbrev yf:PySem.Str:="_law_found"
abbrev AM:PySem.Str:="ways_by_name"
abbrev uO:PySem.Str:="_law_ties_here"
abbrev yc:PySem.Str:="_law_script"
abbrev BH:PySem.Str:="greatest_divisor"
abbrev uM:PySem.Str:="_law_digit"
abbrev j_:PySem.Str:="multiple_of_strengths"
abbrev BJ:PySem.Str:="neighbours_by_hand"
abbrev tq:PySem.Str:="_law_piece"
abbrev kJ:PySem.Str:="_law_pieces_here"
abbrev uN:PySem.Str:="strength_by_hand"
abbrev pQ:PySem.Str:="ahead_by_hands"
abbrev pL:PySem.Str:="weight_by_name"
abbrev jn:PySem.Str:="_law_hands_here"
abbrev gI:PySem.Str:="_law_state"
abbrev jS:PySem.Str:="exits_by_place"
abbrev uf:List PySem.Str:=[jn,kJ,uO,"_law_spot","_law_limit_here","_law_moves_here"]
abbrev oB:List PySem.Str:=[jn,kJ,"_law_spot","_law_limit_here"]
abbrev om:List PySem.Str:=["goods","placed"]
abbrev fZ:List PySem.Str:=["thing"]
abbrev wA:List PySem.Str:=[gI,"_law_base"]
abbrev mr:List PySem.Str:=["one","other"]
abbrev oi:List PySem.Str:=["self","thing"]
abbrev ue:List PySem.Str:=[jn,kJ,"_law_layers_here","_law_limit_here"]
abbrev oA:List PySem.Str:=[gI,jn,kJ]
abbrev BK:List PySem.Str:=["_law_name_here","_law_strength"]
abbrev yb:List PySem.Str:=["name","weight","ways"]
abbrev oz:List PySem.Str:=[kJ,uO,"_law_spot"]
abbrev ud:List PySem.Str:=[kJ,uO,"_law_spot","_law_most"]
abbrev uc:List PySem.Str:=[gI,"_law_goods","_law_names","_law_layers_here"]
abbrev oy:List PySem.Str:=["_law_name_here","_law_weight","_law_ways"]
abbrev j7:List PySem.Str:=["goods","stand","limit","most"]
abbrev ub:List PySem.Str:=[jn,kJ,"_law_spot"]
abbrev wH:List PySem.Str:=["self","hand"]
abbrev ya:List PySem.Str:=["goods","stand"]
abbrev yB:List PySem.Str:=["_law_spot",jn,"_law_limit_here",kJ]
abbrev ua:List PySem.Str:=[gI,uO,"_law_most"]
abbrev t_:List PySem.Str:=["_law_told","_law_due_here","_law_parts"]
abbrev j1:List PySem.Str:=["thing","least","most"]
abbrev j0:List PySem.Str:=["self","one","other"]
abbrev t7:List PySem.Str:=["_law_one","_law_later","_law_move"]
abbrev ow:List PySem.Str:=["goods","hands","limit"]
abbrev o5:List PySem.Str:=["self"]
abbrev BF:List PySem.Str:=["self","hands"]
namespace Ev
open PySem L2
def top(i:Nat):Stmt:=PySem.Challenge.pw_evenpieces_k67_fewest_moves.main.body.getD i (.Pass #[0,0,0,0])
abbrev zo:Stmt:=top 12
abbrev lG:Stmt:=top 14
abbrev qT:Stmt:=top 15
abbrev NP:Stmt:=top 16
abbrev qR:Stmt:=top 17
abbrev Nl:Stmt:=top 18
abbrev rg:Stmt:=top 45
abbrev zk:Stmt:=top 46
abbrev qM:Stmt:=top 47
abbrev qS:Stmt:=top 48
abbrev oJ:Stmt:=top 49
def zH(a b:Str):Bool:=decide (a.cps.toList<b.cps.toList)
def aH(a b:Str):Str × Str:=if zH a b=true then (a,b) else (b,a)
section v
theorem bR{N p:List Str}{c:Scope}(h:bG N p c:=by exact#[Z,Z,Z,by decide +kernel,Z,by decide +kernel,by decide +kernel]):bG N p c:=h
theorem qC:bG mr mr (aX NP):=bR
def Ja:Sp:=λvs H Q _=>∃a b,vs=[.str a,.str b]/\∀t,H t=none->Q (.ref t) (upd H t (.tup [.str (aH a b).1,.str (aH a b).2]))
theorem gx_{f:Addr}{fd:Ae}(F:bj K "lesser_first" "lesser_first" NP f fd):!ao aZ 1 f fd mr Ja:=by
 exists F.bQ qC;let#[a,b,rfl,k]:=h;apply#[_,aF (bx (hG_ (fI hh_ (pv 0) (pv 1)) (gf %[0,1|0]) (gf %[1,0|0]))),?_];apply#[_,Z,_,Z,a,b,Z,Z,_,Z,?_];apply cw (λc=>?_) (λc=>?_)
 ·apply#[_,Z,_,Z,zl,λt ht=>?_];have:=k t ht;rwa [show aH a b=(a,b) from aI c] at this
 apply#[_,Z,_,Z,zl,λt ht=>?_];have:=k t ht;rwa [show aH a b=(b,a) from aB c] at this
theorem vx:bG j1 j1 (aX lG):=bR
def NN:Sp:=λvs H Q _=>∃i a b:Int,vs=[.int i,.int a,.int b]/\Q (.bl (decide (a<=i)&&decide (i<=b))) H
structure Bi (mg:Str->Option Aa):Prop where
 jg:mg "isinstance"=none
 int:mg "int"=none
 bool:mg "bool"=none
 str:mg "str"=none
 tuple:mg "tuple"=none
 list:mg "list"=none
 dict:mg "dict"=none
 len:mg "len"=none
 all:mg "all"=none
 sorted:mg "sorted"=none
 max:mg "max"=none
 range:mg "range"=none
 any:mg "any"=none
 enum:mg "enumerate"=none
structure bp (P:Ad) (w:Af) (K:aj) (mg:Str->Option Aa) (base:Heap) (k:Nat) (x:Str) (ps:ae) (sp:Sp):Prop where
 ex:∃f fd,ao P w K mg base aZ k f fd ps sp/\mg x\.ref f/\PySem.W.keepIn K (.ref f)=true/\pK K fd ps []
theorem bc{n_:Nat}{X:Cx}{k:Nat}{x:Str}{ps:ae}{sp:Sp}{p pos:Pos}{e:Expr}{es:List Expr}{t:TA}(c:bp X.prog X.w X.K X.mg X.base k x ps sp)(hr:aP n_ X.A)(ha:PA X (e::es) t)(hg:Gl X x:=by rfl)(si:(x == ("__debug__":Str))=false:=by decide)
  (he:starEach (e::es) X.env=(false,eval e X.env)::starEach es X.env:=by rfl) (iq:(backTo pos (starEach es X.env)).any (·.1)=false:=by rfl) (hk:k<=n_:=by decide):PE X (.Call (.Name x p) (e::es) [] pos) (xo sp [] E0 t):=by
 let#[f,fd,F,m,kp,b]:=c.ex;exact _n F (hr.mono hk) hg m kp b .nil nE ha si he iq
theorem CV:bG fZ fZ (aX zo):=bR
def mV:Sp:=λvs H Q _=>∃i:Int,vs=[.int i]/\Q (.bl true) H
theorem YH{f:Addr}{fd:Ae}(F:bj K "is_whole" "is_whole" zo f fd)(B:Bi mg):!ao aZ 1 f fd fZ mV:=by
 exists F.bQ CV;let#[i,rfl,k]:=h;apply#[_,aF (bx (tJ (cO jX (by rfl) B.jg jq %[0,jW (v:=.ty "int") (by rfl) B.int ML Z|0]) (uT (Ro (cO jX (by rfl) B.jg jq %[0,jW (v:=.ty "bool") (by rfl) B.bool PyProof.Rows.Boot.«bool» rfl|0]))))),?_];exact#[_,Z,_,_,_,_,Z,.int i,Z,_,Z,dj #[_,Z,_,_,_,_,Z,.int i,Z,_,Z,k]]
theorem hF_{f:Addr}{fd:Ae}(F:bj K "is_whole_within" "is_whole_within" lG f fd)(cI:!bp 1 "is_whole" fZ mV):!ao aZ 2 f fd j1 NN:=by
 exists F.bQ vx;let#[i,a,b,rfl,k]:=h;apply#[_,aF (bx (tJ (bc cI hr %[0|0]) (uT (TB x_ x_ (pv 1) (pv 0) (pv 2))))),?_];apply#[_,Z,i,Z,_,Z,dj ?_];apply#[_,Z,_,Z,_,_,Z,Z,_,Z,?_];apply cw (λc=>?_) (λc=>?_)
 ·apply#[_,Z,_,_,Z,Z,?_];rw[c] at k;exact k
 rw[show decide (a<=i)=false by simpa using c] at k;exact k
def oT(c:Nat):Bool:=decide (97<=c)&&decide (c<=122)
def iA(x:Str):Bool:=decide (1<=x.length)&&decide (x.length<=8)&&x.cps.toList.all oT
theorem y9:bG fZ fZ (aX qT):=bR
def Il:Sp:=λvs H Q _=>∃x:Str,vs=[.str x]/\x.length<=100000/\∀H',aa H H'->Q (.bl (iA x)) H'
theorem _u{c:Nat}:(!decide ((⟨(List.toArray [c])⟩:Str).cps.toList<("a":Str).cps.toList))=decide (97<=c):=by
 have e:("a":Str).cps.toList=[97]:=by decide +kernel
 rw[e];show (!decide ([c] < [97]))=decide (97<=c);by_cases h:97<=c
 ·have:¬[c] < [97]:=by simp[List.cons_lt_cons_iff];omega
  simp[this,h]
 have:[c] < [97]:=by simp[List.cons_lt_cons_iff];omega
 simp[this,h]
theorem Y3{c:Nat}:(!decide (("z":Str).cps.toList<(⟨(List.toArray [c])⟩:Str).cps.toList))=decide (c<=122):=by
 have e:("z":Str).cps.toList=[122]:=by decide +kernel
 rw[e];show (!decide ([122] < [c]))=decide (c<=122);by_cases h:c<=122
 ·have:¬[122] < [c]:=by simp[List.cons_lt_cons_iff];omega
  simp[this,h]
 have:[122] < [c]:=by simp[List.cons_lt_cons_iff];omega
 simp[this,h]
theorem Zf{f:Addr}{fd:Ae}(F:bj K "is_name" "is_name" qT f fd)(B:Bi mg){t8:Tok}(m8:mg "MOST_LETTERS"\.int 8 t8):!ao aZ 1 f fd fZ Il:=by
 exists F.bQ y9;let#[x,rfl,hz,k]:=h;let sz:=cJ
 apply#[_,aw (cg (o6 (eX (eP (cO jX (by rfl) B.jg jq %[0,jW (v:=.ty "str") (by rfl) B.str Ic Z|0])))
   (pT (eX (Ts x_ x_ aC (cO e4_ (by rfl) B.len gJ %[0|0]) (FI (v:=.int 8) (by rfl) m8 #[t8,Z]))))).pt (aF (bx i5)) cq)
  (aF (bx (cO (_K Z) (by rfl) B.all PyProof.Rows.Boot.«all» (iQ
   (iL ["letter"] 1 [] (YI (pv 0)) (λfp s H=>eO (i:=0) (show (["letter"]:ae).Nodup by decide +kernel) Z (Or.inl Z)) (λfp s H=>jr) (λfp s H=>TB T1 T1 tP (pv 0) tP)) bP)))),?_]
 apply#[_,Z,_,_,_,_,Z,.str x,Z,_,Z,?_];apply aM ?_;apply#[_,Z,x,Z,by omega,_,_,Z,Z,_,Z,?_]
 have fin:(decide (1<=x.length)&&decide (x.length<=8))=false->∀H',aa H H'->Q (.bl false) H':=λe H' sm=>by
  have:=k H' sm;rwa [show iA x=false by unfold iA;rw[e];rfl] at this
 apply cw (λc=>?_) (λc=>?_)
 ·have c1:1<=x.length:=by
   have:(1:Int)<=(x.length:Int):=⇑c
   omega
  apply#[_,_,Z,Z,_,Z,?_];apply cw (λc2=>?_) (λc2=>?_)
  ·-- too long
   have c3:¬x.length<=8:=by
    have:¬((x.length:Int)<=8):=⇑c2
    omega
   exact fin (by rw[eG c3,Bool.and_false]) H (aa.refl H)
  have c3:x.length<=8:=by
   have:(x.length:Int)<=8:=⇑c2
   omega
  apply#[_,Z,x,Z,λD hD=>?_];apply IH (own:=1) (fv:=[]) Z fh x.cps.size (λi out H'=>H'=upd H D (.lst out)/\out=((x.cps.toList.take i).map oT).map V.bl) #[Z,by simp] (λout H' ⟨e1,e2⟩=>?_) (λi out H' hi ⟨e1,e2⟩=>?_)
  ·apply#[bh _,D,x.cps.toList.map oT,Z,.of ?_,?_]
   ·rw[e1,ay,e2,tW Z2]
   have:=k H' (by rw[e1];exact aa.new hD);rwa [show iA x=(x.cps.toList.map oT).all id by unfold iA;rw[dc c1,dc c3,List.all_map];rfl] at this
  apply#[hi,λv H2 y=>?_];let#[eH,c,hc,rfl]:=y;subst eH;apply#[_,Z,Z,λNx hN=>ed ?_]
  have lo:out.length<sizeLine:=by
   rw[e2];have hs:x.length=x.cps.size:=rfl;simp only[aq,dG,tU];omega
  have nx:Nx (upd H2 D (.lst (out++[V.bl (oT c)]))):=hN (out++[V.bl (oT c)]) _ #[by rw[e1,Y7],by
   rw[e2,pY];simp[hc]]
  have Vh:H2 D\.lst out:=by rw[e1,ay]
  apply#[_,Z,_,_,Z,Z,_,Z,?_];rw[_u];apply cw (λc2=>?_) (λc2=>?_)
  ·apply#[_,_,Z,Z,out,Vh,lo,?_];rw[Y3];rwa [show oT c=decide (c<=122) by unfold oT;rw[c2];rfl] at nx
  apply#[out,Vh,lo,?_];rwa [show oT c=false by unfold oT;rw[show decide (97<=c)=false by simpa using c2];rfl] at nx
 have c1:¬1<=x.length:=by
  have:¬((1:Int)<=(x.length:Int)):=⇑c
  omega
 exact#[_,Z,dj (fin (by rw[eG c1];rfl) H (aa.refl H))]
end
end Ev
namespace Ev
open PySem L2
def kT(t:Str × Str):av:=[.inr t.1,.inr t.2]
def wI(t:Str × Str):Prop:=iA t.1=true/\iA t.2=true/\t.1≠t.2
theorem Ju{x:Str}(h:iA x=true):x.length<=8:=by
 unfold iA at h;simp only[Bool.and_eq_true,decide_eq_true_eq] at h;exact h.1.2
theorem Hg{H:Hp}{p:Addr}{t:Str × Str}(h:H p\.tup ((kT t).map kV)):H p\.tup [.str t.1,.str t.2]:=h
section v
theorem y8:bG fZ fZ (aX qR):=bR
def qq:Sp:=λvs H Q _=>∃(p:Addr) (a b:Str),vs=[.ref p]/\H p\.tup [.str a,.str b]/\a.length<=100000/\b.length<=100000/\∀H',aa H H'->Q (.bl (iA a&&iA b&&!decide (a=b))) H'
theorem ZP{f:Addr}{fd:Ae}(F:bj K "is_pair_of_names" "is_pair_of_names" qR f fd)(B:Bi mg)(cN:!bp 1 "is_name" fZ Il):!ao aZ 2 f fd fZ qq:=by
 exists F.bQ y8;let#[p,a,b,rfl,hp,la,lb,k]:=h
 apply#[_,aw (cg (o6 (eX (eP (cO jX (by rfl) B.jg jq %[0,jW (v:=.ty "tuple") (by rfl) B.tuple uV Z|0])))
   (pT (fI tH (cO iC (by rfl) B.len gJ %[0|0]) aC))).pt (aF (bx i5)) cq)
  (aF (bx (tJ (bc cN hr %[br c_ (pv 0) aC|0]) (tJ (bc cN hr %[br c_ (pv 0) aC|0])
   (uT (wQ tH (br c_ (pv 0) aC) (br c_ (pv 0) aC))))))),?_]
 apply#[_,Z,_,_,_,_,Z,.tup hp,Z,_,Z,aM ?_];apply#[_,Z,p,_,Z,.inr (.of hp),Z,_,Z,?_];apply AL (show V.int ((2:Nat):Int)=V.int 2 from Z) ?_;apply#[_,Z,p,_,_,_,Z,Z,.of hp,Z,a,Z,la,λH1 s1=>#[_,Z,?_]];let xR:=s1 _ _ hp;apply cw (λc=>?_) (λc=>?_)
 ·apply#[_,Z,p,_,_,_,Z,Z,.of xR,Z,b,Z,lb,λH2 s2=>#[_,Z,?_]];let kq:=s2 _ _ xR;let kk:=k H2 (s1.trans s2);apply cw (λc2=>?_) (λc2=>?_)
  ·apply#[_,Z,p,_,_,_,Z,Z,.of kq,Z,_,Z,p,_,_,_,Z,Z,.of kq,Z,Z,?_];rw[c,c2] at kk
   have e:decide (V.str a=V.str b)=decide (a=b):=by
    by_cases z:a=b
    ·simp[z]
    simp[z]
   show Q (.bl (!decide (V.str a=V.str b))) H2;rw[e];exact kk
  rw[c,show iA b=false by simpa using c2] at kk;exact kk
 let kk:=k H1 s1;rw[show iA a=false by simpa using c] at kk;exact kk
theorem Je:bG ["ties","found","pair","tie"] ["ties"] (aX Nl):=bR
def NJ(K:aj):Sp:=λvs H Q _=>∃(l:Addr) (ys:ai) (ts:Xb),vs=[.ref l]/\H l\.lst ys/\bT K H ys (ts.map kT)/\(∀t∈ts,wI t)/\(ts.map λt=>kT (aH t.1 t.2)).Nodup/\ts.length<64 /\
 ∀l' zs H',aa H H'->H l'=none->H' l'\.lst zs->bT K H' zs (bg (ts.map λt=>kT (aH t.1 t.2)))->Q (.ref l') H'
theorem uZ{α β γ:Type}{F:α->γ->Prop}{g:β->γ}{ys:List α}{ts:List β}(t:Paired F ys (ts.map g)){i:Nat}{y:α}(h:ys[i]? = some y):∃x,ts[i]? = some x/\F y (g x):=by
 have hi:i<ys.length:=(bY.mp h).1;let hl:=bw t;rw[aq] at hl;have:=dU t i hi (by rw[aq];omega);rw[List.getElem_map] at this;apply#[ts[i],aQ Z1,?_];rw[(bY.mp h).2] at this;exact this
theorem u0{κ:Type}[DecidableEq κ]{kvs:List (κ × V)}{k:κ}(h:k∉kvs.map (·.1)):a9 kvs k=none:=by
 cases e:a9 kvs k with
 |none=>rfl
 |some v=>exact absurd (_q e) h
theorem tS{α β:Type}(g:α->β){ts:List α}{i:Nat}{x:α}(h:ts[i]? = some x):(ts.take (i+1)).map g=(ts.take i).map g++[g x]:=by
 rw[pY,h,eU];rfl
theorem FP{α β:Type}{g:α->β}{ts:List α}{i:Nat}{x:α}(h:(ts.map g).Nodup)(hx:ts[i]? = some x):g x∉(ts.take i).map g:=by
 intro m;have hi:i<ts.length:=(bY.mp hx).1;let#[y,hy,e]:=bC.mp m;let#[j,hj,e2]:=hJ hy;rw[dG] at hj;rw[List.getElem_take] at e2;rw[tY,uX,List.pairwise_iff_getElem] at h;apply h j i Z1 hi Z1 ?_;rw[e2,e,(bY.mp hx).2]
theorem g8_{f:Addr}{fd:Ae}(F:bj K "sorted_ties" "sorted_ties" Nl f fd)(B:Bi mg)(cP:!bp 2 "is_pair_of_names" fZ qq)(cL:!bp 1 "lesser_first" mr Ja):!ao aZ 3 f fd ["ties"] (NJ K):=by
 exists F.bQ Je;let#[l,ys,ts,rfl,hl,tu,good,nd,bX,k]:=h;let hu:=gc hr;let sz:=cJ
 apply#[_,aw (cg (eX (eP (cO jX (by rfl) B.jg jq %[0,jW (v:=.ty "list") (by rfl) B.list yo Z|0]))) gA cq)
  (aw (bq 1 Je.nd hO_)
  (aw (eW d8 Z (dI (pv 0)) (cz 2 Je.nd)
   (aw (cg (eX (eP (bc cP hr %[2|0]))) gA cq)
   (aw (bq 3 Je.nd (bc cL hr %[br c_ (pv 2) aC,br c_ (pv 2) aC|0]))
   (aw (cg (tO (BM hu (pv 3) (pv 1))) gA cq)
   (aF (uQ hu (pv 1) (pv 3) i5 Z))))))
  (aF (bx (cO (ew_ Z) (by rfl) B.sorted Jz %[1|0]))))),?_]
 apply#[_,Z,_,_,_,_,Z,.lst hl,Z,_,Z,aM ?_];intro d hd;have s0:aa H (upd H d (.dT [])):=aa.new hd;apply#[_,Z,l,Z,#[_,.of (s0 _ _ hl)],ib (K:=K) (a:=l) (xs:=ys) (λi σ H2=>∃(v3 v4:aJ),σ=[some (.ref l),some (.ref d),v3,v4]/\aa H H2/\H2 d\.dT ((ts.take i).map λt=>(kT (aH t.1 t.2),V.bl true))) #[none,none,Z,s0,ay] (λi σ H2 _ ⟨_,_,_,s2,_⟩=>.of (s2 _ _ hl)) ?_ ?_]
 ·rintro i y σ H2 hy ⟨v3,v4,rfl,s2,hd2⟩;let#[t,ht,a,rfl,ha]:=uZ tu hy;let#[g1,g2,g3]:=good t (cX ht);let nV:=s2 _ _ (Hg ha);apply#[_,Z,a,t.1,t.2,Z,nV,by have:=Ju g1;omega,by have:=Ju g2;omega,λH3 s3=>#[_,Z,?_]];let jM:=s3 _ _ nV;let l5:=s3 _ _ hd2;rw[g1,g2,eG g3];apply aM ?_;apply#[_,Z,a,_,_,_,Z,Z,.of jM,Z,_,Z,a,_,_,_,Z,Z,.of jM,Z,t.1,t.2,Z,λb hb=>?_];have s4:aa H3 (upd H3 b (.tup [.str (aH t.1 t.2).1,.str (aH t.1 t.2).2])):=aa.new hb;let R4:=s4 _ _ l5;have R9:upd H3 b (.tup [.str (aH t.1 t.2).1,.str (aH t.1 t.2).2]) b\.tup ((kT (aH t.1 t.2)).map kV):=ay
  have ux:a9 ((ts.take i).map λt=>(kT (aH t.1 t.2),V.bl true)) (kT (aH t.1 t.2))=none:=u0 (by
   rw[cj];exact FP (g:=λt=>kT (aH t.1 t.2)) nd ht)
  apply#[_,Z,_,Z,d,_,Z,.t (k:=kT (aH t.1 t.2)) R4 R9,_,Z,?_];rw[ux];apply aM ?_;apply#[_,Z,_,Z,d,_,Z,.t (k:=kT (aH t.1 t.2)) R4 R9 (by rw[aq,dG];omega),?_];apply#[_,_,Z,λc o e=>?_,?_]
  ·rw[ax (bu e hd)];exact s4 _ _ (s3 _ _ (s2 _ _ e))
  rw[ay,wV _ ux,tS _ ht]
 rintro σ H2 ⟨v3,v4,rfl,s2,hd2⟩;let le:=bw tu;rw[aq] at le;rw[le,eN] at hd2;apply#[_,Z,d,_,[true,true],Z,hd2,#[by decide,λk hk=>?_],by rw[aq];exact bX,λl' zs hn tz=>?_]
 ·rw[cj] at hk;let#[t,_,rfl]:=bC.mp hk;rfl
 rw[cj] at tz;exact k l' zs _ (s2.trans (aa.new hn)) (s2.free hn) ay (tz.same (aa.new hn))
theorem fS_{K:aj}{H:Hp}{ys:ai}{ks:List av}{a:Addr}{k:av}(t:bT K H ys ks)(h:H a\.tup (k.map kV)):bT K H (ys++[.ref a]) (ks++[k]):=Paired.snoc t #[a,Z,h]
theorem fo{H H1:Hp}{D:Addr}{o:HO}(h:aa H H1)(hD:H D=none):aa H (upd H1 D o):=λb u e=>by rw[ax (bu e hD)];exact h b u e
theorem Jh{K:aj}{H:Hp}{ys:ai}{ks:List av}{D:Addr}{o:HO}{xs:ai}(t:bT K H ys ks)(hD:H D\.lst xs):bT K (upd H D o) ys ks:=Paired.aV t λy k ⟨a,z,q⟩=>#[a,z,by rw[ax (bK q hD nofun)];exact q]
end
end Ev
namespace Ev
open PySem L2
def kH(h:Str × Int):av:=[.inr h.1,.inl h.2]
def oa(h:Str × Int):Prop:=iA h.1=true/\1<=h.2/\h.2<=1000
def zK:av->Key × V
 |[k,v]=>(k,kV v)
 |_=>(.inl 0,.non)
def dC(hs:Xa):List (Key × V):=(bg (hs.map kH)).map zK
theorem zY{H:Hp}{p:Addr}{t:Str × Int}(h:H p\.tup ((kH t).map kV)):H p\.tup [.str t.1,.int t.2]:=h
theorem UE:∀(more kvs:List (Key × V)),(kvs.map (·.1)++more.map (·.1)).Nodup->wR kvs more=kvs++more
 |[],kvs,_=>by
  show kvs=kvs++[];rw[List.append_nil]
 |p::more,kvs,h=>by
  show wR (putK kvs p.1 p.2) more=kvs++p::more
  have hn:a9 kvs p.1=none:=u0 λm=>by
   rw[eI,List.nodup_append] at h;exact h.2.2 p.1 m p.1 gd Z
  rw[wV _ hn,UE more (kvs++[(p.1,p.2)])]
  ·simp
  simpa using h
theorem wY{more:List (Key × V)}(h:(more.map (·.1)).Nodup):wR [] more=more:=by
 rw[UE more [] ⇑h];rfl
theorem Uz(hs:Xa):((dC hs).map (·.1)).Perm (hs.map λh=>Sum.inr h.1):=by
 unfold dC;rw[cj];let p:=(tV (hs.map kH)).map λk=>(zK k).1;rw[cj] at p;exact p
theorem UU{hs:Xa}(h:(hs.map (·.1)).Nodup):((dC hs).map (·.1)).Nodup:=by
 apply (Uz hs).nodup_iff.mpr ?_;have:(hs.map λh=>(Sum.inr h.1:Key))=(hs.map (·.1)).map Sum.inr:=by rw[cj];rfl
 rw[this,tY,uX];exact h.imp λn e=>n (hZ e)
theorem oj{k:Nat}{A:Ag}(hr:aP k A)(n:Nat)(h:n+1<=64:=by decide):A.units+n+1<cLine:=by
 have:=hr.units;omega
section v
theorem zh:bG fZ fZ (aX rg):=bR
def qt:Sp:=λvs H Q _=>∃(p:Addr) (a:Str) (n:Int),vs=[.ref p]/\H p\.tup [.str a,.int n]/\a.length<=100000/\∀H',aa H H'->Q (.bl (iA a&&(decide (1<=n)&&decide (n<=1000)))) H'
theorem Y9{f:Addr}{fd:Ae}(F:bj K "is_hand_with_strength" "is_hand_with_strength" rg f fd)(B:Bi mg)(cN:!bp 1 "is_name" fZ Il)(cW:!bp 2 "is_whole_within" j1 NN){tk:Tok}(mS:mg "MOST_STRENGTH"\.int 1000 tk) :
  ao P w K mg base aZ 3 f fd fZ qt:=by
 exists F.bQ zh;let#[p,a,n,rfl,hp,la,k]:=h
 apply#[_,aw (cg (o6 (eX (eP (cO jX (by rfl) B.jg jq %[0,jW (v:=.ty "tuple") (by rfl) B.tuple uV Z|0])))
   (pT (fI tH (cO iC (by rfl) B.len gJ %[0|0]) aC))).pt (aF (bx i5)) cq)
  (aF (bx (tJ (bc cN hr %[br c_ (pv 0) aC|0]) (uT (bc cW hr %[br c_ (pv 0) aC,aC,FI (v:=.int 1000) (by rfl) mS #[tk,Z]|0]))))),?_]
 apply#[_,Z,_,_,_,_,Z,.tup hp,Z,_,Z,aM ?_];apply#[_,Z,p,_,Z,.inr (.of hp),Z,_,Z,?_];apply AL (show V.int ((2:Nat):Int)=V.int 2 from Z) ?_;apply#[_,Z,p,_,_,_,Z,Z,.of hp,Z,a,Z,la,λH1 s1=>#[_,Z,?_]];let xR:=s1 _ _ hp;let kk:=k H1 s1;apply cw (λc=>?_) (λc=>?_)
 ·apply#[_,Z,p,_,_,_,Z,Z,.of xR,Z,n,1,1000,Z,?_];rw[c] at kk;exact kk
 rw[show iA a=false by simpa using c] at kk;exact kk
theorem qz:bG ["hands","found","hand"] ["hands"] (aX zk):=bR
def xq(K:aj):Sp:=λvs H Q _=>∃(l:Addr) (ys:ai) (hs:Xa),vs=[.ref l]/\H l\.lst ys/\bT K H ys (hs.map kH)/\(∀h∈hs,oa h)/\(hs.map (·.1)).Nodup/\1<=hs.length/\hs.length<=8 /\
 ∀d H',aa H H'->H d=none->H' d\.dK (dC hs)->Q (.ref d) H'
theorem YS{f:Addr}{fd:Ae}(F:bj K "checked_strengths" "checked_strengths" zk f fd)(B:Bi mg)(cH:!bp 3 "is_hand_with_strength" fZ qt){tk:Tok}(mH:mg "MOST_HANDS"\.int 8 tk):!ao aZ 4 f fd ["hands"] (xq K):=by
 exists F.bQ qz;let#[l,ys,hs,rfl,hl,tu,good,nd,h1,h8,k]:=h;let hu:=gc hr;let sz:=cJ;let le:=bw tu;rw[aq] at le
 apply#[_,aw (cg (o6 (eX (eP (cO jX (by rfl) B.jg jq %[0,jW (v:=.ty "list") (by rfl) B.list yo Z|0])))
   (pT (eX (Ts x_ x_ aC (cO iC (by rfl) B.len gJ %[0|0]) (FI (v:=.int 8) (by rfl) mH #[tk,Z]))))).pt gA cq)
  (aw (bq 1 qz.nd FR)
  (aw (eW d8 Z (dI (pv 0)) (cz 2 qz.nd)
   (aw (cg (eX (eP (bc cH hr %[2|0]))) gA cq)
   (aw (cg (tO (BM hu (br c_ (pv 2) aC) (pv 1))) gA cq)
   (aF (uQ hu (pv 1) (br c_ (pv 2) aC) (br c_ (pv 2) aC) Z)))))
  (aF (bx (ja (yw Z) (by rfl) B.dict tQ %[cO (fD_ Z) (by rfl) B.sorted Jz %[Jf (pv 1)|0]|0]))))),?_]
 apply#[_,Z,_,_,_,_,Z,.lst hl,Z,_,Z,aM ?_];apply#[_,Z,l,_,Z,.inl (.of hl),_,_,Z,Z,_,Z,?_];rw[dc (show (1:Int)<=(ys.length:Int) by omega)];apply dj #[_,_,Z,Z,_,Z,?_];rw[dc (show (ys.length:Int)<=8 by omega)];apply aM ?_;intro d hd;have s0:aa H (upd H d (.dK [])):=aa.new hd;apply#[_,Z,l,Z,#[_,.of (s0 _ _ hl)],ib (K:=K) (a:=l) (xs:=ys) (λi σ H2=>∃(v2:aJ),σ=[some (.ref l),some (.ref d),v2]/\aa H H2/\H2 d\.dK ((hs.take i).map λh=>(Sum.inr h.1,V.int h.2))) #[none,Z,s0,ay] (λi σ H2 _ ⟨_,_,s2,_⟩=>.of (s2 _ _ hl)) ?_ ?_]
 ·rintro i y σ H2 hy ⟨v2,rfl,s2,hd2⟩;let#[t,ht,a,rfl,ha]:=uZ tu hy;let#[g1,g2,g3]:=good t (cX ht);let nV:=s2 _ _ (zY ha);apply#[_,Z,a,t.1,t.2,Z,nV,by have:=Ju g1;omega,λH3 s3=>#[_,Z,?_]];let jM:=s3 _ _ nV;let l5:=s3 _ _ hd2;rw[g1,dc g2,dc g3];apply aM ?_
  have ux:a9 ((hs.take i).map λh=>((Sum.inr h.1:Key),V.int h.2)) (Sum.inr t.1)=none:=u0 (by
   rw[cj];let q:=FP (g:=λh:Str × Int=>h.1) nd ht;intro m;let#[h,hh,e]:=bC.mp m;exact q (bC.mpr #[h,hh,hZ e]))
  apply#[_,Z,a,_,_,_,Z,Z,.of jM,Z,_,Z,d,_,Z,.k (k:=Sum.inr t.1) l5,_,Z,?_];rw[ux];apply aM ?_;apply#[_,Z,a,_,_,_,Z,Z,.of jM,Z,_,Z,_,Z,a,_,_,_,Z,Z,.of jM,Z,d,_,Z,.k (k:=Sum.inr t.1) l5 (by rw[aq,dG];omega),?_];apply#[_,Z,λc o e=>?_,?_]
  ·rw[ax (bu e hd)];exact s3 _ _ (s2 _ _ e)
  rw[ay,wV _ ux,tS _ ht]
 rintro σ H2 ⟨v2,rfl,s2,hd2⟩;rw[le,eN] at hd2;apply#[_,Z,d,_,Z,hd2,λv hv=>?_];have s3:aa H2 (upd H2 v (tK v d)):=aa.new hv;apply#[v,d,_,hs.map λh=>(Sum.inr h.1,Sum.inl h.2),[true,false],Z,ay,s3 _ _ hd2,by rw[cj];rfl,#[by decide,λq hq=>?_],by rw[aq];omega,λl' H4 zs s4 hn tz=>?_]
 ·rw[cj] at hq;let#[h,_,rfl]:=bC.mp hq;rfl
 have ez:((hs.map λh=>((Sum.inr h.1:Key),(Sum.inl h.2:Key))).map λk=>[k.1,k.2])=hs.map kH:=by rw[cj];rfl
 rw[ez] at tz
 have pz:jk K (upd H4 l' (.lst zs)) zs (dC hs):=by
  have shape:∀k∈bg (hs.map kH),∃a b,k=[a,b]:=λk hk=>by
   let#[h,_,e]:=bC.mp ((tV _).mem_iff.mp hk);exact#[_,_,e.symm]
  have gen:∀(ks:List av) (zs:ai),(∀k∈ks,∃a b,k=[a,b])->bT K (upd H4 l' (.lst zs)) zs ks->jk K (upd H4 l' (.lst zs)) zs (ks.map zK):=λks=>by
   intro zs;generalize upd H4 l' (.lst zs)=HH;intro sh t
   induction t with
   |nil=>exact .nil
   |cons h t ih=>
    let#[a,b,rfl]:=sh _ gd;exact .cons h (ih λk hk=>sh k (fP _ hk))
  exact gen _ _ shape (tz.same (aa.new hn))
 apply#[l',zs,_,Z,ay,pz,?_,λd' iV=>?_]
 ·have:=(Uz hs).length_eq;simp only[aq] at this;omega
 rw[wY (UU nd)];have C0:aa H (upd H4 l' (.lst zs)):=(s2.trans (s3.trans s4)).trans (aa.new hn);exact k d' _ (C0.trans (aa.new iV)) (C0.free iV) ay
theorem IX:bG ["ties","strengths","found","one","other"] ["ties","strengths"] (aX qM):=bR
inductive kU (K:aj) (vs:ai) (H:Hp) (Q:VK) (E:XK):Prop
 |mk:∀(l d:Addr) (ys:ai) (ts:Xb) (kvs:List (Key × V)),vs=[.ref l,.ref d]->H l\.lst ys->bT K H ys (ts.map kT)->(∀t∈ts,wI t)->(ts.map λt=>kT (aH t.1 t.2)).Nodup->ts.length<64->H d\.dK kvs->(∀t∈ts,(a9 kvs (Sum.inr t.1)).isSome=true/\(a9 kvs (Sum.inr t.2)).isSome=true)->(∀l' zs H',aa H H'->H l'=none->H' l'\.lst zs->bT K H' zs (bg (ts.map λt=>kT (aH t.1 t.2)))->Q (.ref l') H')->kU K vs H Q E
theorem BU(a b:Str):aH a b=(a,b)∨aH a b=(b,a):=by
 unfold aH;split
 ·exact .inl rfl
 exact .inr rfl
theorem ZX{f:Addr}{fd:Ae}(F:bj K "checked_ties" "checked_ties" qM f fd)(B:Bi mg)(cS:!bp 3 "sorted_ties" ["ties"] (NJ K)):!ao aZ 4 f fd ["ties","strengths"] (kU K):=by
 exists F.bQ IX;let#[l,d,ys,ts,kvs,rfl,hl,tu,good,nd,bX,hd,there,k]:=h;let hu:=gc hr
 apply#[_,aw (bq 2 IX.nd (bc cS hr %[0|0]))
  (aw (cg (tO (IB (pv 2))) gA cq)
  (aw (eW d8 Z (dI (pv 2)) (o7 Z (dE (cz 3 IX.nd) (dE (cz 4 IX.nd) jc)))
   (aF (cg (o6 (tO (Jv hu (pv 3) (pv 1))) (pT (tO (Jv hu (pv 4) (pv 1))))).pt gA cq)))
  (aF (bx (pv 2))))),?_]
 apply#[_,Z,l,ys,ts,Z,hl,tu,good,nd,bX,λl' zs H1 s1 hf gx tz=>?_];apply#[_,Z,_,Z,aM ?_];apply#[_,Z,l',Z,#[_,.of gx],ib (K:=K) (a:=l') (xs:=zs) (λi σ H2=>∃(v3 v4:aJ),σ=[some (.ref l),some (.ref d),some (.ref l'),v3,v4]/\H2=H1) #[none,none,Z,Z] (λi σ H2 _ ⟨_,_,_,e⟩=>by subst e;exact .of gx) ?_ ?_]
 ·rintro i y σ H2 hy ⟨v3,v4,rfl,rfl⟩;let ez:=bw tz;have hi:i<zs.length:=(bY.mp hy).1;let#[a,e,ha]:=dU tz i hi Z1;rw[(bY.mp hy).2] at e;subst e;let#[t,ht,e]:=bC.mp ((tV _).mem_iff.mp (kK (show i<(bg (ts.map λt=>kT (aH t.1 t.2))).length by omega)));rw[<- e] at ha;let#[t1,t2]:=there t ht
  have both:(a9 kvs (Sum.inr (aH t.1 t.2).1)).isSome=true/\(a9 kvs (Sum.inr (aH t.1 t.2).2)).isSome=true:=by
   rcases BU t.1 t.2 with q|q
   ·rw[q];exact#[t1,t2]
   rw[q];exact#[t2,t1]
  let uE:=s1 _ _ hd;apply#[a,_,Z,.of (Hg ha),Z,_,_,Z,_,_,Z,Z,?_];apply#[_,Z,_,Z,d,_,Z,.k (k:=Sum.inr (aH t.1 t.2).1) uE,_,Z,?_];rw[both.1];apply aM ?_;apply#[_,Z,_,Z,d,_,Z,.k (k:=Sum.inr (aH t.1 t.2).2) uE,_,Z,?_];rw[both.2];apply aM ?_;exact#[_,_,Z,Z]
 rintro σ H2 ⟨v3,v4,rfl,rfl⟩;exact#[_,Z,k l' zs _ s1 hf gx tz]
def near(ns:ae)(ts:Xb)(n:Str):ae:=ns.filter λo=>decide (aH n o∈ts)
theorem lE:bG ["names","ties","found","hand"] ["names","ties"] (aX qS):=bR
def tN(ns:ae)(as:au):List (Key × V):=(ns.zip as).map λp=>(Sum.inr p.1,V.ref p.2)
inductive kZ (K:aj) (vs:ai) (H:Hp) (Q:VK) (E:XK):Prop
 |mk:∀(l1 l2:Addr) (ns:ae) (zs:ai) (ts:Xb),vs=[.ref l1,.ref l2]->H l1\.lst (ns.map V.str)->H l2\.lst zs->bT K H zs (ts.map kT)->ns.Nodup->ns.length<=1000->l1≠l2->(∀d as H',aa H H'->H d=none->as.length=ns.length->H' d\.dK (tN ns as)->(∀(i:Nat) n a,ns[i]? = some n->as[i]? = some a->H a=none/\H' a\.lst ((near ns ts n).map V.str))->Q (.ref d) H')->kZ K vs H Q E
theorem Nh{K:aj}{H:Hp}:∀{ts:Xb} {zs:ai},bT K H zs (ts.map kT)->Paired (r2 K rS rS H) zs ts
 |[],_,.nil=>.nil
 |t::ts,_,.cons ⟨a,e,h⟩ r=>.cons #[a,_,_,e,.of (Hg h),Z,Z] (Nh r)
theorem mz{ns:ae}{i:Nat}{x:V}(h:(ns.map V.str)[i]? = some x):∃n,ns[i]? = some n/\x=.str n:=by
 rw[dk] at h;cases e:ns[i]? with
 |none=>rw[e] at h;cases h
 |some n=>rw[e] at h;exact#[n,Z,(cY h).symm]
theorem Jt{α:Type}(p:α->Bool){l:List α}{i:Nat}{x:α}(h:l[i]? = some x):(l.take (i+1)).filter p=(l.take i).filter p++(if p x then [x] else []):=PySem.take_succ_filter p l i x h
theorem _k{f:Addr}{fd:Ae}(F:bj K "neighbours_of_all" "neighbours_of_all" qS f fd)(cL:!bp 1 "lesser_first" mr Ja):!ao aZ 2 f fd ["names","ties"] (kZ K):=by
 exists F.bQ lE;let#[l1,l2,ns,zs,ts,rfl,gx,lX,tz,nd,h8,lW,k]:=h;let hu:=gc hr;let hu3:=hr.units;let sz:=cJ
 apply#[_,aw (bq 2 lE.nd FR)
  (aw (eW d8 Z (dI (pv 0)) (cz 3 lE.nd)
   (aF (uQ hu (pv 2) (pv 3) (iL ["other","hand","ties"] 1 [3,1] (dI (pv 0)) (λfp s H=>eO (i:=0) (show (["other","hand","ties"]:ae).Nodup by decide +kernel) Z (Or.inl Z))
    (λfp s H=>Fm (fI (QF (K:=K) (λK=>zw K (r2 K rS rS) false) (MK (Fp g_ g_) (oj hr _))) (bc cL hr %[1,0|0]) (pv 2) (by with_unfolding_all rfl))) (λfp s H=>pv 0)) Z)))
  (aF (bx (pv 2)))),?_]
 intro d hd;have s0:aa H (upd H d (.dK [])):=aa.new hd
 apply#[_,Z,l1,Z,#[_,.of (s0 _ _ gx)],ib (K:=K) (a:=l1) (xs:=ns.map V.str) (λi σ H2=>∃(v3:aJ) (as:au),σ=[some (.ref l1),some (.ref l2),some (.ref d),v3]/\aa H H2/\as.length=i/\H2 d\.dK (tN (ns.take i) as) /\
  ∀(j:Nat) n a,ns[j]? = some n->as[j]? = some a->H a=none/\a≠d/\H2 a\.lst ((near ns ts n).map V.str)) #[none,[],Z,s0,Z,ay,λj n a _ e=>by simp at e] (λi σ H2 _ ⟨_,_,_,s2,_⟩=>.of (s2 _ _ gx)) ?_ ?_]
 ·rintro i y σ H2 hy ⟨v3,as,rfl,s2,la,hd2,lists⟩;let#[n,hn,rfl]:=mz hy;have hi:i<ns.length:=(bY.mp hn).1
  have lk:(tN (ns.take i) as).length=i:=by
   unfold tN;rw[aq,List.length_zip,dG];omega
  apply#[_,Z,l1,Z,#[_,.of (s2 _ _ gx)],λD hD=>?_];apply i9 (own:=1) (fv:=[some (.str n),some (.ref l2)]) (xs:=ns.map V.str) Z fh (λj out H'=>aa H2 H'/\H' D\.lst out/\out=((ns.take j).filter λo=>decide (aH n o∈ts)).map V.str) #[aa.new hD,ay,Z] (λj out H' _ ⟨sm,_,_⟩=>.of (sm _ _ (s2 _ _ gx))) (λout H' ⟨sm,cQ,eo⟩=>?_) (λj x out H' hx ⟨sm,cQ,eo⟩=>?_)
  ·rw[aq,eN] at eo
   have ux:a9 (tN (ns.take i) as) (Sum.inr n)=none:=u0 λm=>by
    unfold tN at m;rw[cj] at m;let#[p,hp,e]:=bC.mp m;have e:p.1=n:=hZ e;let q:=FP (g:=id) (by rw[List.map_id];exact nd) hn;rw[List.map_id] at q;exact q (e▸(List.of_mem_zip hp).1)
   have QI:D≠d:=λz=>by subst z;rw[hD] at hd2;cases hd2
   apply#[_,Z,_,Z,d,_,Z,.k (k:=Sum.inr n) (sm _ _ hd2) Z1,?_];apply#[_,as++[D],Z,λc o e=>?_,by rw[d_,la];rfl,?_,λj n' a Em ha=>?_]
   ·rw[ax (bu e hd)];exact sm _ _ (s2 _ _ e)
   ·rw[ay,wV _ ux];congr 2;unfold tN;rw[pY,hn,List.zip_append (by rw[dG];omega),eU];rfl
   by_cases hj:j<as.length
   ·rw[yx hj] at ha;let#[q1,q2,q3]:=lists j n' a Em ha;apply#[q1,q2,?_];rw[ax q2];exact sm _ _ q3
   have hj2:j=i:=by
    have:=(bY.mp ha).1;rw[d_] at this;simp only[jZ] at this;omega
   subst hj2;rw[Bg Z1,la,Nat.sub_self] at ha;have ha:D=a:=⇑ha
   subst ha;rw[hn] at Em;cases Em;apply#[s2.free hD,QI,?_];rw[ax QI,cQ,eo];rfl
  let#[o,ho,rfl]:=mz hx;apply#[_,Z,Z,λNx hN=>?_];apply#[_,Z,_,Z,n,o,Z,λt ht=>?_];have s3:aa H' (upd H' t (.tup [.str (aH n o).1,.str (aH n o).2])):=aa.new ht;let V8:=((tz.same s2).same sm).same s3
  have lo:out.length<sizeLine:=by
   rw[eo,aq];have:=Be (λo=>decide (aH n o∈ts)) (ns.take j);rw[dG] at this;omega
  apply#[_,Z,aH n o,ts,#[t,_,_,Z,.of ay,Z,Z],#[l2,zs,Z,.of (s3 _ _ (sm _ _ (s2 _ _ lX))),Nh V8],_,Z,?_];apply cw (λc=>?_) (λc=>?_)
  ·apply#[_,Z,out,s3 _ _ cQ,lo,hN _ _ #[fo (sm.trans s3) hD,ay,?_]];have c:decide (aH n o∈ts)=true:=⇑c
   rw[Jt _ ho,aI c,eU,eo];rfl
  apply hN _ _ #[sm.trans s3,s3 _ _ cQ,?_];have c:¬decide (aH n o∈ts)=true:=⇑c
  rw[Jt _ ho,aB c,List.append_nil,eo]
 rintro σ H2 ⟨v3,as,rfl,s2,la,hd2,lists⟩;rw[aq] at la hd2;rw[eN] at hd2;exact#[_,Z,k d as _ s2 hd la hd2 λj n a h1 h2=>#[(lists j n a h1 h2).1,(lists j n a h1 h2).2.2]]
end
end Ev
namespace Ev
open PySem L2
abbrev q_:Stmt:=ml oJ 0
abbrev vB:Stmt:=ml oJ 1
abbrev lP:Stmt:=ml oJ 2
abbrev Og:Stmt:=ml oJ 3
abbrev lJ:Stmt:=ml oJ 4
abbrev qN:Stmt:=ml oJ 5
def E5:av->Str
 |.inr a::_=>a
 |_=>⟨#[]⟩
def J4:av->Str × Str
 |[.inr a,.inr b]=>(a,b)
 |_=>(⟨#[]⟩,⟨#[]⟩)
def aS(hs:Xa):ae:=(bg (hs.map kH)).map E5
def bM(ts:Xb):Xb:=(bg (ts.map λt=>kT (aH t.1 t.2))).map J4
theorem OB(ts:Xb):(bM ts).map kT=bg (ts.map λt=>kT (aH t.1 t.2)):=by
 unfold bM;rw[cj]
 have all:∀k∈bg (ts.map λt=>kT (aH t.1 t.2)),∃t:Str × Str,k=kT t:=λk hk=>by
  let#[t,_,e]:=bC.mp ((tV _).mem_iff.mp hk);exact#[_,e.symm]
 generalize bg (ts.map λt=>kT (aH t.1 t.2))=l at all
 induction l with
 |nil=>rfl
 |cons k l ih=>
  let#[t,rfl]:=all k gd;rw[eI,ih λk hk=>all k (fP _ hk)];rfl
theorem Ux(hs:Xa):∀k∈bg (hs.map kH),∃h:Str × Int,h∈hs/\k=kH h:=λk hk=>by
 let#[t,ht,e]:=bC.mp ((tV _).mem_iff.mp hk);exact#[t,ht,e.symm]
theorem TK(hs:Xa):((dC hs).map λkv=>kV kv.1)=(aS hs).map V.str:=by
 unfold dC aS;rw[cj,cj];apply uY λk hk=>?_;let#[h,_,rfl]:=Ux hs k hk;rfl
theorem Tu(hs:Xa):(dC hs).map (·.1)=(aS hs).map Sum.inr:=by
 unfold dC aS;rw[cj,cj];apply uY λk hk=>?_;let#[h,_,rfl]:=Ux hs k hk;rfl
theorem gL(hs:Xa):(aS hs).Perm (hs.map (·.1)):=by
 unfold aS;let p:=(tV (hs.map kH)).map E5;rw[cj] at p;exact p
theorem Jx{κ:Type}[DecidableEq κ]{kvs:List (κ × V)}{k:κ}(h:k∈kvs.map (·.1)):(a9 kvs k).isSome=true:=by
 rw[<- BX];let#[p,hp,e]:=bC.mp h;exact List.any_eq_true.mpr #[p,hp,dc e]
theorem IF{hs:Xa}{n:Str}:(a9 (dC hs) (Sum.inr n)).isSome=decide (n∈hs.map (·.1)):=by
 by_cases h:n∈hs.map (·.1)
 ·rw[dc h];apply Jx ?_;rw[Tu];exact bC.mpr #[n,(gL hs).mem_iff.mpr h,Z]
 rw[eG h,u0]
 ·rfl
 rw[Tu];intro m;let#[x,hx,e]:=bC.mp m;cases e;exact h ((gL hs).mem_iff.mp hx)
theorem rX:¬((uN:Str)="sorted_pairs"):=by decide +kernel
theorem Dt:¬((uN:Str)=BJ):=by decide +kernel
def fi(d1 l2 d3:Addr):List (Str × V):=az BJ (.ref d3) (az "sorted_pairs" (.ref l2) (az uN (.ref d1) []))
theorem Ia(d1 l2 d3:Addr):(fi d1 l2 d3).lookup (uN:Str)\.ref d1:=by
 unfold fi;rw[gj,aB Dt,gj,aB rX,gj,aI Z]
theorem Ri(d1 l2 d3:Addr):(fi d1 l2 d3).lookup (BJ:Str)\.ref d3:=by
 unfold fi;rw[gj,aI Z]
theorem pW(d1 l2 d3:Addr){m:Str}(h1:¬m=uN)(h2:¬m="sorted_pairs")(h3:¬m=BJ):(fi d1 l2 d3).lookup m=none:=by
 unfold fi;rw[gj,aB h3,gj,aB h2,gj,aB h1]
 all_goals rfl
structure iz (K:aj) (C:Addr) (H:Hp) (p:Addr) (hs:Xa) (ts:Xb) (fp:au):Prop where
 ex:∃(dx d1 l2 d3:Addr) (zs:ai) (as:au),fp=p::d1::l2::d3::as/\H p\.ins C dx (fi d1 l2 d3)/\H d1\.dK (dC hs)/\H l2\.lst zs/\bT K H zs ((bM ts).map kT)/\H d3\.dK (tN (aS hs) as)/\as.length=(aS hs).length /\
  ∀(i:Nat) n a,(aS hs)[i]? = some n->as[i]? = some a->H a\.lst ((near (aS hs) (bM ts) n).map V.str)
theorem iz.keep{K:aj}{C:Addr}{H H':Hp}{p:Addr}{hs:Xa}{ts:Xb}{fp:au}(W:iz K C H p hs ts fp)(k:∀b∈fp,∀o,H b\o->H' b\o)(kt:∀b xs,H b\.tup xs->H' b\.tup xs):iz K C H' p hs ts fp:=by
 let#[dx,d1,l2,d3,zs,as,rfl,h1,h2,h3,h4,h5,h6,h7]:=W.ex;apply#[dx,d1,l2,d3,zs,as,Z,k _ Z2 _ h1,k _ Z2 _ h2,k _ Z2 _ h3,Paired.aV h4 λy q ⟨a,e,z⟩=>#[a,e,kt _ _ z],k _ Z2 _ h5,h6,λi n a e1 e2=>k _ ?_ _ (h7 i n a e1 e2)];have:=cX e2;simp[this]
theorem iz.same{K:aj}{C:Addr}{H H':Hp}{p:Addr}{hs:Xa}{ts:Xb}{fp:au}(W:iz K C H p hs ts fp)(s:aa H H'):iz K C H' p hs ts fp:=W.keep (λb _ o e=>s b o e) λb xs e=>s b _ e
structure Good (hs:Xa) (ts:Xb):Prop where
 aA:∀h∈hs,oa h
 uC:(hs.map (·.1)).Nodup
 h1:1<=hs.length
 h8:hs.length<=8
 tok:∀t∈ts,wI t
 Cw:(ts.map λt=>kT (aH t.1 t.2)).Nodup
 xp:ts.length<64
 uq:∀t∈ts,t.1∈hs.map (·.1)/\t.2∈hs.map (·.1)
theorem Good.rT{hs:Xa}{ts:Xb}(G:Good hs ts):(aS hs).Nodup:=(gL hs).nodup_iff.mpr G.uC
theorem Good.iS{hs:Xa}{ts:Xb}(G:Good hs ts):(aS hs).length=hs.length:=by
 rw[(gL hs).length_eq,aq]
structure Txt (K:aj) (mg:Str->Option Aa) (C:Addr):Prop where
 cl:mJ K C
 nS:mj K C uN
 nP:mj K C "sorted_pairs"
 nN:mj K C BJ
section v
theorem lF:bG ["self","hands","ties","strengths","checked"] ["self","hands","ties"] (aX q_):=bR
inductive k9 (K:aj) (C:Addr) (vs:ai) (H:Hp) (Q:VK) (E:XK):Prop
 |mk:∀(p dx lh lt:Addr) (ys zs:ai) (hs:Xa) (ts:Xb),vs=[.ref p,.ref lh,.ref lt]->H p\.ins C dx []->H lh\.lst ys->bT K H ys (hs.map kH)->H lt\.lst zs->bT K H zs (ts.map kT)->Good hs ts->(∀fp H',(∀b o,H b\o->b≠p->H' b\o)->iz K C H' p hs ts fp->(∀b∈fp,b=p∨H b=none)->Q .non H')->k9 K C vs H Q E
theorem Zn{f C:Addr}{fd:Ae}(F:bj K "__init__" "Web.__init__" q_ f fd)(T:Txt K mg C)(B:Bi mg)(cS:!bp 4 "checked_strengths" ["hands"] (xq K))(cT:!bp 4 "checked_ties" ["ties","strengths"] (kU K))(cN:!bp 2 "neighbours_of_all" ["names","ties"] (kZ K)) :
  ao P w K mg base aZ 5 f fd ["self","hands","ties"] (k9 K C):=by
 exists F.bQ lF;let#[p,dx,lh,lt,ys,zs,hs,ts,rfl,hp,fY,th,d5,tt,G,k]:=h
 apply#[_,aw (bq 3 lF.nd (bc cS hr %[1|0]))
  (aw (bq 4 lF.nd (bc cT hr %[2,3|0]))
  (aw (uU (pv 0) (pv 3) Z) (aw (uU (pv 0) (pv 4) Z)
  (aF (uU (pv 0) (bc cN hr %[ja (OY Z) (by rfl) B.list yo %[3|0],4|0]) Z))))),?_]
 apply#[_,Z,lh,ys,hs,Z,fY,th,G.aA,G.uC,G.h1,G.h8,λd1 H1 s1 f1 uE=>?_];apply#[_,Z,_,Z,lt,d1,zs,ts,_,Z,s1 _ _ d5,tt.same s1,G.tok,G.Cw,G.xp,uE,λt ht=>?_,λl2 JO H2 s2 f2 lX tz=>?_]
 ·rw[IF,IF];exact#[dc (G.uq t ht).1,dc (G.uq t ht).2]
 let An:=s2 _ _ uE;let kq:=s2 _ _ (s1 _ _ hp);have p1:p≠d1:=bK kq An nofun;have p2:p≠l2:=bK kq lX nofun;apply#[_,Z,_,Z,p,C,dx,[],Z,kq,T.cl,T.nS,by show 0<1000;decide,?_];apply#[_,Z,_,Z,p,C,dx,_,Z,ay,T.cl,T.nP,by show 1<1000;decide,?_]
 let H3:Hp:=upd (upd H2 p (.ins C dx (az uN (.ref d1) []))) p (.ins C dx (az "sorted_pairs" (.ref l2) (az uN (.ref d1) [])))
 have h3:∀{b o},H2 b\o->b≠p->H3 b\o:=λe ne=>by
  show upd (upd H2 p _) p _ _=_;rw[ax ne,ax ne];exact e
 have MH:H3 p\.ins C dx (az "sorted_pairs" (.ref l2) (az uN (.ref d1) [])):=ay
 have Dh:∀{b},H3 b=none->H2 b=none:=λ{b} e=>by
  by_cases z:b=p
  ·subst z;rw[MH] at e;cases e
  have e:upd (upd H2 p _) p _ b=none:=e;rw[ax z,ax z] at e;exact e
 have P_:bT K H3 JO ((bM ts).map kT):=by
  rw[OB];exact Paired.aV tz λy q ⟨a,e,z⟩=>#[a,e,h3 z (bK z kq nofun)]
 apply#[_,Z,d1,_,Z,.inl (h3 An p1.symm),λl1 gx=>?_];rw[TK];have s4:aa H3 (upd H3 l1 (.lst ((aS hs).map V.str))):=aa.new gx;have K5:l1≠l2:=(bu (H:=H3) (h3 lX p2.symm) gx).symm;apply#[_,Z,l1,l2,aS hs,JO,bM ts,Z,ay,s4 _ _ (h3 lX p2.symm),P_.same s4,G.rT,by rw[G.iS];have:=G.h8;omega,K5,λd3 as H5 s5 f5 la l5 lists=>?_];let LO:=s5 _ _ (s4 _ _ MH);apply#[_,Z,p,C,dx,_,Z,LO,T.cl,T.nN,by show 2<1000;decide,?_]
 have up:∀{b o},H2 b\o->b≠p->upd H5 p (.ins C dx (fi d1 l2 d3)) b\o:=λe ne=>by
  rw[ax ne];exact s5 _ _ (s4 _ _ (h3 e ne))
 have oY:∀{b},upd H3 l1 (.lst ((aS hs).map V.str)) b=none->H b=none:=λe=>s1.free (s2.free (Dh (s4.free e)));have Mq:d3≠p:=(bu (s4 _ _ MH) f5).symm;apply k (p::d1::l2::d3::as) _ (λb o e ne=>up (s2 _ _ (s1 _ _ e)) ne) #[dx,d1,l2,d3,JO,as,Z,ay,up An p1.symm,up lX p2.symm,?_,?_,la,λi n a e1 e2=>?_] λb hb=>?_
 ·exact Paired.aV (P_.same (s4.trans s5)) λy q ⟨a,e,z⟩=>#[a,e,by rw[ax (bK z LO nofun)];exact z]
 ·rw[ax Mq];exact l5
 ·let#[q1,q2]:=lists i n a e1 e2;rw[ax (bK q2 LO nofun)];exact q2
 simp only[bV] at hb;rcases hb with rfl|rfl|rfl|rfl|hb
 ·exact .inl Z
 ·exact .inr f1
 ·exact .inr (s1.free f2)
 ·exact .inr (oY f5)
 let#[i,hi,e]:=hJ hb;have e1:as[i]? = some b:=by rw[aQ hi,e]
 have hn:i<(aS hs).length:=by omega
 exact .inr (oY (lists i _ b (aQ hn) e1).1)
end
end Ev
namespace Ev
open PySem L2
structure bO (P:Ad) (w:Af) (K:aj) (mg:Str->Option Aa) (base:Heap) (C:Addr) (k:Nat) (m:Str) (ps:ae) (sp:Sp):Prop where
 ex:∃f fd,ao P w K mg base aZ k f fd ps sp/\Meth K C m f/\pK K fd ps []
theorem ji{X:Cx}{C:Addr}{k:Nat}{m:Str}{ps:ae}{sp:Sp}{pos apos:Pos}{o e:Expr}{es:List Expr}{ta:TE}{t:TA}{pl:Sem Bool}(c:bO X.prog X.w X.K X.mg X.base C k m ps sp)(cl:mJ X.K C)(hr:aP k X.A)(he:PE X o ta)(ha:PA X (e::es) t)
  (zU:starEach (e::es) X.env=(false,eval e X.env)::starEach es X.env:=by rfl) (iq:(backTo pos (starEach es X.env)).any (·.1)=false:=by rfl)
  (ht:eval (.Call (.Attribute o m apos) (e::es) [] pos) X.env=(do
   let ov <- eval o X.env
   standAt apos.atName
   let (f,first) <- holding [ov] (getMethod ov m pl)
   callWith pos f first (backTo pos (starEach (e::es) X.env)) (backToKw pos (keywordEach [] X.env))):=by rfl) :
  PE X (.Call (.Attribute o m apos) (e::es) [] pos) (mP C m sp [] E0 ta t):=by
 let#[f,fd,F,hm,b]:=c.ex;exact ZS he cl hm F hr b .nil nE ha zU iq ht
theorem AQ{X:Cx}{C:Addr}{k:Nat}{m:Str}{ps:ae}{sp:Sp}{pos apos:Pos}{o:Expr}{ta:TE}{pl:Sem Bool}(c:bO X.prog X.w X.K X.mg X.base C k m ps sp)(cl:mJ X.K C)(hr:aP k X.A)(he:PE X o ta)
  (ht:eval (.Call (.Attribute o m apos) [] [] pos) X.env=(do
   let ov <- eval o X.env
   standAt apos.atName
   let (f,first) <- holding [ov] (getMethod ov m pl)
   callWith pos f first (backTo pos (starEach [] X.env)) (backToKw pos (keywordEach [] X.env))):=by rfl) :
  PE X (.Call (.Attribute o m apos) [] [] pos) (mP C m sp [] E0 ta oG):=by
 let#[f,fd,F,hm,b]:=c.ex;exact _Y he cl hm F hr b .nil nE ht
theorem fF_{hs:Xa}(nd:(hs.map (·.1)).Nodup){x:Str}{n:Int}(h:(x,n)∈hs):a9 (dC hs) (Sum.inr x)\.int n:=by
 have m:((Sum.inr x:Key),V.int n)∈dC hs:=by
  unfold dC;apply bC.mpr #[kH (x,n),(tV _).mem_iff.mpr (bC.mpr #[_,h,Z]),Z]
 let nk:=UU nd;generalize dC hs=kvs at m nk
 induction kvs with
 |nil=>cases m
 |cons p r ih=>
  let#[n1,n2]:=js.mp nk;rcases bV.mp m with e|m
  ·rw[<- e];exact AZ Z
  rw[A1 (λe:p.1=Sum.inr x=>n1 (bC.mpr #[_,m,e.symm]))];exact ih m n2
theorem gJ_{ns:ae}{as:au}(nd:ns.Nodup)(la:as.length=ns.length){i:Nat}{n:Str}(hn:ns[i]? = some n):∃a,as[i]? = some a/\a9 (tN ns as) (Sum.inr n)\.ref a:=by
 induction ns generalizing as i with
 |nil=>simp at hn
 |cons x ns ih=>
  cases as with
  |nil=>cases la
  |cons b as=>
   let#[n1,n2]:=js.mp nd;cases i with
   |zero=>
    have e:x=n:=⇑hn
    subst e;exact#[b,Z,AZ Z]
   |succ i=>
    have hn:ns[i]? = some n:=⇑hn
    let#[a,h1,h2]:=ih n2 ⇑la hn;apply#[a,by simpa using h1,?_];show a9 ((Sum.inr x,V.ref b)::tN ns as) (Sum.inr n)=_;rw[A1 λe=>n1 (by rw[show x=n from hZ e];exact cX hn)];exact h2
section v
theorem xt:bG oi oi (aX vB):=bR
inductive jy (K:aj) (C:Addr) (vs:ai) (H:Hp) (Q:VK) (E:XK):Prop
 |mk:∀(p:Addr) (x:Str) (hs:Xa) (ts:Xb) (fp:au),vs=[.ref p,.str x]->iz K C H p hs ts fp->Q (.bl (decide (x∈hs.map (·.1)))) H->jy K C vs H Q E
theorem ZD{f C:Addr}{fd:Ae}(F:bj K "has_hand" "Web.has_hand" vB f fd)(T:Txt K mg C)(B:Bi mg):!ao aZ 1 f fd oi (jy K C):=by
 exists F.bQ xt;let#[p,x,hs,ts,fp,rfl,W,k]:=h;let hu:=gc hr;let#[dx,d1,l2,d3,zs,as,rfl,h1,h2,h3,h4,h5,h6,h7]:=W.ex;apply#[_,aF (bx (tJ (cO jX (by rfl) B.jg jq %[1,jW (v:=.ty "str") (by rfl) B.str Ic Z|0]) (uT (ID (BM hu (pv 1) (gN (pv 0) Z)))))),?_];apply#[_,Z,_,_,_,_,Z,.str x,Z,_,Z,dj ?_];apply#[_,Z,_,Z,p,C,dx,_,_,Z,h1,T.cl,T.nS,Ia _ _ _,d1,_,Z,.k (k:=Sum.inr x) h2,?_];rw[IF];exact k
theorem vA:bG o5 o5 (aX lP):=bR
inductive FG (K:aj) (C:Addr) (vs:ai) (H:Hp) (Q:VK) (E:XK):Prop
 |mk:∀(p:Addr) (hs:Xa) (ts:Xb) (fp:au),vs=[.ref p]->iz K C H p hs ts fp->(∀l,H l=none->Q (.ref l) (upd H l (.lst ((aS hs).map V.str))))->FG K C vs H Q E
theorem _D{f C:Addr}{fd:Ae}(F:bj K "hands" "Web.hands" lP f fd)(T:Txt K mg C)(B:Bi mg):!ao aZ 1 f fd o5 (FG K C):=by
 exists F.bQ vA;let#[p,hs,ts,fp,rfl,W,k]:=h;let#[dx,d1,l2,d3,zs,as,rfl,h1,h2,h3,h4,h5,h6,h7]:=W.ex;apply#[_,aF (bx (ja (OY Z) (by rfl) B.list yo %[gN (pv 0) Z|0])),?_];apply#[_,Z,p,C,dx,_,_,Z,h1,T.cl,T.nS,Ia _ _ _,d1,_,Z,.inl h2,λl hl=>?_];rw[TK];exact k l hl
theorem ef':bG wH wH (aX Og):=bR
inductive JC (K:aj) (C:Addr) (vs:ai) (H:Hp) (Q:VK) (E:XK):Prop
 |mk:∀(p:Addr) (x:Str) (n:Int) (hs:Xa) (ts:Xb) (fp:au),vs=[.ref p,.str x]->iz K C H p hs ts fp->(hs.map (·.1)).Nodup->(x,n)∈hs->Q (.int n) H->JC K C vs H Q E
theorem eo_{f C:Addr}{fd:Ae}(F:bj K "strength" "Web.strength" Og f fd)(T:Txt K mg C)(cH:!bO C 1 "has_hand" oi (jy K C)):!ao aZ 2 f fd wH (JC K C):=by
 apply F.bQ ef' λaK A outer s H vs Q E hr h=>?_;let#[p,x,n,hs,ts,fp,rfl,W,nd,hx,k]:=h;let hu:=gc hr;let#[dx,d1,l2,d3,zs,as,rfl,h1,h2,h3,h4,h5,h6,h7]:=id W.ex;apply#[_,aw (cg (eX (eP (ji cH T.cl hr (pv 0) %[1|0]))) gA cq) (aF (bx (oq hu (gN (pv 0) Z) (pv 1)))),?_];apply#[_,Z,p,dx,_,Z,h1,pW _ _ _ Z0 Z0 Z0,_,Z,p,x,hs,ts,_,Z,W,_,Z,?_];rw[dc (bC.mpr #[_,hx,Z])];apply aM ?_;apply#[_,Z,p,C,dx,_,_,Z,h1,T.cl,T.nS,Ia _ _ _,_,Z,d1,_,Z,?_,k];rw[<- fF_ nd hx];exact .k (k:=Sum.inr x) h2
theorem vy:bG wH wH (aX lJ):=bR
inductive Oe (K:aj) (C:Addr) (vs:ai) (H:Hp) (Q:VK) (E:XK):Prop
 |mk:∀(p:Addr) (x:Str) (hs:Xa) (ts:Xb) (fp:au),vs=[.ref p,.str x]->iz K C H p hs ts fp->(aS hs).Nodup->x∈hs.map (·.1)->(∀l,H l=none->Q (.ref l) (upd H l (.lst ((near (aS hs) (bM ts) x).map V.str))))->Oe K C vs H Q E
theorem Rc{H:Hp}{hs:Xa}{ts:Xb}{as:au}{x:Str}(nd:(aS hs).Nodup)(hx:x∈hs.map (·.1))(la:as.length=(aS hs).length)
  (h7:∀(i:Nat) n a,(aS hs)[i]? = some n->as[i]? = some a->H a\.lst ((near (aS hs) (bM ts) n).map V.str)):∃a,a9 (tN (aS hs) as) (Sum.inr x)\.ref a/\H a\.lst ((near (aS hs) (bM ts) x).map V.str):=by
 let#[i,hi,e]:=hJ ((gL hs).mem_iff.mpr hx);have hn:(aS hs)[i]? = some x:=by rw[aQ hi,e]
 let#[a,h1,h2]:=gJ_ nd la hn;exact⟨a,h2,h7 i x a hn h1⟩
theorem ht_{f C:Addr}{fd:Ae}(F:bj K "neighbours" "Web.neighbours" lJ f fd)(T:Txt K mg C)(B:Bi mg)(cH:!bO C 1 "has_hand" oi (jy K C)):!ao aZ 2 f fd wH (Oe K C):=by
 exists F.bQ vy;let#[p,x,hs,ts,fp,rfl,W,nd,hx,k]:=h;let hu:=gc hr;let#[dx,d1,l2,d3,zs,as,rfl,h1,h2,h3,h4,h5,h6,h7]:=id W.ex;let#[a,e1,ha]:=Rc nd hx h6 h7;apply#[_,aw (cg (eX (eP (ji cH T.cl hr (pv 0) %[1|0]))) gA cq) (aF (bx (ja e8_ (by rfl) B.list yo %[oq hu (gN (pv 0) Z) (pv 1)|0]))),?_];apply#[_,Z,p,dx,_,Z,h1,pW _ _ _ Z0 Z0 Z0,_,Z,p,x,hs,ts,_,Z,W,_,Z,?_];rw[dc hx];apply aM ?_;apply#[_,Z,p,C,dx,_,_,Z,h1,T.cl,T.nN,Ri _ _ _,_,Z,d3,.ref a,Z,?_,a,_,Z,.inl (.of ha),k];rw[<- e1];exact .k (k:=Sum.inr x) h5
theorem y4:bG j0 j0 (aX qN):=bR
theorem Nt{H:Hp}:∀ns:ae,Paired (rS H) (ns.map V.str) ns
 |[]=>.nil
 |_::ns=>.cons Z (Nt ns)
end
end Ev
namespace L2
open PySem PySem.Spec PyProof.Rows PySem.W
theorem Inv.iN{X:Cx}{pins:List (Addr × Obj)}{σ:St}{H:Hp}{s:Ab}{h':Heap}{t':Nat}{fp:au}{T:Addr}{xs:ai}{its:ag}(I:Inv X pins σ H s)(k:∀b o,b∉fp->s.heap.get? b\o->h'.get? b\o)(hf:∀b∈fp,dA X pins H b)
  (hT:s.heap.objs.size<=T) (hz:xs.length<=sizeLine) (r:Vals xs its) (ht:IsTup h' T its.toArray/\∃o,h'.get? T\o/\o.dict=none):Inv X pins σ (upd H T (.tup xs)) { s with heap:=h',toks:=t' }:=by
 have fT:H T=none:=I.aA.fresh hT;have nf:∀b u,H b\u->b∉fp:=λb u e hb=>by rw[(hf b hb).1] at e;cases e
 have old:∀{b u},H b\u->upd H T (.tup xs) b\u:=λe=>by rw[ax (bu e fT)];exact e
 apply I.step (g':=s.gens) (d':=s.drawn) (ch:=fp) (λb hb=>?_) (λb o _ _ hc e _=>k b o hc e) (λb o _ _ hc e _=>#[o.slots,k b o hc e]) (λb o _ e n=>?_)
  (λb o hc e=>#[o,k b o hc e]) (λb ys e=>old e) (λb o u e=>old e) (λb ps e=>#[#[],by rw[Array.append_empty];exact old e]) (λm hm=>?_) (λb u e=>?_) I.bare
 ·let#[f0,f1,f2,f3,f4,f5]:=hf b hb;exact#[f3,f1,f4,f5]
 ·rw[ax (λz=>by subst z;exact absurd (bz e) (Nat.not_lt.mpr hT))];exact n
 ·let#[o,es,ep,ho,r]:=hm;exact#[o,es,ep,k _ o (λhb=>(hf _ hb).2.1 Z) ho,r]
 by_cases z:b=T
 ·subst z;rw[ay] at e;cases e;exact#[hz,its,r,ht]
 rw[ax z] at e;apply (I.aA b u e).er (λc v hc q=>k c v ?_ q) (λ_ q=>old q) λ_ _ q=>old q;rcases hc with z|z
 ·rw[z];exact nf b u e
 exact nf c _ z
theorem Inv.gP{X:Cx}{pins:List (Addr × Obj)}{σ:St}{H:Hp}{s:Ab}{h':Heap}{t':Nat}{fp:au}(I:Inv X pins σ H s)(k:∀b o,b∉fp->s.heap.get? b\o->h'.get? b\o)(hf:∀b∈fp,dA X pins H b):Inv X pins σ H { s with heap:=h',toks:=t' }:=by
 have nf:∀b u,H b\u->b∉fp:=λb u e hb=>by rw[(hf b hb).1] at e;cases e
 apply I.step (g':=s.gens) (d':=s.drawn) (ch:=fp) (λb hb=>?_) (λb o _ _ hc e _=>k b o hc e) (λb o _ _ hc e _=>#[o.slots,k b o hc e]) (λb o _ e n=>n)
  (λb o hc e=>#[o,k b o hc e]) (λb ys e=>e) (λb o u e=>e) (λb ps e=>#[#[],by rw[Array.append_empty];exact e]) (λm hm=>?_) (λb u e=>?_) I.bare
 ·let#[f0,f1,f2,f3,f4,f5]:=hf b hb;exact#[f3,f1,f4,f5]
 ·let#[o,es,ep,ho,r]:=hm;exact#[o,es,ep,k _ o (λhb=>(hf _ hb).2.1 Z) ho,r]
 apply (I.aA b u e).er (λc v hc q=>k c v ?_ q) (λ_ q=>q) λ_ _ q=>q;rcases hc with z|z
 ·rw[z];exact nf b u e
 exact nf c _ z
end L2
namespace L2
open PySem PySem.Spec PyProof.Rows
section
variable{M:Model}{A:Ag}{E:Aa->Ab->Prop}{s:Ab}{base:Heap}{env:Env}{outer:List Env}{L e:Addr}{cls cx fl:Aa}{Q:Unit->Ab->Prop}
end
end L2
namespace L2
open PySem PySem.Spec PyProof.Rows
section
variable{P:Ad}{w:Af}{H H':Hp}{B h0 h h1:Heap}{l:List Env}
end
section
variable{X:Cx}{pins:List (Addr × Obj)}{σ:St}{H H':Hp}{s s1:Ab}{B h:Heap}{a:Addr}{cls a0:Aa}{E:XK}
end
section
variable{P:Ad}{w:Af}{K:aj}{mg:Str->Option Aa}{base:Heap}{N:ae}{qual:Str}{scope:Scope}{f:Addr}{cd:Aa}{A:Ag}{outer:List Env}{s:Ab}{H:Hp}{E:XK}
end
section
variable{X:Cx}{x:Str}{C:Addr}{bm:ag}{B newId zL:String}{np bZ pos:Pos}{e₀:Expr}{t:TA}{E:XK}
end
section v
end
end L2
namespace L2
open PySem PySem.Spec PySem.Calls PyProof.Rows PySem.W Builtin Builtin.ObjectAttr Builtin.Getset_descriptor
structure P0 (K:aj) (C:Addr):Prop where
 cl:(clsIn K C).isSome=true
 ga:findIn K (.ref C) "__getattribute__"\some (.builtin "BaseException.__getattribute__")
 ha:findIn K (.ref C) "__getattr__"\none
 ca:findIn K (.ref C) "__class__"\some (.builtin "object.__class__")
 gt:specialIn K (.builtin "object.__class__") "__get__"\some (.builtin "getset_descriptor.__get__")
 tk:takesIn K (.builtin "object.__class__")\true
 mo:mroIn K C (.type "object")\true
 mb:mroIn K C (.type "BaseException")\true
section
variable{prog:Ad}{w:Af}{A:Ag}{E:Aa->Ab->Prop}{s:Ab}{K:aj}{x C:Addr}
end
section
variable{X:Cx}
inductive xE (K:aj) (xs:ai) (H:Hp) (Q:VK):Prop
 |mk:∀x C t b,xs=[x,.ref C]->fJ K H x t->PySem.W.kitOne K t (.ref C)\b->Q (.bl b) H->xE K xs H Q
theorem gT_:gy X (.builtin "isinstance") (xE X.K):=by
 intro pins s σ H xs us Q I r h;let#[x,C,t,b,rfl,ty,e,q]:=h;let#[u,w',rfl,ru,je]:=vals2 r;cases (show w'=Value.ref C from je);exact Uu I ru ty e λtk=>#[.bl b,H,I.tok tk,Z,q]
end
end L2
namespace L2
open PySem PySem.Spec PyProof.Rows
section
variable{X:Cx}{pins:List (Addr × Obj)}{σ:St}{H:Hp}{s:Ab}{a:Addr}
end
section
variable{X:Cx}{st:Stmt}{e c:Expr}{te:XS->TE}{t u:XS->TS}{pos:Pos}{a b:List Stmt}{tc:TT}
end
section
variable{X:Cx}{k:Nat}{f C:Addr}{fd:Ae}{ps:ae}{sp:Sp}{gG:ai}{ds:ag}{ES:XS}{x m:Str}{p pos apos:Pos}{e o:Expr}{es:List Expr}{ta:TE}{t:TA}
end
section
variable{X:Cx}{i:Nat}{x n:Str}{D C:Addr}{np zW pos:Pos}{AX:Stmt}{qo body:List Stmt}{tb:XS->TS}{ts:TS}
end
end L2
namespace L2
open PySem
end L2
namespace Ev
open PySem L2
abbrev lT:Stmt:=top 52
abbrev NO:Stmt:=top 53
abbrev NB:Stmt:=top 54
abbrev Fg:Stmt:=top 55
abbrev lS:Stmt:=top 58
abbrev KA:Stmt:=top 20
abbrev Kz:Stmt:=top 21
abbrev rq:Stmt:=top 22
abbrev qZ:Stmt:=top 23
abbrev qX:Stmt:=top 24
abbrev N3:Stmt:=top 13
abbrev N8:Stmt:=top 26
abbrev O8:Stmt:=top 27
abbrev qW:Stmt:=top 28
abbrev NS:Stmt:=top 29
abbrev qO:Stmt:=top 30
abbrev Of:Stmt:=top 31
abbrev NU:Stmt:=top 32
abbrev rC:Stmt:=top 34
abbrev lR:Stmt:=top 35
abbrev qQ:Stmt:=top 36
abbrev NZ:Stmt:=top 37
abbrev qU:Stmt:=top 38
abbrev IU:Stmt:=top 39
abbrev qV:Stmt:=top 40
abbrev N1:Stmt:=top 41
abbrev lM:Stmt:=top 59
abbrev N2:Stmt:=top 60
abbrev lK:Stmt:=top 61
abbrev Nz:Stmt:=top 62
abbrev N0:Stmt:=top 63
abbrev NR:Stmt:=top 64
abbrev lO:Stmt:=top 65
abbrev N_:Stmt:=top 66
abbrev N4:Stmt:=top 67
abbrev qK:Stmt:=top 68
abbrev rA:Stmt:=top 69
abbrev Od:Stmt:=top 70
abbrev Ob:Stmt:=top 71
abbrev e_:Stmt:=top 72
def a_(l:Addr)(H H':Hp):Prop:=∀b o,H b\o->b≠l->H' b\o
theorem a_.refl(l:Addr)(H:Hp):a_ l H H:=λ_ _ e _=>e
theorem a_.trans{l:Addr}{H H1 H2:Hp}(h:a_ l H H1)(h2:a_ l H1 H2):a_ l H H2:=λb o e n=>h2 b o (h b o e n) n
theorem a_.of{l:Addr}{H H1:Hp}(h:aa H H1):a_ l H H1:=λb o e _=>h b o e
theorem a_.upd{l:Addr}{H:Hp}{o:HO}:a_ l H (upd H l o):=λb u e n=>by rw[ax n];exact e
def dB(H:Hp)(l:Addr):Prop:=(∃n:Int,H l\.lst [.int n])∨∃n m c:Int,H l\.lst [.int n,.int m,.int c]
theorem dB.some{H:Hp}{l:Addr}(h:dB H l):∃xs,H l\.lst xs:=by
 rcases h with⟨n,e⟩|⟨n,m,c,e⟩
 ·exact#[_,e]
 exact#[_,e]
theorem a_.free{l b:Addr}{H H':Hp}(h:a_ l H H')(s:dB H' l)(e:H' b=none):H b=none:=by
 cases z:H b with
 |none=>rfl
 |some o=>
  by_cases q:b=l
  ·subst q;let#[xs,e2]:=s.some;rw[e] at e2;cases e2
  rw[h b o z q] at e;cases e
theorem dR{α:Type}{xs:List α}{i:Int}(h0:0<=i)(h1:i<xs.length):iB xs i=xs[i.toNat]?:=by
 unfold iB vR;rw[aI h0,aI h1];rfl
section v
def yq:Sp:=λvs H Q _=>∃(l:Addr) (b:Int),vs=[.ref l,.int b]/\0<b/\b<1073741824/\dB H l/\∀r H',0<=r->r<b->a_ l H H'->dB H' l->Q (.int r) H'
theorem small(x:Int):-(2 ^ 64)<x % 2147483647/\x % 2147483647<2 ^ 64:=by
 let h1:=Int.emod_nonneg x (b:=2147483647) (by decide);let h2:=Int.emod_lt_of_pos x (b:=2147483647) (by decide);exact#[by omega,by omega]
end
end Ev
namespace Ev
open PySem L2
theorem _b:("abcdefghijklmnopqrstuvwxyz":Str).cps.toList=[97,98,99,100,101,102,103,104,105,106,107,108,109,110,111,112,113,114,115,116,117,118,119,120,121,122]:=by decide +kernel
theorem Zv{r:Int}(h0:0<=r)(h1:r<26):∃c,iB ("abcdefghijklmnopqrstuvwxyz":Str).cps.toList r\c/\oT c=true:=by
 rw[_b,dR h0 ⇑h1];have hn:r.toNat<26:=by omega
 apply#[_,aQ ⇑hn,?_];have all:∀c∈[97,98,99,100,101,102,103,104,105,106,107,108,109,110,111,112,113,114,115,116,117,118,119,120,121,122],oT c=true:=by decide +kernel
 exact all _ (kK _)
end Ev
namespace Ev
open PySem L2
def pJ{α:Type}(l:List α)(k:Nat)(x:α):List α:=l.take k++x::l.drop k
theorem FN{α:Type}(l:List α)(k:Nat)(x:α):(pJ l k x).Perm (x::l):=by
 unfold pJ;apply List.perm_middle.trans ?_;rw[List.take_append_drop]
theorem TV{α β:Type}(g:α->β)(l:List α)(k:Nat)(x:α):(pJ l k x).map g=pJ (l.map g) k (g x):=by
 unfold pJ;rw[eU,eI,List.map_take,List.map_drop]
theorem Oo{α β:Type}{F:α->β->Prop}:∀{ys:List α} {ks:List β} (k:Nat) {y:α} {q:β},Paired F ys ks->F y q->Paired F (pJ ys k y) (pJ ks k q)
 |[],_,k,_,_,.nil,h=>by
  unfold pJ;simp only[List.take_nil,List.drop_nil,List.nil_append];exact .cons h .nil
 |y::ys,_,0,_,_,.cons a t,h=>.cons h (.cons a t)
 |y::ys,_,k+1,_,_,.cons a t,h=>.cons a (Oo k t h)
theorem Oh{α:Type}(l:List α)(k:Nat)(x:α):(pJ l k x).length=l.length+1:=(FN l k x).length_eq
theorem Al{α:Type}{a b:α}{r:Int}(h0:0<=r)(h1:r<2):iB [a,b] r\a∨iB [a,b] r\b:=by
 have:r=0∨r=1:=by omega
 rcases this with rfl|rfl
 ·exact .inl Z
 exact .inr Z
theorem L7{α:Type}{p:α->Prop}{a b c d:α}{r:Int}(h0:0<=r)(h1:r<4)(ha:p a)(hb:p b)(hc:p c)(hd:p d):∃x,iB [a,b,c,d] r\x/\p x:=by
 have:r=0∨r=1∨r=2∨r=3:=by omega
 rcases this with rfl|rfl|rfl|rfl
 ·exact#[_,Z,ha]
 ·exact#[_,Z,hb]
 ·exact#[_,Z,hc]
 exact#[_,Z,hd]
section
theorem i_{K:aj}{H H':Hp}{l:Addr}{ys:ai}{ks:List av}(t:bT K H ys ks)(b:a_ l H H'){xs:ai}(hl:H l\.lst xs):bT K H' ys ks:=Paired.aV t λy k ⟨a,z,q⟩=>#[a,z,b _ _ q (bK q hl nofun)]
theorem TU{K:aj}{H:Hp}{D:Addr}{ns:ae}(h:H D\.lst (ns.map V.str)):rL K rS H (.ref D) ns:=#[D,_,Z,.of h,Nt ns]
end
end Ev
namespace Ev
open PySem L2
theorem fb_{K:aj}{a D:Addr}{ys:ai}{hs:Xa}{H:Hp}{Q:VK}{oC:St}(vU:oC=[none,none])(ha:H a\.lst ys)(tu:bT K H ys (hs.map kH))(h8:hs.length<=1000)(hD:H D=none)
  (q:∀H',aa H H'->H' D\.lst ((hs.map (·.1)).map V.str)->Q (.ref D) H'):BL (yD K a) (gF K 2 (pN (kI 0) (pN (kI 1) sr))) qa (oF 0) oC D H Q:=by
 let sz:=cJ;let le:=bw tu;rw[aq] at le;apply i9 (own:=2) (fv:=[]) (xs:=ys) vU we (λi out H'=>aa H H'/\H' D\.lst out/\out=((hs.take i).map (·.1)).map V.str) #[aa.new hD,ay,Z] (λi out H' _ ⟨sm,_,_⟩=>.of (sm _ _ ha)) (λout H4 ⟨sm,iW,eo⟩=>?_) (λj y out H' hy ⟨sm,cQ,eo⟩=>?_)
 ·rw[le,eN] at eo;subst eo;exact q _ sm iW
 let#[h,hh,p,rfl,hp]:=uZ tu hy;apply#[_,#[p,_,_,Z,.of (sm _ _ (zY hp)),Z],Z,λNx hN=>ed ?_];apply#[_,Z,out,cQ,?_,hN _ _ #[fo sm hD,ay,?_]]
 ·rw[eo,aq,aq,dG];omega
 rw[tS _ hh,eU,eo];rfl
def kO(t:Str × Str):av:=kT (aH t.1 t.2)
structure TI (ns:ae) (k j:Nat) (ts:Xb):Prop where
 at':∀t∈ts,∃(a b:Nat) (x y:Str),b<a/\(a<k∨(a=k/\b<j))/\ns[a]? = some x/\ns[b]? = some y/\(t=(x,y)∨t=(y,x))
 nd:(ts.map kO).Nodup
 len:ts.length<=7 * k+j
theorem TI.skip{ns:ae}{k j:Nat}{ts:Xb}(h:TI ns k j ts):TI ns k (j+1) ts:=
 #[λt ht=>let #[a,b,x,y,h1,h2,h3,h4,h5]:=h.at' t ht;#[a,b,x,y,h1,by omega,h3,h4,h5],h.nd,by have:=h.len;omega]
theorem TI.next{ns:ae}{k:Nat}{ts:Xb}(h:TI ns k k ts)(h7:k<=7):TI ns (k+1) 0 ts:=
 #[λt ht=>let #[a,b,x,y,h1,h2,h3,h4,h5]:=h.at' t ht;#[a,b,x,y,h1,by omega,h3,h4,h5],h.nd,by have:=h.len;omega]
theorem Ib{a b:Str × Str}(h:kT a=kT b):a=b:=by
 unfold kT at h;let#[h1,h2]:=List.cons.inj h;let#[h2,_]:=List.cons.inj h2;exact Prod.ext (hZ h1) (hZ h2)
theorem FH{ns:ae}(nd:ns.Nodup){i j:Nat}{x:Str}(h:ns[i]? = some x)(h2:ns[j]? = some x):i=j:=by
 let#[hi,e1]:=bY.mp h;let#[hj,e2]:=bY.mp h2;exact (List.getElem_inj nd).mp (e1.trans e2.symm)
theorem Rt{a b c d:Str}(h:kO (a,b)=kO (c,d)):(a=c/\b=d)∨(a=d/\b=c):=by
 let h:=Ib h;dsimp only at h;rcases BU a b with e|e<;>rcases BU c d with e2|e2<;>rw[e,e2] at h<;>let h1:=(Prod.mk.inj h).1<;>let h2:=(Prod.mk.inj h).2
 ·exact .inl #[h1,h2]
 ·exact .inr #[h1,h2]
 ·exact .inr #[h2,h1]
 exact .inl #[h2,h1]
theorem TI.add{ns:ae}{k j:Nat}{ts:Xb}(h:TI ns k j ts)(nd:ns.Nodup){x y:Str}{t:Str × Str}(hj:j<k)(hx:ns[k]? = some x)(hy:ns[j]? = some y)(ht:t=(x,y)∨t=(y,x))(q:Nat):TI ns k (j+1) (pJ ts q t):=by
 apply#[λu hu=>?_,?_,by have:=h.len;rw[Oh];omega]
 ·rcases bV.mp ((FN _ _ _).mem_iff.mp hu) with rfl|hu
  ·exact#[k,j,x,y,hj,.inr #[Z,by omega],hx,hy,ht]
  exact h.skip.at' u hu
 apply ((FN ts q t).map kO).nodup_iff.mpr ?_;rw[eI];apply js.mpr #[λm=>?_,h.nd];let#[u,hu,e]:=bC.mp m;let#[a,b,c,d,h1,h2,h3,h4,h5]:=h.at' u hu
 have key:(c=x/\d=y)∨(c=y/\d=x):=by
  rcases h5 with rfl|rfl<;>rcases ht with rfl|rfl<;>rcases Rt e with⟨q1,q2⟩|⟨q1,q2⟩<;>simp_all
 rcases key with⟨rfl,rfl⟩|⟨rfl,rfl⟩
 ·have:=FH nd h3 hx;have:=FH nd h4 hy;omega
 have:=FH nd h3 hy;have:=FH nd h4 hx;omega
theorem TI.good{ns:ae}{k j:Nat}{ts:Xb}(h:TI ns k j ts)(nd:ns.Nodup)(ok:∀n∈ns,iA n=true):∀t∈ts,wI t/\t.1∈ns/\t.2∈ns:=λt ht=>by
 let#[a,b,x,y,h1,h2,h3,h4,h5]:=h.at' t ht;let mx:=cX h3;let my:=cX h4
 have ne:x≠y:=λe=>by
  subst e;have:=FH nd h3 h4;omega
 rcases h5 with rfl|rfl
 ·exact#[#[ok _ mx,ok _ my,ne],mx,my]
 exact#[#[ok _ my,ok _ mx,ne.symm],my,mx]
theorem _F(ns:ae)(k:Nat):dQ (ns.map V.str) none (some (k:Int))=(ns.take k).map V.str:=by
 unfold dQ;rw[HT.eD,HT.dW,List.drop_zero,Nat.sub_zero,List.map_take,aq];by_cases h:k<=ns.length
 ·rw[Nat.min_eq_left h]
 rw[Nat.min_eq_right Z1,tW (by rw[aq];omega),tW (by rw[aq];omega)]
theorem dB.same{H H':Hp}{l:Addr}(h:dB H l)(s:aa H H'):dB H' l:=by
 rcases h with⟨n,e⟩|⟨n,m,c,e⟩
 ·exact .inl #[n,s _ _ e]
 exact .inr #[n,m,c,s _ _ e]
end Ev
namespace Ev
open PySem L2
theorem h2_{a b:Str}(h:zH a b=true):zH b a=false:=Um (a:=Sum.inr a) (b:=Sum.inr b) h
theorem Y8{a b:Str}(h:zH a b=false)(h2:zH b a=false):a=b:=hZ (Sj (a:=Sum.inr a) (b:=Sum.inr b) h h2)
theorem OJ(a b:Str):aH a b=aH b a:=by
 unfold aH;by_cases h:zH a b=true
 ·rw[aI h,aB (by rw[h2_ h];decide)]
 by_cases h2:zH b a=true
 ·rw[aB h,aI h2]
 have:=Y8 ⇑h ⇑h2;subst this;rw[aB h]
theorem I0{ts:Xb}{x:Str × Str}:x∈bM ts ↔ ∃t∈ts,aH t.1 t.2=x:=by
 have e:kT x∈(bM ts).map kT ↔ x∈bM ts:=#[λh=>by
  let#[y,hy,e]:=bC.mp h;rw[<- Ib e];exact hy,λh=>bC.mpr #[x,h,Z]]
 rw[<- e,OB,(tV _).mem_iff,bC];exact#[λ⟨t,ht,q⟩=>#[t,ht,Ib q],λ⟨t,ht,q⟩=>#[t,ht,by rw[q]]]
theorem Y4(a b:Str):kO (a,b)=kO (b,a):=by
 show kT (aH a b)=kT (aH b a);rw[OJ]
end Ev
namespace Ev
open PySem L2
section v
theorem Jo:bG [gI,"_law_base",yf,"_law_number"] wA (aX lS):=bR
theorem hK_{f:Addr}{fd:Ae}(F:bj K uM uM lS f fd)(B:Bi mg):!ao aZ 1 f fd wA yq:=by
 exists F.bQ Jo;let#[l,b,rfl,h0,h1,st,k]:=h
 apply#[_,aw (cg (fI G_ (cO iC (by rfl) B.len gJ %[0|0]) aC)
   (aF (mB (pM o9 PySem.F.slot_list_extend PySem.F.type_list_extend fV_ (pv 0) %[fQ %[bN yj (br fO (pv 0) aC) aC,aC|0]|0]))) cq)
  (aw (cg (fI Lw (br fO (pv 0) aC) aC)
   (aw (bq 2 Jo.nd (bN yj (br fO (pv 0) aC) (pv 1)))
   (aw (IC (bN FE (br fO (pv 0) aC) (pv 1)) (Rz (pv 0) aC TN))
   (aF (bx (pv 2))))) cq)
  (aw (IC (bN gM (br fO (pv 0) aC) aC) (Rz (pv 0) aC TN))
  (aw (bq 3 Jo.nd (bN yj (bN pU (bN gM (bN gM (br fO (pv 0) aC) (bN pU aC (br fO (pv 0) aC))) aC) aC) aC))
  (aw (bq 3 Jo.nd (bN yj (bN pU (pv 3) (bN gM (bN FE (pv 3) aC) aC)) aC))
  (aF (bx (bN yj (bN yj (bN pU (pv 3) (bN gM (bN FE (pv 3) aC) aC)) aC) (pv 1)))))))),?_]
 rcases st with⟨n,lY⟩|⟨n,m,c,hl⟩
 case' inl=>
  apply#[_,Z,l,_,Z,.inl (.of lY),Z,_,Z,dj ?_];apply#[_,Z,.inl #[Z,_,.of lY],_,Z,l,_,_,_,Z,Z,.of lY,Z,_,_,Z,Z,by show (0:Int)<2147483647;decide,zl,λq hq=>?_];apply#[l,q,_,_,Z,Z,aa.new hq _ _ lY,ay,by show 1+2<=sizeLine;decide,?_];have bt:a_ l H (upd (upd H q (.lst [.int (n % 2147483647),.int 0])) l (.lst ([.int n]++[.int (n % 2147483647),.int 0]))):=(a_.of (aa.new hq)).trans a_.upd;have hl:(upd (upd H q (.lst [.int (n % 2147483647),.int 0])) l (.lst ([.int n]++[.int (n % 2147483647),.int 0]))) l\.lst [.int n,.int (n % 2147483647),.int 0]:=ay;generalize (upd (upd H q (.lst [.int (n % 2147483647),.int 0])) l (.lst ([.int n]++[.int (n % 2147483647),.int 0])))=H1 at bt hl ⊢
 case' inr=>
  apply#[_,Z,l,_,Z,.inl (.of hl),Z,_,Z,aM ?_];let bt:=a_.refl l H
 all_goals
  apply#[_,Z,l,_,_,_,Z,Z,.of hl,Z,_,_,Z,Z,_,Z,?_];apply cw (λc=>?_) (λc=>?_)
  ·apply#[_,Z,l,_,_,_,Z,Z,.of hl,Z,_,Z,_,_,Z,Z,h0,?_];apply#[_,Z,l,_,_,_,Z,Z,.of hl,Z,_,Z,_,_,Z,Z,#[h0,h1],_,Z,l,_,_,0,Z,Z,hl,Z,?_];exact#[_,Z,k _ _ (Int.emod_nonneg _ Z1) (Int.emod_lt_of_pos _ h0) (bt.trans a_.upd) (.inr #[_,_,_,ay])]
  apply#[_,Z,l,_,_,_,Z,Z,.of hl,Z,_,_,Z,Z,_,Z,l,_,_,2,Z,Z,hl,Z,?_];apply#[_,Z,l,_,_,_,Z,Z,.of ay,Z,_,Z,l,_,_,_,Z,Z,.of ay,Z,_,_,Z,Z,.inl #[by decide,by decide],_,_,Z,Z,_,_,Z,Z,_,_,Z,Z,.inr #[by decide,by decide],_,_,Z,Z,by show (0:Int)<2147483647;decide,?_];apply#[_,Z,_,Z,_,_,Z,Z,#[by decide,by decide],_,_,Z,Z,_,_,Z,Z,.inl (small _),_,_,Z,Z,by show (0:Int)<2147483647;decide,?_];apply#[_,Z,_,Z,_,_,Z,Z,#[by decide,by decide],_,_,Z,Z,_,_,Z,Z,.inl (small _),_,_,Z,Z,by show (0:Int)<2147483399;decide,_,Z,_,_,Z,Z,h0,?_];exact k _ _ (Int.emod_nonneg _ Z1) (Int.emod_lt_of_pos _ h0) (bt.trans a_.upd) (.inr #[_,_,_,ay])
theorem IR:bG [gI,yf,"_law_k"] [gI] (aX lM):=bR
def Nr:Sp:=λvs H Q _=>∃(l:Addr),vs=[.ref l]/\dB H l/\∀x H',iA x=true->a_ l H H'->dB H' l->Q (.str x) H'
theorem hH_{f:Addr}{fd:Ae}(F:bj K "_law_name" "_law_name" lM f fd)(B:Bi mg)(cD:!bp 1 uM wA yq):!ao aZ 2 f fd [gI] Nr:=by
 exists F.bQ IR;let#[l,rfl,st,k]:=h;let sz:=cJ
 apply#[_,aw (bq 1 IR.nd tP)
  (aw (eW d8 Z (wX (by rfl) B.range %[bN gM aC (bc cD hr %[0,aC|0])|0]) (cz 2 IR.nd)
   (aF (bq 1 IR.nd (bN fw_ (pv 1) (br Y0 tP (bc cD hr %[0,aC|0]))))))
  (aF (bx (pv 1)))),?_]
 apply#[_,Z,l,8,Z,by decide,by decide,st,λr H1 r0 r8 b1 qp=>?_];apply#[_,_,Z,Z,_,Z,by show (-(2 ^ 62):Int)<=1+r;omega,by show 1+r<(2 ^ 62:Int);omega,?_];apply A4 (lo:=0) (n:=(1+r).toNat) (λi σ H2=>∃(x:Str) (v:aJ),σ=[some (.ref l),some (.str x),v]/\x.length=i/\x.cps.toList.all oT=true/\a_ l H H2/\dB H2 l) #["",none,Z,Z,Z,b1,qp] ?_ ?_
 ·rintro i σ H2 hi ⟨x,v,rfl,hx,ho,b2,fL⟩;apply#[_,Z,_,Z,l,26,Z,by decide,by decide,fL,λq H3 q0 Xl b3 iF=>?_];let#[c,hc,oc]:=Zv q0 Xl;apply#[_,_,_,Z,Z,by decide +kernel,hc,_,_,Z,Z,?_,_,_,Z,?_,?_,b2.trans b3,iF]
  ·have:(⟨(List.toArray [c])⟩:Str).length=1:=rfl;omega
  ·have e:(x++(⟨(List.toArray [c])⟩:Str)).cps.toList=x.cps.toList++[c]:=PySem.W.KT.app_list _ _;have:(x++(⟨(List.toArray [c])⟩:Str)).length=(x++(⟨(List.toArray [c])⟩:Str)).cps.toList.length:=by rw[tU];rfl
   rw[this,e,d_,tU];show x.length+1=i+1;omega
  have e:(x++(⟨(List.toArray [c])⟩:Str)).cps.toList=x.cps.toList++[c]:=PySem.W.KT.app_list _ _;rw[e,List.all_append,ho];simp[oc]
 rintro σ H2 ⟨x,v,rfl,hx,ho,b2,fL⟩;apply#[_,Z,k x H2 ?_ b2 fL];unfold iA;rw[ho,dc (show 1<=x.length by omega),dc (show x.length<=8 by omega)];rfl
theorem FT:bG [gI,"_law_most",yf,"_law_k","_law_name_here","_law_strength"] [gI,"_law_most"] (aX N2):=bR
def UC(K:aj):Sp:=λvs H Q _=>∃(l:Addr) (m:Nat),vs=[.ref l,.int m]/\1<=m/\m<=8/\dB H l/\∀(a:Addr) (ys:ai) (hs:Xa) (H':Hp),a_ l H H'->dB H' l->H a=none->H' a\.lst ys->bT K H' ys (hs.map kH)->(∀h∈hs,oa h)->(hs.map (·.1)).Nodup->1<=hs.length->hs.length<=m->Q (.ref a) H'
theorem gB_{f:Addr}{fd:Ae}(F:bj K "_law_hands" "_law_hands" N2 f fd)(B:Bi mg)(cD:!bp 1 uM wA yq)(cN:!bp 2 "_law_name" [gI] Nr):!ao aZ 3 f fd [gI,"_law_most"] (UC K):=by
 exists F.bQ FT;let#[l,m,rfl,m1,m8,st,k]:=h;let sz:=cJ
 apply#[_,aw (bq 2 FT.nd (fQ bP))
  (aw (eW d8 Z (wX (by rfl) B.range %[bN gM aC (bc cD hr %[0,1|0])|0]) (cz 3 FT.nd)
   (aw (bq 4 FT.nd (bc cN hr %[0|0]))
   (aF (cg (fI (Ui g_ (oj hr 0)) (pv 4) (iL ["_law_one","_law_strength"] 2 [] (dI (pv 2)) (λfp s H=>Bb (n:=2) (dE (eO (i:=0) (show (["_law_one","_law_strength"]:ae).Nodup by decide +kernel) Z (Or.inl Z)) (dE (eO (i:=1) (show (["_law_one","_law_strength"]:ae).Nodup by decide +kernel) Z (Or.inl Z)) jc)))
     (λfp s H=>jr) (λfp s H=>pv 0)) (by with_unfolding_all rfl))
    (aw (bq 5 FT.nd (br fO (fQ %[aC,bN gM aC (bc cD hr %[0,aC|0]),bN gM aC (bc cD hr %[0,aC|0]),aC|0]) (bc cD hr %[0,aC|0])))
    (aF (mB (pM o9 PySem.F.slot_list_insert PySem.F.type_list_insert Uw (pv 2) %[bc cD hr %[0,bN gM (cO iC (by rfl) B.len gJ %[2|0]) aC|0],gf %[4,5|0]|0]))))
    cq))))
  (aF (bx (pv 2)))),?_]
 apply#[zl,λa ha=>?_];let#[JR,lY]:=st.some;have gi:l≠a:=bu lY ha
 have WE:dB (upd H a (.lst [])) l:=by
  unfold dB;rw[ax gi];exact st
 apply#[_,Z,_,Z,l,m,Z,by omega,by omega,WE,λr H1 r0 r8 b1 qp=>?_];apply#[_,_,Z,Z,_,Z,by show (-(2 ^ 62):Int)<=1+r;omega,by show 1+r<(2 ^ 62:Int);omega,?_]
 apply A4 (lo:=0) (n:=(1+r).toNat) (λi σ H2=>∃(v3 v4 v5:aJ) (ys:ai) (hs:Xa),σ=[some (.ref l),some (.int m),some (.ref a),v3,v4,v5]/\a_ l H H2/\dB H2 l/\H2 a\.lst ys/\bT K H2 ys (hs.map kH)/\(∀h∈hs,oa h)/\(hs.map (·.1)).Nodup/\hs.length<=i/\(1<=i->1<=hs.length))
  #[none,none,none,[],[],Z,(a_.of (aa.new ha)).trans b1,qp,b1 _ _ ay gi.symm,.nil,by simp,.nil,bh _,by omega] ?_ ?_
 ·rintro i σ H2 hi ⟨v3,v4,v5,ys,hs,rfl,b2,fL,nV,tu,good,nd,le,ge⟩;have i8:i<8:=by omega
  apply#[_,Z,l,Z,fL,λx H3 nx b3 iF=>?_];let jM:=b3 _ _ nV gi.symm;let#[VI,lX]:=fL.some;let Qd:=i_ tu b3 lX;apply#[_,Z,_,Z,a,Z,#[_,.of jM],λD hD=>?_];let QS:=bw tu;rw[aq] at QS;apply i9 (own:=2) (fv:=[]) (xs:=ys) Z we (λi out H'=>aa H3 H'/\H' D\.lst out/\out=((hs.take i).map (·.1)).map V.str) #[aa.new hD,ay,Z] (λi out H' _ ⟨sm,_,_⟩=>.of (sm _ _ jM)) (λout H4 ⟨sm,iW,eo⟩=>?_) (λj y out H' hy ⟨sm,cQ,eo⟩=>?_)
  ·rw[QS,eN] at eo;subst eo;let jL:=sm _ _ jM;have b4:a_ l H H4:=(b2.trans b3).trans (a_.of sm)
   have ij:dB H4 l:=by
    rcases iF with⟨n,e⟩|⟨n,m,c,e⟩
    ·exact .inl #[n,sm _ _ e]
    exact .inr #[n,m,c,sm _ _ e]
   let yI:=Qd.same sm;apply#[x,_,Z,TU iW,_,Z,?_];apply cw (λc=>?_) (λc=>?_)
   ·have K3:x∉hs.map (·.1):=⇑c
    apply#[_,Z,l,9,Z,by decide,by decide,ij,λr1 H5 q0 q1 b5 hX=>#[_,_,Z,Z,?_]];apply#[_,Z,l,1000,Z,by decide,by decide,hX,λr2 H6 q2 q3 b6 iO=>#[_,_,Z,Z,?_]];apply#[zl,λp hp=>?_];let#[P6,Aj]:=iO.some;have lp:l≠p:=bu Aj hp
    have jd:dB (upd H6 p (.lst [.int 1,.int (1+r1),.int (1+r2),.int 1000])) l:=by
     unfold dB;rw[ax lp];exact iO
    apply#[_,Z,l,4,Z,by decide,by decide,jd,λr3 H8 q4 q5 b8 yU=>?_];let hp8:=b8 _ _ (show upd H6 p (.lst [.int 1,.int (1+r1),.int (1+r2),.int 1000]) p=_ from ay) lp.symm;let#[y,hy,n,en,n1,n2]:=L7 (p:=λy:V=>∃n:Int,y=.int n/\1<=n/\n<=1000) (a:=V.int 1) (b:=.int (1+r1)) (c:=.int (1+r2)) (d:=.int 1000) q4 q5 #[1,Z,by decide,by decide] #[_,Z,by omega,by omega] #[_,Z,by omega,by omega] #[1000,Z,by decide,by decide];subst en;apply#[p,_,_,_,Z,Z,.of hp8,hy,?_];have Pr:a_ l H4 H8:=((b5.trans b6).trans (a_.of (aa.new hp))).trans b8;let#[VG,Es]:=ij.some;let Mx:=Pr _ _ jL gi.symm;let Wg:=i_ yI Pr Es;apply#[_,Z,.inl #[Z,_,.of Mx],_,Z,_,Z,a,_,Z,.inl (.of Mx),_,_,Z,Z,l,_,Z,by show (0:Int)<(ys.length:Int)+1;omega,by show (ys.length:Int)+1<1073741824;omega,yU,λr4 H9 q6 q7 b9 vt=>?_];have q7:r4<(ys.length:Int)+1:=q7;let#[xs8,hl8]:=yU.some;let Mw:=b9 _ _ Mx gi.symm;let Wf:=i_ Wg b9 hl8;apply#[_,Z,_,Z,zl,λt ht=>?_];let jx:=aa.new (o:=.tup [.str x,.int n]) ht;apply#[a,r4.toNat,ys,.ref t,Z,by rw[Int.toNat_of_nonneg q6],jx _ _ Mw,by omega,by omega,?_]
    have hl9:∃xs,upd H9 t (.tup [.str x,.int n]) l\.lst xs:=by
     let#[xs,e]:=vt.some;exact#[xs,jx _ _ e]
    have tt:upd H9 t (.tup [.str x,.int n]) t\.tup ((kH (x,n)).map kV):=ay;have ta:t≠a:=(bu Mw ht).symm;apply#[_,_,_,_,pJ hs r4.toNat (x,n),Z,?_,?_,ay,?_,?_,?_,?_,?_]
    ·intro b o e ne;rw[ax (bu e ha)];exact jx _ _ (b9 _ _ (Pr _ _ (b4 _ _ e ne) ne) ne)
    ·unfold dB;rw[ax gi,ax (bu (vt.some.choose_spec) ht)];exact vt
    ·rw[TV];exact Jh (Oo _ (Wf.same jx) #[t,Z,tt]) (jx _ _ Mw)
    ·intro h hh;rcases bV.mp ((FN _ _ _).mem_iff.mp hh) with rfl|hh
     ·exact#[nx,n1,n2]
     exact good h hh
    ·apply ((FN hs _ _).map _).nodup_iff.mpr ?_;rw[eI];exact js.mpr #[K3,nd]
    ·rw[Oh];omega
    intro _;rw[Oh];omega
   apply#[_,_,_,_,hs,Z,b4,ij,jL,yI,good,nd,by omega,λ_=>?_];have VE:x∈hs.map (·.1):=⇑c
   have:=List.length_pos_of_mem VE;rw[aq] at this;omega
  let#[h,hh,p,rfl,hp]:=uZ Qd hy;apply#[_,#[p,_,_,Z,.of (sm _ _ (zY hp)),Z],Z,λNx hN=>ed ?_];apply#[_,Z,out,cQ,?_,hN _ _ #[fo sm hD,ay,?_]]
  ·rw[eo,aq,aq,dG];omega
  rw[tS _ hh,eU,eo];rfl
 rintro σ H2 ⟨v3,v4,v5,ys,hs,rfl,b2,fL,nV,tu,good,nd,le,ge⟩;exact#[_,Z,k a ys hs H2 b2 fL ha nV tu good nd (ge Z1) Z1]
theorem A6:bG [gI,jn,"_law_names","_law_few",yf,"_law_k","_law_other","_law_tie"] [gI,jn] (aX lK):=bR
inductive Nm (K:aj) (vs:ai) (H:Hp) (Q:VK) (E:XK):Prop
 |mk:∀(l lh:Addr) (ys:ai) (hs:Xa),vs=[.ref l,.ref lh]->dB H l->H lh\.lst ys->bT K H ys (hs.map kH)->(∀n∈hs.map (·.1),iA n=true)->(hs.map (·.1)).Nodup->hs.length<=8->lh≠l->(∀(a:Addr) (zs:ai) (ts:Xb) (H':Hp),a_ l H H'->dB H' l->H a=none->H' a\.lst zs->bT K H' zs (ts.map kT)->(∀t∈ts,wI t/\t.1∈hs.map (·.1)/\t.2∈hs.map (·.1))->(ts.map kO).Nodup->ts.length<64->Q (.ref a) H')->Nm K vs H Q E
theorem hT_{f:Addr}{fd:Ae}(F:bj K "_law_ties" "_law_ties" lK f fd)(B:Bi mg)(cD:!bp 1 uM wA yq):!ao aZ 2 f fd [gI,jn] (Nm K):=by
 exists F.bQ A6;let#[l,lh,ys,hs,rfl,st,fY,tu,XG,nd,h8,lW,k]:=h;let sz:=cJ
 apply#[_,aw (Ni (i:=2) BK 2 [] A6.nd Z (Or.inl Z) (dI (pv 1)) (λfp s H=>Bb (n:=2) (dE (eO (i:=0) (show (BK:ae).Nodup by decide +kernel) Z (Or.inl Z)) (dE (eO (i:=1) (show (BK:ae).Nodup by decide +kernel) Z (Or.inl Z)) jc)))
     (λfp s H=>jr) (λfp s H=>pv 0))
  (aw (bq 3 A6.nd (bN gM aC (bc cD hr %[0,aC|0])))
  (aw (bq 4 A6.nd (fQ bP))
  (aw (eW d8 Z (wX (by rfl) B.range %[cO iC (by rfl) B.len gJ %[2|0]|0]) (cz 5 A6.nd)
   (aF (eW d8 Z (dI (A3 Nb (pv 2) Ba (A9 (pv 5)))) (cz 6 A6.nd)
    (aF (cg (fI Q3 (bc cD hr %[0,aC|0]) (pv 3))
     (aw (bq 7 A6.nd (br fO (fQ %[gf %[br fO (pv 2) (pv 5),6|0],gf %[6,br fO (pv 2) (pv 5)|0]|0]) (bc cD hr %[0,aC|0])))
     (aF (mB (pM o9 PySem.F.slot_list_insert PySem.F.type_list_insert Uw (pv 4) %[bc cD hr %[0,bN gM (cO iC (by rfl) B.len gJ %[4|0]) aC|0],7|0]))))
     cq)))))
  (aF (bx (pv 4)))))),?_]
 apply#[_,Z,lh,Z,#[_,.of fY],λln uD=>?_];apply fb_ Z fY tu Z1 uD λH1 s1 hn1=>?_
 let ns:ae:=hs.map (·.1)
 have n8:ns.length<=8:=by show (hs.map (·.1)).length<=8;rw[aq];exact h8
 let qp:=st.same s1;apply#[_,Z,l,3,Z,by decide,by decide,qp,λr H2 r0 r3 b2 fL=>#[_,_,Z,Z,?_]];let#[VM,gx]:=qp.some
 have Bv:ln≠l:=λe=>by
  subst e;let#[xs,e2]:=st.some;rw[uD] at e2;cases e2
 let xS:=b2 _ _ hn1 Bv;apply#[zl,λa ha=>?_];let#[VI,lX]:=fL.some;have gi:l≠a:=bu lX ha;have Yl:ln≠a:=bu xS ha;have s3:aa H2 (upd H2 a (.lst [])):=aa.new ha
 have nZ:H a=none:=by
  cases z:H a with
  |none=>rfl
  |some o=>
   have:=b2 _ _ (s1 _ _ z) gi.symm;rw[ha] at this;cases this
 apply#[_,Z,ln,_,Z,.inl (.of (s3 _ _ xS)),_,Z,by show (-(2 ^ 62):Int)<=((ns.map V.str).length:Int);omega,by show (((hs.map (·.1)).map V.str).length:Int)<2 ^ 62;rw[aq,aq];omega,?_]
 let Iv:Nat->Nat->Hp->Prop:=λkk j H'=>∃zs ts,a_ l H H'/\dB H' l/\H' ln\.lst (ns.map V.str)/\H' a\.lst zs/\bT K H' zs (ts.map kT)/\TI ns kk j ts
 have le:(ns.map V.str).length=ns.length:=aq _
 apply A4 (lo:=0) (n:=((ns.map V.str).length:Int).toNat) (λi σ H'=>∃(v5 v6 v7:aJ),σ=[some (.ref l),some (.ref lh),some (.ref ln),some (.int (1+r)),some (.ref a),v5,v6,v7]/\Iv i 0 H')
  #[none,none,none,Z,[],[],((a_.of s1).trans b2).trans (a_.of s3),fL.same s3,s3 _ _ xS,ay,.nil,#[by simp,.nil,gR _]] ?_ ?_
 ·rintro i σ H4 hi ⟨v5,v6,v7,rfl,Vt,Wm,b4,ij,Ah,jL,yI,Wq⟩;rw[Int.zero_add];have hi:i<ns.length:=by omega
  apply#[_,Z,_,Z,_,Z,ln,_,Z,.of Ah,λp hp=>?_];rw[_F];have s5:aa H4 (upd H4 p (.lst ((ns.take i).map V.str))):=aa.new hp
  have lp:l≠p:=by
   let#[xs,e]:=ij.some;exact bu e hp
  have pln:ln≠p:=bu Ah hp;have pa:p≠a:=(bu jL hp).symm
  apply#[p,Z,#[_,.of ay],ib (K:=K) (a:=p) (xs:=(ns.take i).map V.str) (λj σ H'=>∃(v6 v7:aJ),σ=[some (.ref l),some (.ref lh),some (.ref ln),some (.int (1+r)),some (.ref a),some (.int i),v6,v7]/\H' p\.lst ((ns.take i).map V.str)/\Iv i j H')
   #[_,_,Z,ay,Vt,Wm,b4.trans (a_.of s5),ij.same s5,s5 _ _ Ah,s5 _ _ jL,yI.same s5,Wq] (λj σ H' _ ⟨_,_,_,q,_⟩=>.of q) ?_ ?_]
  ·rintro j y σ H6 hy ⟨v6,v7,rfl,RO,u7,Bo,b6,iO,Hk,wc,uo,ur⟩;let#[o,ho,rfl]:=mz hy
   have hj:j<i:=by
    have:=(bY.mp ho).1;rw[dG] at this;omega
   have ho:ns[j]? = some o:=by
    rw[List.getElem?_take_of_lt hj] at ho;exact ho
   have hx:ns[i]? = some ns[i]:=aQ hi
   have EN:iB (ns.map V.str) (i:Int)\.str ns[i]:=by
    rw[dR Z1 (by rw[aq];omega),yA,dk,hx];rfl
   apply#[_,Z,l,4,Z,by decide,by decide,iO,λr2 H7 q0 q1 b7 jd=>#[_,Z,_,_,Z,Z,_,Z,?_]];let#[P6,Aj]:=iO.some;let Hj:=b7 _ _ Hk Bv;let Sd:=b7 _ _ wc gi.symm;let RN:=b7 _ _ RO lp.symm;let Qc:=i_ uo b7 Aj;apply cw (λc=>?_) (λc=>?_)
   ·apply#[_,Z,_,Z,ln,_,_,_,Z,Z,.of Hj,EN,_,Z,zl,λt1 uA=>?_];let s8:=aa.new (o:=.tup [.str ns[i],.str o]) uA;apply#[_,Z,_,Z,_,Z,ln,_,_,_,Z,Z,.of (s8 _ _ Hj),EN,zl,λt2 xQ=>?_];let s9:=aa.new (o:=.tup [.str o,.str ns[i]]) xQ;apply#[zl,λlx ku=>?_];let C1:=aa.new (o:=.lst [.ref t1,.ref t2]) ku;let s7:=(s8.trans s9).trans C1;let jx:=jd.same s7;apply#[_,Z,l,2,Z,by decide,by decide,jx,λr3 PX q2 q3 JG CO=>?_]
    have DG:lx≠l:=by
     let#[xs,e]:=(jd.same (s8.trans s9)).some;exact (bu e ku).symm
    let En:=JG _ _ (show upd (upd (upd H7 t1 (.tup [.str ns[i],.str o])) t2 (.tup [.str o,.str ns[i]])) lx (.lst [.ref t1,.ref t2]) lx=_ from ay) DG;let#[VL,Eu]:=jx.some;let Ed:=C1 _ _ (s9 _ _ (show upd H7 t1 (.tup [.str ns[i],.str o]) t1=_ from ay));let Eb:=C1 _ _ (show upd (upd H7 t1 (.tup [.str ns[i],.str o])) t2 (.tup [.str o,.str ns[i]]) t2=_ from ay);let Ec:=JG _ _ Ed (bK Ed Eu nofun);let Ea:=JG _ _ Eb (bK Eb Eu nofun)
    have pick:∃(t:Addr) (tt:Str × Str),iB [V.ref t1,V.ref t2] r3\.ref t/\PX t\.tup ((kT tt).map kV)/\(tt=(ns[i],o)∨tt=(o,ns[i])):=by
     rcases Al (a:=V.ref t1) (b:=V.ref t2) q2 q3 with e|e
     ·exact#[t1,(ns[i],o),e,Ec,.inl Z]
     exact#[t2,(o,ns[i]),e,Ea,.inr Z]
    let#[t,tt,et,ht,etc]:=pick;apply#[lx,_,_,_,Z,Z,.of En,et,?_];have tR:a_ l H7 PX:=(a_.of s7).trans JG;let#[xs7,hl7]:=jd.some;let As:=tR _ _ Sd gi.symm;let LX:=tR _ _ Hj Bv;let LQ:=tR _ _ RN lp.symm;let J6:=i_ Qc tR hl7;let lz:=bw uo;rw[aq] at lz;let tl:=ur.len;apply#[_,Z,.inl #[Z,_,.of As],_,Z,_,Z,a,_,Z,.inl (.of As),_,_,Z,Z,l,_,Z,by show (0:Int)<(u7.length:Int)+1;omega,by show (u7.length:Int)+1<1073741824;omega,CO,λr4 H12 q4 q5 B0 Kt=>?_];have q5:r4<(u7.length:Int)+1:=q5;let#[VJ,Et]:=CO.some;let EX:=B0 _ _ As gi.symm;let LW:=B0 _ _ LX Bv;let LP:=B0 _ _ LQ lp.symm;let LH:=B0 _ _ ht (bK ht Et nofun);let J5:=i_ J6 B0 Et;apply#[_,Z,a,r4.toNat,u7,.ref t,Z,by rw[Int.toNat_of_nonneg q4],EX,by omega,by omega,?_];apply#[_,_,Z,by rw[ax pa];exact LP,_,pJ Bo r4.toNat tt,?_,?_,by rw[ax Yl];exact LW,ay,?_,ur.add nd hj hx ho etc _]
    ·intro b o e ne;rw[ax (bu e nZ)];exact B0 _ _ (tR _ _ (b7 _ _ (b6 _ _ e ne) ne) ne) ne
    ·unfold dB;rw[ax gi];exact Kt
    rw[TV];exact Jh (Oo _ J5 #[t,Z,LH]) EX
   exact#[_,_,Z,RN,u7,Bo,b6.trans b7,jd,Hj,Sd,Qc,ur.skip]
  rintro σ H6 ⟨v6,v7,rfl,RO,u7,Bo,b6,iO,Hk,wc,uo,ur⟩;rw[aq,dG,Nat.min_eq_left Z1] at ur;exact#[_,_,_,Z,u7,Bo,b6,iO,Hk,wc,uo,ur.next Z1]
 rintro σ H6 ⟨v5,v6,v7,rfl,u7,Bo,b6,iO,Hk,wc,uo,ur⟩;have:=ur.len;exact#[_,Z,k a u7 Bo H6 b6 iO nZ wc uo (ur.good nd XG) ur.nd Z1]
end
end Ev
namespace HT
open PySem PySem.Spec PyProof.Rows
section
variable{prog:Ad}{w:Af}{A:Ag}{E:Aa->Ab->Prop}{s:Ab}
end
end HT
namespace L2
open PySem PySem.Spec PyProof.Rows
section
variable{X:Cx}{e st:Expr}{te ts:TE}{pos p2:Pos}
end
end L2
namespace Ev
open PySem L2
theorem TZ(ys:ai)(k:Nat):dQ ys none (some (k:Int))=ys.take k:=by
 unfold dQ;rw[HT.eD,HT.dW,List.drop_zero,Nat.sub_zero];by_cases h:k<=ys.length
 ·rw[Nat.min_eq_left h]
 rw[Nat.min_eq_right Z1,tW (bh _),tW Z1]
theorem OI(ys:ai)(k:Nat):dQ ys (some (k:Int)) none=ys.drop k:=by
 unfold dQ;rw[HT.dW,HT.eD];by_cases h:k<=ys.length
 ·rw[Nat.min_eq_left h,tW (by rw[yz];omega)]
 rw[Nat.min_eq_right Z1,List.drop_eq_nil_of_le (bh _),List.drop_eq_nil_of_le Z1,List.take_nil]
theorem UZ{α β:Type}{F:α->β->Prop}:∀{ys:List α} {ks:List β} (n:Nat),Paired F ys ks->Paired F (ys.drop n) (ks.drop n)
 |_,_,0,h=>h
 |_,_,_+1,.nil=>.nil
 |_,_,n+1,.cons _ t=>UZ n t
theorem hU{α β:Type}{F:α->β->Prop}:∀{ys P4:List α} {ks iT:List β},Paired F ys ks->Paired F P4 iT->Paired F (ys++P4) (ks++iT)
 |_,_,_,_,.nil,h=>h
 |_,_,_,_,.cons a t,h=>.cons a (hU t h)
theorem EC{α:Type}{p:α->Prop}{a b c:α}{r:Int}(h0:0<=r)(h1:r<3)(ha:p a)(hb:p b)(hc:p c):∃x,iB [a,b,c] r\x/\p x:=by
 have:r=0∨r=1∨r=2:=by omega
 rcases this with rfl|rfl|rfl
 ·exact#[_,Z,ha]
 ·exact#[_,Z,hb]
 exact#[_,Z,hc]
structure Ff (ts ws:Xb):Prop where
 good:∀w∈ws,wI w
 nd:(ws.map kO).Nodup
 hY:∀w∈ws,kO w∈ts.map kO
 len:ws.length<=ts.length
theorem _r{ts us ws:Xb}(good:∀t∈ts,wI t)(nd:(ts.map kO).Nodup)(sub:us.Sublist ts)(p:Paired (λw u=>w=u∨w=(u.2,u.1)) ws us):Ff ts ws:=by
 have e:ws.map kO=us.map kO:=by
  clear sub
  induction p with
  |nil=>rfl
  |cons h _ ih=>
   rw[eI,eI,ih];rcases h with rfl|rfl
   ·rfl
   exact d7 (·::_) (Y4 _ _)
 apply#[λw hw=>?_,?_,λw hw=>?_,?_]
 ·let#[i,hi,ew]:=hJ hw;let hl:=bw p;let q:=dU p i hi Z1;rw[ew] at q;let g:=good _ (sub.subset (kK (show i<us.length by omega)));rcases q with q|q
  ·rw[q];exact g
  rw[q];exact#[g.2.1,g.1,g.2.2.symm]
 ·rw[e];exact (sub.map kO).nodup nd
 ·have:kO w∈ws.map kO:=bC.mpr #[w,hw,Z];rw[e] at this;exact (sub.map kO).subset this
 rw[bw p];exact sub.length_le
def bU(K:aj)(H:Hp)(v:V):Option (Xb)->Prop
 |none=>v=.non
 |some ws=>∃a ys,v=.ref a/\H a\.lst ys/\bT K H ys (ws.map kT)
theorem bU.same{K:aj}{H H':Hp}{v:V}{o:Option (Xb)}(h:bU K H v o)(s:aa H H'):bU K H' v o:=by
 cases o with
 |none=>exact h
 |some ws=>
  let#[a,ys,e,ha,t]:=h;exact#[a,ys,e,s _ _ ha,t.same s]
end Ev
namespace Ev
open PySem L2
abbrev Pc:=Str × Int × Option (Xb)
def hW(K:aj)(H:Hp)(y:V)(p:Pc):Prop:=∃t v,y=.ref t/\H t\.tup [.str p.1,.int p.2.1,v]/\bU K H v p.2.2
abbrev jo(K:aj)(H:Hp)(ys:ai)(ps:List Pc):Prop:=Paired (hW K H) ys ps
structure kh (ts:Xb) (p:Pc):Prop where
 nm:iA p.1=true
 w1:1<=p.2.1
 w2:p.2.1<=1000000000
 ws:∀ws,p.2.2\ws->Ff ts ws
theorem _m{K:aj}{H:Hp}{a l:Addr}{ys:ai}{ks:List av}(t:bT K H ys ks)(ha:H a\.lst ys)(st:dB H l):a≠l:=λe=>by
 subst e;rcases st with⟨n,e⟩|⟨n,m,c,e⟩
 all_goals
  rw[ha] at e;have e:ys=_:=HO.lst.inj (cY e);subst e;cases t with
  |cons h _=>
   let#[b,z,_]:=h;cases z
theorem bU.but{K:aj}{H H':Hp}{l:Addr}{v:V}{o:Option (Xb)}(h:bU K H v o)(b:a_ l H H')(st:dB H l):bU K H' v o:=by
 cases o with
 |none=>exact h
 |some ws=>
  let#[a,ys,e,ha,t]:=h;let#[xs,hl]:=st.some;exact#[a,ys,e,b _ _ ha (_m t ha st),i_ t b hl]
theorem hW.but{K:aj}{H H':Hp}{l:Addr}{y:V}{p:Pc}(h:hW K H y p)(b:a_ l H H')(st:dB H l):hW K H' y p:=by
 let#[t,v,e,ht,hv]:=h;let#[xs,hl]:=st.some;exact#[t,v,e,b _ _ ht (bK ht hl nofun),hv.but b st]
theorem hW.same{K:aj}{H H':Hp}{y:V}{p:Pc}(h:hW K H y p)(s:aa H H'):hW K H' y p:=by
 let#[t,v,e,ht,hv]:=h;exact#[t,v,e,s _ _ ht,hv.same s]
theorem bU.put{K:aj}{H:Hp}{D:Addr}{xs:ai}{v:V}{o:Option (Xb)}{u:HO}(h:bU K H v o)(hD:H D\.lst xs)(ne:v≠.ref D):bU K (upd H D u) v o:=by
 cases o with
 |none=>exact h
 |some ws=>
  let#[a,ys,e,ha,t]:=h;subst e;exact#[a,ys,Z,by rw[ax λz=>ne (by rw[z])];exact ha,Jh t hD]
end Ev
abbrev aN:=List Ev.Pc
namespace Ev
open PySem L2
def j8(K:aj)(H:Hp)(v:V):Option Str->Prop
 |some x=>v=.str x
 |none=>∃t,fJ K H v t/\PySem.W.kitOne K t (.type "str")\false
def DT(ns:ae):Option Str->Bool
 |some x=>decide (x∈ns)
 |none=>false
def BG(hs:Xa)(ts:Xb):Option Str->Option Str->Bool
 |some x,some y=>decide (x∈hs.map (·.1))&&(decide (y∈hs.map (·.1))&&decide (y∈near (aS hs) (bM ts) x))
 |_,_=>false
theorem O5(hs:Xa)(ts:Xb)(x y:Str):BG hs ts (some x) (some y)=(decide (x∈hs.map (·.1))&&(decide (y∈hs.map (·.1))&&decide (y∈near (aS hs) (bM ts) x))):=rfl
section v
inductive k_ (K:aj) (C:Addr) (vs:ai) (H:Hp) (Q:VK) (E:XK):Prop
 |mk:∀(p:Addr) (v:V) (x:Option Str) (hs:Xa) (ts:Xb) (fp:au),vs=[.ref p,v]->iz K C H p hs ts fp->j8 K H v x->Q (.bl (DT (hs.map (·.1)) x)) H->k_ K C vs H Q E
theorem Y_{f C:Addr}{fd:Ae}(F:bj K "has_hand" "Web.has_hand" vB f fd)(T:Txt K mg C)(B:Bi mg):!ao aZ 1 f fd oi (k_ K C):=by
 exists F.bQ xt;let#[p,v,x,hs,ts,fp,rfl,W,sv,k]:=h;let hu:=gc hr;let#[dx,d1,l2,d3,zs,as,rfl,h1,h2,h3,h4,h5,h6,h7]:=W.ex;apply#[_,aF (bx (tJ (cO jX (by rfl) B.jg jq %[1,jW (v:=.ty "str") (by rfl) B.str Ic Z|0]) (uT (ID (BM hu (pv 1) (gN (pv 0) Z)))))),?_];cases x with
 |some x=>
  cases (show v=.str x from sv);apply#[_,Z,_,_,_,_,Z,.str x,Z,_,Z,dj ?_];apply#[_,Z,_,Z,p,C,dx,_,_,Z,h1,T.cl,T.nS,Ia _ _ _,d1,_,Z,.k (k:=Sum.inr x) h2,?_];rw[IF];exact k
 |none=>
  let#[t,ty,e]:=sv;exact#[_,Z,_,_,_,_,Z,ty,e,_,Z,aM k]
inductive Jp (K:aj) (C:Addr) (vs:ai) (H:Hp) (Q:VK) (E:XK):Prop
 |mk:∀(p:Addr) (v u:V) (x y:Option Str) (hs:Xa) (ts:Xb) (fp:au),vs=[.ref p,v,u]->iz K C H p hs ts fp->(aS hs).Nodup->j8 K H v x->j8 K H u y->Q (.bl (BG hs ts x y)) H->Jp K C vs H Q E
theorem hs_{f C:Addr}{fd:Ae}(F:bj K "are_tied" "Web.are_tied" qN f fd)(T:Txt K mg C)(cH:!bO C 1 "has_hand" oi (k_ K C)):!ao aZ 2 f fd j0 (Jp K C):=by
 exists F.bQ y4;let#[p,v,u,x,y,hs,ts,fp,rfl,W,nd,sv,su,k]:=h;let hu:=gc hr;let#[dx,d1,l2,d3,zs,as,rfl,h1,h2,h3,h4,h5,h6,h7]:=id W.ex;have kr:(fi d1 l2 d3).lookup ("has_hand":Str)=none:=pW _ _ _ Z0 Z0 Z0;apply#[_,aF (bx (tJ (ji cH T.cl hr (pv 0) %[1|0]) (tJ (ji cH T.cl hr (pv 0) %[2|0]) (uT (wQ (MK g_ (oj hr 0)) (pv 2) (oq hu (gN (pv 0) Z) (pv 1)) (by with_unfolding_all rfl)))))),?_];apply#[_,Z,p,dx,_,Z,h1,kr,_,Z,p,v,x,hs,ts,_,Z,W,sv,_,Z,?_];cases x with
 |none=>exact aM k
 |some x=>
  cases (show v=.str x from sv);apply cw (λc=>?_) (λc=>?_)
  ·have hx:x∈hs.map (·.1):=tF c;let#[a,e1,ha]:=Rc nd hx h6 h7;apply#[_,Z,p,dx,_,Z,h1,kr,_,Z,p,u,y,hs,ts,_,Z,W,su,_,Z,?_];cases y with
   |none=>exact aM k
   |some y=>
    cases (show u=.str y from su);rw[O5,dc hx,Bool.true_and] at k;apply cw (λc2=>?_) (λc2=>?_)
    ·have hy:y∈hs.map (·.1):=tF c2;rw[dc hy,Bool.true_and] at k;apply#[_,Z,_,Z,p,C,dx,_,_,Z,h1,T.cl,T.nN,Ri _ _ _,_,Z,d3,.ref a,Z,?_,y,_,Z,#[a,_,Z,.of ha,Nt _],k];rw[<- e1];exact .k (k:=Sum.inr x) h5
    have hy:¬y∈hs.map (·.1):=λz=>c2 (dc z);rw[eG hy,Bool.false_and] at k;exact k
  have hx:¬x∈hs.map (·.1):=λz=>c (dc z);cases y with
  |none=>exact k
  |some y=>
   rw[O5,eG hx,Bool.false_and] at k;exact k
theorem ho_{hs:Xa}{ts ws:Xb}(G:Good hs ts)(W:Ff ts ws){t:Str × Str}(ht:t∈bM ws):BG hs ts (some t.1) (some t.2)=true:=by
 let#[x,hx,ex]:=I0.mp ht;let#[u,hu,eu]:=bC.mp (W.hY x hx);have eo:aH u.1 u.2=t:=(Ib eu).trans ex
 have both:t.1∈hs.map (·.1)/\t.2∈hs.map (·.1)/\aH t.1 t.2=t:=by
  let#[g1,g2]:=G.uq u hu;rcases BU u.1 u.2 with e|e
  ·rw[<- eo,e];exact#[g1,g2,e]
  rw[<- eo,e];exact#[g2,g1,(OJ _ _).trans e]
 let#[m1,m2,m3]:=both;have m4:t.2∈near (aS hs) (bM ts) t.1:=jY.mpr #[(gL hs).mem_iff.mpr m2,dc (by rw[m3];exact I0.mpr #[u,hu,eo])];rw[O5,dc m1,dc m2,dc m4];rfl
theorem Jm:bG ["web","ways","found","one","other"] ["web","ways"] (aX lT):=bR
inductive NV (K:aj) (C:Addr) (vs:ai) (H:Hp) (Q:VK) (E:XK):Prop
 |mk:∀(p:Addr) (v:V) (o:Option (Xb)) (hs:Xa) (ts:Xb) (fp:au),vs=[.ref p,v]->iz K C H p hs ts fp->Good hs ts->bU K H v o->(∀ws,o\ws->Ff ts ws)->(∀v' H',aa H H'->bU K H' v' (o.map bM)->(∀a,v'=.ref a->H a=none)->Q v' H')->NV K C vs H Q E
theorem hW_{f C:Addr}{fd:Ae}(F:bj K "checked_ways" "checked_ways" lT f fd)(T:Txt K mg C)(cS:!bp 3 "sorted_ties" ["ties"] (NJ K))(cT:!bO C 2 "are_tied" j0 (Jp K C)):!ao aZ 4 f fd ["web","ways"] (NV K C):=by
 exists F.bQ Jm;let#[p,v,o,hs,ts,fp,rfl,W,G,wy,gw,k]:=h;let hu:=gc hr;have jJ:aP 2 _:=hr.mono (by decide)
 apply#[_,aw (cg (tO (IB (pv 1))) (aF (bx uS)) cq)
  (aw (bq 2 Jm.nd (bc cS hr %[1|0]))
  (aw (cg (tO (IB (pv 2))) gA cq)
  (aw (eW d8 Z (dI (pv 2)) (o7 Z (dE (cz 3 Jm.nd) (dE (cz 4 Jm.nd) jc)))
   (aF (cg (eX (eP (ji cT T.cl jJ (pv 0) %[3,4|0]))) gA cq)))
  (aF (bx (pv 2)))))),?_]
 cases o with
 |none=>
  cases (show v=.non from wy);exact#[_,Z,_,Z,dj (k .non H (aa.refl H) Z (λa z=>by cases z))]
 |some ws=>
  let#[a,ys,rfl,ha,tu]:=wy;let Wo:=gw ws Z;apply#[_,Z,_,Z,aM ?_];apply#[_,Z,a,ys,ws,Z,ha,tu,Wo.good,Wo.nd,by have:=Wo.len;have:=G.xp;omega,λl' zs H1 s1 hf gx tz=>?_];apply#[_,Z,_,Z,aM ?_];let W1:=W.same s1;let#[dx,d1,l2,d3,xb,as,rfl,h1,h2,h3,h4,h5,h6,h7]:=id W1.ex;have kr:(fi d1 l2 d3).lookup ("are_tied":Str)=none:=pW _ _ _ Z0 Z0 Z0;rw[<- OB] at tz;apply#[_,Z,l',Z,#[_,.of gx],ib (K:=K) (a:=l') (xs:=zs) (λi σ H2=>∃(v3 v4:aJ),σ=[some (.ref p),some (.ref a),some (.ref l'),v3,v4]/\H2=H1) #[none,none,Z,Z] (λi σ H2 _ ⟨_,_,_,e⟩=>by subst e;exact .of gx) ?_ ?_]
  ·rintro i y σ H2 hy ⟨v3,v4,rfl,rfl⟩;let#[t,ht,q,rfl,hq]:=uZ tz hy;apply#[q,_,Z,.of (Hg hq),Z,_,_,Z,_,_,Z,Z,?_];apply#[_,Z,p,dx,_,Z,h1,kr,_,Z,_,Z,p,_,_,some t.1,some t.2,hs,ts,_,Z,W1,G.rT,Z,Z,_,Z,?_];rw[ho_ G Wo (cX ht)];apply aM ?_;exact#[_,_,Z,Z]
  rintro σ H2 ⟨v3,v4,rfl,rfl⟩;exact#[_,Z,k (.ref l') _ s1 #[l',zs,Z,gx,tz] (λc z=>by cases z;exact hf)]
def pC(p:Pc):Pc:=(p.1,p.2.1,p.2.2.map bM)
def pP(K:aj)(H0 H:Hp)(y:V)(p:Pc):Prop:=∃t v,y=.ref t/\H t\.tup [.str p.1,.int p.2.1,v]/\bU K H v p.2.2/\∀a,v=.ref a->H0 a=none
theorem pP.same{K:aj}{H0 H H':Hp}{y:V}{p:Pc}(h:pP K H0 H y p)(s:aa H H'):pP K H0 H' y p:=by
 let#[t,v,e,ht,hv,hn]:=h;exact#[t,v,e,s _ _ ht,hv.same s,hn]
theorem bU.up{K:aj}{H:Hp}{D:Addr}{u:HO}{v:V}{o:Option (Xb)}(h:bU K H v o)(n1:∀xs,H D≠some (.lst xs))(n2:∀xs,H D≠some (.tup xs)):bU K (upd H D u) v o:=by
 cases o with
 |none=>exact h
 |some ws=>
  let#[a,ys,e,ha,t]:=h;exact#[a,ys,e,by rw[ax (λz:a=D=>n1 ys (z▸ha))];exact ha,Paired.aV t λy k ⟨b,z,q⟩=>#[b,z,by rw[ax (λz:b=D=>n2 _ (z▸q))];exact q]]
theorem pP.up{K:aj}{H0 H:Hp}{D:Addr}{u:HO}{y:V}{p:Pc}(h:pP K H0 H y p)(n1:∀xs,H D≠some (.lst xs))(n2:∀xs,H D≠some (.tup xs)):pP K H0 (upd H D u) y p:=by
 let#[t,v,e,ht,hv,hn]:=h;exact#[t,v,e,by rw[ax (λz:t=D=>n2 _ (z▸ht))];exact ht,hv.up n1 n2,hn]
theorem Nv{ps:aN}{cs:ai}(nd:(ps.map (·.1)).Nodup)(hl:cs.length=ps.length):∀{j:Nat} {q:Pc} {c:V},ps[j]? = some q->cs[j]? = some c->a9 ((ps.zip cs).map λq=>((Sum.inr q.1.1:Key),q.2)) (Sum.inr q.1)\c:=by
 induction ps generalizing cs with
 |nil=>
  intro j q c h;simp at h
 |cons p ps ih=>
  intro j q c h1 h2;cases cs with
  |nil=>cases hl
  |cons b cs=>
   rw[eI] at nd;let#[n1,n2]:=js.mp nd;cases j with
   |zero=>
    have e1:p=q:=⇑h1
    have e2:b=c:=⇑h2
    subst e1 e2;exact AZ Z
   |succ j=>
    have h1:ps[j]? = some q:=⇑h1
    have h2:cs[j]? = some c:=⇑h2
    show a9 ((Sum.inr p.1,b)::((ps.zip cs).map λq=>((Sum.inr q.1.1:Key),q.2))) (Sum.inr q.1)=_;rw[A1 λe=>n1 (by rw[show p.1=q.1 from hZ e];exact bC.mpr #[q,cX h1,Z])];exact ih n2 ⇑hl h1 h2
theorem qJ:bG ["web","piece"] ["web","piece"] (aX NO):=bR
inductive Ox (K:aj) (C:Addr) (vs:ai) (H:Hp) (Q:VK) (E:XK):Prop
 |mk:∀(p:Addr) (y:V) (q:Pc) (hs:Xa) (ts:Xb) (fp:au),vs=[.ref p,y]->iz K C H p hs ts fp->Good hs ts->hW K H y q->kh ts q->(∀y' H',aa H H'->pP K H H' y' (pC q)->Q y' H')->Ox K C vs H Q E
theorem gt_{f C:Addr}{fd:Ae}(F:bj K "checked_piece" "checked_piece" NO f fd)(B:Bi mg)(cN:!bp 1 "is_name" fZ Il)(cW:!bp 2 "is_whole_within" j1 NN)(cC:!bp 4 "checked_ways" ["web","ways"] (NV K C)){tk:Tok}(mW:mg "MOST_WEIGHT"\.int 1000000000 tk) :
  ao P w K mg base aZ 5 f fd ["web","piece"] (Ox K C):=by
 exists F.bQ qJ;let#[p,y,q,hs,ts,fp,rfl,W,G,#[t,v,rfl,ht,wy],gp,k]:=h
 apply#[_,aw (cg (o6 (eX (eP (cO jX (by rfl) B.jg jq %[1,jW (v:=.ty "tuple") (by rfl) B.tuple uV Z|0])))
   (pT (fI tH (cO iC (by rfl) B.len gJ %[1|0]) aC))).pt gA cq)
  (aw (cg (eX (eP (bc cN hr %[br c_ (pv 1) aC|0]))) gA cq)
  (aw (cg (eX (eP (bc cW hr %[br c_ (pv 1) aC,aC,FI (v:=.int 1000000000) (by rfl) mW #[tk,Z]|0]))) gA cq)
  (aF (bx (gf %[br c_ (pv 1) aC,br c_ (pv 1) aC,bc cC hr %[0,br c_ (pv 1) aC|0]|0]))))),?_]
 apply#[_,Z,_,_,_,_,Z,.tup ht,Z,_,Z,aM ?_];apply#[_,Z,t,_,Z,.inr (.of ht),Z,_,Z,?_];apply AL (show V.int ((3:Nat):Int)=V.int 3 from Z) ?_;apply#[_,Z,t,_,_,_,Z,Z,.of ht,Z,q.1,Z,by have:=Ju gp.nm;omega,λH1 s1=>#[_,Z,?_]];rw[gp.nm];apply aM ?_;let uA:=s1 _ _ ht;apply#[_,Z,t,_,_,_,Z,Z,.of uA,Z,q.2.1,1,1000000000,Z,_,Z,?_];rw[dc gp.w1,dc gp.w2];apply aM ?_;apply#[_,Z,t,_,_,_,Z,Z,.of uA,Z,_,Z,t,_,_,_,Z,Z,.of uA,Z,_,Z,_,Z,t,_,_,_,Z,Z,.of uA,Z,p,v,q.2.2,hs,ts,fp,Z,W.same s1,G,wy.same s1,gp.ws,λv' H2 s2 VO hf=>?_];apply#[zl,λt' Ee=>?_];exact k (.ref t') _ (s1.trans (s2.trans (aa.new Ee))) #[t',v',Z,ay,VO.same (aa.new Ee),λa z=>s1.free (hf a z)]
theorem JF:bG ["web","pieces","found","piece","checked"] ["web","pieces"] (aX NB):=bR
structure Qs (ps qs:aN):Prop where
 vK:qs.map (·.1)=h_ (ps.map (·.1))
 mem:∀q∈qs,∃p∈ps,q=pC p
inductive OU (K:aj) (C:Addr) (vs:ai) (H:Hp) (Q:VK) (E:XK):Prop
 |mk:∀(p l:Addr) (ys:ai) (ps:aN) (hs:Xa) (ts:Xb) (fp:au),vs=[.ref p,.ref l]->iz K C H p hs ts fp->Good hs ts->H l\.lst ys->jo K H ys ps->(∀q∈ps,kh ts q)->(ps.map (·.1)).Nodup->ps.length<64->(∀l' zs qs H',aa H H'->H' l'\.lst zs->Paired (pP K H H') zs qs->Qs ps qs->Q (.ref l') H')->OU K C vs H Q E
theorem aD{H:Hp}{a:Addr}{o:HO}(n:H a=none):aa H (upd H a o)/\upd H a o a\o:=⟨aa.new n,ay⟩
theorem fo_{f C:Addr}{fd:Ae}(F:bj K "checked_pieces" "checked_pieces" NB f fd)(B:Bi mg)(cP:!bp 5 "checked_piece" ["web","piece"] (Ox K C)):!ao aZ 6 f fd ["web","pieces"] (OU K C):=by
 exists F.bQ JF;let#[p,l,ys,ps,hs,ts,fp,rfl,W,G,hl,pc,gp,nd,bX,k]:=h;let hu:=gc hr;let sz:=cJ;let le:=bw pc
 apply#[_,aw (cg (eX (eP (cO jX (by rfl) B.jg jq %[1,jW (v:=.ty "list") (by rfl) B.list yo Z|0]))) gA cq)
  (aw (bq 2 JF.nd FR)
  (aw (eW d8 Z (dI (pv 1)) (cz 3 JF.nd)
   (aw (bq 4 JF.nd (bc cP hr %[0,3|0]))
   (aw (cg (tO (BM hu (br c_ (pv 4) aC) (pv 2))) gA cq)
   (aF (uQ hu (pv 2) (br c_ (pv 4) aC) (pv 4) Z)))))
  (aF (bx (iL ["name","found"] 1 [2] (dI (cO (ej_ Z) (by rfl) B.sorted Jz %[2|0])) (λfp s H=>eO (i:=0) (show (["name","found"]:ae).Nodup by decide +kernel) Z (Or.inl Z)) (λfp s H=>jr)
   (λfp s H=>oq hu (pv 1) (pv 0))))))),?_]
 apply#[_,Z,_,_,_,_,Z,.lst hl,Z,_,Z,aM ?_];intro d hd;have s0:aa H (upd H d (.dK [])):=aa.new hd;apply#[_,Z,l,Z,#[_,.of (s0 _ _ hl)],ib (K:=K) (a:=l) (xs:=ys) (λi σ H2=>∃(v3 v4:aJ) (cs:ai),σ=[some (.ref p),some (.ref l),some (.ref d),v3,v4]/\aa H H2/\Paired (pP K H H2) cs ((ps.take i).map pC)/\H2 d\.dK (((ps.take i).zip cs).map λq=>(Sum.inr q.1.1,q.2))) #[none,none,[],Z,s0,.nil,ay] (λi σ H2 _ ⟨_,_,_,_,s2,_⟩=>.of (s2 _ _ hl)) ?_ ?_]
 ·rintro i y σ H2 hy ⟨v3,v4,cs,rfl,s2,pn,hd2⟩;have hi:i<ys.length:=(bY.mp hy).1;have hq:ps[i]? = some (ps[i]' Z1):=aQ Z1;let py:=dU pc i hi Z1;rw[(bY.mp hy).2] at py;generalize ps[i]' Z1=q at hq py;apply#[_,Z,_,Z,p,y,q,hs,ts,fp,Z,W.same s2,G,py.same s2,gp q (cX hq),λy' H3 s3 pw=>?_];let#[t,v,rfl,ht,wy,hf]:=pw;let l5:=s3 _ _ hd2;let lc:=bw pn;rw[aq,dG] at lc
  have keys:((((ps.take i).zip cs).map λq=>((Sum.inr q.1.1:Key),q.2)).map (·.1))=((ps.take i).map (·.1)).map Sum.inr:=by
   rw[cj];have:((λx:Key × V=>x.1) ∘ λq:Pc × V=>((Sum.inr q.1.1:Key),q.2))=(λp:Pc=>(Sum.inr p.1:Key)) ∘ Prod.fst:=rfl;rw[this,<- cj,List.map_fst_zip (by rw[dG];omega),cj];rfl
  have ux:a9 (((ps.take i).zip cs).map λq=>((Sum.inr q.1.1:Key),q.2)) (Sum.inr q.1)=none:=u0 (by
   rw[keys];intro m;let#[x,hx,e]:=bC.mp m;cases e;exact FP (g:=λp:Pc=>p.1) nd hq hx)
  apply#[_,Z,t,_,_,_,Z,Z,.of ht,Z,_,Z,d,_,Z,.k (k:=Sum.inr q.1) l5,_,Z,?_];rw[ux];apply aM ?_;apply#[_,Z,_,Z,_,Z,t,_,_,_,Z,Z,.of ht,Z,d,_,Z,.k (k:=Sum.inr q.1) l5 (by rw[aq,List.length_zip,dG];omega),?_];let WO:=s2.trans s3;have n1:∀xs,H3 d≠some (.lst xs):=λxs z=>by rw[l5] at z;cases z
  have n2:∀xs,H3 d≠some (.tup xs):=λxs z=>by rw[l5] at z;cases z
  apply#[_,_,cs++[.ref t],Z,λc o e=>?_,?_,?_]
  ·rw[ax (bu e hd)];exact WO _ _ e
  ·rw[pY,hq,eU];exact hU (Paired.aV pn λy q h=>(h.same s3).up n1 n2) (.cons (pP.up #[t,v,Z,ht,wy,λa z=>s2.free (hf a z)] n1 n2) .nil)
  rw[ay,wV _ ux,pY,hq,List.zip_append (by rw[dG];omega),eU];rfl
 rintro σ H2 ⟨v3,v4,cs,rfl,s2,pn,hd2⟩;rw[le,eN] at pn hd2;let lc:=bw pn;rw[aq] at lc
 have keys:(((ps.zip cs).map λq=>((Sum.inr q.1.1:Key),q.2)).map (·.1))=(ps.map (·.1)).map Sum.inr:=by
  rw[cj];have:((λx:Key × V=>x.1) ∘ λq:Pc × V=>((Sum.inr q.1.1:Key),q.2))=(λp:Pc=>(Sum.inr p.1:Key)) ∘ Prod.fst:=rfl;rw[this,<- cj,List.map_fst_zip Z1,cj];rfl
 apply#[_,Z,d,_,ps.map (·.1),Z,hd2,keys,by rw[aq];exact bX,λls LY=>?_];let#[s3,Ak]:=aD (o:=.lst ((h_ (ps.map (·.1))).map V.str)) LY;apply#[ls,Z,#[_,.of Ak],λD hD=>?_];generalize upd H2 ls (.lst ((h_ (ps.map (·.1))).map V.str))=H3 at s3 Ak hD ⊢;have Yf:(h_ (ps.map (·.1))).length=ps.length:=by rw[(BY _).length_eq,aq]
 apply i9 (own:=1) (fv:=[some (.ref d)]) (xs:=(h_ (ps.map (·.1))).map V.str) Z fh (λi out H'=>∃qs:aN,aa H3 H'/\H' D\.lst out/\Paired (pP K H H2) out qs/\qs.map (·.1)=(h_ (ps.map (·.1))).take i/\∀q∈qs,∃p∈ps,q=pC p) #[[],aa.new hD,ay,.nil,Z,by simp] (λi out H' _ ⟨_,sm,_⟩=>.of (sm _ _ Ak)) (λzs H4 ⟨qs,s4,iW,pq,en,mem⟩=>?_) (λi x out H' hx ⟨qs,sm,cQ,pq,en,mem⟩=>?_)
 ·rw[aq,eN] at en;exact k D zs qs H4 (s2.trans (s3.trans s4)) iW (Paired.aV pq λy q h=>h.same (s3.trans s4)) #[en,mem]
 let#[n,hn,rfl]:=mz hx;have hm:n∈ps.map (·.1):=(BY _).mem_iff.mp (cX hn);let#[q,hq,eq]:=bC.mp hm;let#[j,hj,ej]:=hJ hq;have hqj:ps[j]? = some q:=by rw[aQ hj,ej]
 have R6:cs[j]? = some (cs[j]' Z1):=aQ Z1;let hv:=Nv nd lc hqj R6;let pj:=dU pn j Z1 (by rw[aq];omega);rw[List.getElem_map,ej] at pj;generalize cs[j]' Z1=c at R6 hv pj;rw[eq] at hv;let lo:=bw pq;let lq:=d7 List.length en;rw[aq,dG] at lq;have hi:i<(h_ (ps.map (·.1))).length:=(bY.mp hn).1;apply#[_,Z,Z,λNx hN=>ed ?_];apply#[_,Z,_,Z,d,c,Z,?_,out,cQ,by omega,hN _ _ #[qs++[pC q],fo sm hD,ay,?_,?_,?_]]
 ·rw[<- hv];exact .k (k:=Sum.inr n) (sm _ _ (s3 _ _ hd2))
 ·exact hU pq (.cons pj .nil)
 ·rw[eU,en,pY,hn,<- eq];rfl
 intro q' hq';rcases d9.mp hq' with hq'|hq'
 ·exact mem q' hq'
 obtain rfl:q'=pC q:=⇑hq'
 exact#[q,hq,Z]
end
end Ev
namespace Ev
open PySem L2
abbrev lQ:Stmt:=ml Fg 0
abbrev rp:Stmt:=ml Fg 1
abbrev NM:Stmt:=ml Fg 2
abbrev NI:Stmt:=ml Fg 3
abbrev rh:Stmt:=ml Fg 5
def cy(p dw dy:Addr):List (Str × V):=az AM (.ref dy) (az pL (.ref dw) (az "web" (.ref p) []))
theorem g12:¬(("web":Str)=pL):=by decide +kernel
theorem g13:¬(("web":Str)=AM):=by decide +kernel
theorem g23:¬((pL:Str)=AM):=by decide +kernel
theorem A_(p dw dy:Addr):(cy p dw dy).lookup ("web":Str)\.ref p:=by
 unfold cy;rw[gj,aB g13,gj,aB g12,gj,aI Z]
theorem M5(p dw dy:Addr):(cy p dw dy).lookup (pL:Str)\.ref dw:=by
 unfold cy;rw[gj,aB g23,gj,aI Z]
theorem Zq(p dw dy:Addr):(cy p dw dy).lookup (AM:Str)\.ref dy:=by
 unfold cy;rw[gj,aI Z]
theorem wU(p dw dy:Addr){m:Str}(h1:¬m="web")(h2:¬m=pL)(h3:¬m=AM):(cy p dw dy).lookup m=none:=by
 unfold cy;rw[gj,aB h3,gj,aB h2,gj,aB h1]
 all_goals rfl
def kP(qs:aN):List (Key × V):=qs.map λq=>(Sum.inr q.1,V.int q.2.1)
def u_(qs:aN)(vs:ai):List (Key × V):=(qs.zip vs).map λx=>(Sum.inr x.1.1,x.2)
theorem TQ(qs:aN):(kP qs).map (·.1)=(qs.map (·.1)).map Sum.inr:=by
 unfold kP;rw[cj,cj];rfl
theorem hr_{qs:aN}{vs:ai}(h:vs.length=qs.length):(u_ qs vs).map (·.1)=(qs.map (·.1)).map Sum.inr:=by
 unfold u_;rw[cj];have:((λx:Key × V=>x.1) ∘ λq:Pc × V=>((Sum.inr q.1.1:Key),q.2))=(λp:Pc=>(Sum.inr p.1:Key)) ∘ Prod.fst:=rfl;rw[this,<- cj,List.map_fst_zip Z1,cj];rfl
structure gz (K:aj) (CG CW:Addr) (H:Hp) (g p:Addr) (hs:Xa) (ts:Xb) (qs:aN) (fp:au):Prop where
 ex:∃(dx dw dy:Addr) (vs:ai) (dF:au),H g\.ins CG dx (cy p dw dy)/\iz K CW H p hs ts dF/\H dw\.dK (kP qs)/\H dy\.dK (u_ qs vs)/\Paired (λv (q:Pc)=>bU K H v q.2.2) vs qs /\
  g∈fp/\dw∈fp/\dy∈fp/\(∀b∈dF,b∈fp)/\∀v∈vs,∀a,v=.ref a->a∈fp
theorem Pk{α β:Type}{F G:α->β->Prop}:∀{l:List α} {m:List β},Paired F l m->(∀a∈l,∀b,F a b->G a b)->Paired G l m
 |_,_,.nil,_=>.nil
 |_,_,.cons h t,f=>.cons (f _ gd _ h) (Pk t λa ha=>f a (fP _ ha))
theorem bU.keep{K:aj}{H H':Hp}{v:V}{o:Option (Xb)}(h:bU K H v o)(k:∀a,v=.ref a->∀u,H a\u->H' a\u)(kt:∀b xs,H b\.tup xs->H' b\.tup xs):bU K H' v o:=by
 cases o with
 |none=>exact h
 |some ws=>
  let#[a,ys,e,ha,t]:=h;exact#[a,ys,e,k a e _ ha,Paired.aV t λy q ⟨b,z,hb⟩=>#[b,z,kt _ _ hb]]
theorem gz.keep{K:aj}{CG CW:Addr}{H H':Hp}{g p:Addr}{hs:Xa}{ts:Xb}{qs:aN}{fp:au}(G:gz K CG CW H g p hs ts qs fp)(k:∀b∈fp,∀o,H b\o->H' b\o)(kt:∀b xs,H b\.tup xs->H' b\.tup xs):gz K CG CW H' g p hs ts qs fp:=by
 let#[dx,dw,dy,vs,dF,h1,h2,h3,h4,h5,m1,m2,m3,m4,m5]:=G.ex;exact#[dx,dw,dy,vs,dF,k _ m1 _ h1,h2.keep (λb hb o e=>k b (m4 b hb) o e) kt,k _ m2 _ h3,k _ m3 _ h4,Pk h5 λv hv q h=>h.keep (λa z u e=>k a (m5 v hv a z) u e) kt,m1,m2,m3,m4,m5]
theorem gz.same{K:aj}{CG CW:Addr}{H H':Hp}{g p:Addr}{hs:Xa}{ts:Xb}{qs:aN}{fp:au}(G:gz K CG CW H g p hs ts qs fp)(s:aa H H'):gz K CG CW H' g p hs ts qs fp:=G.keep (λb _ o e=>s b o e) λb xs e=>s b _ e
structure gm (K:aj) (CG:Addr):Prop where
 cl:mJ K CG
 nW:mj K CG "web"
 nG:mj K CG pL
 nY:mj K CG AM
structure F5 (K:aj) (C:Addr):Prop where
 ha:PySem.W.findIn K (.ref C) "__class__"\some (.builtin "object.__class__")
 hn:PySem.W.specialIn K (.builtin "object.__class__") "__get__"\some (.builtin "getset_descriptor.__get__")
 tk:PySem.W.takesIn K (.builtin "object.__class__")\true
 mo:PySem.W.mroIn K C (.type "object")\true
theorem hP_(K:aj)(c:Aa):PySem.W.kitOne K c c\true:=by
 unfold PySem.W.kitOne;rw[aI (beq_self_eq_true c)]
theorem TH{K:aj}{H0 H:Hp}:∀{zs:ai} {qs:aN},Paired (pP K H0 H) zs qs->∃vs:ai,vs.length=qs.length/\Paired (λz (x:Pc × V)=>∃t,z=.ref t/\H t\.tup [.str x.1.1,.int x.1.2.1,x.2]) zs (qs.zip vs)/\Paired (λv (q:Pc)=>bU K H v q.2.2) vs qs/\∀v∈vs,∀a,v=.ref a->H0 a=none
 |_,_,.nil=>#[[],Z,.nil,.nil,by simp]
 |_,_,.cons ⟨t,v,e,ht,wy,hn⟩ r=>by
  let#[vs,h1,h2,h3,h4]:=TH r;apply#[v::vs,by simp[h1],.cons #[t,e,ht] h2,.cons wy h3,λu hu=>?_];rcases bV.mp hu with rfl|hu
  ·exact hn
  exact h4 u hu
theorem TC{K:aj}{l D:Addr}{zs:ai}{xs:List (Pc × V)}{H:Hp}{Q:VK}{oC:St}{j:Nat}(sel:Pc × V->V)(hj:∀x:Pc × V,[some (V.str x.1.1),some (V.int x.1.2.1),some x.2][j]? = some (some (sel x)))(vU:oC=[none,none,none])(hl:H l\.lst zs)
  (pz:Paired (λz (x:Pc × V)=>∃t,z=.ref t/\H t\.tup [.str x.1.1,.int x.1.2.1,x.2]) zs xs) (n5:xs.length<=1000) (hD:H D=none)
  (q:∀H' out,aa H H'->H' D\.lst out->jk K H' out (xs.map λx=>(Sum.inr x.1.1,sel x))->Q (.ref D) H') :
  BL (yD K l) (gF K 3 (pN (kI 0) (pN (kI 1) (pN (kI 2) sr)))) qa (CB (jv (oF 0) (jv (oF j) oG))) oC D H Q:=by
 let sz:=cJ;let le:=bw pz;apply i9 (own:=3) (fv:=[]) (xs:=zs) vU E2 (λi out H'=>aa H H'/\H' D\.lst out/\jk K H' out ((xs.take i).map λx=>(Sum.inr x.1.1,sel x))) #[aa.new hD,ay,.nil] (λi out H' _ ⟨sm,_,_⟩=>.of (sm _ _ hl)) (λout H4 ⟨sm,iW,eo⟩=>?_) (λi y out H' hy ⟨sm,cQ,eo⟩=>?_)
 ·rw[le,eN] at eo;exact q _ _ sm iW eo
 have hi:i<zs.length:=(bY.mp hy).1;have hx:xs[i]? = some (xs[i]' Z1):=aQ Z1;let#[t,et,ht]:=dU pz i hi Z1;rw[(bY.mp hy).2] at et;subst et;generalize xs[i]' Z1=x at hx ht;let lo:=bw eo;rw[aq,dG] at lo;apply#[_,#[t,_,_,_,Z,.of (sm _ _ ht),Z],Z,λNx hN=>ed ?_];apply#[_,Z,_,hj x,zl,λp hp=>?_];let s2:=aa.new (o:=.tup [.str x.1.1,sel x]) hp;apply#[out,s2 _ _ cQ,by omega,hN _ _ #[fo (sm.trans s2) hD,ay,?_]];rw[tS _ hx];have pD:∀{b:Addr} {ys:ai},upd H' p (.tup [.str x.1.1,sel x]) b\.tup ys->b≠D:=λhb=>bK hb (s2 _ _ cQ) nofun;apply hU (Paired.aV eo λy kv ⟨b,z,hb⟩=>#[b,z,by rw[ax (pD (s2 _ _ hb))];exact s2 _ _ hb]) (.cons #[p,Z,?_] .nil);have kq:upd H' p (.tup [.str x.1.1,sel x]) p\.tup [.str x.1.1,sel x]:=ay;rw[ax (pD kq)];exact kq
section v
theorem mY:bG ["self","web","pieces","checked"] ["self","web","pieces"] (aX lQ):=bR
inductive NL (K:aj) (CG CW:Addr) (vs:ai) (H:Hp) (Q:VK) (E:XK):Prop
 |mk:∀(g dx p l:Addr) (ys:ai) (ps:aN) (hs:Xa) (ts:Xb) (dF:au),vs=[.ref g,.ref p,.ref l]->H g\.ins CG dx []->iz K CW H p hs ts dF->g∉dF->Good hs ts->H l\.lst ys->jo K H ys ps->(∀q∈ps,kh ts q)->(ps.map (·.1)).Nodup->ps.length<64->(∀qs fp H',(∀b o,H b\o->b≠g->H' b\o)->gz K CG CW H' g p hs ts qs fp->Qs ps qs->(∀b∈fp,b=g∨b∈dF∨H b=none)->Q .non H')->NL K CG CW vs H Q E
theorem _Q{f CG CW:Addr}{fd:Ae}(F:bj K "__init__" "Goods.__init__" lQ f fd)(T:gm K CG)(TW:Txt K mg CW)(IW:F5 K CW)(B:Bi mg)(K8:mg "Web"\.ref CW)(cP:!bp 6 "checked_pieces" ["web","pieces"] (OU K CW)):!ao aZ 7 f fd ["self","web","pieces"] (NL K CG CW):=by
 exists F.bQ mY;let#[g,dx,p,l,ys,ps,hs,ts,dF,rfl,hg,W,gw,G,hl,pc,gp,nd,bX,k]:=h
 apply#[_,aw (cg (eX (eP (cO gT_ (by rfl) B.jg jq %[1,FI (v:=.ref CW) (by rfl) K8 Z|0]))) gA cq)
  (aw (bq 3 mY.nd (bc cP hr %[1,2|0]))
  (aw (uU (pv 0) (pv 1) Z)
  (aw (uU (pv 0) (ja (yw Z) (by rfl) B.dict tQ %[iL yb 3 [] (dI (pv 3)) (λfp s H=>Bb (n:=3) (dE (eO (i:=0) (show (yb:ae).Nodup by decide +kernel) Z (Or.inl Z)) (dE (eO (i:=1) (show (yb:ae).Nodup by decide +kernel) Z (Or.inl Z)) (dE (eO (i:=2) (show (yb:ae).Nodup by decide +kernel) Z (Or.inl Z)) jc)))) (λfp s H=>jr) (λfp s H=>gf %[0,1|0])|0]) Z)
  (aF (uU (pv 0) (ja (yw Z) (by rfl) B.dict tQ %[iL yb 3 [] (dI (pv 3)) (λfp s H=>Bb (n:=3) (dE (eO (i:=0) (show (yb:ae).Nodup by decide +kernel) Z (Or.inl Z)) (dE (eO (i:=1) (show (yb:ae).Nodup by decide +kernel) Z (Or.inl Z)) (dE (eO (i:=2) (show (yb:ae).Nodup by decide +kernel) Z (Or.inl Z)) jc)))) (λfp s H=>jr) (λfp s H=>gf %[0,2|0])|0]) Z))))),?_]
 let#[l_,d1,l2,d3,xb,as,ef,w1,_]:=id W.ex;apply#[_,Z,_,_,_,_,Z,.ins w1 TW.cl IW.ha IW.hn IW.tk IW.mo,hP_ _ _,_,Z,aM ?_];apply#[_,Z,_,Z,p,l,ys,ps,hs,ts,dF,Z,W,G,hl,pc,gp,nd,bX,λlc zs qs H1 s1 xT pn Qq=>?_];let#[vs,lv,pz,VN,Cr]:=TH pn;let ED:=s1 _ _ hg
 have lq:qs.length=ps.length:=by
  have:=d7 List.length Qq.vK;rw[aq,(BY _).length_eq,aq] at this;exact this
 have Xk:(qs.map (·.1)).Nodup:=by
  rw[Qq.vK];exact (BY _).nodup_iff.mpr nd
 apply#[_,Z,_,Z,g,CG,dx,[],Z,ED,T.cl,T.nW,by show 0<1000;decide,?_];have up1:∀{b o},H1 b\o->b≠g->upd H1 g (.ins CG dx (az "web" (.ref p) [])) b\o:=λe ne=>by rw[ax ne];exact e
 have xU:upd H1 g (.ins CG dx (az "web" (.ref p) [])) g\.ins CG dx (az "web" (.ref p) []):=ay
 have MT:∀{b},upd H1 g (.ins CG dx (az "web" (.ref p) [])) b=none->H1 b=none:=λ{b} e=>by
  by_cases z:b=g
  ·rw[z,ay] at e;cases e
  rw[ax z] at e;exact e
 generalize upd H1 g (.ins CG dx (az "web" (.ref p) []))=H2 at up1 xU MT ⊢;have GZ:lc≠g:=bK xT ED nofun;have Xt:Paired (λz (x:Pc × V)=>∃t,z=.ref t/\H2 t\.tup [.str x.1.1,.int x.1.2.1,x.2]) zs (qs.zip vs):=Paired.aV pz λz x ⟨t,e,ht⟩=>#[t,e,up1 ht (bK ht ED nofun)];have mN:(qs.zip vs).length<=1000:=by rw[List.length_zip];omega
 apply#[_,Z,lc,Z,#[_,.of (up1 xT GZ)],λD hD=>?_];apply TC (λx=>.int x.1.2.1) (λx=>rfl) Z (up1 xT GZ) Xt mN hD λH3 out s3 kD XC=>?_;apply#[D,out,_,Z,kD,XC,by rw[aq];exact mN,λdw Mn=>?_]
 have Nf:((qs.zip vs).map λx:Pc × V=>((Sum.inr x.1.1:Key),V.int x.1.2.1))=kP qs:=by
  unfold kP;have:(λx:Pc × V=>((Sum.inr x.1.1:Key),V.int x.1.2.1))=(λq:Pc=>((Sum.inr q.1:Key),V.int q.2.1)) ∘ Prod.fst:=rfl;rw[this,<- cj,List.map_fst_zip Z1]
 have km:(qs.map (·.1)).map (Sum.inr:Str->Key) |>.Nodup:=by
  rw[tY,uX];exact Xk.imp λn e=>n (hZ e)
 rw[Nf,wY (by rw[TQ];exact km)];let s4:=aa.new (o:=.dK (kP qs)) Mn;let RZ:=s4 _ _ (s3 _ _ xU);apply#[_,Z,g,CG,dx,_,Z,RZ,T.cl,T.nG,by show 1<1000;decide,?_];let vD:=s3.trans s4;have EF:upd H3 dw (.dK (kP qs)) dw\.dK (kP qs):=ay;have T4:dw≠g:=(bu (s3 _ _ xU) Mn).symm;have pI:∀{b},upd H3 dw (.dK (kP qs)) b=none->H2 b=none:=λe=>vD.free e;have dwn:H2 dw=none:=s3.free Mn;generalize upd H3 dw (.dK (kP qs))=H4 at s4 RZ vD EF pI ⊢;have J2:∀{b o},H4 b\o->b≠g->upd H4 g (.ins CG dx (az pL (.ref dw) (az "web" (.ref p) []))) b\o:=λe ne=>by rw[ax ne];exact e
 have Mf:upd H4 g (.ins CG dx (az pL (.ref dw) (az "web" (.ref p) []))) g\.ins CG dx (az pL (.ref dw) (az "web" (.ref p) [])):=ay
 have oY:∀{b},upd H4 g (.ins CG dx (az pL (.ref dw) (az "web" (.ref p) []))) b=none->H4 b=none:=λ{b} e=>by
  by_cases z:b=g
  ·rw[z,ay] at e;cases e
  rw[ax z] at e;exact e
 generalize upd H4 g (.ins CG dx (az pL (.ref dw) (az "web" (.ref p) [])))=H5 at J2 Mf oY ⊢;have vn:∀{b o},H1 b\o->b≠g->H5 b\o:=λe ne=>J2 (vD _ _ (up1 e ne)) ne;have Xs:Paired (λz (x:Pc × V)=>∃t,z=.ref t/\H5 t\.tup [.str x.1.1,.int x.1.2.1,x.2]) zs (qs.zip vs):=Paired.aV pz λz x ⟨t,e,ht⟩=>#[t,e,vn ht (bK ht ED nofun)];apply#[_,Z,lc,Z,#[_,.of (vn xT GZ)],λD2 uG=>?_];apply TC (λx=>x.2) (λx=>rfl) Z (vn xT GZ) Xs mN uG λH6 iR s6 hD6 XB=>?_;apply#[D2,iR,_,Z,hD6,XB,by rw[aq];exact mN,λdy Mm=>?_];rw[show ((qs.zip vs).map λx:Pc × V=>((Sum.inr x.1.1:Key),x.2))=u_ qs vs from Z,wY (by rw[hr_ lv];exact km)];let s7:=aa.new (o:=.dK (u_ qs vs)) Mm;let GC:=s6.trans s7;let RY:=GC _ _ Mf;apply#[_,Z,g,CG,dx,_,Z,RY,T.cl,T.nY,by show 2<1000;decide,?_];have EE:upd H6 dy (.dK (u_ qs vs)) dy\.dK (u_ qs vs):=ay;have dyg:dy≠g:=(bu (s6 _ _ Mf) Mm).symm;have dyn:H5 dy=none:=s6.free Mm;generalize upd H6 dy (.dK (u_ qs vs))=H7 at s7 GC RY EE ⊢
 have fin:∀{b o},H1 b\o->b≠g->upd H7 g (.ins CG dx (cy p dw dy)) b\o:=λe ne=>by
  rw[ax ne];exact GC _ _ (vn e ne)
 have Ct:∀b xs,H1 b\.tup xs->upd H7 g (.ins CG dx (cy p dw dy)) b\.tup xs:=λb xs e=>fin e (bK e ED nofun);have nH:∀{b},H1 b=none->H b=none:=λe=>s1.free e;apply k qs (g::dw::dy::(dF++vs.filterMap λv=>match v with | .ref a=>some a|_=>none)) _ (λb o e ne=>fin (s1 _ _ e) ne) #[dx,dw,dy,vs,dF,ay,?_,?_,?_,?_,by simp,by simp,by simp,λb hb=>by simp[hb],λv hv a z=>?_] Qq λb hb=>?_
 ·exact W.keep (λb hb o e=>fin (s1 _ _ e) (λz=>gw (z▸hb))) λb xs e=>Ct b xs (s1 _ _ e)
 ·rw[ax T4];exact GC _ _ (J2 EF T4)
 ·rw[ax dyg];exact EE
 ·exact Pk VN λv hv q h=>h.keep (λa z u e=>fin e (λzz=>by
   subst zz;have:=Cr v hv _ z;rw[hg] at this;cases this)) λb xs e=>Ct b xs e
 ·apply fP _ (fP _ (fP _ (mC _ (yu.mpr #[v,hv,?_]))));rw[z]
 simp only[bV,d9,yu] at hb;rcases hb with rfl|rfl|rfl|hb|⟨v,hv,e⟩
 ·exact .inl Z
 ·exact .inr (.inr (nH (MT dwn)))
 ·exact .inr (.inr (nH (MT (vD.free (oY dyn)))))
 ·exact .inr (.inl hb)
 cases v with
 |ref a=>
  cases e;exact .inr (.inr (Cr _ hv _ Z))
 |_=>cases e
end
end Ev
namespace L2
open PySem
end L2
namespace Ev
open PySem L2
theorem eq_{kvs:List (Key × V)}{ns:ae}(h:kvs.map (·.1)=ns.map Sum.inr)(x:Str):(a9 kvs (Sum.inr x)).isSome=decide (x∈ns):=by
 by_cases hx:x∈ns
 ·rw[dc hx];apply Jx ?_;rw[h];exact bC.mpr #[x,hx,Z]
 rw[eG hx,u0]
 ·rfl
 rw[h];intro m;let#[y,hy,e]:=bC.mp m;cases e;exact hx hy
theorem YO{qs:aN}(nd:(qs.map (·.1)).Nodup){q:Pc}(hq:q∈qs):a9 (kP qs) (Sum.inr q.1)\.int q.2.1:=by
 let#[j,hj,e]:=hJ hq;have:=Nv (ps:=qs) (cs:=qs.map λq=>V.int q.2.1) nd (by rw[aq]) (j:=j) (q:=q) (c:=.int q.2.1) (by rw[aQ hj,e]) (by rw[dk,aQ hj,e];rfl)
 have e2:((qs.zip (qs.map λq=>V.int q.2.1)).map λq=>((Sum.inr q.1.1:Key),q.2))=kP qs:=by
  unfold kP;rw[List.zip_map_right,cj]
  have:qs.zip qs=qs.map λq=>(q,q):=by
   clear nd hq this hj e j
   induction qs with
   |nil=>rfl
   |cons a l ih=>rw[List.zip_cons_cons,ih,eI]
  rw[this,cj];rfl
 rwa [e2] at this
theorem YU{qs:aN}{vs:ai}(nd:(qs.map (·.1)).Nodup){K:aj}{H:Hp}(h:Paired (λv (q:Pc)=>bU K H v q.2.2) vs qs){q:Pc}(hq:q∈qs):∃v∈vs,a9 (u_ qs vs) (Sum.inr q.1)\v/\bU K H v q.2.2:=by
 let#[j,hj,e]:=hJ hq;let hl:=bw h;have hv:j<vs.length:=by omega
 let p:=dU h j hv hj;rw[e] at p;exact#[vs[j],kK hv,Nv nd Z1 (by rw[aQ hj,e]) (aQ hv),p]
def BD(hs:Xa)(ts:Xb)(o:Option (Xb))(x y:Option Str):Bool:=
 BG hs ts x y&&match o,x,y with
  |none,_,_=>true
  |some ws,some a,some b=>decide (aH a b∈ws)
  |_,_,_=>false
section v
theorem zi:bG oi oi (aX rp):=bR
inductive Fh (K:aj) (CG CW:Addr) (vs:ai) (H:Hp) (Q:VK) (E:XK):Prop
 |mk:∀(g p:Addr) (v:V) (x:Option Str) (hs:Xa) (ts:Xb) (qs:aN) (fp:au),vs=[.ref g,v]->gz K CG CW H g p hs ts qs fp->j8 K H v x->Q (.bl (DT (qs.map (·.1)) x)) H->Fh K CG CW vs H Q E
theorem Zi{f CG CW:Addr}{fd:Ae}(F:bj K "has_piece" "Goods.has_piece" rp f fd)(T:gm K CG)(B:Bi mg):!ao aZ 1 f fd oi (Fh K CG CW):=by
 exists F.bQ zi;let#[g,p,v,x,hs,ts,qs,fp,rfl,G,sv,k]:=h;let hu:=gc hr;let#[dx,dw,dy,vs,dF,h1,h2,h3,h4,h5,m1,m2,m3,m4,m5]:=G.ex;apply#[_,aF (bx (tJ (cO jX (by rfl) B.jg jq %[1,jW (v:=.ty "str") (by rfl) B.str Ic Z|0]) (uT (ID (BM hu (pv 1) (gN (pv 0) Z)))))),?_];cases x with
 |some x=>
  cases (show v=.str x from sv);apply#[_,Z,_,_,_,_,Z,.str x,Z,_,Z,dj ?_];apply#[_,Z,_,Z,g,CG,dx,_,_,Z,h1,T.cl,T.nG,M5 _ _ _,dw,_,Z,.k (k:=Sum.inr x) h3,?_];rw[eq_ (TQ qs)];exact k
 |none=>
  let#[t,ty,e]:=sv;exact#[_,Z,_,_,_,_,Z,ty,e,_,Z,aM k]
theorem qF:bG o5 o5 (aX NM):=bR
inductive BV (K:aj) (CG CW:Addr) (vs:ai) (H:Hp) (Q:VK) (E:XK):Prop
 |mk:∀(g p:Addr) (hs:Xa) (ts:Xb) (qs:aN) (fp:au),vs=[.ref g]->gz K CG CW H g p hs ts qs fp->(∀l,H l=none->Q (.ref l) (upd H l (.lst ((qs.map (·.1)).map V.str))))->BV K CG CW vs H Q E
theorem fL_{f CG CW:Addr}{fd:Ae}(F:bj K "names" "Goods.names" NM f fd)(T:gm K CG)(B:Bi mg):!ao aZ 1 f fd o5 (BV K CG CW):=by
 exists F.bQ qF;let#[g,p,hs,ts,qs,fp,rfl,G,k]:=h;let#[dx,dw,dy,vs,dF,h1,h2,h3,h4,h5,m1,m2,m3,m4,m5]:=G.ex;apply#[_,aF (bx (ja (OY Z) (by rfl) B.list yo %[gN (pv 0) Z|0])),?_];apply#[_,Z,g,CG,dx,_,_,Z,h1,T.cl,T.nG,M5 _ _ _,dw,_,Z,.inl h3,λl hl=>?_]
 have e:((kP qs).map λkv=>kV kv.1)=(qs.map (·.1)).map V.str:=by
  unfold kP;rw[cj,cj];rfl
 rw[e];exact k l hl
structure Ref (K:aj) (mg:Str->Option Aa) (x:Str) (C:Addr):Prop where
 mg:mg x\.ref C
 ex:PySem.W.excIn K C [.type "ValueError",.type "Exception",.type "BaseException",.type "object"] "ValueError.__new__"=true
theorem oI:bG ["self","piece"] ["self","piece"] (aX NI):=bR
inductive OV (K:aj) (CG CW CP:Addr) (vs:ai) (H:Hp) (Q:VK) (E:XK):Prop
 |mk:∀(g p:Addr) (v:V) (x:Option Str) (hs:Xa) (ts:Xb) (qs:aN) (fp:au),vs=[.ref g,v]->gz K CG CW H g p hs ts qs fp->(qs.map (·.1)).Nodup->j8 K H v x->((∃q∈qs,x\q.1/\Q (.int q.2.1) H)∨False)->OV K CG CW CP vs H Q E
theorem fr_{f CG CW CP:Addr}{fd:Ae}(F:bj K "weight" "Goods.weight" NI f fd)(T:gm K CG)(cH:!bO CG 1 "has_piece" oi (Fh K CG CW)):!ao aZ 2 f fd ["self","piece"] (OV K CG CW CP):=by
 exists F.bQ oI;let#[g,p,v,x,hs,ts,qs,fp,rfl,G,nd,sv,k]:=h;let hu:=gc hr;let#[dx,dw,dy,vs,dF,h1,h2,h3,h4,h5,m1,m2,m3,m4,m5]:=id G.ex;have kr:(cy p dw dy).lookup ("has_piece":Str)=none:=wU _ _ _ Z0 Z0 Z0;apply#[_,aw (cg (eX (eP (ji cH T.cl hr (pv 0) %[1|0]))) gA cq) (aF (bx (oq hu (gN (pv 0) Z) (pv 1)))),?_];apply#[_,Z,g,dx,_,Z,h1,kr,_,Z,g,p,v,x,hs,ts,qs,fp,Z,G,sv,_,Z,?_];rcases k with⟨q,hq,rfl,k⟩|k
 ·cases (show v=.str q.1 from sv);rw[show DT (qs.map (·.1)) (some q.1)=true from dc (bC.mpr #[q,hq,Z])];apply aM ?_;apply#[_,Z,g,CG,dx,_,_,Z,h1,T.cl,T.nG,M5 _ _ _,_,Z,dw,_,Z,?_,k];rw[<- YO nd hq];exact .k (k:=Sum.inr q.1) h3
 exact k.elim
theorem qG:bG ["self","piece","one","other","ties"] ["self","piece","one","other"] (aX rh):=bR
inductive lg (K:aj) (CG CW CP:Addr) (vs:ai) (H:Hp) (Q:VK) (E:XK):Prop
 |mk:∀(g p:Addr) (v u1 u2:V) (x y1 y2:Option Str) (hs:Xa) (ts:Xb) (qs:aN) (fp:au),vs=[.ref g,v,u1,u2]->gz K CG CW H g p hs ts qs fp->(qs.map (·.1)).Nodup->(aS hs).Nodup->j8 K H v x->((∃q∈qs,x\q.1/\j8 K H u1 y1/\j8 K H u2 y2/\∀H',aa H H'->Q (.bl (BD hs ts q.2.2 y1 y2)) H')∨False)->lg K CG CW CP vs H Q E
theorem _w{f CG CW CP:Addr}{fd:Ae}(F:bj K "may_go" "Goods.may_go" rh f fd)(T:gm K CG)(TW:Txt K mg CW)(cH:!bO CG 1 "has_piece" oi (Fh K CG CW))(cT:!bO CW 2 "are_tied" j0 (Jp K CW))(cL:!bp 1 "lesser_first" mr Ja) :
  ao P w K mg base aZ 3 f fd ["self","piece","one","other"] (lg K CG CW CP):=by
 exists F.bQ qG;let#[g,p,v,u1,u2,x,y1,y2,hs,ts,qs,fp,rfl,G,nd,rT,sv,k]:=h;let hu:=gc hr;have jh:aP 1 _:=hr.mono (by decide);let#[dx,dw,dy,vs,dF,h1,h2,h3,h4,h5,m1,m2,m3,m4,m5]:=id G.ex;have kr:(cy p dw dy).lookup ("has_piece":Str)=none:=wU _ _ _ Z0 Z0 Z0;let#[l_,d1,l2,d3,xb,as,ef,w1,_]:=id h2.ex;have Ac:(fi d1 l2 d3).lookup ("are_tied":Str)=none:=pW _ _ _ Z0 Z0 Z0
 apply#[_,aw (cg (eX (eP (ji cH T.cl jh (pv 0) %[1|0]))) gA cq)
  (aw (cg (eX (eP (ji cT TW.cl hr (gN (pv 0) Z) %[2,3|0]))) (aF (bx i5)) cq)
  (aw (bq 4 qG.nd (oq hu (gN (pv 0) Z) (pv 1)))
  (aF (bx (Yz (ID (IB (pv 4))) (uT (wQ (MK (Fp g_ g_) (oj hr _)) (bc cL hr %[2,3|0]) (pv 4) (by with_unfolding_all rfl)))))))),?_]
 apply#[_,Z,g,dx,_,Z,h1,kr,_,Z,g,p,v,x,hs,ts,qs,fp,Z,G,sv,_,Z,?_];rcases k with⟨q,hq,rfl,s1,s2,k⟩|k
 ·cases (show v=.str q.1 from sv);rw[show DT (qs.map (·.1)) (some q.1)=true from dc (bC.mpr #[q,hq,Z])];apply aM ?_;apply#[_,Z,g,CG,dx,_,_,Z,h1,T.cl,T.nW,A_ _ _ _,p,l_,_,Z,w1,Ac,_,Z,_,Z,p,u1,u2,y1,y2,hs,ts,dF,Z,h2,rT,s1,s2,_,Z,?_];cases tb:BG hs ts y1 y2 with
  |false=>
   apply dj ?_;have:=k H (aa.refl H);unfold BD at this;rw[tb,Bool.false_and] at this;exact this
  |true=>
   apply aM ?_;let#[u,vX,eu,wy]:=YU nd h5 hq;apply#[_,Z,g,CG,dx,_,_,Z,h1,T.cl,T.nY,Zq _ _ _,_,Z,dy,u,Z,?_,?_]
   ·rw[<- eu];exact .k (k:=Sum.inr q.1) h4
   apply#[_,Z,_,Z,?_];unfold BD at k;rw[tb] at k;cases e:q.2.2 with
   |none=>
    rw[e] at wy k;cases (show u=.non from wy);exact dj (k H (aa.refl H))
   |some ws=>
    rw[e] at wy k;let#[a,ys,rfl,ha,tu]:=wy;cases y1 with
    |none=>cases tb
    |some a1=>
     cases y2 with
     |none=>cases tb
     |some a2=>
      cases (show u1=.str a1 from s1);cases (show u2=.str a2 from s2);apply aM #[_,Z,_,Z,a1,a2,Z,λt ht=>?_];have s3:aa H (upd H t (.tup [.str (aH a1 a2).1,.str (aH a1 a2).2])):=aa.new ht;apply#[_,Z,aH a1 a2,ws,#[t,_,_,Z,.of ay,Z,Z],#[a,ys,Z,.of (s3 _ _ ha),Nh (tu.same s3)],?_];let z:=k _ s3;rw[Bool.true_and] at z;rw[aB gK];show Q (.bl _) _;have z:Q (.bl (decide (aH a1 a2∈ws))) (upd H t (.tup [.str (aH a1 a2).1,.str (aH a1 a2).2])):=z;generalize upd H t (.tup [.str (aH a1 a2).1,.str (aH a1 a2).2])=Hz at z ⊢;by_cases hm:aH a1 a2∈ws
      ·simpa [hm] using z
      simpa [hm] using z
 exact k.elim
end
end Ev
namespace L2
open PySem PySem.Spec PyProof.Rows PySem.W
theorem ZT{P:Ad}{w:Af}{k:Key}{key:Aa}(h:(fj P w).is k key=true):RelV (kV k) key:=by
 have e2:wJ k key=true:=h;rcases p0 e2 with⟨i,t,rfl,rfl⟩|⟨x,t,rfl,rfl⟩
 ·exact#[t,Z]
 exact#[t,Z]
def Itm(d:Addr)(o:Obj)(kvs:List (Key × V)):It:=#[λi H=>H d\.frz o (.dK kvs)/\i<kvs.length,λi H y H'=>∃t k x,y=.ref t/\H t=none/\kvs[i]? = some (k,x)/\H'=upd H t (.tup [kV k,x]),λi H=>H d\.frz o (.dK kvs)/\kvs.length<=i]
theorem fz_{P:Ad}{w:Af}{K:aj}{elts:List Expr}{kk:Nat}{pos:Pos}(d it:Addr)(o:Obj)(kvs:List (Key × V)){es:Array DictEntry}{ep:Nat}(ho:o.data=.dict es ep):Turn P w K (.Tuple elts kk pos) (Itm d o kvs) [it] it (λi h=>∃ok ov,IsItemIter h it d i kvs.length ep ok ov) where
 mem:=by simp
 obj:=λi h st b hb=>by
  obtain rfl:b=it:=⇑hb
  let#[ok,ov,q]:=st;exact#[_,q,λv z=>by cases z]
 keep:=λi h h' st k=>by
  let#[ok,ov,q]:=st;exact#[ok,ov,k it Z2 _ q]
 item:=by
  intro X hP hw hK hc i pins s σ H E I hf st hg;subst hP hw hK;let#[hd,hi]:=hg;let#[vs,rel,dat]:=UB I hd ho;obtain⟨⟨k,x⟩,hx⟩:∃p,kvs[i]? = some p:=#[kvs[i],by simp[hi]];let#[u,hu,ru]:=MI rel i hx;let#[ok,ov,st]:=st;have ZY:it<s.heap.objs.size:=bz st;rw[rel.length] at st;apply wpAny_pyNext_items_item st dat hu λkey h' hk out ht sz kp=>?_;apply#[_,Z,wpAny_letOwnedTupleGo_items (s:={ s with heap:=h' }) out λh2 fL sb=>?_];have nT:s.heap.objs.size≠it:=jb ZY;have I1:Inv X pins σ (upd H s.heap.objs.size (.tup [kV k,x])) { s with heap:=h2 }:=I.iN (t':=s.toks) (fp:=[it]) (its:=[key,u]) (λb o hb q=>(sb.2 b ⇑hb).trans (kp b o ⇑hb q)) hf (bh _) (zl) (.cons (ZT hk) (.cons ru .nil)) #[#[_,(sb.2 _ nT).trans ht,Z,_,Z],_,(sb.2 _ nT).trans ht,Z];apply#[.ref _,_,I1,Z,#[_,k,x,Z,I.aA.fresh (bh _),hx,Z],#[_,_,by rw[rel.length];exact fL],λb hb=>?_];have e:b=it:=⇑hb
  rw[ax (λz=>nT (z.symm.trans e))];exact (hf b hb).1
 done:=by
  intro X hP hw hK hc i pins s σ H E I hf st hg;subst hP hw hK;let#[hd,hi]:=hg;let#[vs,rel,dat]:=UB I hd ho;let#[f0,f1,f2,f3,f4,f5]:=hf it Z2;let#[ok,ov,st]:=st;rw[rel.length] at st hi;exact wpAny_pyNext_items_end (I.ok.hd hc) st dat (by simp;omega) λh' eb=>#[Z,I.turned (t':=s.toks) (λb o hb e=>eb b o hb e) f0 f1 f3 f4 f5]
 self:=λA i s Q E st h=>by
  let#[ok,ov,q]:=st;exact kcp_self q h
inductive nJ (R:It->Hp->Prop) (x:V) (H1:Hp):Prop
 |mk:∀v d kvs,x=.ref v->H1 v\tK v d->H1 d\.dK kvs->(∀o,R (Itm d o kvs) (upd H1 d (.frz o (.dK kvs))))->nJ R x H1
def zM(tv:TE):TI:=λσ H R=>tv σ H λx H1=>nJ R x H1
theorem NC{X:Cx}{elts:List Expr}{kk:Nat}{p2:Pos}{e:Expr}{tv:TE}(he:PE X e tv):PI X (.Tuple elts kk p2) e (zM tv):=by
 intro pins s σ H R I h;apply aO (he pins s σ H _ I h) λu s1 ⟨x,H1,I1,r1,v,d,kvs,ex,hv,hd,q⟩=>?_;subst ex;cases r1;let#[iv,_,_]:=I1.aA v _ hv;let#[o,ho,I2]:=I1.freeze hd;let#[z,_,vs,rel,o',es,ep,nO,c',dt,r]:=E3 I1.aA hd;rw[ho] at nO;cases nO;apply wpAny_pyIter_items (knd:=fj X.prog X.w) (kvs:=vs) (ep:=ep) iv #[o,es,ho,c',dt,r] ?_;apply#[s1.heap.objs.size,[s1.heap.objs.size],_,_,_,Z,I2.kept (t':=s1.toks) λb o e=>aU _ e,fz_ d _ o kvs dt,?_,λb hb=>?_,q o]
 ·rw[rel.length];exact#[.none,.none,cK _ Z]
 obtain rfl:b=s1.heap.objs.size:=⇑hb
 exact I2.jN (bh _) (I2.aA.fresh (bh _))
theorem Oi{d:Addr}{o:Obj}{kvs:List (Key × V)}{g:TG}{tb:TS}{D:Ends}{σ:St}{H:Hp}(Pv:b_)(h0:Pv 0 σ H)(hl:∀i σ H,i<=kvs.length->Pv i σ H->H d\.frz o (.dK kvs))
  (hs:∀i k x σ H,kvs[i]? = some (k,x)->Pv i σ H->∀t,H t=none->g (.ref t) σ (upd H t (.tup [kV k,x])) λgg H2=>tb { D with nx:=Pv (i+1),ct:=Pv (i+1),bk:=D.nx } gg H2) (hd:∀σ H,Pv kvs.length σ H->D.nx σ H) :
  ∃W:Nat->Nat->St->Hp->Prop,(∃m,W 0 m σ H)/\∀i m σ H,W i m σ H->
   ((Itm d o kvs).stop i H/\D.nx σ H)∨((Itm d o kvs).go i H/\∃N:St->Hp->Prop,(∀aY H',N aY H'->∃m',m'<m/\W (i+1) m' aY H')/\∀x H',(Itm d o kvs).u9 i H x H'->g x σ H' λgg H2=>tb { D with nx:=N,ct:=N,bk:=D.nx } gg H2):=by
 apply#[λi m σ H=>m=kvs.length - i/\i<=kvs.length/\Pv i σ H,#[kvs.length,by simp,gR _,h0],?_];rintro i m σ H ⟨rfl,hi,p⟩;let q:=hl i σ H hi p;by_cases d5:i<kvs.length
 ·apply .inr #[#[q,d5],Pv (i+1),λaY H' p'=>#[kvs.length - (i+1),by omega,Z,d5,p'],λx H' y=>?_];let#[t,k,x,rfl,ht,hx,rfl]:=y;exact hs i k x σ H hx p t ht
 have e:i=kvs.length:=by omega
 subst e;exact .inl #[#[q,bh _],hd σ H p]
inductive qd (t:TS) (D:Ends) (σ:St) (H:Hp):Prop
 |mk:∀d kvs,H d\.dK kvs->t { nx:=λmL H1=>∃o,H1 d\.frz o (.dK kvs)/\D.nx mL (upd H1 d (.dK kvs)),rt:=λv H1=>∃o,H1 d\.frz o (.dK kvs)/\D.rt v (upd H1 d (.dK kvs)) } σ H->qd t D σ H
theorem SA{X:Cx}{st:Stmt}{t:TS}(h:PS X st t):PS X st (qd t):=by
 intro pins s σ H D I q;let#[d,kvs,hd,q]:=q
 have nf:∀o u,X.kg d≠some (.frz o u):=λo u z=>by
  have:=I.base.g8 _ _ _ z;rw[hd] at this;cases this
 apply aO (h pins s σ H _ I q) λf s' p=>?_;cases f with
 |next=>
  let#[mL,H1,I1,o,hf,q1]:=p;exact#[mL,_,I1.p_ hf nf,q1]
 |brk=>
  let#[mL,H1,I1,q1]:=p;exact False.elim q1
 |cont=>
  let#[mL,H1,I1,q1]:=p;exact False.elim q1
 |ret u=>
  let#[v,mL,H1,I1,r,o,hf,q1]:=p;exact#[v,mL,_,I1.p_ hf nf,r,q1]
theorem T_:∀{ns:List Int} {its:ag},Vals (ns.map V.int) its->∃xs:List (Int × Tok),its.toArray=intItems xs.toArray/\xs.map (·.1)=ns
 |[],_,.nil=>#[[],by unfold intItems;simp,Z]
 |n::ns,_,.cons ⟨t,e⟩ r=>by
  let#[xs,h1,h2]:=T_ r;apply#[(n,t)::xs,?_,by simp[h2]];subst e;apply Array.ext' ?_;let h3:=d7 Array.toList h1;unfold intItems at h3 ⊢;simp at h3 ⊢;exact h3
theorem UM{xs:List (Int × Tok)}:∀n,n<=xs.length->preSum (numAt xs.toArray) n=((xs.map (·.1)).take n).sum
 |0,_=>by simp[preSum]
 |n+1,h=>by
  let ih:=UM (xs:=xs) n Z1;show preSum (numAt xs.toArray) n+numAt xs.toArray n=_;rw[ih,pY,List.sum_append];congr 1;unfold numAt;rw[List.getElem?_toArray,dk,aQ Z1];simp
inductive xy (K:aj) (xs:ai) (H:Hp) (Q:VK):Prop
 |mk:∀(l:Addr) (ns:List Int),xs=[.ref l]->dY K H l (ns.map V.int)->Q (.int ns.sum) H->xy K xs H Q
theorem hk_{X:Cx}(hc:X.calm=true):gy X (.builtin "sum") (xy X.K):=by
 intro pins s σ H xs us Q I r h;let#[l,ns,rfl,hl,q]:=h;let#[u,rfl,ru]:=vals1 r;cases ru;let#[its,rv,p,hz]:=I.list hl;let#[zs,e1,e2]:=T_ rv;let il:=p.isList;rw[e1] at il;apply sum_intListG (I.ok.hd hc) il λh' tk t' k=>?_;apply#[.int ns.sum,H,I.kept (t':=tk) k,#[t',?_],q]
 have:preSum (numAt zs.toArray) zs.toArray.size=ns.sum:=by
  rw[cm,UM _ (bh _),<- e2,tW Z2]
 rw[this]
end L2
namespace Ev
open PySem L2
structure Fz (d:Addr) (o:Obj) (kvs:List (Key × V)) (H H':Hp):Prop where
 at_:H' d\.frz o (.dK kvs)
 sm:∀b u,b≠d->H b\u->H' b\u
section
variable{d:Addr}{o:Obj}{kvs:List (Key × V)}{H H' H2:Hp}
theorem Fz.start:Fz d o kvs H (upd H d (.frz o (.dK kvs))):=#[ay,λb u ne e=>by rw[ax ne];exact e]
theorem Fz.step(f:Fz d o kvs H H')(s:aa H' H2):Fz d o kvs H H2:=#[s _ _ f.at_,λb u ne e=>s _ _ (f.sm b u ne e)]
theorem Fz.p_(f:Fz d o kvs H H')(hd:H d\.dK kvs):aa H (upd H' d (.dK kvs)):=λb u e=>by
 by_cases z:b=d
 ·subst z;rw[hd] at e;cases e;exact ay
 rw[ax z];exact f.sm b u z e
theorem Fz.x8{K:aj}{CG CW g p:Addr}{hs:Xa}{ts:Xb}{qs:aN}{fp:au}(f:Fz d o kvs H H')(hd:H d\.dK kvs)(G:gz K CG CW H g p hs ts qs fp)(nd:d∉fp):gz K CG CW H' g p hs ts qs fp:=
 G.keep (λb hb u e=>f.sm b u (λz=>nd (z▸hb)) e) λb xs e=>f.sm b _ (bK e hd nofun) e
end
def dX(ns:ae)(g:Str->V):List (Key × V):=ns.map λn=>(Sum.inr n,g n)
theorem A0(ns:ae)(g:Str->V):(dX ns g).map (·.1)=ns.map Sum.inr:=by
 unfold dX;rw[cj];rfl
theorem jV(ns:ae)(g:Str->V):(dX ns g).length=ns.length:=aq _
theorem A8{ns:ae}{g:Str->V}{n:Str}(h:n∈ns):a9 (dX ns g) (Sum.inr n)\g n:=by
 induction ns with
 |nil=>cases h
 |cons m ns ih=>
  by_cases e:m=n
  ·subst e;exact AZ Z
  have:a9 (dX (m::ns) g) (Sum.inr n)=a9 (dX ns g) (Sum.inr n):=A1 λz=>e (hZ z);rw[this];rcases bV.mp h with z|z
  ·exact absurd z.symm e
  exact ih z
theorem JA{ns:ae}{g k:Str->V}(h:∀n∈ns,g n=k n):dX ns g=dX ns k:=uY λn hn=>by rw[h n hn]
theorem Sw{ns:ae}{g:Str->V}{n:Str}{v:V}(h:n∈ns):putK (dX ns g) (Sum.inr n) v=dX ns λm=>if m=n then v else g m:=by
 unfold putK;rw[aI]
 ·unfold dX;rw[cj];apply uY λm _=>?_;by_cases e:m=n
  ·subst e;simp
  have:¬((Sum.inr m:Key)=Sum.inr n):=λz=>e (hZ z);simp[e]
 apply List.any_eq_true.mpr #[(Sum.inr n,g n),bC.mpr #[n,h,Z],by simp]
theorem Sl{ns:ae}{g:Str->V}{n:Str}{v:V}(h:n∉ns):putK (dX ns g) (Sum.inr n) v=dX (ns++[n]) λm=>if m=n then v else g m:=by
 rw[wV _ (u0 (by
  rw[A0];intro m;let#[x,hx,e]:=bC.mp m;exact h (hZ e▸hx)))]
 unfold dX;rw[eU];congr 1
 ·apply uY λm hm=>?_;have e:¬m=n:=λz=>h (z▸hm);simp[e]
 simp
theorem M0{ns:ae}{g:Str->V}{i:Nat}{k:Key}{x:V}(h:(dX ns g)[i]? = some (k,x)):∃n,ns[i]? = some n/\k=Sum.inr n/\x=g n:=by
 unfold dX at h;rw[dk] at h;cases e:ns[i]? with
 |none=>rw[e] at h;cases h
 |some n=>
  rw[e] at h;let h:=cY h;exact#[n,Z,(d7 Prod.fst h).symm,(d7 Prod.snd h).symm]
theorem TJ{ns:ae}(nd:ns.Nodup){i:Nat}{n:Str}(h:ns[i]? = some n):n∉ns.take i:=by
 let q:=FP (g:=id) (ts:=ns) (by rw[List.map_id];exact nd) h;rwa [List.map_id] at q
theorem tM{ns:ae}{i:Nat}{n:Str}(h:ns[i]? = some n):ns.take (i+1)=ns.take i++[n]:=by
 rw[pY,h];rfl
abbrev dZ(ns:ae)(f:bo):List (Key × V):=dX ns λn=>.str (f n)
def eZ(q:Pc):Str × Int:=(q.1,q.2.1)
def ld(f:bo)(ws:Xa)(h:Str):Int:=((ws.filter λx=>decide (f x.1=h)).map (·.2)).sum
theorem Sz(f:bo)(ws:Xa)(x:Str × Int)(h:Str):ld f (ws++[x]) h=if h=f x.1 then ld f ws h+x.2 else ld f ws h:=by
 unfold ld;rw[List.filter_append];by_cases e:f x.1=h
 ·rw[aI e.symm,eU,List.sum_append];simp[e]
 rw[aB λz=>e z.symm];simp[e]
theorem SX:∀{l:List Int},(∀x∈l,0<=x)->0<=l.sum
 |[],_=>by simp
 |x::l,h=>by
  rw[List.sum_cons];have:=h x gd;have:=SX (l:=l) λy hy=>h y (fP _ hy);omega
theorem Zz{f:bo}{ws:Xa}{h:Str}(p:∀x∈ws,0<=x.2):0<=ld f ws h:=SX λx hx=>by
 let#[y,hy,rfl]:=bC.mp hx;exact p y (jY.mp hy).1
theorem gi_{α:Type}{ps:List (Str × α)}(nd:(ps.map (·.1)).Nodup){a b:Str × α}(ha:a∈ps)(hb:b∈ps)(e:a.1=b.1):a=b:=by
 induction ps with
 |nil=>cases ha
 |cons p ps ih=>
  rw[eI,js] at nd;rcases bV.mp ha with za|ha
  ·rcases bV.mp hb with zb|hb
   ·rw[za,zb]
   rw[za] at e;exact absurd (show p.1∈ps.map (·.1) from bC.mpr #[b,hb,e.symm]) nd.1
  rcases bV.mp hb with zb|hb
  ·rw[zb] at e;exact absurd (show p.1∈ps.map (·.1) from bC.mpr #[a,ha,e]) nd.1
  exact ih nd.2 ha hb
def strOf(hs:Xa)(n:Str):Int:=((hs.find? λh=>decide (h.1=n)).map (·.2)).getD 0
theorem Jy{hs:Xa}{n:Str}(h:n∈hs.map (·.1)):(n,strOf hs n)∈hs:=by
 unfold strOf;let#[x,hx,e]:=bC.mp h;cases q:hs.find? λh=>decide (h.1=n) with
 |none=>
  have:=List.find?_eq_none.mp q x hx;simp[e] at this
 |some y=>
  let m:=List.mem_of_find?_eq_some q;have:=List.find?_some q;have e2:y.1=n:=⇑this
  show (n,y.2)∈hs;rw[<- e2];exact m
theorem Tp{hs:Xa}(nd:(hs.map (·.1)).Nodup){n:Str}{s:Int}(h:(n,s)∈hs):strOf hs n=s:=by
 let m:=Jy (bC.mpr #[_,h,Z]:n∈hs.map (·.1));exact d7 Prod.snd (gi_ nd m h Z)
def fr(a b:Int):Int × Int:=(a / (Int.gcd a b:Int),b / (Int.gcd a b:Int))
theorem hp_{a b:Int}(ha:0<=a)(h:0<b):Int.gcd b (a % b)=Int.gcd a b:=by
 let#[m,rfl]:=tX ha;let#[n,rfl]:=tX (iD h);rw[<- Int.natCast_emod];show Nat.gcd n (m % n)=Nat.gcd m n;rw[Nat.gcd_comm n,<- Nat.gcd_rec,Nat.gcd_comm]
section v
theorem oH:bG ["one","other","rest","divisor","left"] mr (aX KA):=bR
def vw:Sp:=λvs H Q _=>∃a b:Int,vs=[.int a,.int b]/\0<=a/\0<b/\Q (.int (Int.gcd a b)) H
theorem YF{f:Addr}{fd:Ae}(F:bj K BH BH KA f fd):!ao aZ 1 f fd mr vw:=by
 exists F.bQ oH;let#[a,b,rfl,ha,hb,k]:=h;refine' #[_,aw ?s1 (aw ?s2 (aw ?s3 ?s4)),?kk]
 case s1=>exact bq 2 oH.nd (pv 0)
 case s2=>exact bq 3 oH.nd (pv 1)
 case s3=>exact Jl d8 (fI tH (pv 2) aC) (aw (bq 4 oH.nd (bN yj (pv 3) (pv 2))) (aw (bq 3 oH.nd (pv 2)) (aF (bq 2 oH.nd (pv 4)))))
 case s4=>exact aF (bx (pv 3))
 apply#[_,Z,_,Z,?_];apply _E (λσ H'=>H'=H/\∃(r d:Int) (v4:aJ),σ=[some (.int a),some (.int b),some (.int r),some (.int d),v4]/\0<=r/\0<d/\Int.gcd r d=Int.gcd a b) (λσ _=>match σ with | [_,_,some (.int r),_,_]=>r.toNat|_=>0) #[Z,a,b,none,Z,ha,hb,Z] ?_ ?_
 ·rintro σ H' ⟨rfl,r,d,v4,rfl,nM,hd,e⟩;apply#[_,Z,Z,_,Z,?_];apply cw (λc=>?_) (λc=>?_)
  ·have jh:0<r:=by
    have:r≠0:=by
     intro z;subst z;simp at c
    omega
   apply#[_,Z,_,Z,_,_,Z,Z,jh,_,Z,_,Z,?_];let h1:=Int.emod_nonneg d (Int.ne_of_gt jh);let h2:=Int.emod_lt_of_pos d jh;apply#[#[Z,_,_,_,Z,h1,jh,?_],?_]
   ·rw[<- e,Int.gcd_comm (d % r) r,hp_ (iD hd) jh,Int.gcd_comm]
   show (d % r).toNat<r.toNat;omega
  have jh:r=0:=⇑c
  subst jh;apply#[_,Z,?_]
  have e2:(Int.gcd a b:Int)=d:=by
   rw[<- e,Int.gcd_zero_left];omega
  rw[<- e2];exact k
 intro σ H' Q1 Q2 hq h;let#[x,e,h1,c,h2,h3]:=h;exact#[x,e,h1,c,h2,hq _ _ h3]
end
end Ev
namespace Ev
open PySem L2
theorem Yw{a b:Int}(hb:0<b)(l7:b<=1000):0<(Int.gcd a b:Int)/\(Int.gcd a b:Int)<1073741824:=by
 have h1:0<Int.gcd a b:=Int.gcd_pos_of_ne_zero_right a Z1;have h2:(Int.gcd a b:Int) ∣ b:=Int.gcd_dvd_right a b;let h3:=Int.le_of_dvd hb h2;omega
section v
structure IP (hs:Xa) (qs:aN) (ns:ae) (f:bo):Prop where
 perm:ns.Perm (qs.map (·.1))
 at_:∀n∈ns,f n∈hs.map (·.1)
theorem IY:bG ["goods","stand","piece","hand","names"] ya (aX N8):=bR
inductive Jb (K:aj) (CG CW:Addr) (vs:ai) (H:Hp) (Q:VK) (E:XK):Prop
 |mk:∀(g p d:Addr) (hs:Xa) (ts:Xb) (qs:aN) (fp:au) (ns:ae) (f:bo),vs=[.ref g,.ref d]->gz K CG CW H g p hs ts qs fp->d∉fp->H d\.dK (dZ ns f)->IP hs qs ns f->(qs.map (·.1)).Nodup->qs.length<64->(∀d' H',aa H H'->H d'=none->H' d'\.dK (dZ (qs.map (·.1)) f)->Q (.ref d') H')->Jb K CG CW vs H Q E
theorem fW_{f CG CW:Addr}{fd:Ae}(F:bj K "checked_stand" "checked_stand" N8 f fd)(B:Bi mg)(T:gm K CG)(TW:Txt K mg CW)(cH:!bO CG 1 "has_piece" oi (Fh K CG CW))(cW:!bO CW 1 "has_hand" oi (jy K CW))(cN:!bO CG 1 "names" o5 (BV K CG CW)) :
  ao P w K mg base aZ 2 f fd ya (Jb K CG CW):=by
 exists F.bQ IY;let#[g,p,d,hs,ts,qs,fp,ns,f,rfl,G,o4,hd,so,nd,bX,k]:=h;let hu:=gc hr;let sz:=cJ;refine' #[_,?r0,?kk]
 case' r0=>refine' aw ?s1 ?r1
 case s1=>exact cg (eX (eP (cO jX (by rfl) B.jg jq %[1,jW (v:=.ty "dict") (by rfl) B.dict tQ Z|0]))) gA cq
 case' r1=>refine' aw ?s2 ?r2
 case' s2=>refine' SA (eW d8 Z ?i2 ?g2 ?b2)
 case i2=>exact NC (Jf (pv 1))
 case g2=>exact o7 Z (dE (cz 2 IY.nd) (dE (cz 3 IY.nd) jc))
 case b2=>exact aw (cg (eX (eP (ji cH T.cl hr (pv 0) %[2|0]))) gA cq) (aF (cg (eX (eP (ji cW TW.cl hr (gN (pv 0) Z) %[3|0]))) gA cq))
 case' r2=>refine' aw ?s3 ?r3
 case s3=>exact bq 4 IY.nd (AQ cN T.cl hr (pv 0))
 case' r3=>refine' aw ?s4 (aF ?s5)
 case s4=>exact cg (fI tH (cO gf_ (by rfl) B.len gJ %[1|0]) (cO iC (by rfl) B.len gJ %[4|0])) gA cq
 case s5=>exact bx (ja (yw Z) (by rfl) B.dict tQ %[iL ["piece","stand"] 1 [1] (dI (pv 4)) (λfp s H=>eO (i:=0) (show (["piece","stand"]:ae).Nodup by decide +kernel) Z (Or.inl Z)) (λfp s H=>jr) (λfp s H=>gf %[0,oq hu (pv 1) (pv 0)|0])|0])
 have Yj:ns.length=qs.length:=by rw[so.perm.length_eq,aq]
 apply#[_,Z,_,_,_,_,Z,.dK hd,Z,_,Z,aM ?_];apply#[d,_,hd,?_];apply#[_,Z,d,_,Z,hd,λv hv=>?_];let#[s1,xP]:=aD (o:=tK v d) hv;let G1:=G.same s1;let uE:=s1 _ _ hd;generalize upd H v (tK v d)=H1 at s1 xP G1 uE ⊢;apply#[v,d,_,Z,xP,uE,λo=>?_];apply Oi (λi σ H'=>∃(v2 v3:aJ),σ=[some (.ref g),some (.ref d),v2,v3,none]/\Fz d o (dZ ns f) H1 H') #[none,none,Z,Fz.start] (λi σ H' _ ⟨_,_,_,z⟩=>z.at_) ?_ ?_
 ·rintro i ky x σ H2 hx ⟨v2,v3,rfl,fz⟩ t ht;let#[n,hn,rfl,rfl]:=M0 hx;let nm:=cX hn;let s2:=aa.new (o:=.tup [.str n,.str (f n)]) ht;let Ax:=fz.step s2;have e2:upd H2 t (.tup [.str n,.str (f n)]) t\.tup [.str n,.str (f n)]:=ay;show gF _ _ _ _ _ (upd H2 t (.tup [.str n,.str (f n)])) _;generalize upd H2 t (.tup [.str n,.str (f n)])=H3 at s2 Ax e2 ⊢;apply#[t,_,Z,.of e2,Z,_,_,Z,_,_,Z,Z,?_];let G3:=Ax.x8 uE G1 o4;let#[dx,dw,dy,vs,dF,h1,h2,h3,h4,h5,m1,m2,m3,m4,m5]:=id G3.ex;let#[l_,d1,l2,d3,xb,as,ef,w1,_]:=id h2.ex;have kr:(cy p dw dy).lookup ("has_piece":Str)=none:=wU _ _ _ Z0 Z0 Z0;have Ac:(fi d1 l2 d3).lookup ("has_hand":Str)=none:=pW _ _ _ Z0 Z0 Z0;apply#[_,Z,g,dx,_,Z,h1,kr,_,Z,g,p,.str n,some n,hs,ts,qs,fp,Z,G3,Z,_,Z,?_];rw[show DT (qs.map (·.1)) (some n)=true from dc (so.perm.mem_iff.mp nm)];apply aM ?_;apply#[_,Z,g,CG,dx,_,_,Z,h1,T.cl,T.nW,A_ _ _ _,p,l_,_,Z,w1,Ac,_,Z,p,f n,hs,ts,dF,Z,h2,_,Z,?_];rw[dc (so.at_ n nm)];exact aM #[_,_,Z,Ax]
 rintro σ H2 ⟨v2,v3,rfl,fz⟩;apply#[o,fz.at_,?_];let s2:=s1.trans (fz.p_ uE);have hd2:upd H2 d (.dK (dZ ns f)) d\.dK (dZ ns f):=ay;generalize upd H2 d (.dK (dZ ns f))=H3 at s2 hd2 ⊢;let G3:=G.same s2;let#[dx,dw,dy,vs,dF,h1,h2,h3,h4,h5,m1,m2,m3,m4,m5]:=id G3.ex;apply#[_,Z,g,dx,_,Z,h1,wU _ _ _ Z0 Z0 Z0,g,p,hs,ts,qs,fp,Z,G3,λln uD=>?_];let#[s3,e3]:=aD (o:=.lst ((qs.map (·.1)).map V.str)) uD;let l5:=s3 _ _ hd2;generalize upd H3 ln (.lst ((qs.map (·.1)).map V.str))=H4 at s3 e3 l5 ⊢;apply#[_,Z,d,_,Z,l5,_,Z,ln,_,Z,.inl (.of e3),Z,_,Z,?_];rw[jV,aq,aq,Yj];simp only[bne_self_eq_false,decide_true,Bool.not_true];apply aM ?_;let oM:=s2.trans s3;apply#[_,Z,ln,Z,#[_,.of e3],λD hD=>?_];apply i9 (own:=1) (fv:=[some (.ref d)]) (xs:=(qs.map (·.1)).map V.str) Z fh (λi out H'=>aa H4 H'/\H' D\.lst out/\jk K H' out (dZ ((qs.map (·.1)).take i) f)) #[aa.new hD,ay,.nil] (λi out H' _ ⟨sm,_,_⟩=>.of (sm _ _ e3)) (λout H5 ⟨sm,ix,pa⟩=>?_) (λi y out H' hy ⟨sm,cQ,pa⟩=>?_)
 ·rw[aq,eN] at pa;apply#[D,out,_,Z,ix,pa,by rw[jV,aq];omega,λd' iV=>?_]
  have km:((dZ (qs.map (·.1)) f).map (·.1)).Nodup:=by
   rw[A0,tY,uX];exact nd.imp λn e=>n (hZ e)
  rw[wY km];exact k d' _ ((oM.trans sm).trans (aa.new iV)) (oM.free (sm.free iV)) ay
 let#[n,hn,rfl]:=mz hy;have hi:i<(qs.map (·.1)).length:=(bY.mp hn).1;rw[aq] at hi;have nm:n∈ns:=so.perm.mem_iff.mpr (cX hn);apply#[_,Z,Z,λNx hN=>ed ?_];apply#[_,Z,_,Z,_,Z,d,.str (f n),Z,?_,zl,λt ht=>?_]
 ·rw[<- A8 (g:=λn=>V.str (f n)) nm];exact .k (k:=Sum.inr n) (sm _ _ l5)
 let s5:=aa.new (o:=.tup [.str n,.str (f n)]) ht;let lo:=bw pa;rw[jV,dG,aq] at lo;apply#[out,s5 _ _ cQ,by omega,hN _ _ #[fo (sm.trans s5) hD,ay,?_]];have D_:upd H' t (.tup [.str n,.str (f n)]) t\.tup [.str n,.str (f n)]:=ay;have pD:∀{b:Addr} {ys:ai},upd H' t (.tup [.str n,.str (f n)]) b\.tup ys->b≠D:=λhb=>bK hb (s5 _ _ cQ) nofun;rw[tM hn];show jk K _ _ (((qs.map (·.1)).take i++[n]).map _);rw[eU];exact hU (Paired.aV pa λy kv ⟨b,z,hb⟩=>#[b,z,by rw[ax (pD (s5 _ _ hb))];exact s5 _ _ hb]) (.cons #[t,Z,by rw[ax (pD D_)];exact D_] .nil)
end
end Ev
namespace Ev
open PySem L2
theorem iz.has{K:aj}{C:Addr}{H:Hp}{p:Addr}{hs:Xa}{ts:Xb}{fp:au}(W:iz K C H p hs ts fp){b:Addr}(hb:b∈fp):∃o,H b\o:=by
 let#[dx,d1,l2,d3,zs,as,rfl,h1,h2,h3,h4,h5,h6,h7]:=W.ex;simp only[bV] at hb;rcases hb with rfl|rfl|rfl|rfl|hb
 ·exact#[_,h1]
 ·exact#[_,h2]
 ·exact#[_,h3]
 ·exact#[_,h5]
 let#[i,hi,e]:=hJ hb;exact#[_,h7 i ((aS hs)[i]' Z1) b (aQ Z1) (by rw[<- e];exact aQ hi)]
theorem gz.slim{K:aj}{CG CW:Addr}{H:Hp}{g p:Addr}{hs:Xa}{ts:Xb}{qs:aN}{fp:au}(G:gz K CG CW H g p hs ts qs fp):∃kE,gz K CG CW H g p hs ts qs kE/\∀b∈kE,∃o,H b\o:=by
 let#[dx,dw,dy,vs,dF,h1,h2,h3,h4,h5,m1,m2,m3,m4,m5]:=G.ex;apply#[g::dw::dy::(dF++vs.filterMap λv=>match v with | .ref a=>some a|_=>none),#[dx,dw,dy,vs,dF,h1,h2,h3,h4,h5,by simp,by simp,by simp,λb hb=>by simp[hb],λv hv a z=>?_],λb hb=>?_]
 ·have:a∈vs.filterMap λv=>match v with | .ref a=>some a|_=>none:=yu.mpr #[v,hv,by rw[z]];simp only[bV,d9];exact .inr (.inr (.inr (.inr this)))
 simp only[bV,d9] at hb;rcases hb with rfl|rfl|rfl|hb|hb
 ·exact#[_,h1]
 ·exact#[_,h3]
 ·exact#[_,h4]
 ·exact h2.has hb
 let#[v,hv,e]:=yu.mp hb;let#[i,hi,ev]:=hJ hv;let le:=bw h5;let w:=dU h5 i hi Z1;rw[ev] at w;cases o:(qs[i]' Z1).2.2 with
 |none=>
  rw[o] at w;rw[show v=.non from w] at e;cases e
 |some ws=>
  rw[o] at w;let#[a,ys,ea,ha,_]:=w;rw[ea] at e;cases e;exact#[_,ha]
section
variable{d d2:Addr}{o:Obj}{kvs:List (Key × V)}{H H' H1:Hp}{u:HO}
theorem Fz.yS(s:aa H H1):Fz d o kvs H (upd H1 d (.frz o (.dK kvs))):=#[ay,λb u ne e=>by rw[ax ne];exact s _ _ e]
theorem Fz.put(f:Fz d o kvs H H')(hn:H d2=none)(ne:d2≠d):Fz d o kvs H (upd H' d2 u):=#[by rw[ax ne.symm];exact f.at_,λb u nb e=>by rw[ax (bu e hn)];exact f.sm b u nb e]
end
section v
theorem JH:bG ["goods","placed","hand","found","piece"] om (aX O8):=bR
structure AW (K:aj) (CG CW:Addr) (H:Hp) (g p d:Addr) (hs:Xa) (ts:Xb) (qs:aN) (fp:au) (f:bo):Prop where
 G:gz K CG CW H g p hs ts qs fp
 Gd:Good hs ts
 o4:d∉fp
 hd:H d\.dK (dZ (qs.map (·.1)) f)
 at_:∀n∈qs.map (·.1),f n∈hs.map (·.1)
 nd:(qs.map (·.1)).Nodup
 bX:qs.length<64
abbrev QT(hs:Xa)(qs:aN)(f:bo):List (Key × V):=dX (aS hs) λh=>.int (ld f (qs.map eZ) h)
inductive OW (K:aj) (CG CW:Addr) (vs:ai) (H:Hp) (Q:VK) (E:XK):Prop
 |mk:∀(g p d:Addr) (hs:Xa) (ts:Xb) (qs:aN) (fp:au) (f:bo),vs=[.ref g,.ref d]->AW K CG CW H g p d hs ts qs fp f->(∀d' H',aa H H'->H d'=none->H' d'\.dK (QT hs qs f)->Q (.ref d') H')->OW K CG CW vs H Q E
theorem fp_{f CG CW CP:Addr}{fd:Ae}(F:bj K "loads_at" "loads_at" O8 f fd)(B:Bi mg)(T:gm K CG)(TW:Txt K mg CW)(cH:!bO CW 1 "hands" o5 (FG K CW))(cW:!bO CG 2 "weight" ["self","piece"] (OV K CG CW CP)) :
  ao P w K mg base aZ 3 f fd om (OW K CG CW):=by
 exists F.bQ JH;let#[g,p,d,hs,ts,qs,fp,f,rfl,Pl,k]:=h;let hu:=gc hr;let sz:=cJ;have jh:aP 1 _:=hr.mono (by decide);refine' #[_,?r0,?kk]
 case' r0=>refine' aw ?s1 ?r1
 case s1=>exact bq 3 JH.nd (ja (yw Z) (by rfl) B.dict tQ %[iL ["hand"] 1 [] (dI (AQ cH TW.cl jh (gN (pv 0) Z))) (λfp s H=>eO (i:=0) (show (["hand"]:ae).Nodup by decide +kernel) Z (Or.inl Z)) (λfp s H=>jr) (λfp s H=>gf %[0,aC|0])|0])
 case' r1=>refine' aw ?s2 ?r2
 case' s2=>refine' SA (eW d8 Z ?i2 ?g2 (aF ?b2))
 case i2=>exact NC (Jf (pv 1))
 case g2=>exact o7 Z (dE (cz 4 JH.nd) (dE (cz 2 JH.nd) jc))
 case b2=>exact uQ hu (pv 3) (pv 2) (bN gM (oq hu (pv 3) (pv 2)) (ji cW T.cl hr (pv 0) %[4|0])) Z
 case r2=>exact aF (bx (pv 3))
 let nl:=Pl.Gd.iS;let h8:=Pl.Gd.h8;let#[dx,dw,dy,vs,dF,h1,h2,h3,h4,h5,m1,m2,m3,m4,m5]:=id Pl.G.ex;let#[l_,d1,l2,d3,xb,as,ef,w1,_]:=id h2.ex;have Ac:(fi d1 l2 d3).lookup ("hands":Str)=none:=pW _ _ _ Z0 Z0 Z0;apply#[_,Z,g,CG,dx,_,_,Z,h1,T.cl,T.nW,A_ _ _ _,p,l_,_,Z,w1,Ac,p,hs,ts,dF,Z,h2,λlh fY=>?_];let#[s1,e1]:=aD (o:=.lst ((aS hs).map V.str)) fY;generalize upd H lh (.lst ((aS hs).map V.str))=H1 at s1 e1 ⊢;apply#[lh,Z,#[_,.of e1],λD hD=>?_];apply i9 (own:=1) (fv:=[]) (xs:=(aS hs).map V.str) Z fh (λi out H'=>aa H1 H'/\H' D\.lst out/\jk K H' out (dX ((aS hs).take i) λ_=>.int 0)) #[aa.new hD,ay,.nil] (λi out H' _ ⟨sm,_,_⟩=>.of (sm _ _ e1)) (λout H5 ⟨sm,ix,pa⟩=>?_) (λi y out H' hy ⟨sm,cQ,pa⟩=>?_);rotate_left 1
 ·let#[n,hn,rfl]:=mz hy;have hi:i<(aS hs).length:=(bY.mp hn).1;apply#[_,Z,Z,λNx hN=>ed ?_];apply#[_,Z,zl,λt ht=>?_];let s5:=aa.new (o:=.tup [.str n,.int 0]) ht;let lo:=bw pa;rw[jV,dG] at lo;apply#[out,s5 _ _ cQ,by omega,hN _ _ #[fo (sm.trans s5) hD,ay,?_]];have D_:upd H' t (.tup [.str n,.int 0]) t\.tup [.str n,.int 0]:=ay;have pD:∀{b:Addr} {ys:ai},upd H' t (.tup [.str n,.int 0]) b\.tup ys->b≠D:=λhb=>bK hb (s5 _ _ cQ) nofun;rw[tM hn];show jk K _ _ (((aS hs).take i++[n]).map _);rw[eU];exact hU (Paired.aV pa λy kv ⟨b,z,hb⟩=>#[b,z,by rw[ax (pD (s5 _ _ hb))];exact s5 _ _ hb]) (.cons #[t,Z,by rw[ax (pD D_)];exact D_] .nil)
 rw[aq,eN] at pa;apply#[D,out,_,Z,ix,pa,by rw[jV];omega,λd2 hd2=>?_]
 have km:((dX (aS hs) λ_=>V.int 0).map (·.1)).Nodup:=by
  rw[A0,tY,uX];exact Pl.Gd.rT.imp λn e=>n (hZ e)
 rw[wY km];let s2:=(s1.trans sm).trans (aa.new (o:=.dK (dX (aS hs) λ_=>V.int 0)) hd2);have e2:upd H5 d2 (.dK (dX (aS hs) λ_=>V.int 0)) d2\.dK (dX (aS hs) λ_=>V.int 0):=ay;have n2:H d2=none:=s1.free (sm.free hd2);show yK _ _ _ _ (upd H5 d2 (.dK (dX (aS hs) λ_=>V.int 0)));generalize upd H5 d2 (.dK (dX (aS hs) λ_=>V.int 0))=H6 at s2 e2 ⊢;have Oc:d2≠d:=(bu Pl.hd n2).symm;apply#[d,_,s2 _ _ Pl.hd,?_];apply#[_,Z,d,_,Z,s2 _ _ Pl.hd,λv hv=>?_];let#[s3,xP]:=aD (o:=tK v d) hv;let e3:=s3 _ _ e2;let fg:=s2.trans s3;generalize upd H6 v (tK v d)=H7 at s3 xP e3 fg ⊢;apply#[v,d,_,Z,xP,fg _ _ Pl.hd,λo=>?_];apply Oi (λi σ H'=>∃(v2 v4:aJ),σ=[some (.ref g),some (.ref d),v2,some (.ref d2),v4]/\Fz d o (dZ (qs.map (·.1)) f) H H'/\H' d2\.dK (dX (aS hs) λh=>.int (ld f ((qs.take i).map eZ) h))) #[none,none,Z,Fz.yS fg,by rw[ax Oc];exact e3] (λi σ H' _ ⟨_,_,_,z,_⟩=>z.at_) ?_ ?_
 ·rintro i ky x σ H8 hx ⟨v2,v4,rfl,fz,e8⟩ t ht;let#[n,hn,rfl,rfl]:=M0 hx
  have hi:i<qs.length:=by
   have:=(bY.mp hn).1;rwa [aq] at this
  have hq:qs[i]? = some (qs[i]'hi):=aQ hi
  have en:n=(qs[i]'hi).1:=by
   rw[dk,hq] at hn;exact (cY hn).symm
  have fm:f n∈aS hs:=(gL hs).mem_iff.mpr (Pl.at_ n (cX hn));generalize qs[i]'hi=q at hq en;let s8:=aa.new (o:=.tup [.str n,.str (f n)]) ht;let Ax:=fz.step s8;let e9:=s8 _ _ e8;have et:upd H8 t (.tup [.str n,.str (f n)]) t\.tup [.str n,.str (f n)]:=ay;show gF _ _ _ _ _ (upd H8 t (.tup [.str n,.str (f n)])) _;generalize upd H8 t (.tup [.str n,.str (f n)])=H9 at s8 Ax e9 et ⊢;apply#[t,_,Z,.of et,Z,_,_,Z,_,_,Z,Z,?_];let G9:=Ax.x8 Pl.hd Pl.G Pl.o4;let#[dx,dw,dy,vs,dF,h1,h2,h3,h4,h5,m1,m2,m3,m4,m5]:=id G9.ex;have kr:(cy p dw dy).lookup ("weight":Str)=none:=wU _ _ _ Z0 Z0 Z0;apply#[_,Z,_,Z,d2,.int (ld f ((qs.take i).map eZ) (f n)),Z,?_,_,Z,g,dx,_,Z,h1,kr,_,Z,g,p,.str n,some n,hs,ts,qs,fp,Z,G9,Pl.nd,Z,.inl #[q,cX hq,d7 some en,?_]]
  ·rw[<- A8 (g:=λh=>V.int (ld f ((qs.take i).map eZ) h)) fm];exact .k (k:=Sum.inr (f n)) e9
  apply#[_,_,Z,Z,_,Z,_,Z,d2,_,Z,.k (k:=Sum.inr (f n)) e9 (by rw[jV];omega),?_];apply#[_,_,Z,Ax.put n2 Oc,?_];rw[ay,Sw fm];congr 2;apply JA λm _=>?_
  have e5:(qs.take (i+1)).map eZ=(qs.take i).map eZ++[eZ q]:=by
   rw[pY,hq,eU];rfl
  rw[e5,Sz];show (if m=f n then V.int (ld f ((qs.take i).map eZ) (f n)+q.2.1) else V.int (ld f ((qs.take i).map eZ) m))=V.int (if m=f q.1 then _ else _);rw[<- en];by_cases z:m=f n
  ·rw[aI z,aI z,z];rfl
  rw[aB z,aB z]
 rintro σ H8 ⟨v2,v4,rfl,fz,e8⟩;apply#[o,fz.at_,?_];rw[jV,aq,eN] at e8;exact#[_,Z,k d2 _ (fz.p_ Pl.hd) n2 (by rw[ax Oc];exact e8)]
end
end Ev
namespace Ev
open PySem L2
structure Std (K:aj) (CG CW:Addr) (H:Hp) (g p d:Addr) (hs:Xa) (ts:Xb) (qs:aN) (fp:au) (ns:ae) (f:bo):Prop where
 G:gz K CG CW H g p hs ts qs fp
 Gd:Good hs ts
 o4:d∉fp
 hd:H d\.dK (dZ ns f)
 ok:IP hs qs ns f
 nd:(qs.map (·.1)).Nodup
 bX:qs.length<64
 wp:∀q∈qs,0<=q.2.1
theorem Std.placed{K:aj}{CG CW:Addr}{H H':Hp}{g p d d':Addr}{hs:Xa}{ts:Xb}{qs:aN}{fp:au}{ns:ae}{f:bo}(S:Std K CG CW H g p d hs ts qs fp ns f)(s:aa H H')(hn:H d'=none)(hd:H' d'\.dK (dZ (qs.map (·.1)) f)):∃kE,AW K CG CW H' g p d' hs ts qs kE f:=by
 let#[kE,G',has]:=S.G.slim;apply#[kE,G'.same s,S.Gd,λm=>?_,hd,λn hn=>S.ok.at_ n (S.ok.perm.mem_iff.mpr hn),S.nd,S.bX];let#[o,e]:=has d' m;rw[hn] at e;cases e
end Ev
namespace Ev
open PySem L2
structure mK (P:Ad) (w:Af) (K:aj) (mg:Str->Option Aa) (base:Heap) (C:Addr) (k:Nat) (x:Str) (ps:ae) (sp:Sp):Prop where
 ex:∃f fd,ao P w K mg base aZ k f fd ps sp/\Mk K C f/\mg x\.ref C/\pK K fd ps []
theorem E4{n_:Nat}{X:Cx}{C:Addr}{k:Nat}{x:Str}{ps:ae}{sp:Sp}{p pos:Pos}{e:Expr}{es:List Expr}{t:TA}(c:mK X.prog X.w X.K X.mg X.base C k x ps sp)(hr:aP n_ X.A)(ha:PA X (e::es) t)(hg:Gl X x:=by rfl)(si:(x == ("__debug__":Str))=false:=by decide)
  (he:starEach (e::es) X.env=(false,eval e X.env)::starEach es X.env:=by rfl) (iq:(backTo pos (starEach es X.env)).any (·.1)=false:=by rfl) (hk:(k+1)<=n_:=by decide):PE X (.Call (.Name x p) (e::es) [] pos) (xh C sp [] E0 t):=by
 let#[f,fd,F,M,m,b]:=c.ex;exact _j M F (hr.mono hk) hg m b .nil nE ha si he iq
end Ev
namespace L2
open PySem PySem.Spec PyProof.Rows PySem.W
section
variable{X:Cx}
inductive rJ (xs:ai) (H:Hp) (Q:VK):Prop
 |mk:∀a kvs,xs=[.ref a]->Rd H a (.dK kvs)->(∀p,H p=none->Q (.ref p) (upd H p (.dK kvs)))->rJ xs H Q
theorem fj_:gy X (.type "dict") rJ:=by
 intro pins s σ H xs us Q I r h;let#[a,kvs,rfl,hd,q]:=h;let#[u,rfl,ru]:=vals1 r;cases ru;exact hm_ I hd λp s' hp I'=>#[.ref p,_,I',Z,q p hp]
inductive rF (K:aj) (x:V) (y:V) (H:Hp) (Q:VK):Prop
 |mk:∀a b xs,x=.ref a->y=.ref b->dY K H a xs->dY K H b []->Q (.bl (!xs.isEmpty)) H->rF K x y H Q
theorem N5(hu:X.A.units+0+1<cLine):dJ X (compareOp .NotEq) (rF X.K):=by
 intro pins s σ H x y v u Q I rx ry h;let#[a,b,xs,rfl,rfl,t,t',hq]:=h;cases xs with
 |nil=>exact Y1 g_ hu pins s σ H (.ref a) (.ref b) v u Q I rx ry #[[],[],#[a,[],Z,t,.nil],#[b,[],Z,t',.nil],hq]
 |cons z zs=>
  cases rx;cases ry;let#[us,r,pl,_]:=I.list t;let#[vs,r',oR,_]:=I.list t';let l1:=r.length;let l2:=r'.length;exact JL.gT pl.isList oR.isList (by simp only[cm,bne_iff_ne];simp at l1 l2;omega) Z1 #[.bl true,H,I,Z,hq]
end
end L2
namespace Ev
open PySem L2
theorem Su{A:Ag}{s:Ab}{ns:ae}{f g:bo}{vb:List (Key × Aa)}(rb:KV (dZ ns g) vb):∀(ms:ae) (va:List (Key × Aa)),KV (dZ ms f) va->(∀m∈ms,m∈ns)->PySem.W.KeqHits A s vb va (ms.all λn=>decide (f n=g n))
 |[],va,r,_=>by
  cases r;exact .nil
 |m::ms,va,r,h=>by
  cases r with
  |@cons _ q _ V1 h1 r=>
   let hm:=h m gd;let#[y,hy,ry]:=eR.some_of (v:=.str (g m)) (o:=valueAt vb (Sum.inr m)) (by rw[<- A8 (g:=λn=>V.str (g n)) hm];exact rb.val _);let#[k,v]:=q;let#[e1,e2]:=h1;have e1:(Sum.inr m:Key)=k:=e1;subst e1;let#[t,rfl]:=(show ∃t,v=Value.str (f m) t from e2);let#[u,rfl]:=(show ∃t,y=Value.str (g m) t from ry);let q:=SeqAt.EqAt.str_str (A:=A) (s:=s) (f m) t (g m) u;rw[show (f m == g m)=decide (f m=g m) by by_cases z:f m=g m<;>simp[z]] at q
   exact .hit hy q (Su rb ms V1 r λx hx=>h x (fP _ hx))
def gC(a n:Int):Int:=a / (Int.gcd a n:Int) * n
theorem ZK{a n:Int}(ha:0<a)(hn:0<n):gC a n=(Int.lcm a n:Int):=by
 let#[p,rfl]:=tX (iD ha);let#[q,rfl]:=tX (iD hn);show ((p:Int) / ((Nat.gcd p q:Nat):Int)) * (q:Int)=((Nat.lcm p q:Nat):Int);rw[<- Int.natCast_ediv,<- Int.natCast_mul,Nat.div_mul_right_comm (Nat.gcd_dvd_left p q)];rfl
def jH(ns:List Int):Int:=ns.foldl gC 1
theorem Jj:∀(ns:List Int) (a:Int),0<a->(∀n∈ns,0<n)->0<ns.foldl gC a/\∀x:Int,0<=x->(ns.foldl gC a ∣ x ↔ a ∣ x/\∀n∈ns,n ∣ x)
 |[],a,ha,_=>#[ha,λx _=>by simp]
 |n::ns,a,ha,h=>by
  let hn:=h n gd;let e:=ZK ha hn
  have p:0<gC a n:=by
   rw[e];have:=Nat.lcm_pos (m:=a.natAbs) (n:=n.natAbs) Z1 Z1;have:0<Int.lcm a n:=this;omega
  let#[h1,h2]:=Jj ns (gC a n) p λm hm=>h m (fP _ hm);apply#[h1,λx hx=>(h2 x hx).trans ?_];let#[z,rfl]:=tX hx;rw[e,Int.natCast_dvd_natCast,Int.lcm_dvd_iff];constructor
  ·rintro⟨⟨q1,q2⟩,q3⟩
   exact#[q1,λm hm=>by
    rcases bV.mp hm with rfl|hm
    ·exact q2
    exact q3 m hm]
  rintro⟨q1,q2⟩;exact#[#[q1,q2 n gd],λm hm=>q2 m (fP _ hm)]
theorem Oa{ns:List Int}(h:∀n∈ns,0<n):0<jH ns:=(Jj ns 1 (by decide) h).1
theorem hl_{ns:List Int}(h:∀n∈ns,0<n){n:Int}(hn:n∈ns):n ∣ jH ns:=
 (((Jj ns 1 (by decide) h).2 _ (iD (Oa h))).mp (Int.dvd_refl _)).2 n hn
theorem _v(f:bo)(x:Str × Int)(ws:Xa)(h:Str):ld f (x::ws) h=(if f x.1=h then x.2 else 0)+ld f ws h:=by
 unfold ld;by_cases e:f x.1=h
 ·simp[e]
 simp[e]
end Ev
namespace Ev
open PySem L2
theorem Q4{f:bo}{h:Str}:∀{ws:Xa},(∀x∈ws,0<=x.2/\x.2<=1000000000)->ld f ws h<=1000000000 * ws.length
 |[],_=>by
  unfold ld;simp
 |x::ws,p=>by
  let h1:=p x gd;let h2:=Q4 (f:=f) (h:=h) (ws:=ws) λy hy=>p y (fP _ hy);rw[_v,jt];by_cases z:f x.1=h
  ·rw[aI z];omega
  rw[aB z];omega
def fG(hs:Xa):Int:=jH ((aS hs).map (strOf hs))
theorem AN{hs:Xa}{ts:Xb}(G:Good hs ts){n:Str}(h:n∈aS hs):1<=strOf hs n/\strOf hs n<=1000:=(G.aA _ (Jy ((gL hs).mem_iff.mp h))).2
section v
theorem vz:bG ["numbers","found","number"] ["numbers"] (aX Kz):=bR
def CQ(K:aj):Sp:=λvs H Q _=>∃(l:Addr) (ns:List Int),vs=[.ref l]/\dY K H l (ns.map V.int)/\(∀n∈ns,1<=n/\n<=1000)/\Q (.int (jH ns)) H
theorem hn_{ns:List Int}{i:Nat}{n:Int}(h:ns[i]? = some n):jH (ns.take (i+1))=gC (jH (ns.take i)) n:=by
 unfold jH;rw[pY,h,List.foldl_append];rfl
theorem em_{ns:List Int}{i:Nat}{y:V}(h:(ns.map V.int)[i]? = some y):∃n,ns[i]? = some n/\y=.int n:=by
 rw[dk] at h;cases e:ns[i]? with
 |none=>rw[e] at h;cases h
 |some n=>rw[e] at h;exact#[n,Z,(cY h).symm]
theorem Yx{f:Addr}{fd:Ae}(F:bj K "least_multiple" "least_multiple" Kz f fd)(cG:!bp 1 BH mr vw):!ao aZ 2 f fd ["numbers"] (CQ K):=by
 exists F.bQ vz;let#[l,ns,rfl,hl,b,k]:=h;refine' #[_,aw ?s1 (aw ?s2 (aF ?s3)),?kk]
 case s1=>exact bq 1 vz.nd aC
 case s2=>exact eW d8 Z (dI (pv 0)) (cz 2 vz.nd) (aF (bq 1 vz.nd (bN pU (bN FE (pv 1) (bc cG hr %[1,2|0])) (pv 2))))
 case s3=>exact bx (pv 1)
 apply#[_,Z,l,Z,#[_,hl],ib (K:=K) (a:=l) (xs:=ns.map V.int) (λi σ H'=>H'=H/\∃(v2:aJ),σ=[some (.ref l),some (.int (jH (ns.take i))),v2]) #[Z,none,Z] (λi σ H' _ ⟨e,_⟩=>by rw[e];exact hl) ?_ ?_]
 ·rintro i y σ H' hy ⟨rfl,v2,rfl⟩;let#[n,hn,rfl]:=em_ hy;let bn:=b n (cX hn)
  let p:=Oa (ns:=ns.take i) λm hm=>by
   have:=b m (List.take_subset _ _ hm);omega
  apply#[_,Z,_,Z,_,Z,_,_,Z,iD p,by omega,_,_,Z,Z,Yw Z1 bn.2,_,Z,_,_,Z,Z,.inr #[by omega,by omega],Z,some (.int n),?_];rw[hn_ hn];rfl
 rintro σ H' ⟨rfl,v2,rfl⟩;apply#[_,Z,?_];rw[aq,eN];exact k
theorem zc:bG ["web"] ["web"] (aX qW):=bR
inductive IV (K:aj) (C:Addr) (vs:ai) (H:Hp) (Q:VK) (E:XK):Prop
 |mk:∀(p:Addr) (hs:Xa) (ts:Xb) (fp:au),vs=[.ref p]->iz K C H p hs ts fp->Good hs ts->(∀H',aa H H'->Q (.int (fG hs)) H')->IV K C vs H Q E
theorem ZU{f CW:Addr}{fd:Ae}(F:bj K j_ j_ qW f fd)(TW:Txt K mg CW)(cL:!bp 2 "least_multiple" ["numbers"] (CQ K))(cH:!bO CW 1 "hands" o5 (FG K CW))(cS:!bO CW 2 "strength" wH (JC K CW)):!ao aZ 3 f fd ["web"] (IV K CW):=by
 exists F.bQ zc;let#[p,hs,ts,fp,rfl,W,G,k]:=h;let sz:=cJ;let nl:=G.iS;let h8:=G.h8;refine' #[_,aF (bx (bc cL hr %[iL ["hand","web"] 1 [0] (dI (AQ cH TW.cl (hr.mono (by decide)) (pv 0))) (λfp s H=>eO (i:=0) (show (["hand","web"]:ae).Nodup by decide +kernel) Z (Or.inl Z)) (λfp s H=>jr) (λfp s H=>?e1)|0])),?kk]
 case e1=>exact ji cS TW.cl hr (pv 1) %[0|0]
 let#[l_,d1,l2,d3,xb,as,ef,w1,_]:=id W.ex;apply#[_,Z,p,l_,_,Z,w1,pW _ _ _ Z0 Z0 Z0,p,hs,ts,fp,Z,W,λlh fY=>?_];let#[s1,e1]:=aD (o:=.lst ((aS hs).map V.str)) fY;generalize upd H lh (.lst ((aS hs).map V.str))=H1 at s1 e1 ⊢;apply#[lh,Z,#[_,.of e1],λD hD=>?_];apply i9 (own:=1) (fv:=[some (.ref p)]) (xs:=(aS hs).map V.str) Z fh (λi out H'=>aa H1 H'/\H' D\.lst out/\out=(((aS hs).take i).map (strOf hs)).map V.int) #[aa.new hD,ay,Z] (λi out H' _ ⟨sm,_,_⟩=>.of (sm _ _ e1)) (λout H5 ⟨sm,ix,eo⟩=>?_) (λi y out H' hy ⟨sm,cQ,eo⟩=>?_)
 ·rw[aq,eN] at eo;rw[eo] at ix;apply#[D,_,Z,.of ix,λn hn=>?_,k H5 (s1.trans sm)];let#[m,hm,rfl]:=bC.mp hn;exact AN G hm
 let#[n,hn,rfl]:=mz hy;have hi:i<(aS hs).length:=(bY.mp hn).1;apply#[_,Z,Z,λNx hN=>ed ?_];let W':=(W.same s1).same sm;let#[l_,d1,l2,d3,xb,as,ef,w1,_]:=id W'.ex;apply#[_,Z,p,l_,_,Z,w1,pW _ _ _ Z0 Z0 Z0,_,Z,p,n,strOf hs n,hs,ts,fp,Z,W',G.uC,Jy ((gL hs).mem_iff.mp (cX hn)),?_];apply#[out,cQ,by rw[eo,aq,aq,dG];omega,hN _ _ #[fo sm hD,ay,?_]];rw[tM hn,eU,eU,eo];rfl
theorem FQ:bG ["goods","placed","multiple","found","hand","load"] om (aX NS):=bR
def fM(hs:Xa)(qs:aN)(f:bo)(h:Str):Int:=ld f (qs.map eZ) h * (fG hs / strOf hs h)
inductive O4 (K:aj) (CG CW:Addr) (vs:ai) (H:Hp) (Q:VK) (E:XK):Prop
 |mk:∀(g p d:Addr) (hs:Xa) (ts:Xb) (qs:aN) (fp:au) (f:bo),vs=[.ref g,.ref d]->AW K CG CW H g p d hs ts qs fp f->(∀q∈qs,0<=q.2.1/\q.2.1<=1000000000)->(∀d' H',aa H H'->H d'=none->H' d'\.dK (dX (aS hs) λh=>.int (fM hs qs f h))->Q (.ref d') H')->O4 K CG CW vs H Q E
theorem Hv{qs:aN}(wp:∀q∈qs,0<=q.2.1/\q.2.1<=1000000000)(bX:qs.length<64)(f:bo)(h:Str):0<=ld f (qs.map eZ) h/\ld f (qs.map eZ) h<=64000000000:=by
 have p:∀x∈qs.map eZ,0<=x.2/\x.2<=1000000000:=λx hx=>by
  let#[q,hq,rfl]:=bC.mp hx;exact wp q hq
 let h1:=Q4 (f:=f) (h:=h) p;rw[aq] at h1;exact#[Zz λx hx=>(p x hx).1,by omega]
theorem gh_{f CG CW:Addr}{fd:Ae}(F:bj K "levels_at" "levels_at" NS f fd)(T:gm K CG)(TW:Txt K mg CW)(cL:!bp 3 "loads_at" om (OW K CG CW))(cM:!bp 3 j_ ["web"] (IV K CW))(cS:!bO CW 2 "strength" wH (JC K CW)) :
  ao P w K mg base aZ 4 f fd om (O4 K CG CW):=by
 exists F.bQ FQ;let#[g,p,d,hs,ts,qs,fp,f,rfl,Pl,wp,k]:=h;let hu:=gc hr;let sz:=cJ;have jJ:aP 2 _:=hr.mono (by decide);refine' #[_,?r0,?kk]
 case' r0=>refine' aw ?s0 (aw ?s1 (aw ?s2 ?r2))
 case s0=>exact bq 2 FQ.nd (bc cM hr %[gN (pv 0) Z|0])
 case s1=>exact bq 3 FQ.nd FR
 case' s2=>refine' eW d8 Z ?i2 ?g2 (aF ?b2)
 case i2=>exact NC (Jf (bc cL hr %[0,1|0]))
 case g2=>exact o7 Z (dE (cz 4 FQ.nd) (dE (cz 5 FQ.nd) jc))
 case b2=>exact uQ hu (pv 3) (pv 4) (bN pU (pv 5) (bN FE (pv 2) (ji cS TW.cl jJ (gN (pv 0) Z) %[4|0]))) Z
 case r2=>exact aF (bx (pv 3))
 let nl:=Pl.Gd.iS;let h8:=Pl.Gd.h8;let#[dx,dw,dy,vs,dF,h1,h2,_]:=id Pl.G.ex;apply#[_,Z,g,CG,dx,_,_,Z,h1,T.cl,T.nW,A_ _ _ _,p,hs,ts,dF,Z,h2,Pl.Gd,λH0 s0=>?_];intro d2 hd2;let s1:=s0.trans (aa.new (o:=.dK []) hd2);have e1:upd H0 d2 (.dK []) d2\.dK []:=ay;have n2:H d2=none:=s0.free hd2;show yK _ _ _ _ (upd H0 d2 (.dK []));generalize upd H0 d2 (.dK [])=H1 at s1 e1 ⊢;have Pl1:AW K CG CW H1 g p d hs ts qs fp f:=#[Pl.G.same s1,Pl.Gd,Pl.o4,s1 _ _ Pl.hd,Pl.at_,Pl.nd,Pl.bX];apply#[_,Z,_,Z,g,p,d,hs,ts,qs,fp,f,Z,Pl1,λdl H2 s2 Hs e2=>?_];apply#[dl,_,Z,e2,λv hv=>?_];let#[s3,xP]:=aD (o:=tK v dl) hv;let e3:=s3 _ _ e2;let KG:=s2.trans s3;generalize upd H2 v (tK v dl)=H3 at s3 xP e3 KG ⊢;have X4:H dl=none:=s1.free Hs;have UG:d2≠dl:=bu e1 Hs;apply#[v,dl,_,Z,xP,e3,λo=>?_];apply Oi (λi σ H'=>∃(v4 v5:aJ),σ=[some (.ref g),some (.ref d),some (.int (fG hs)),some (.ref d2),v4,v5]/\aa H H'/\H' dl\.frz o (.dK (QT hs qs f))/\H' d2\.dK (dX ((aS hs).take i) λh=>.int (fM hs qs f h))) #[none,none,Z,fo (s1.trans KG) X4,ay,by rw[ax UG];exact KG _ _ e1] (λi σ H' _ ⟨_,_,_,_,z,_⟩=>z) ?_ ?_
 ·rintro i ky x σ H8 hx ⟨v4,v5,rfl,s8,f8,e8⟩ t ht;let#[n,hn,rfl,rfl]:=M0 hx;have hi:i<(aS hs).length:=(bY.mp hn).1;have nm:n∈hs.map (·.1):=(gL hs).mem_iff.mp (cX hn);let sm:=Jy nm;let sg:=AN Pl.Gd (cX hn);let lo:=Hv wp Pl.bX f n;let ss:=aa.new (o:=.tup [.str n,.int (ld f (qs.map eZ) n)]) ht;let s9:=s8.trans ss;let e9:=ss _ _ e8;let f9:=ss _ _ f8;have et:upd H8 t (.tup [.str n,.int (ld f (qs.map eZ) n)]) t\.tup [.str n,.int (ld f (qs.map eZ) n)]:=ay;show gF _ _ _ _ _ (upd H8 t (.tup [.str n,.int (ld f (qs.map eZ) n)])) _;generalize upd H8 t (.tup [.str n,.int (ld f (qs.map eZ) n)])=H9 at ss s9 e9 f9 et ⊢;apply#[t,_,Z,.of et,Z,_,_,Z,_,_,Z,Z,?_];let G9:=Pl.G.same s9;let#[dx,dw,dy,vs,dF,h1,h2,h3,h4,h5,m1,m2,m3,m4,m5]:=id G9.ex;let#[l_,d1,l2,d3,xb,as,ef,w1,_]:=id h2.ex;have Ac:(fi d1 l2 d3).lookup ("strength":Str)=none:=pW _ _ _ Z0 Z0 Z0;apply#[_,Z,_,Z,_,Z,g,CG,dx,_,_,Z,h1,T.cl,T.nW,A_ _ _ _,p,l_,_,Z,w1,Ac,_,Z,p,n,strOf hs n,hs,ts,dF,Z,h2,Pl.Gd.uC,sm,?_];apply#[_,_,Z,Z,#[by omega,by omega],_,_,Z,Z,.inl #[by omega,by omega],_,Z,_,Z,d2,_,Z,.k (k:=Sum.inr n) e9 (by rw[jV,dG];omega),?_];apply#[_,_,Z,fo s9 n2,by rw[ax UG.symm];exact f9,?_];rw[ay,tM hn,Sl (TJ Pl.Gd.rT hn)];congr 2;apply JA λm _=>?_;by_cases z:m=n
  ·subst z;simp[fM]
  simp[z]
 rintro σ H8 ⟨v4,v5,rfl,s8,f8,e8⟩;rw[jV,eN] at e8;exact#[_,Z,k d2 H8 s8 n2 e8]
end
end Ev
namespace L2
open PySem PySem.Spec PyProof.Rows PySem.W
section
variable{prog:Ad}{w:Af}{A:Ag}
theorem UT{d it:Addr}{vs:List (Key × Aa)}{ep:Nat}(hh:A.handled=none)(lW:d≠it):Walks prog w A it [it,d] [it] vs.length (λi v=>∃k,vs[i]? = some (k,v)) (λi h=>h.IsValIter it d i vs.length ep/\h.DictAt (fj prog w) d vs ep) where
 sub:=λb hb=>by simp at hb;simp[hb]
 frame:=λi h h' st k=>#[st.1.at λo e=>k it Z2 o e,by
  let#[o,es,ho,r]:=st.2;exact#[o,es,k d Z2 o ho,r]]
 item:=by
  intro i s Q E hi st h;obtain⟨⟨k,v⟩,hx⟩:∃p,vs[i]? = some p:=#[vs[i],by simp[hi]];apply wpAny_pyNext_values_item st.1 st.2 hx λh' fC sb=>?_;apply h v h' s.toks #[k,hx] #[fC,?_] λb o hb e=>(sb.2 b ⇑hb).trans e;let#[o,es,ho,r]:=st.2;exact#[o,es,(sb.2 d lW).trans ho,r]
 done:=by
  intro s Q E st h;exact wpAny_pyNext_values_end hh st.1 st.2 Z2 λh' eb=>h h' s.toks λb o hb e=>eb b o ⇑hb e
 self:=λ_ _ _ _ st h=>wpAny_pyIter_valiter st.1 h
end
theorem IJ{ns:List (Key × Int)}{vs:List (Key × Aa)}(r:KV (ns.map λx=>(x.1,V.int x.2)) vs){i:Nat}{k:Key}{v:Aa}(h:vs[i]? = some (k,v)):∃n t,(ns.map (·.2))[i]? = some n/\v=.int n t:=by
 let hl:=r.length;rw[aq] at hl
 have hi:i<ns.length:=by
  have:=(bY.mp h).1;omega
 let#[u,hu,ru]:=MI r i (k:=(ns[i]'hi).1) (x:=V.int (ns[i]'hi).2) (by rw[dk,aQ hi];rfl);rw[h] at hu;let e:=d7 Prod.snd (cY hu);let#[t,rfl]:=(show ∃t,u=Value.int (ns[i]'hi).2 t from ru);exact#[_,t,by rw[dk,aQ hi];rfl,e]
inductive xD (xs:ai) (H:Hp) (Q:VK):Prop
 |mk:∀(v d:Addr) (ns:List (Key × Int)),xs=[.ref v]->H v\uP v d->Rd H d (.dK (ns.map λx=>(x.1,V.int x.2)))->0<ns.length->(∀m,m∈ns.map (·.2)->(∀a∈ns.map (·.2),a<=m)->Q (.int m) H)->xD xs H Q
inductive xC (xs:ai) (H:Hp) (Q:VK):Prop
 |mk:∀(v d:Addr) (ns:List (Key × Int)),xs=[.ref v]->H v\uP v d->Rd H d (.dK (ns.map λx=>(x.1,V.int x.2)))->0<ns.length->(∀m,m∈ns.map (·.2)->(∀a∈ns.map (·.2),m<=a)->Q (.int m) H)->xC xs H Q
theorem gG_{X:Cx}(hc:X.calm=true):gy X (.builtin "max") xD:=by
 intro pins s σ H xs us Q I r h;let#[v,d,ns,rfl,hv,hd,h0,q]:=h;let#[u,rfl,ru]:=vals1 r;cases ru;let#[z,lW,vs,rel,dd]:=jR I.aA hd;let#[ep,dat]:=dd.dictAt;let#[iv,_,_]:=I.aA v _ hv;let hl:=rel.length;rw[aq] at hl
 have Fi:d<s.heap.objs.size:=by
  let#[o,es,ho,_]:=dat;exact bz ho
 apply call_max_walk (wpAny_pyIter_values (knd:=fj X.prog X.w) (kvs:=vs) (ep:=ep) iv dat ?_);apply⟨s.heap.objs.size,[s.heap.objs.size,d],[s.heap.objs.size],vs.length,λi v=>∃k,vs[i]? = some (k,v),_,_,rfl,UT (ep:=ep) (I.ok.hd hc) (dS Fi),⟨⟨_,cK _ rfl,rfl,rfl⟩,?_⟩,λb hb=>?_,by omega,CmpOf.ints_gt (λi=>((ns.map (·.2))[i]?).getD 0) (λi v ⟨k,hv⟩=>?_),λv' h' tk hP k=>?_⟩
 ·let#[o,es,ho,r]:=dat;exact⟨o,es,aU _ ho,r⟩
 ·have hb:b=s.heap.objs.size∨b=d:=⇑hb
  show b<(s.heap.objs.push _).size;rw[Array.size_push];rcases hb with e|e
  ·rw[e];exact Nat.lt_succ_self _
  rw[e];exact Nat.lt_succ_of_lt Fi
 ·let#[n,t,e1,e2]:=IJ rel hv;apply⟨t,?_⟩;rw[e1];exact e2
 let#[k',DZ]:=hP;let#[n,t,e1,rfl]:=IJ rel DZ;let#[b1,b2]:=argBest_gt (λi=>((ns.map (·.2))[i]?).getD 0) (vs.length - 1);rw[e1] at b2;apply⟨.int n,H,I.kept (t':=tk) (λb o e=>k b o (λm=>?_) (aU _ e)),⟨t,rfl⟩,q n (cX e1) λa ha=>?_⟩
 ·have m:b=s.heap.objs.size:=⇑m
  exact absurd m (dS (bz e))
 let#[j,hj,ej]:=hJ ha;have:=b2 j (by rw[aq] at hj;omega);rw[aQ hj,ej] at this;exact this
theorem gA_{X:Cx}(hc:X.calm=true):gy X (.builtin "min") xC:=by
 intro pins s σ H xs us Q I r h;let#[v,d,ns,rfl,hv,hd,h0,q]:=h;let#[u,rfl,ru]:=vals1 r;cases ru;let#[z,lW,vs,rel,dd]:=jR I.aA hd;let#[ep,dat]:=dd.dictAt;let#[iv,_,_]:=I.aA v _ hv;let hl:=rel.length;rw[aq] at hl
 have Fi:d<s.heap.objs.size:=by
  let#[o,es,ho,_]:=dat;exact bz ho
 apply call_min_walk (wpAny_pyIter_values (knd:=fj X.prog X.w) (kvs:=vs) (ep:=ep) iv dat ?_);apply⟨s.heap.objs.size,[s.heap.objs.size,d],[s.heap.objs.size],vs.length,λi v=>∃k,vs[i]? = some (k,v),_,_,rfl,UT (ep:=ep) (I.ok.hd hc) (dS Fi),⟨⟨_,cK _ rfl,rfl,rfl⟩,?_⟩,λb hb=>?_,by omega,CmpOf.ints_lt (λi=>((ns.map (·.2))[i]?).getD 0) (λi v ⟨k,hv⟩=>?_),λv' h' tk hP k=>?_⟩
 ·let#[o,es,ho,r]:=dat;exact⟨o,es,aU _ ho,r⟩
 ·have hb:b=s.heap.objs.size∨b=d:=⇑hb
  show b<(s.heap.objs.push _).size;rw[Array.size_push];rcases hb with e|e
  ·rw[e];exact Nat.lt_succ_self _
  rw[e];exact Nat.lt_succ_of_lt Fi
 ·let#[n,t,e1,e2]:=IJ rel hv;apply⟨t,?_⟩;rw[e1];exact e2
 let#[k',DZ]:=hP;let#[n,t,e1,rfl]:=IJ rel DZ;let#[b1,b2]:=argBest_lt (λi=>((ns.map (·.2))[i]?).getD 0) (vs.length - 1);rw[e1] at b2;apply⟨.int n,H,I.kept (t':=tk) (λb o e=>k b o (λm=>?_) (aU _ e)),⟨t,rfl⟩,q n (cX e1) λa ha=>?_⟩
 ·have m:b=s.heap.objs.size:=⇑m
  exact absurd m (dS (bz e))
 let#[j,hj,ej]:=hJ ha;have:=b2 j (by rw[aq] at hj;omega);rw[aQ hj,ej] at this;exact this
end L2
namespace EvM
open PySem PySem.Spec PyProof.Rows PySem.W
section
variable{prog:Ad}{w:Af}{A:Ag}
end
end EvM
namespace L2
open PySem PySem.Spec PyProof.Rows PySem.W
end L2
namespace L2
open PySem PySem.Spec PyProof.Rows PySem.W
theorem Tr{X:Cx}:dJ X (binaryOp .FloorDiv) (rI (λ_ j=>0<j/\j<2 ^ 100) λi j=>.int (i / j)):=Bt λi j _ _ _ _ _ hc q=>by
 have h1:(0:Int)<j:=hc.1;have h2:j<2 ^ 100:=hc.2;apply floordiv_int Z1 (by rw[Int.fdiv_eq_ediv_of_nonneg i Z1];exact q) (.inl (PyProof.noPylong_of_log2 ?_));have:j.natAbs.log2<100:=(Nat.log2_lt Z1).mpr Z1;omega
end L2
namespace Ev
open PySem L2
theorem YY{La Lb Sa Sb ca cb M:Int}(h1:ca * Sa=M)(h2:cb * Sb=M):(La * Sb - Lb * Sa) * M=Sa * Sb * (La * ca - Lb * cb):=by
 have e1:La * Sb * M=Sa * Sb * (La * ca):=by rw[<- h1];grind
 have e2:Lb * Sa * M=Sa * Sb * (Lb * cb):=by rw[<- h2];grind
 rw[Int.sub_mul,Int.mul_sub,e1,e2]
end Ev
namespace Ev
open PySem L2
theorem _h{a n:Int}(ha:0<a)(hn:0<n)(h2:n<=1000):gC a n<=a * 1000:=by
 unfold gC
 have g:0<(Int.gcd a n:Int):=by
  have:=Int.gcd_pos_of_ne_zero_right a (show n≠0 by omega);omega
 have k1:a / (Int.gcd a n:Int)<=a:=Int.ediv_le_self _ (iD ha);have k0:0<=a / (Int.gcd a n:Int):=Int.ediv_nonneg (iD ha) (iD g);exact Int.mul_le_mul k1 h2 (iD hn) (iD ha)
theorem Rl:∀(ns:List Int) (a:Int),0<a->(∀n∈ns,0<n/\n<=1000)->ns.foldl gC a<=a * 1000 ^ ns.length
 |[],a,_,_=>by simp
 |n::ns,a,ha,h=>by
  let hn:=h n gd
  have p:0<gC a n:=by
   have:=(Jj [n] a ha ⇑(hn.1)).1;exact this
  let k1:=Rl ns (gC a n) p λm hm=>h m (fP _ hm);let k2:=_h ha hn.1 hn.2;have e:(0:Int)<=1000 ^ ns.length:=Int.pow_nonneg (by decide);rw[List.foldl_cons,jt,Int.pow_succ];apply Int.le_trans k1 ?_;have:=Int.mul_le_mul_of_nonneg_right k2 e;have e2:a * 1000 * 1000 ^ ns.length=a * (1000 ^ ns.length * 1000):=by grind
  rw[e2] at this;exact this
theorem AO{hs:Xa}{ts:Xb}(G:Good hs ts):0<fG hs/\fG hs<2 ^ 100/\∀n∈aS hs,fG hs / strOf hs n * strOf hs n=fG hs:=by
 have pos:∀m∈(aS hs).map (strOf hs),0<m/\m<=1000:=λm hm=>by
  let#[x,hx,rfl]:=bC.mp hm;have:=AN G hx;omega
 have oQ:∀m∈(aS hs).map (strOf hs),0<m:=λm hm=>(pos m hm).1;apply#[Oa oQ,?_,λn hn=>Int.ediv_mul_cancel (hl_ oQ (bC.mpr #[_,hn,Z]))];let k:=Rl _ 1 (by decide) pos;rw[aq,G.iS,Int.one_mul] at k;let h8:=G.h8
 have k2:(1000:Int) ^ hs.length<=1000 ^ 8:=by
  have:(1000:Nat) ^ hs.length<=1000 ^ 8:=Nat.pow_le_pow_right (by decide) h8
  exact_mod_cast this
 have:fG hs<=1000 ^ 8:=Int.le_trans k k2;have e:(1000:Int) ^ 8<2 ^ 100:=by decide
 omega
theorem YC{hs:Xa}{ts:Xb}(G:Good hs ts){qs:aN}(wp:∀q∈qs,0<=q.2.1/\q.2.1<=1000000000)(bX:qs.length<64){f:bo}{n:Str}(hn:n∈aS hs):0<=fM hs qs f n:=
 Int.mul_nonneg (Hv wp bX f n).1 (Int.ediv_nonneg (iD (AO G).1) (by have:=AN G hn;omega))
def BS(hs:Xa)(qs:aN)(f:bo)(r:Int):Prop:=∃x∈aS hs,∃y∈aS hs,r=fM hs qs f x - fM hs qs f y/\∀z∈aS hs,fM hs qs f z<=fM hs qs f x/\fM hs qs f y<=fM hs qs f z
section v
theorem qH:bG ["top","below","divisor"] ["top","below"] (aX rq):=bR
def qu:Sp:=λvs H Q _=>∃a b:Int,vs=[.int a,.int b]/\0<=a/\0<b/\b<2 ^ 100/\∀t,H t=none->Q (.ref t) (upd H t (.tup [.int (fr a b).1,.int (fr a b).2]))
theorem Zd{f:Addr}{fd:Ae}(F:bj K "fraction_of" "fraction_of" rq f fd)(cG:!bp 1 BH mr vw):!ao aZ 2 f fd ["top","below"] qu:=by
 exists F.bQ qH;let#[a,b,rfl,ha,hb,l7,k]:=h
 have g:0<(Int.gcd a b:Int)/\(Int.gcd a b:Int)<2 ^ 100:=by
  have h1:0<Int.gcd a b:=Int.gcd_pos_of_ne_zero_right a Z1;let h3:=Int.le_of_dvd hb (Int.gcd_dvd_right a b);omega
 apply#[_,aw (bq 2 qH.nd (bc cG hr %[0,1|0])) (aF (bx (gf %[bN Tr (pv 0) (pv 2),bN Tr (pv 1) (pv 2)|0]))),?_];apply#[_,Z,_,Z,a,b,Z,ha,hb,?_];exact#[_,Z,_,Z,_,_,Z,Z,g,_,Z,_,Z,_,_,Z,Z,g,zl,k]
theorem qB:bG ["goods","placed","levels"] om (aX qO):=bR
inductive kW (K:aj) (CG CW:Addr) (vs:ai) (H:Hp) (Q:VK) (E:XK):Prop
 |mk:∀(g p d:Addr) (hs:Xa) (ts:Xb) (qs:aN) (fp:au) (f:bo),vs=[.ref g,.ref d]->AW K CG CW H g p d hs ts qs fp f->(∀q∈qs,0<=q.2.1/\q.2.1<=1000000000)->(∀r H',aa H H'->BS hs qs f r->Q (.int r) H')->kW K CG CW vs H Q E
theorem _x{f CG CW:Addr}{fd:Ae}(F:bj K "rise_at" "rise_at" qO f fd)(B:Bi mg)(Lc:mg "min"=none)(cV:!bp 4 "levels_at" om (O4 K CG CW)):!ao aZ 5 f fd om (kW K CG CW):=by
 exists F.bQ qB;let#[g,p,d,hs,ts,qs,fp,f,rfl,Pl,wp,k]:=h;let nl:=Pl.Gd.iS;let h1:=Pl.Gd.h1;refine' #[_,aw ?s1 (aF ?s2),?kk]
 case s1=>exact bq 2 qB.nd (bc cV hr %[0,1|0])
 case s2=>exact bx (bN Iz (cO (gG_ Z) (by rfl) B.max PyProof.Rows.Boot.«max» %[OH (pv 2)|0]) (cO (gA_ Z) (by rfl) Lc PyProof.Rows.Boot.«min» %[OH (pv 2)|0]))
 apply#[_,Z,_,Z,g,p,d,hs,ts,qs,fp,f,Z,Pl,wp,λdv H1 s1 n1 e1=>?_]
 have em:((aS hs).map λh=>((Sum.inr h:Key),fM hs qs f h)).map (·.2)=(aS hs).map (fM hs qs f):=by
  rw[cj];rfl
 have Nf:dX (aS hs) (λh=>V.int (fM hs qs f h))=((aS hs).map λh=>((Sum.inr h:Key),fM hs qs f h)).map λx=>(x.1,V.int x.2):=by
  rw[cj];rfl
 rw[Nf] at e1;apply#[_,Z,dv,_,Z,e1,λv hv=>?_];let#[s2,ev]:=aD (o:=uP v dv) hv;generalize upd H1 v (uP v dv)=H2 at s2 ev ⊢;apply#[v,dv,(aS hs).map λh=>((Sum.inr h:Key),fM hs qs f h),Z,ev,.of (s2 _ _ e1),by rw[aq];omega,λm hm mx=>?_];rw[em] at hm mx;apply#[_,Z,dv,_,Z,s2 _ _ e1,λv2 _W=>?_];let#[s3,S7]:=aD (o:=uP v2 dv) _W;generalize upd H2 v2 (uP v2 dv)=H3 at s3 S7 ⊢;apply#[v2,dv,(aS hs).map λh=>((Sum.inr h:Key),fM hs qs f h),Z,S7,.of (s3 _ _ (s2 _ _ e1)),by rw[aq];omega,λm2 RP mn=>?_];rw[em] at RP mn;let#[x,hx,rfl]:=bC.mp hm;let#[y,hy,rfl]:=bC.mp RP;exact#[_,_,Z,Z,k _ H3 (s1.trans (s2.trans s3)) #[x,hx,y,hy,Z,λz hz=>#[mx _ (bC.mpr #[z,hz,Z]),mn _ (bC.mpr #[z,hz,Z])]]]
theorem em':bG om om (aX Of):=bR
inductive JB (K:aj) (CG CW:Addr) (vs:ai) (H:Hp) (Q:VK) (E:XK):Prop
 |mk:∀(g p d:Addr) (hs:Xa) (ts:Xb) (qs:aN) (fp:au) (f:bo),vs=[.ref g,.ref d]->AW K CG CW H g p d hs ts qs fp f->(∀q∈qs,0<=q.2.1/\q.2.1<=1000000000)->(∀t r H',aa H H'->BS hs qs f r->H' t\.tup [.int (fr r (fG hs)).1,.int (fr r (fG hs)).2]->Q (.ref t) H')->JB K CG CW vs H Q E
theorem ed_{f CG CW:Addr}{fd:Ae}(F:bj K "spread_at" "spread_at" Of f fd)(T:gm K CG)(cR:!bp 5 "rise_at" om (kW K CG CW))(cM:!bp 3 j_ ["web"] (IV K CW))(cF:!bp 2 "fraction_of" ["top","below"] qu):!ao aZ 6 f fd om (JB K CG CW):=by
 apply F.bQ em' λaK A outer s H vs Q E hr h=>?_;let#[g,p,d,hs,ts,qs,fp,f,rfl,Pl,wp,k]:=h;let mo:=AO Pl.Gd;apply#[_,aF (bx (bc cF hr %[bc cR hr %[0,1|0],bc cM hr %[gN (pv 0) Z|0]|0])),?_];apply#[_,Z,_,Z,g,p,d,hs,ts,qs,fp,f,Z,Pl,wp,λr H1 s1 ir=>?_];let G1:=Pl.G.same s1;let#[dx,dw,dy,vs,dF,h1,h2,_]:=id G1.ex;apply#[_,Z,g,CG,dx,_,_,Z,h1,T.cl,T.nW,A_ _ _ _,p,hs,ts,dF,Z,h2,Pl.Gd,λH2 s2=>?_]
 have r0:0<=r:=by
  let#[x,hx,y,hy,rfl,b]:=ir;have:=(b y hy).1;omega
 exact#[r,fG hs,Z,r0,mo.1,mo.2.1,λt ht=>k t r _ ((s1.trans s2).trans (aa.new ht)) ir ay]
theorem qA:bG ya ya (aX NU):=bR
inductive NH (K:aj) (CG CW:Addr) (vs:ai) (H:Hp) (Q:VK) (E:XK):Prop
 |mk:∀(g p d:Addr) (hs:Xa) (ts:Xb) (qs:aN) (fp:au) (ns:ae) (f:bo),vs=[.ref g,.ref d]->Std K CG CW H g p d hs ts qs fp ns f->(∀q∈qs,0<=q.2.1/\q.2.1<=1000000000)->(∀t r H',aa H H'->BS hs qs f r->H' t\.tup [.int (fr r (fG hs)).1,.int (fr r (fG hs)).2]->Q (.ref t) H')->NH K CG CW vs H Q E
theorem hc_{f CG CW:Addr}{fd:Ae}(F:bj K "spread" "spread" NU f fd)(cC:!bp 2 "checked_stand" ya (Jb K CG CW))(cL:!bp 6 "spread_at" om (JB K CG CW)):!ao aZ 7 f fd ya (NH K CG CW):=by
 exists F.bQ qA;let#[g,p,d,hs,ts,qs,fp,ns,f,rfl,S,wp,k]:=h;apply#[_,aF (bx (bc cL hr %[0,bc cC hr %[0,1|0]|0])),?_];apply#[_,Z,_,Z,_,Z,g,p,d,hs,ts,qs,fp,ns,f,Z,S.G,S.o4,S.hd,S.ok,S.nd,S.bX,λd1 H1 s1 n1 e1=>?_];let#[kE,Pl]:=S.placed s1 n1 e1;exact#[g,p,d1,hs,ts,qs,kE,f,Z,Pl,wp,λt r H2 s2 ir e=>k t r H2 (s1.trans s2) ir e]
end
end Ev
namespace dM
open PySem PySem.W PyProof.Rows
section
variable{prog:Ad}{w:Af}{A:Ag}{E:Aa->Ab->Prop}{s:Ab}
inductive Src (h:Heap) (it l:Addr) (i:Nat) (xs:Array Aa):Prop
 |lst (a:h.IsListIter it l i) (b:h.IsList l xs):Src h it l i xs
 |tup (a:h.IsTupleIter it l i) (b:h.IsTuple l xs):Src h it l i xs
theorem Src.keep{h h':Heap}{it l:Addr}{i:Nat}{xs:Array Aa}(x:Src h it l i xs)(k1:∀o,h.get? it\o->h'.get? it\o)(k2:∀o,h.get? l\o->h'.get? l\o):Src h' it l i xs:=by
 cases x with
 |lst a b=>exact .lst (a.at k1) (b.at k2)
 |tup a b=>exact .tup (a.at k1) (by let#[o,e,r]:=b;exact#[o,k2 o e,r])
theorem oo{h:Heap}{l:Addr}{xs ys:Array Aa}(a:h.IsList l xs)(b:h.IsTuple l ys):False:=by
 let#[o,e,c,_]:=a;let#[u,f,d,_]:=b;rw[e] at f;cases f;rw[c] at d;simp at d
theorem Src.Rj{h:Heap}{it l:Addr}{i:Nat}{xs ys:Array Aa}(x:Src h it l i xs)(b:h.IsList l ys):h.IsListIter it l i:=by
 cases x with
 |lst a _=>exact a
 |tup _ c=>exact (oo b c).elim
theorem Src.xM{h:Heap}{it l:Addr}{i:Nat}{xs ys:Array Aa}(x:Src h it l i xs)(b:h.IsTuple l ys):h.IsTupleIter it l i:=by
 cases x with
 |tup a _=>exact a
 |lst _ c=>exact (oo c b).elim
theorem Src.lt{h:Heap}{it l:Addr}{i:Nat}{xs:Array Aa}(x:Src h it l i xs):it<h.objs.size/\l<h.objs.size:=by
 cases x with
 |lst a b=>let#[o,e,_]:=a;let#[u,f,_]:=b;exact#[bz e,bz f]
 |tup a b=>let#[o,e,_]:=a;let#[u,f,_]:=b;exact#[bz e,bz f]
theorem nextT{it t:Addr}{i:Nat}{xs:Array Aa}{x:Aa}{Q:Aa->Ab->Prop}(hit:s.heap.IsTupleIter it t i)(ht:s.heap.IsTuple t xs)(hx:xs[i]? = some x)
  (hQ:∀h',h'.IsTupleIter it t (i+1)->Heap.SameBut it s.heap h'->Q x { s with heap:=h' }):wpAny (model prog w) A (Builtin.SmallTypes.nextOf (.ref it)) Q E s:=by
 let#[o,ho,hc,hd]:=id hit;let#[u,hu,_,n,hv]:=ht;unfold Builtin.SmallTypes.nextOf;apply af (uR (name:=Str.ofString "__next__") hit.typeIs F.slot_tuple_iterator_next (s_ F.slot_tuple_iterator_next hit.typeIs F.entry_tuple_iterator_next ?_ (F.args_tuple_iterator_next_1 _)));apply (show wpAny _ _ (field (.ref it) 0 >>= _) _ _ s from af (fH ho hd (x:=.ref t) Z ?_));apply (show wpAny _ _ (if (Value.ref t == Value.none)=true then _ else _) _ _ s from ?_);rw[aB (show ¬((Value.ref t == Value.none)=true) from gK)];apply (show wpAny _ _ (field (.ref it) 1 >>= _) _ _ s from af (fH ho hd (x:=.int i 0) Z ?_));apply (show wpAny _ _ (seqItems? (.ref t) >>= _) _ _ s from af (mh hu hv ?_));simp only[yA,hx];apply af (wpAny_setField ho hd Z2 (aE #[x,Z,aE (hQ _ #[_,Heap.get?_update_self _ ho (Obj.isFreed_of_fields (Obj.data_mapFields hd _)),(Obj.cls_mapFields ..).trans hc,?_] (Heap.SameBut.update ..))]));rw[Obj.data_mapFields hd];simp[rawInt]
theorem Src.next{it l:Addr}{i:Nat}{xs:Array Aa}{x:Aa}{Q:Aa->Ab->Prop}(z:Src s.heap it l i xs)(ne:l≠it)(hx:xs[i]? = some x)
  (hQ:∀h',Src h' it l (i+1) xs->Heap.SameBut it s.heap h'->Q x { s with heap:=h' }):wpAny (model prog w) A (Builtin.SmallTypes.nextOf (.ref it)) Q E s:=by
 cases z with
 |lst a b=>exact wpAny_nextOf_list_item a b hx λh' a' sb=>hQ h' (.lst a' (b.extBut sb.extBut ne)) sb
 |tup a b=>exact nextT a b hx λh' a' sb=>hQ h' (.tup a' (b.extBut sb.extBut ne)) sb
abbrev Zp(h:Heap)(z TI TO:Addr)(f0:Aa)(f1:Bool):Prop:=h.get? z=some { cls:=.type "zip",dict:=none,data:=.fields (List.toArray [f0,.bool f1,.bool false,.ref TI,.ref TO]),slots:=#[] }
abbrev eY(h:Heap)(T:Addr)(xs:Array Aa):Prop:=h.get? T=some { cls:=.type "tuple",data:=.seq xs }
theorem FD{T:Addr}{xs:Array Aa}{x:Aa}{k:Nat}{Q:Unit->Ab->Prop}(hT:eY s.heap T xs)(h3:xs.size<=3)(h:∀h',eY h' T (xs.setIfInBounds k x)->Heap.SameBut T s.heap h'->Q () { s with heap:=h' }):wpAny (model prog w) A (updateSeq T (·.setIfInBounds k x)) Q E s:=by
 apply wpAny_updateSeq hT Z (h _ ?_ (Heap.SameBut.update ..)) (hz:=iK h3 (by decide)) (_hz':=by rw[Array.size_setIfInBounds];exact iK h3 (by decide));show Heap.get? _ _=_;rw[Heap.get?_update_self _ hT Z];simp[Obj.mapSeq]
structure ou (h:Heap) (z TI TO i1 i2 i3 l1 l2 l3:Addr) (k:Nat) (xs ys zs:Array Aa):Prop where
 nd:[z,TO,i1,i2,i3].Nodup
 ti:TI∉[z,TO,i1,i2,i3]
 ls:∀l∈[l1,l2,l3],l∉[z,TO,i1,i2,i3]
 hI:eY h TI (List.toArray [.ref i1,.ref i2,.ref i3])
 hO:∃a b c,eY h TO (List.toArray [a,b,c])
 s1:Src h i1 l1 k xs
 s2:Src h i2 l2 k ys
 s3:Src h i3 l3 k zs
theorem gr_{z TI TO i1 i2 i3 l1 l2 l3:Addr}{k:Nat}{xs ys zs:Array Aa}{x y v:Aa}{Q:Aa->Ab->Prop}(D:ou s.heap z TI TO i1 i2 i3 l1 l2 l3 k xs ys zs)(hz:Zp s.heap z TI TO .none false)(hx:xs[k]? = some x)(hy:ys[k]? = some y)(hv:zs[k]? = some v)
  (hQ:∀h',Zp h' z TI TO (rawInt s.heap.objs.size) false->ou h' z TI TO i1 i2 i3 l1 l2 l3 (k+1) xs ys zs->eY h' s.heap.objs.size (List.toArray [x,y,v])->(∀c o,c∉[z,TO,i1,i2,i3]->s.heap.get? c\o->h'.get? c\o)->Q (.ref s.heap.objs.size) { s with heap:=h' }) :
  wpAny (model prog w) A (Builtin.«zip.__next__» #[[.ref z],[]]) (λfin s'=>∃v,fin=.done (.ret v)/\Q v s') E s:=by
 let#[nd,ti,ls,hI,#[a,b,c,hO],s1,s2,s3]:=D;simp only[js,bV,fX,or_false,not_or,not_false_eq_true,List.nodup_nil,and_true] at nd ti ls;let#[#[zO,z1,z2,z3],#[O1,O2,O3],#[rX,Dt],n23]:=nd;let L1:=ls l1 (.inl Z);let L2:=ls l2 (.inr (.inl Z));let L3:=ls l3 (.inr (.inr Z));apply (show wpAny _ _ (field (.ref z) 2 >>= _) _ _ _ from af (fH hz Z (x:=.bool false) Z ?_));apply (show wpAny _ _ (field (.ref z) 3 >>= _) _ _ _ from af (fH hz Z (x:=.ref TI) Z ?_));apply af (mh hI Z ?_);apply (show wpAny _ _ (Builtin.SmallTypes.ownedTupleIsFree (.ref z) >>= _) _ _ _ from af ?_);unfold Builtin.SmallTypes.ownedTupleIsFree;apply af (fH hz Z (x:=.none) Z (aE ?_));simp only[if_true];apply af (wpAny_rule (af (fH hz Z (x:=.ref TO) Z (af (pS hz Z2 λh1 iH e1=>af ?_)))));replace iH:Zp h1 z TI TO .ellipsis false:=iH;have MC:eY h1 TO (List.toArray [a,b,c]):=e1.extBut _ _ (bJ zO) hO;let s1:=s1.keep (e1.extBut _ · (bJ z1)) (e1.extBut _ · L1.1);let s2:=s2.keep (e1.extBut _ · (bJ z2)) (e1.extBut _ · L2.1);let s3:=s3.keep (e1.extBut _ · (bJ z3)) (e1.extBut _ · L3.1);simp only[List.zipIdx_cons,List.zipIdx_nil,wZ,u5];apply af (af (wpAny_onRaise (show wpAny _ _ (Builtin.SmallTypes.nextOf (.ref i1) >>= _) _ _ _ from af (s1.next L1.2.2.1 hx λh2 s1 e2=>aE ?_))));have EZ:eY h2 TO (List.toArray [a,b,c]):=e2.extBut _ _ O1 MC;let s2:=s2.keep (e2.extBut _ · (bJ rX)) (e2.extBut _ · L2.2.2.1);let s3:=s3.keep (e2.extBut _ · (bJ Dt)) (e2.extBut _ · L3.2.2.1);apply af (mh EZ Z (af (FD EZ (bh 3) λh3 Av e3=>af (wpAny_letGo (aE ?_)))));replace Av:eY h3 TO (List.toArray [x,b,c]):=Av;let s1:=s1.keep (e3.extBut _ · (bJ O1)) (e3.extBut _ · L1.2.1);let s2:=s2.keep (e3.extBut _ · (bJ O2)) (e3.extBut _ · L2.2.1);let s3:=s3.keep (e3.extBut _ · (bJ O3)) (e3.extBut _ · L3.2.1);apply af (af (wpAny_onRaise (show wpAny _ _ (Builtin.SmallTypes.nextOf (.ref i2) >>= _) _ _ _ from af (s2.next L2.2.2.2.1 hy λh4 s2 e4=>aE ?_))));have EY:eY h4 TO (List.toArray [x,b,c]):=e4.extBut _ _ O2 Av;let s1:=s1.keep (e4.extBut _ · rX) (e4.extBut _ · L1.2.2.2.1);let s3:=s3.keep (e4.extBut _ · (bJ n23)) (e4.extBut _ · L3.2.2.2.1);apply af (mh EY Z (af (FD EY (bh 3) λh5 MB e5=>af (wpAny_letGo (aE ?_)))));replace MB:eY h5 TO (List.toArray [x,y,c]):=MB;let s1:=s1.keep (e5.extBut _ · (bJ O1)) (e5.extBut _ · L1.2.1);let s2:=s2.keep (e5.extBut _ · (bJ O2)) (e5.extBut _ · L2.2.1);let s3:=s3.keep (e5.extBut _ · (bJ O3)) (e5.extBut _ · L3.2.1);apply af (af (wpAny_onRaise (show wpAny _ _ (Builtin.SmallTypes.nextOf (.ref i3) >>= _) _ _ _ from af (s3.next L3.2.2.2.2 hv λh6 s3 e6=>aE ?_))));have Sf:eY h6 TO (List.toArray [x,y,c]):=e6.extBut _ _ O3 MB;let s1:=s1.keep (e6.extBut _ · Dt) (e6.extBut _ · L1.2.2.2.2);let s2:=s2.keep (e6.extBut _ · n23) (e6.extBut _ · L2.2.2.2.2);apply af (mh Sf Z (af (FD Sf (bh 3) λh7 wd e7=>af (wpAny_letGo (aE (aE ?_))))));replace wd:eY h7 TO (List.toArray [x,y,v]):=wd;let s1:=s1.keep (e7.extBut _ · (bJ O1)) (e7.extBut _ · L1.2.1);let s2:=s2.keep (e7.extBut _ · (bJ O2)) (e7.extBut _ · L2.2.1);let s3:=s3.keep (e7.extBut _ · (bJ O3)) (e7.extBut _ · L3.2.1);have all:∀{c o},c≠TO->c≠i1->c≠i2->c≠i3->h1.get? c\o->h7.get? c\o:=λc2 c3 c4 c5 q=>e7.extBut _ _ c2 (e6.extBut _ _ c5 (e5.extBut _ _ c2 (e4.extBut _ _ c4 (e3.extBut _ _ c2 (e2.extBut _ _ c3 q)))));have zQ:Zp h7 z TI TO .ellipsis false:=all zO z1 z2 z3 iH;have ME:eY h7 TI (List.toArray [.ref i1,.ref i2,.ref i3]):=all ti.2.1 ti.2.2.1 ti.2.2.2.1 ti.2.2.2.2 (e1.extBut _ _ ti.1 hI);have sz:h7.objs.size=s.heap.objs.size:=by rw[e7.1,e6.1,e5.1,e4.1,e3.1,e2.1,e1.1]
 apply af (mh wd Z (af (wpAny_newTuple ?_)));apply (show wpAny _ _ (Builtin.SmallTypes.ownedTupleHandOut (.ref z) (.ref h7.objs.size) >>= _) _ _ _ from af ?_);unfold Builtin.SmallTypes.ownedTupleHandOut;have LC:Zp (h7.push { cls:=.type "tuple",data:=.seq (List.toArray [x,y,v]) }) z TI TO .ellipsis false:=aU _ zQ;apply af (pS LC Z2 λh9 LB e9=>pS (show Zp h9 z TI TO (rawInt h7.objs.size) false from LB) Z2 λhA vV eA=>aE #[_,Z,?_]);have up:∀{c o},c≠z->h7.get? c\o->hA.get? c\o:=λc1 q=>eA.extBut _ _ c1 (e9.extBut _ _ c1 (aU _ q));have hT:eY hA h7.objs.size (List.toArray [x,y,v]):=eA.extBut _ _ (jb (bz zQ)) (e9.extBut _ _ (jb (bz zQ)) (cK _ Z));show Q (.ref h7.objs.size) _;rw[sz] at hT ⊢;have vV:Zp hA z TI TO (rawInt h7.objs.size) false:=vV;rw[sz] at vV;apply hQ hA vV #[?_,?_,?_,up ti.1 ME,#[_,_,_,up (bJ zO) wd],s1.keep (λ_=>up (bJ z1)) (λ_=>up L1.1),s2.keep (λ_=>up (bJ z2)) (λ_=>up L2.1),s3.keep (λ_=>up (bJ z3)) (λ_=>up L3.1)] hT λc o hc q=>?_
 ·simp[zO,z1,z2,z3,O1,O2,O3,rX,Dt,n23]
 ·simp[ti]
 ·simpa using ls
 simp only[bV,fX,or_false,not_or] at hc;exact up hc.1 (all hc.2.1 hc.2.2.1 hc.2.2.2.1 hc.2.2.2.2 (e1.extBut _ _ hc.1 q))
end
end dM
namespace dM
open PySem PySem.W PyProof.Rows
section
variable{prog:Ad}{w:Af}{A:Ag}{E:Aa->Ab->Prop}{s:Ab}
theorem ended{it l:Addr}{i:Nat}{xs:Array Aa}{Q:Aa->Ab->Prop}(hh:A.handled=none)(a:s.heap.IsListIter it l i)(b:s.heap.IsList l xs)(hx:xs[i]? = none)
  (hE:∀h' e,Heap.ExtBut it s.heap h'->(∃o,h'.get? e\o/\o.cls=.type "StopIteration")->E (.ref e) { s with heap:=h' }):wpAny (model prog w) A (Builtin.SmallTypes.nextOf (.ref it)) Q E s:=wpAny_nextOf_list_end hh a b hx hE
theorem hJ_{z TI TO i1 i2 i3 l1:Addr}{k:Nat}{xs:Array Aa}{Q:Fin->Ab->Prop}(hh:A.handled=none)(n1:i1≠z)(n2:l1≠z)(hI:eY s.heap TI (List.toArray [.ref i1,.ref i2,.ref i3]))(a1:s.heap.IsListIter i1 l1 k)(b1:s.heap.IsList l1 xs)(hz:Zp s.heap z TI TO .none false)(hx:xs[k]? = none)
  (hE:∀h' e,(∀c o,c≠z->c≠i1->s.heap.get? c\o->h'.get? c\o)->(∃o,h'.get? e\o/\o.cls=.type "StopIteration")->E (.ref e) { s with heap:=h' }):wpAny (model prog w) A (Builtin.«zip.__next__» #[[.ref z],[]]) Q E s:=by
 apply (show wpAny _ _ (field (.ref z) 2 >>= _) _ _ _ from af (fH hz Z (x:=.bool false) Z ?_));apply (show wpAny _ _ (field (.ref z) 3 >>= _) _ _ _ from af (fH hz Z (x:=.ref TI) Z ?_));apply af (mh hI Z ?_);apply (show wpAny _ _ (Builtin.SmallTypes.ownedTupleIsFree (.ref z) >>= _) _ _ _ from af ?_);unfold Builtin.SmallTypes.ownedTupleIsFree;apply af (fH hz Z (x:=.none) Z (aE ?_));simp only[if_true];apply af (wpAny_rule (af (fH hz Z (x:=.ref TO) Z (af (pS hz Z2 λh1 iH e1=>af ?_)))));replace iH:Zp h1 z TI TO .ellipsis false:=iH;simp only[List.zipIdx_cons,List.zipIdx_nil,wZ,u5];apply af (af (wpAny_onRaise (show wpAny _ _ (Builtin.SmallTypes.nextOf (.ref i1) >>= _) _ _ _ from af (ended hh (a1.extBut e1.extBut n1) (b1.extBut e1.extBut n2) hx λh2 e e2 he=>?_))));let#[oe,zZ,EL]:=he;have DX:Zp h2 z TI TO .ellipsis false:=e2 _ _ (bJ n1) iH;have Mj:e≠z:=λx=>by subst x;rw[DX] at zZ;cases zZ;simp at EL
 exact pS DX Z2 λh3 _ e3=>hE h3 e (λc o c1 c3 x=>e3.extBut _ _ c1 (e2 _ _ c3 (e1.extBut _ _ c1 x))) #[oe,e3.extBut _ _ Mj zZ,EL]
theorem hf_{z TI TO i1 i2 i3 l1 l2 l3:Addr}{k:Nat}{xs ys zs:Array Aa}{x y v:Aa}{Q:Option Aa->Ab->Prop}(D:ou s.heap z TI TO i1 i2 i3 l1 l2 l3 k xs ys zs)(hz:Zp s.heap z TI TO .none false)(hx:xs[k]? = some x)(hy:ys[k]? = some y)(hv:zs[k]? = some v)
  (hQ:∀h',Zp h' z TI TO (rawInt s.heap.objs.size) false->ou h' z TI TO i1 i2 i3 l1 l2 l3 (k+1) xs ys zs->eY h' s.heap.objs.size (List.toArray [x,y,v])->(∀c o,c∉[z,TO,i1,i2,i3]->s.heap.get? c\o->h'.get? c\o)->Q (some (.ref s.heap.objs.size)) { s with heap:=h' }) :
  wpAny (model prog w) A (pyNext (.ref z)) Q E s:=by
 have hT:s.TypeIs (.ref z) "zip":=#[_,hz,Z];unfold pyNext;exact af (wpAny_attempt (uR (name:=Str.ofString "__next__") hT F.slot_zip_next (s_ F.slot_zip_next hT F.entry_zip_next (gr_ D hz hx hy hv λh' a1 a2 a3 a4=>aE (hQ h' a1 a2 a3 a4)) (F.args_zip_next_1 _))))
theorem dx_{z TI TO i1 i2 i3 l1:Addr}{k:Nat}{xs:Array Aa}{Q:Option Aa->Ab->Prop}(hh:A.handled=none)(n1:i1≠z)(n2:l1≠z)(hI:eY s.heap TI (List.toArray [.ref i1,.ref i2,.ref i3]))(a1:s.heap.IsListIter i1 l1 k)(b1:s.heap.IsList l1 xs)(hz:Zp s.heap z TI TO .none false)(hx:xs[k]? = none)
  (hQ:∀h',(∀c o,c≠z->c≠i1->s.heap.get? c\o->h'.get? c\o)->Q none { s with heap:=h' }):wpAny (model prog w) A (pyNext (.ref z)) Q E s:=by
 have hT:s.TypeIs (.ref z) "zip":=#[_,hz,Z];unfold pyNext;apply af (wpAny_attempt (uR (name:=Str.ofString "__next__") hT F.slot_zip_next (s_ F.slot_zip_next hT F.entry_zip_next (hJ_ hh n1 n2 hI a1 b1 hz hx λh' e hk he=>?_) (F.args_zip_next_1 _))));let#[o,ho,hc]:=he;exact af (wpAny_isInstance (T:="StopIteration") (b:=true) #[o,ho,hc] isSubtype_stop (aE (hQ _ hk)))
theorem dm_(a b c:Aa):checkTypeCall "zip" #[[a,b,c],[]]=pure ():=by kernel_rfl
theorem dN_(a b c:Aa):checkBuiltinCall "zip.__new__" #[[.type "zip",a,b,c],[]]=pure ():=by kernel_rfl
theorem fl_(a b c d:Aa):argsOk "object.__init__" #[[a,b,c,d],[]]:=by
 unfold argsOk;rw[signature?_of (id:="object.__init__") (n:=['_','_','t','i','n','i','_','_']) (o:=['t','c','e','j','b','o']) (by kernel_rfl) F.owner_object];kernel_rfl
abbrev mM(h:Heap)(l:Addr):Heap:=h.push { cls:=.type "list_iterator",data:=.fields (List.toArray [.ref l,.int 0 0]) }
abbrev oE(h:Heap)(l:Addr):Heap:=h.push { cls:=.type "tuple_iterator",data:=.fields (List.toArray [.ref l,.int 0 0]) }
abbrev Cg(h:Heap)(l1 l2 l3:Addr):Heap:=oE (oE (mM h l1) l2) l3
abbrev Cf(h:Heap)(l1 l2 l3:Addr):Heap:=(Cg h l1 l2 l3).push { cls:=.type "tuple",data:=.seq (List.toArray [.ref h.objs.size,.ref (mM h l1).objs.size,.ref (oE (mM h l1) l2).objs.size]) }
abbrev Ce(h:Heap)(l1 l2 l3:Addr):Heap:=(Cf h l1 l2 l3).push { cls:=.type "tuple",data:=.seq (List.toArray [.none,.none,.none]) }
abbrev yG(h:Heap)(l1 l2 l3:Addr):Heap:=(Ce h l1 l2 l3).push { cls:=.type "zip",data:=.fields (List.toArray [.none,.bool false,.bool false,.ref (Cg h l1 l2 l3).objs.size,.ref (Cf h l1 l2 l3).objs.size]) }
theorem fA_(l1 l2 l3:Addr)(xs ys zs:Array Aa):Meets (Builtin.«zip.__new__» #[[.type "zip",.ref l1,.ref l2,.ref l3],[]]) (λ_ R s=>s.heap.IsList l1 xs/\s.heap.IsTuple l2 ys/\s.heap.IsTuple l3 zs /\
   R (.ok (.ret (.ref (Ce s.heap l1 l2 l3).objs.size))) { s with heap:=yG s.heap l1 l2 l3 }):=
 .of_wp λprog w A R s h=>by
  let#[hp,g,d,tk,os]:=s;let#[a1,a2,a3,h]:=h;let zS:=sub_zip;have b1:Heap.IsList (Shared.heap #[hp,g,d,tk,os]) l1 xs:=a1;have b2:Heap.IsTuple (Shared.heap #[hp.push { cls:=.type "list_iterator",data:=.fields (List.toArray [.ref l1,.int 0 0]) },g,d,tk,os]) l2 ys:=Heap.IsTuple.push a2 _;have b3:Heap.IsTuple (Shared.heap #[(hp.push { cls:=.type "list_iterator",data:=.fields (List.toArray [.ref l1,.int 0 0]) }).push { cls:=.type "tuple_iterator",data:=.fields (List.toArray [.ref l2,.int 0 0]) },g,d,tk,os]) l3 zs:=Heap.IsTuple.push (Heap.IsTuple.push a3 _) _
  wp_walk using wpAny_pyIter_list b1,wpAny_pyIter_tuple b2,wpAny_pyIter_tuple b3
  exact#[_,Z,h]
end
end dM
namespace L2
open PySem PySem.Spec PyProof.Rows PySem.W dM
def F4(K:aj)(a b c:Addr):It:=
 #[λi H=>∃xs ys zs x y z,dY K H a xs/\ft K H b ys/\ft K H c zs/\xs[i]? = some x/\ys[i]? = some y/\zs[i]? = some z,
  λi H v H'=>∃t x y z,v=.ref t/\H t=none/\(∀xs,dY K H a xs->xs[i]? = some x)/\(∀xs,ft K H b xs->xs[i]? = some y)/\(∀xs,ft K H c xs->xs[i]? = some z)/\H'=upd H t (.tup [x,y,z]),λi H=>∃xs,dY K H a xs/\xs.length=i]
theorem h7_{P:Ad}{w:Af}{K:aj}{elts:List Expr}{k:Nat}{pos:Pos}(a b c z TI TO i1 i2 i3:Addr)(nd:[z,TO,i1,i2,i3].Nodup)(ti:TI∉[z,TO,i1,i2,i3])(ls:∀l∈[a,b,c],l∉[z,TO,i1,i2,i3]) :
  Turn P w K (.Tuple elts k pos) (F4 K a b c) [z,TI,TO,i1,i2,i3] z (λi h=>Zp h z TI TO .none false/\eY h TI (List.toArray [.ref i1,.ref i2,.ref i3])/\(∃x y v,eY h TO (List.toArray [x,y,v]))/\h.IsListIter i1 a i/\h.IsTupleIter i2 b i/\h.IsTupleIter i3 c i) where
 mem:=by simp
 obj:=λi h st q hq=>by
  let#[h1,h2,#[x,y,v,h3],#[o1,e1,c1,d1],#[o2,e2,c2,d2],#[o3,e3,c3,d3]]:=st;simp only[bV,fX,or_false] at hq;rcases hq with rfl|rfl|rfl|rfl|rfl|rfl
  ·exact#[_,h1,λv z=>by cases z]
  ·exact#[_,h2,λv z=>by cases z]
  ·exact#[_,h3,λv z=>by cases z]
  ·exact#[o1,e1,λv z=>by rw[d1] at z;cases z]
  ·exact#[o2,e2,λv z=>by rw[d2] at z;cases z]
  exact#[o3,e3,λv z=>by rw[d3] at z;cases z]
 keep:=λi h h' st kk=>by
  let#[h1,h2,#[x,y,v,h3],s1,s2,s3]:=st;exact#[kk _ Z2 _ h1,kk _ Z2 _ h2,#[x,y,v,kk _ Z2 _ h3],s1.at λo q=>kk _ Z2 o q,s2.at λo q=>kk _ Z2 o q,s3.at λo q=>kk _ Z2 o q]
 item:=by
  intro X hP hw hK hc i pins s σ H E I hf st hg;subst hP hw hK;let#[xs,ys,zs,x,y,v,q1,q2,q3,x1,x2,x3]:=hg;let GR:=nd;have z1:z≠i1:=by simp at nd;exact nd.1.2.1
  have z2:z≠i2:=by simp at nd;exact nd.1.2.2.1
  have Vw:z≠i3:=by simp at nd;exact nd.1.2.2.2
  have zO:TO≠z:=by simp at nd;exact bJ nd.1.1
  have tz:TI≠z:=by simp at ti;exact ti.1
  let#[h1,h2,h3,s1,s2,s3]:=st;let#[u1,r1,p1,_]:=I.list q1;let#[u2,r2,p2,_]:=I.tuple q2;let#[u3,r3,p3,_]:=I.tuple q3;let#[w1,_U,WU]:=r1.get x1;let#[w2,_T,WT]:=r2.get x2;let#[w3,_S,WS]:=r3.get x3;apply hf_ (l1:=a) (l2:=b) (l3:=c) (xs:=u1.toArray) (ys:=u2.toArray) (zs:=u3.toArray) (x:=w1) (y:=w2) (v:=w3) #[nd,ti,ls,h2,h3,.lst s1 p1.isList,.tup s2 p2,.tup s3 p3] h1 ⇑_U ⇑_T ⇑_S λh' z' D' xM kk=>?_;have lt:∀{d o},s.heap.get? d\o->s.heap.objs.size≠d:=λe=>jb (bz e);obtain⟨T,eT⟩:∃T,T=s.heap.objs.size:=#[_,Z];have hT:s.heap.objs.size<=T:=Nat.le_of_eq eT.symm;rw[<- eT] at z' xM ⊢;apply#[_,Z,wpAny_letOwnedTupleGo_zip (s:={ s with heap:=h' }) z' λMJ z3 e3=>?_]
  have nT:∀{q},q∈[z,TI,TO,i1,i2,i3]->T≠q:=λ{q} hq e=>by
   let#[x,y,v,h3]:=h3;rw[e] at eT;let#[o1,e1,_]:=s1;let#[o2,e2,_]:=s2;let#[o3,e3,_]:=s3;simp only[bV,fX,or_false] at hq;rcases hq with rfl|rfl|rfl|rfl|rfl|rfl
   ·exact lt h1 eT.symm
   ·exact lt h2 eT.symm
   ·exact lt h3 eT.symm
   ·exact lt e1 eT.symm
   ·exact lt e2 eT.symm
   exact lt e3 eT.symm
  have yE:∀{q o},q≠z->h'.get? q\o->MJ.get? q\o:=λhq e=>e3.extBut _ _ hq e;have vS:eY MJ T (List.toArray [w1,w2,w3]):=yE (nT Z2) xM;have I1:Inv X pins σ (upd H T (.tup [x,y,v])) { s with heap:=MJ }:=I.iN (t':=s.toks) (fp:=[z,TI,TO,i1,i2,i3]) (its:=[w1,w2,w3]) (λq o hq e=>yE (λhz=>hq (by simp[hz])) (kk q o (λhm=>hq (by simp at hm ⊢;rcases hm with h|h|h|h|h<;>simp[h])) e)) hf hT (zl) (.cons WU (.cons WT (.cons WS .nil))) #[#[_,vS,Z,_,Z],_,vS,Z]
  apply#[.ref T,_,I1,Z,#[T,x,y,v,Z,I.aA.fresh hT,λys hy=>by rw[I.jF hy q1];exact x1,λys hy=>by rw[I.dN hy q2];exact x2,λys hy=>by rw[I.dN hy q3];exact x3,Z],?_,λq hq=>?_]
  ·let#[_,_,_,j2,#[f1,f2,f3,j3],j4,j5,j6]:=D';apply#[z3,yE tz j2,#[f1,f2,f3,yE zO j3],?_,?_,?_]
   ·exact (j4.Rj (p1.isList.at λo e=>kk a o (ls a Z2) e)).at λo e=>yE (bJ z1) e
   ·exact (j5.xM (by let#[o,e,r]:=p2;exact#[o,kk b o (ls b Z2) e,r])).at λo e=>yE (bJ z2) e
   exact (j6.xM (by let#[o,e,r]:=p3;exact#[o,kk c o (ls c Z2) e,r])).at λo e=>yE (bJ Vw) e
  rw[ax (λz:q=T=>nT hq z.symm)];exact (hf q hq).1
 done:=by
  intro X hP hw hK hc i pins s σ H E I hf st hg;subst hP hw hK;let#[xs,hq,hx]:=hg;let#[its,rv,p,hz]:=I.list hq;let#[h1,h2,h3,s1,s2,s3]:=st;have:=rv.length;simp only[js,bV,fX,or_false,not_or,not_false_eq_true,List.nodup_nil,and_true] at nd ti;exact dx_ (I.ok.hd hc) (bJ nd.1.2.1) (by have:=ls a Z2;simp at this;exact this.1) h2 s1 p.isList h1 (by simp;omega) λh' kk=>#[Z,I.gP (t':=s.toks) (fp:=[z,TI,TO,i1,i2,i3]) (λq o hq e=>kk q o (λh=>hq (by simp[h])) (λh=>hq (by simp[h])) e) hf]
 self:=λA i s Q E st h=>wpAny_pyIter_zip st.1 h
end L2
namespace dM
open PySem PySem.W PyProof.Rows
section
variable{prog:Ad}{w:Af}{A:Ag}{E:Aa->Ab->Prop}{s:Ab}
theorem alive{a:Addr}{o:Obj}{Q:Option Obj->Ab->Prop}(ho:s.heap.get? a\o)(h:Q (some o) s):wpAny (model prog w) A (loadIfAlive a) Q E s:=fun Γ p _=>by
 unfold loadIfAlive;rw[Sem.wp_loadIfAlive,ho];exact (aE (M:=model prog w) (A:=A) h) Γ p (by assumption)
structure mE (h:Heap) (z TI TO i1 i2 l1 l2:Addr) (k:Nat) (xs ys:Array Aa):Prop where
 nd:[z,TO,i1,i2].Nodup
 ti:TI∉[z,TO,i1,i2]
 ls:∀l∈[l1,l2],l∉[z,TO,i1,i2]
 hI:eY h TI (List.toArray [.ref i1,.ref i2])
 hO:∃a b,eY h TO (List.toArray [a,b])
 s1:Src h i1 l1 k xs
 s2:Src h i2 l2 k ys
 hz:Zp h z TI TO .none false∨∃T o f1,T∉[z,TO,i1,i2]/\h.get? T\o/\Zp h z TI TO (rawInt T) f1
theorem hd_{z TI TO i1 i2 l1 l2:Addr}{k:Nat}{xs ys:Array Aa}{x y:Aa}{Q:Aa->Ab->Prop}(D:mE s.heap z TI TO i1 i2 l1 l2 k xs ys)(hx:xs[k]? = some x)(hy:ys[k]? = some y)
  (hQ:∀h',mE h' z TI TO i1 i2 l1 l2 (k+1) xs ys->eY h' s.heap.objs.size (List.toArray [x,y])->(∀c o,c∉[z,TO,i1,i2]->s.heap.get? c\o->h'.get? c\o)->Q (.ref s.heap.objs.size) { s with heap:=h' }) :
  wpAny (model prog w) A (Builtin.«zip.__next__» #[[.ref z],[]]) (λfin s'=>∃v,fin=.done (.ret v)/\Q v s') E s:=by
 let#[GR,J8,Lk,hI,#[a,b,hO],s1,s2,hz]:=D;let nd:=GR;let ti:=J8;let ls:=Lk;simp only[js,bV,fX,or_false,not_or,not_false_eq_true,List.nodup_nil,and_true] at nd ti ls;let#[#[zO,z1,z2],#[O1,O2],rX]:=nd;let L1:=ls l1 (.inl Z);let L2:=ls l2 (.inr Z);have new:∀{c o},s.heap.get? c\o->s.heap.objs.size≠c:=λe=>jb (bz e)
 have nT:s.heap.objs.size∉[z,TO,i1,i2]:=by
  simp only[bV,fX,or_false,not_or];apply#[?_,new hO,jb s1.lt.1,jb s2.lt.1];rcases hz with hz|⟨T,o,f1,hT,e,hz⟩
  ·exact new hz
  exact new hz
 rcases hz with hz|⟨T,o,f1,hT,eT,hz⟩
 ·apply (show wpAny _ _ (field (.ref z) 2 >>= _) _ _ _ from af (fH hz Z (x:=.bool false) Z ?_));apply (show wpAny _ _ (field (.ref z) 3 >>= _) _ _ _ from af (fH hz Z (x:=.ref TI) Z ?_));apply af (mh hI Z ?_);apply (show wpAny _ _ (Builtin.SmallTypes.ownedTupleIsFree (.ref z) >>= _) _ _ _ from af ?_);unfold Builtin.SmallTypes.ownedTupleIsFree;apply af (fH hz Z (x:=.none) Z (aE ?_));simp only[if_true];apply af (wpAny_rule (af (fH hz Z (x:=.ref TO) Z (af (pS hz Z2 λh1 iH e1=>af ?_)))));replace iH:Zp h1 z TI TO .ellipsis false:=iH;have MC:eY h1 TO (List.toArray [a,b]):=e1.extBut _ _ (bJ zO) hO;let s1:=s1.keep (e1.extBut _ · (bJ z1)) (e1.extBut _ · L1.1);let s2:=s2.keep (e1.extBut _ · (bJ z2)) (e1.extBut _ · L2.1);simp only[List.zipIdx_cons,List.zipIdx_nil,wZ,u5];apply af (af (wpAny_onRaise (show wpAny _ _ (Builtin.SmallTypes.nextOf (.ref i1) >>= _) _ _ _ from af (s1.next L1.2.2.1 hx λh2 s1 e2=>aE ?_))));have EZ:eY h2 TO (List.toArray [a,b]):=e2.extBut _ _ O1 MC;let s2:=s2.keep (e2.extBut _ · (bJ rX)) (e2.extBut _ · L2.2.2.1);apply af (mh EZ Z (af (FD EZ (Nat.le_succ 2) λh3 Av e3=>af (wpAny_letGo (aE ?_)))));replace Av:eY h3 TO (List.toArray [x,b]):=Av;let s1:=s1.keep (e3.extBut _ · (bJ O1)) (e3.extBut _ · L1.2.1);let s2:=s2.keep (e3.extBut _ · (bJ O2)) (e3.extBut _ · L2.2.1);apply af (af (wpAny_onRaise (show wpAny _ _ (Builtin.SmallTypes.nextOf (.ref i2) >>= _) _ _ _ from af (s2.next L2.2.2.2 hy λh4 s2 e4=>aE ?_))));have EY:eY h4 TO (List.toArray [x,b]):=e4.extBut _ _ O2 Av;let s1:=s1.keep (e4.extBut _ · rX) (e4.extBut _ · L1.2.2.2);apply af (mh EY Z (af (FD EY (Nat.le_succ 2) λh7 wd e7=>af (wpAny_letGo (aE (aE ?_))))));replace wd:eY h7 TO (List.toArray [x,y]):=wd;let s1:=s1.keep (e7.extBut _ · (bJ O1)) (e7.extBut _ · L1.2.1);let s2:=s2.keep (e7.extBut _ · (bJ O2)) (e7.extBut _ · L2.2.1);have all:∀{c o},c≠TO->c≠i1->c≠i2->h1.get? c\o->h7.get? c\o:=λc2 c3 c4 q=>e7.extBut _ _ c2 (e4.extBut _ _ c4 (e3.extBut _ _ c2 (e2.extBut _ _ c3 q)));have zQ:Zp h7 z TI TO .ellipsis false:=all zO z1 z2 iH;have ME:eY h7 TI (List.toArray [.ref i1,.ref i2]):=all ti.2.1 ti.2.2.1 ti.2.2.2 (e1.extBut _ _ ti.1 hI);have sz:h7.objs.size=s.heap.objs.size:=by rw[e7.1,e4.1,e3.1,e2.1,e1.1]
  apply af (mh wd Z (af (wpAny_newTuple ?_)));apply (show wpAny _ _ (Builtin.SmallTypes.ownedTupleHandOut (.ref z) (.ref h7.objs.size) >>= _) _ _ _ from af ?_);unfold Builtin.SmallTypes.ownedTupleHandOut;have LC:Zp (h7.push { cls:=.type "tuple",data:=.seq (List.toArray [x,y]) }) z TI TO .ellipsis false:=aU _ zQ;apply af (pS LC Z2 λh9 LB e9=>pS (show Zp h9 z TI TO (rawInt h7.objs.size) false from LB) Z2 λhA vV eA=>aE #[_,Z,?_]);have up:∀{c o},c≠z->h7.get? c\o->hA.get? c\o:=λc1 q=>eA.extBut _ _ c1 (e9.extBut _ _ c1 (aU _ q));have hT:eY hA h7.objs.size (List.toArray [x,y]):=eA.extBut _ _ (jb (bz zQ)) (e9.extBut _ _ (jb (bz zQ)) (cK _ Z));show Q (.ref h7.objs.size) _;have vV:Zp hA z TI TO (rawInt h7.objs.size) false:=vV;rw[sz] at hT vV ⊢;apply hQ hA #[GR,J8,Lk,up ti.1 ME,#[_,_,up (bJ zO) wd],s1.keep (λ_=>up (bJ z1)) (λ_=>up L1.1),s2.keep (λ_=>up (bJ z2)) (λ_=>up L2.1),.inr #[_,_,_,nT,hT,vV]] hT λc o hc q=>?_;simp only[bV,fX,or_false,not_or] at hc;exact up hc.1 (all hc.2.1 hc.2.2.1 hc.2.2.2 (e1.extBut _ _ hc.1 q))
 apply (show wpAny _ _ (field (.ref z) 2 >>= _) _ _ _ from af (fH hz Z (x:=.bool false) Z ?_));apply (show wpAny _ _ (field (.ref z) 3 >>= _) _ _ _ from af (fH hz Z (x:=.ref TI) Z ?_));apply af (mh hI Z ?_);apply (show wpAny _ _ (Builtin.SmallTypes.ownedTupleIsFree (.ref z) >>= _) _ _ _ from af ?_)
 have free:∀{Q:Bool->Ab->Prop},(∀h',Zp h' z TI TO (rawInt T) true->(∀c o,c≠z->s.heap.get? c\o->h'.get? c\o)->h'.objs.size=s.heap.objs.size->Q false { s with heap:=h' })->wpAny (model prog w) A (Builtin.SmallTypes.ownedTupleIsFree (.ref z)) Q E s:=λ{Q} h=>by
  unfold Builtin.SmallTypes.ownedTupleIsFree;apply af (fH hz Z (x:=rawInt T) Z ?_);apply (show wpAny _ _ (loadIfAlive (((T:Nat):Int)).toNat >>= _) _ _ _ from ?_);rw[yA];apply af (alive eT ?_);simp only[Option.isNone_some,pZ,if_false];apply af (fH hz Z (x:=.bool f1) Z ?_);cases f1 with
  |true=>
   apply wpAny_ite_false (by decide) (aE ?_);exact h _ hz (λc o _ q=>q) Z
  |false=>
   apply wpAny_ite_true (by decide) ?_;apply af (pS hz Z2 λh1 iH e1=>aE ?_);exact h h1 iH (λc o hc q=>e1.extBut _ _ hc q) e1.1
 apply free λh1 iH k1 WC=>?_;simp only[pZ,if_false];let s1:=s1.keep (k1 _ · (bJ z1)) (k1 _ · L1.1);let s2:=s2.keep (k1 _ · (bJ z2)) (k1 _ · L2.1);apply af ?_;simp only[List.forIn_toArray,wZ,u5];apply af (af (i7 (show wpAny _ _ (Builtin.SmallTypes.nextOf (.ref i1) >>= _) _ _ _ from af (s1.next L1.2.2.1 hx λh2 s1 e2=>aE (aE ?_)))));let s2:=s2.keep (e2.extBut _ · (bJ rX)) (e2.extBut _ · L2.2.2.1);apply af (af (i7 (show wpAny _ _ (Builtin.SmallTypes.nextOf (.ref i2) >>= _) _ _ _ from af (s2.next L2.2.2.2 hy λh4 s2 e4=>aE (aE (aE ?_))))));let s1:=s1.keep (e4.extBut _ · rX) (e4.extBut _ · L1.2.2.2);have sz:h4.objs.size=s.heap.objs.size:=by rw[e4.1,e2.1,WC]
 apply (show wpAny _ _ (newTuple [x,y] >>= _) _ _ _ from af (wpAny_newTuple (aE #[_,Z,?_])));have all:∀{c o},c≠i1->c≠i2->h1.get? c\o->h4.get? c\o:=λc3 c4 q=>e4.extBut _ _ c4 (e2.extBut _ _ c3 q);have up:∀{c o},h4.get? c\o->(h4.push { cls:=.type "tuple",data:=.seq (List.toArray [x,y]) }).get? c\o:=λq=>aU _ q;have Au:eY (h4.push { cls:=.type "tuple",data:=.seq (List.toArray [x,y]) }) h4.objs.size (List.toArray [x,y]):=cK _ Z;show Q (.ref h4.objs.size) _;rw[sz] at Au ⊢;simp only[bV,fX,or_false,not_or] at hT;apply hQ _ #[GR,J8,Lk,up (all ti.2.2.1 ti.2.2.2 (k1 _ _ ti.1 hI)),#[_,_,up (all O1 O2 (k1 _ _ (bJ zO) hO))],s1.keep (λ_=>up) (λ_=>up),s2.keep (λ_=>up) (λ_=>up),.inr #[T,_,true,by simp[hT],up (all hT.2.2.1 hT.2.2.2 (k1 _ _ hT.1 eT)),up (all z1 z2 iH)]] Au λc o hc q=>?_;simp only[bV,fX,or_false,not_or] at hc;exact up (all hc.2.2.1 hc.2.2.2 (k1 _ _ hc.1 q))
end
end dM
namespace dM
open PySem PySem.W PyProof.Rows
section
variable{prog:Ad}{w:Af}{A:Ag}{E:Aa->Ab->Prop}{s:Ab}
theorem _V{z TI TO i1 i2 l1 l2:Addr}{k:Nat}{xs ys:Array Aa}{Q:Fin->Ab->Prop}(hh:A.handled=none)(D:mE s.heap z TI TO i1 i2 l1 l2 k xs ys)(b0:s.heap.IsList l1 xs)(hx:xs[k]? = none)
  (hE:∀h' e,(∀c o,c∉[z,TO,i1,i2]->s.heap.get? c\o->h'.get? c\o)->(∃o,h'.get? e\o/\o.cls=.type "StopIteration")->E (.ref e) { s with heap:=h' }):wpAny (model prog w) A (Builtin.«zip.__next__» #[[.ref z],[]]) Q E s:=by
 let#[nd,ti,ls,hI,#[a,b,hO],s1,s2,hz]:=D;let a0:=s1.Rj b0;simp only[js,bV,fX,or_false,not_or,not_false_eq_true,List.nodup_nil,and_true] at nd ti ls;let#[#[zO,z1,z2],#[O1,O2],rX]:=nd;let L1:=ls l1 (.inl Z);have go:∀(h1:Heap),(∀c o,c≠z->s.heap.get? c\o->h1.get? c\o)->∀(E':Aa->Ab->Prop) (Q':Aa->Ab->Prop),(∀h' e,Heap.ExtBut i1 h1 h'->(∃o,h'.get? e\o/\o.cls=.type "StopIteration")->E' (.ref e) { s with heap:=h' })->wpAny (model prog w) A (Builtin.SmallTypes.nextOf (.ref i1)) Q' E' { s with heap:=h1 }:=λh1 k1 E' Q' h=>ended hh (s:={ s with heap:=h1 }) (a0.at λo q=>k1 _ o (bJ z1) q) (b0.at λo q=>k1 _ o L1.1 q) hx h;rcases hz with hz|⟨T,o,f1,hT,eT,hz⟩
 ·apply (show wpAny _ _ (field (.ref z) 2 >>= _) _ _ _ from af (fH hz Z (x:=.bool false) Z ?_));apply (show wpAny _ _ (field (.ref z) 3 >>= _) _ _ _ from af (fH hz Z (x:=.ref TI) Z ?_));apply af (mh hI Z ?_);apply (show wpAny _ _ (Builtin.SmallTypes.ownedTupleIsFree (.ref z) >>= _) _ _ _ from af ?_);unfold Builtin.SmallTypes.ownedTupleIsFree;apply af (fH hz Z (x:=.none) Z (aE ?_));simp only[if_true];apply af (wpAny_rule (af (fH hz Z (x:=.ref TO) Z (af (pS hz Z2 λh1 iH e1=>af ?_)))));replace iH:Zp h1 z TI TO .ellipsis false:=iH;simp only[List.zipIdx_cons,List.zipIdx_nil,wZ,u5];apply af (af (wpAny_onRaise (show wpAny _ _ (Builtin.SmallTypes.nextOf (.ref i1) >>= _) _ _ _ from af (go h1 (λc o hc q=>e1.extBut _ _ hc q) _ _ λh2 e e2 he=>?_))));let#[oe,zZ,EL]:=he;have DX:Zp h2 z TI TO .ellipsis false:=e2 _ _ z1 iH;have Mj:e≠z:=λx=>by subst x;rw[DX] at zZ;cases zZ;simp at EL
  exact pS DX Z2 λh3 _ e3=>hE h3 e (λc o hc x=>by
   simp only[bV,fX,or_false,not_or] at hc;exact e3.extBut _ _ hc.1 (e2 _ _ hc.2.2.1 (e1.extBut _ _ hc.1 x))) #[oe,e3.extBut _ _ Mj zZ,EL]
 apply (show wpAny _ _ (field (.ref z) 2 >>= _) _ _ _ from af (fH hz Z (x:=.bool false) Z ?_));apply (show wpAny _ _ (field (.ref z) 3 >>= _) _ _ _ from af (fH hz Z (x:=.ref TI) Z ?_));apply af (mh hI Z ?_);apply (show wpAny _ _ (Builtin.SmallTypes.ownedTupleIsFree (.ref z) >>= _) _ _ _ from af ?_)
 have free:∀{Q:Bool->Ab->Prop},(∀h',(∀c o,c≠z->s.heap.get? c\o->h'.get? c\o)->Q false { s with heap:=h' })->wpAny (model prog w) A (Builtin.SmallTypes.ownedTupleIsFree (.ref z)) Q E s:=λ{Q} h=>by
  unfold Builtin.SmallTypes.ownedTupleIsFree;apply af (fH hz Z (x:=rawInt T) Z ?_);apply (show wpAny _ _ (loadIfAlive (((T:Nat):Int)).toNat >>= _) _ _ _ from ?_);rw[yA];apply af (alive eT ?_);simp only[Option.isNone_some,pZ,if_false];apply af (fH hz Z (x:=.bool f1) Z ?_);cases f1 with
  |true=>exact wpAny_ite_false (by decide) (aE (h _ λc o _ q=>q))
  |false=>exact wpAny_ite_true (by decide) (af (pS hz Z2 λh1 iH e1=>aE (h h1 λc o hc q=>e1.extBut _ _ hc q)))
 apply free λh1 k1=>?_;simp only[pZ,if_false];apply af ?_;simp only[List.forIn_toArray,wZ,u5];apply af (af (i7 (show wpAny _ _ (Builtin.SmallTypes.nextOf (.ref i1) >>= _) _ _ _ from af (go h1 k1 _ _ λh2 e e2 he=>hE h2 e (λc o hc x=>?_) he))));simp only[bV,fX,or_false,not_or] at hc;exact e2 _ _ hc.2.2.1 (k1 _ _ hc.1 x)
theorem mE.ty{z TI TO i1 i2 l1 l2:Addr}{k:Nat}{xs ys:Array Aa}(D:mE s.heap z TI TO i1 i2 l1 l2 k xs ys):s.TypeIs (.ref z) "zip":=by
 rcases D.hz with hz|⟨T,o,f1,hT,eT,hz⟩
 ·exact#[_,hz,Z]
 exact#[_,hz,Z]
theorem gZ_{z TI TO i1 i2 l1 l2:Addr}{k:Nat}{xs ys:Array Aa}{x y:Aa}{Q:Option Aa->Ab->Prop}(D:mE s.heap z TI TO i1 i2 l1 l2 k xs ys)(hx:xs[k]? = some x)(hy:ys[k]? = some y)
  (hQ:∀h',mE h' z TI TO i1 i2 l1 l2 (k+1) xs ys->eY h' s.heap.objs.size (List.toArray [x,y])->(∀c o,c∉[z,TO,i1,i2]->s.heap.get? c\o->h'.get? c\o)->Q (some (.ref s.heap.objs.size)) { s with heap:=h' }):wpAny (model prog w) A (pyNext (.ref z)) Q E s:=by
 unfold pyNext;exact af (wpAny_attempt (uR (name:=Str.ofString "__next__") D.ty F.slot_zip_next (s_ F.slot_zip_next D.ty F.entry_zip_next (hd_ D hx hy λh' a2 a3 a4=>aE (hQ h' a2 a3 a4)) (F.args_zip_next_1 _))))
theorem dt_{z TI TO i1 i2 l1 l2:Addr}{k:Nat}{xs ys:Array Aa}{Q:Option Aa->Ab->Prop}(hh:A.handled=none)(D:mE s.heap z TI TO i1 i2 l1 l2 k xs ys)(b0:s.heap.IsList l1 xs)(hx:xs[k]? = none)
  (hQ:∀h',(∀c o,c∉[z,TO,i1,i2]->s.heap.get? c\o->h'.get? c\o)->Q none { s with heap:=h' }):wpAny (model prog w) A (pyNext (.ref z)) Q E s:=by
 unfold pyNext;apply af (wpAny_attempt (uR (name:=Str.ofString "__next__") D.ty F.slot_zip_next (s_ F.slot_zip_next D.ty F.entry_zip_next (_V hh D b0 hx λh' e hk he=>?_) (F.args_zip_next_1 _))));let#[o,ho,hc]:=he;exact af (wpAny_isInstance (T:="StopIteration") (b:=true) #[o,ho,hc] isSubtype_stop (aE (hQ _ hk)))
abbrev Cd(h:Heap)(l1 l2:Addr):Heap:=oE (mM h l1) l2
abbrev Cc(h:Heap)(l1 l2:Addr):Heap:=(Cd h l1 l2).push { cls:=.type "tuple",data:=.seq (List.toArray [.ref h.objs.size,.ref (mM h l1).objs.size]) }
abbrev Cb(h:Heap)(l1 l2:Addr):Heap:=(Cc h l1 l2).push { cls:=.type "tuple",data:=.seq (List.toArray [.none,.none]) }
abbrev yF(h:Heap)(l1 l2:Addr):Heap:=(Cb h l1 l2).push { cls:=.type "zip",data:=.fields (List.toArray [.none,.bool false,.bool false,.ref (Cd h l1 l2).objs.size,.ref (Cc h l1 l2).objs.size]) }
theorem fs_(l1 l2:Addr)(xs ys:Array Aa):Meets (Builtin.«zip.__new__» #[[.type "zip",.ref l1,.ref l2],[]]) (λ_ R s=>s.heap.IsList l1 xs/\s.heap.IsTuple l2 ys/\R (.ok (.ret (.ref (Cb s.heap l1 l2).objs.size))) { s with heap:=yF s.heap l1 l2 }):=
 .of_wp λprog w A R s h=>by
  let#[hp,g,d,tk,os]:=s;let#[a1,a2,h]:=h;let zS:=sub_zip;have b1:Heap.IsList (Shared.heap #[hp,g,d,tk,os]) l1 xs:=a1;have b2:Heap.IsTuple (Shared.heap #[hp.push { cls:=.type "list_iterator",data:=.fields (List.toArray [.ref l1,.int 0 0]) },g,d,tk,os]) l2 ys:=Heap.IsTuple.push a2 _
  wp_walk using wpAny_pyIter_list b1,wpAny_pyIter_tuple b2
  exact#[_,Z,h]
theorem mE.zx{h:Heap}{z TI TO i1 i2 l1 l2:Addr}{k:Nat}{xs ys:Array Aa}(D:mE h z TI TO i1 i2 l1 l2 k xs ys){h':Heap}(up:∀c o,h.get? c\o->h'.get? c\o):mE h' z TI TO i1 i2 l1 l2 k xs ys:=by
 let#[nd,ti,ls,hI,#[a,b,hO],s1,s2,hz]:=D;apply#[nd,ti,ls,up _ _ hI,#[a,b,up _ _ hO],s1.keep (up _) (up _),s2.keep (up _) (up _),?_];rcases hz with hz|⟨T,o,f1,hT,eT,hz⟩
 ·exact .inl (up _ _ hz)
 exact .inr #[T,o,f1,hT,up _ _ eT,up _ _ hz]
theorem hb_{l1 l2:Addr}{xs ys:Array Aa}{Q:Aa->Ab->Prop}(a1:s.heap.IsList l1 xs)(a2:s.heap.IsTuple l2 ys)
  (h:∀h' z TI TO i1 i2,mE h' z TI TO i1 i2 l1 l2 0 xs ys->Zp h' z TI TO .none false->(∀b∈[z,TO,i1,i2],s.heap.objs.size<=b)->(∀c o,s.heap.get? c\o->h'.get? c\o)->Q (.ref z) { s with heap:=h' }):wpAny (model prog w) A (call (.type "zip") [.ref l1,.ref l2]) Q E s:=by
 apply callType_new F.called_zip (by decide) (F.typeCall_zip_2 _ _) (F.newCall_zip_2 _ _) (λobj=>F.args_object_init_3 obj _ _) F.entry_zip_new (fs_ l1 l2 xs ys) #[a1,a2,?_];have z1:(mM s.heap l1).objs.size=s.heap.objs.size+1:=md ..;have z2:(Cd s.heap l1 l2).objs.size=s.heap.objs.size+2:=by rw[md,z1]
 have z3:(Cc s.heap l1 l2).objs.size=s.heap.objs.size+3:=by rw[md,z2]
 have z4:(Cb s.heap l1 l2).objs.size=s.heap.objs.size+4:=by rw[md,z3]
 have g5:(yF s.heap l1 l2).get? (Cb s.heap l1 l2).objs.size\_:=cK _ Z;have g4:(yF s.heap l1 l2).get? (Cc s.heap l1 l2).objs.size\_:=aU _ (cK _ Z);have g3:(yF s.heap l1 l2).get? (Cd s.heap l1 l2).objs.size\_:=aU _ (aU _ (cK _ Z));have g2:(yF s.heap l1 l2).get? (mM s.heap l1).objs.size\_:=aU _ (aU _ (aU _ (cK _ Z)));have g1:(yF s.heap l1 l2).get? s.heap.objs.size\_:=aU _ (aU _ (aU _ (aU _ (cK _ Z))));have up:∀c o,s.heap.get? c\o->(yF s.heap l1 l2).get? c\o:=λc o x=>aU _ (aU _ (aU _ (aU _ (aU _ x))));have Lj:l1<s.heap.objs.size:=by let#[_,e,_]:=a1;exact bz e
 have Li:l2<s.heap.objs.size:=by let#[_,e,_]:=a2;exact bz e
 show _/\_;apply#[#[_,g5,Z],h _ (Cb s.heap l1 l2).objs.size (Cd s.heap l1 l2).objs.size (Cc s.heap l1 l2).objs.size s.heap.objs.size (mM s.heap l1).objs.size #[?_,?_,?_,g3,#[_,_,g4],.lst #[_,g1,Z,Z] (a1.at λo e=>up _ o e),.tup #[_,g2,Z,Z] (by let#[o,e,r]:=a2;exact#[o,up _ o e,r]),.inl g5] g5 ?_ up]
 ·rw[z1,z3,z4];generalize s.heap.objs.size=n;simp
 ·rw[z1,z2,z3,z4];generalize s.heap.objs.size=n;simp
 ·intro l hl hm
  have lt:l<s.heap.objs.size:=by
   simp only[bV,fX,or_false] at hl;rcases hl with rfl|rfl
   ·exact Lj
   exact Li
  simp only[bV,fX,or_false] at hm;rcases hm with rfl|rfl|rfl|rfl
  ·rw[z4] at lt;exact absurd lt (Nat.not_lt.mpr (tT _ _))
  ·rw[z3] at lt;exact absurd lt (Nat.not_lt.mpr (tT _ _))
  ·exact tZ _ lt
  rw[z1] at lt;exact absurd lt (Nat.not_lt.mpr (tT _ _))
 intro b hb;simp only[bV,fX,or_false] at hb;rcases hb with rfl|rfl|rfl|rfl
 ·rw[z4];exact tT _ _
 ·rw[z3];exact tT _ _
 ·exact bh _
 rw[z1];exact tT _ _
end
end dM
namespace dM
open PySem PySem.W PyProof.Rows
theorem dz_:typeLookup (.type "zip") "keys"=pure none:=by rw[typeLookup_type,builtinLookup_eq_fast];kernel_rfl
theorem ci_:typeLookup (.type "zip") "__getattr__"=pure none:=by rw[typeLookup_type,builtinLookup_eq_fast];kernel_rfl
theorem dK_:entryFor table "zip.__getattribute__"\Builtin.«object.__getattribute__»:=entryFor_alias (id':="object.__getattribute__") (by kernel_rfl) Z0 Z0 (by kernel_rfl)
theorem cV_(a:Addr)(fs:Array Aa)(u:Tok):Meets (Builtin.«object.__getattribute__» #[[.ref a,.str "keys" u],[]]) (λA R s=>s.heap.get? a=some { cls:=.type "zip",dict:=none,data:=.fields fs,slots:=#[] }/\raisesAttr (.ref a) "keys" A R s):=
 Meets.of_wp λprog w A R s hs=>by
  let#[hp,g,d,tk,os]:=s;let#[hx,hs]:=hs;have hT:(#[hp,g,d,tk,os]:Ab).TypeIs (.ref a) "zip":=#[_,hx,Z];let hm:=dz_;unfold Builtin.«object.__getattribute__»
  repeat (any_goals (first|assumption|wp_step))
  repeat (any_goals (first|assumption|wp_step))
  exact wpAny_raiseAttrError hs.1 hs.2 (attrMsg_fits Z0 (by size_fits))
section
variable{prog:Ad}{w:Af}{A:Ag}{E:Aa->Ab->Prop}{s:Ab}
theorem fe_{a:Addr}{fs:Array Aa}{tk:Tok}{R:Result->Ab->Prop}(hx:s.heap.get? a=some { cls:=.type "zip",dict:=none,data:=.fields fs,slots:=#[] })(h:raisesAttr (.ref a) "keys" A R s) :
  codeAny (model prog w) A (.call (.builtin "zip.__getattribute__") #[[.ref a,.str "keys" tk],[]]) R s:=by
 apply codeAny_call_builtin F.slot_zip_getattribute.plain dK_ (F.slot_zip_getattribute.check _ _ _ _ _ _ _ _ #[_,hx,Z] (F.args_zip_getattribute_2 _ _) ?_);exact cV_ a fs tk prog w A R s #[hx,h]
theorem vI{a:Addr}{fs:Array Aa}{Q:Option Aa->Ab->Prop}(hx:s.heap.get? a=some { cls:=.type "zip",dict:=none,data:=.fields fs,slots:=#[] })(hA:A.handled=none)
  (h:∀h' tk,(∀b o,s.heap.get? b\o->h'.get? b\o)->Q none { s with heap:=h',toks:=tk }):wpAny (model prog w) A (getAttr? (.ref a) "keys") Q E s:=by
 let#[hp,g,d,tk,os]:=s;have ty:∀ie,(#[hp,g,d,ie,os]:Ab).TypeIs (.ref a) "zip":=λ_=>#[_,hx,Z];let f1:=sub_AttributeError;let f2:=F.slot_zip_getattribute.lookup;let f3:=F.slot_zip_getattribute.bind (.ref a);let f4:=ci_;unfold getAttr? getAttrBy? getAttrBy
 repeat (any_goals (first|assumption|exact ty _|wp_step))
 apply fe_ hx #[hA,λh' ie e vW=>?_];let#[t',u',he]:=vW.there;apply (show wpAny _ _ (getattributeRaised _ _ _ _ _ _ _) _ _ _ from ?_);unfold getattributeRaised
 repeat (any_goals (first|assumption|wp_step))
 exact h _ _ vW.keeps
end
section
variable{prog:Ad}{w:Af}{K:Type}[DecidableEq K]{knd:PySem.KeyKind prog w K}{A:Ag}
theorem ZO{z TI TO i1 i2 l1 l2 d:Addr}(hd:d∉[z,TO,i1,i2])(hh:A.handled=none){xs ys:ag}(rest:List K):∀(i:Nat) (kvs:List (K × Aa)) (s:Ab) (R:Result->Ab->Prop) (tk:Tok),i+rest.length=xs.length->i+rest.length=ys.length->
  (∀(j:Nat) k,rest[j]? = some k->∃v,xs[i+j]? = some v/\knd.is k v=true)->mE s.heap z TI TO i1 i2 l1 l2 i xs.toArray ys.toArray->s.heap.IsList l1 xs.toArray->s.heap.DictOf knd d kvs->kvs.length+rest.length<=1000->
  (∀h' ie,h'.DictOf knd d (eF kvs (rest.zip (ys.drop i)))->(∀b o,b≠d->b∉[z,TO,i1,i2]->s.heap.get? b\o->h'.get? b\o)->R (.ok (.ret .none)) { s with heap:=h',toks:=ie })->
  codeAny (model prog w) A (.builtin "dict.update.loop" #[[.ref d,.ref z,.int i tk,.none],[]]) R s:=by
 induction rest with
 |nil=>
  intro i kvs s R tk e1 e2 hk D b0 pH hz hR;apply codeAny_builtin Jw ?_;rw[Around.under_plainId yr _,Ih];apply af (dt_ hh D b0 (by simp at e1 ⊢;omega) λh' kp=>?_);exact af (m:=Builtin.Dict.addKeywords d []) (aE (aE (hR h' s.toks (FK pH λo q=>kp _ _ hd q) λb o _ hb q=>kp b o hb q)))
 |cons k rest ih=>
  intro i kvs s R tk e1 e2 hk D b0 pH hz hR;simp only[jt] at e1 e2 hz;let#[v,hv,kv]:=hk 0 k Z;have hy:ys[i]? = some ys[i]:=aQ Z1;apply codeAny_builtin Jw ?_;rw[Around.under_plainId yr _,Ih];apply af (gZ_ D (x:=v) (y:=ys[i]) ⇑hv ⇑hy λh1 D1 hT kp=>?_);apply af (i7 (af (wpAny_tryCatch ?_)));unfold Builtin.Dict.pairItems;apply af (wpAny_typeOf (T:="tuple") #[_,hT,Z] ?_);rw[aI (by decide)];unfold seqItems?;apply af (af (wpAny_load hT (aE (aE ?_))));apply (show wpAny _ _ (holding [v,ys[i]] (dictSet d v ys[i])) _ _ _ from i7 (wpAny_dictSet_pairs kv (FK pH λo q=>kp _ _ hd q) (λh2 hd2 vY=>?_) (by have:=cJ;omega)));have c1:((i:Int)+1)=((i+1:Nat):Int):=by omega
  have ndT:s.heap.objs.size≠d:=by
   let#[o,es,ep,ho,_]:=pH;exact jb (bz ho)
  apply aE #[plainId_quiet yr _,?_];have d0:∀{c o},c≠d->h1.get? c\o->h2.get? c\o:=λhc q=>vY.extBut _ _ hc q;let#[nd,ti,ls,hI,#[a,b,hO],s1,s2,RB]:=D1;have dn:∀{c},c∈[z,TO,i1,i2]->c≠d:=λhc e=>hd (by rw[<- e];exact hc)
  have rV:∀{c xs},h1.IsTuple c xs->c≠d:=λ{c xs} q e=>by
   let#[o,ho,hc,_]:=q;let#[o2,es,ep,fu,kC,_]:=pH;let fu:=kp _ _ hd fu;subst e;rw[ho] at fu;cases fu;let xY:=kC.1;rw[hc] at xY;exact absurd xY (by decide)
  have rW:∀{c xs},h1.IsList c xs->c≠d:=λ{c xs} q e=>by
   let#[o,ho,hc,_]:=q;let#[o2,es,ep,fu,kC,_]:=pH;let fu:=kp _ _ hd fu;subst e;rw[ho] at fu;cases fu;let xY:=kC.1;rw[hc] at xY;exact absurd xY (by decide)
  have ld:∀{it l k zs},Src h1 it l k zs->l≠d:=λq=>by
   cases q with
   |lst _ b=>exact rW b
   |tup _ b=>exact rV b
  have D2:mE h2 z TI TO i1 i2 l1 l2 (i+1) xs.toArray ys.toArray:=by
   apply#[nd,ti,ls,d0 (rV #[_,hI,Z,_,Z]) hI,#[a,b,d0 (dn Z2) hO],s1.keep (λ_=>d0 (dn Z2)) (λ_=>d0 (ld s1)),s2.keep (λ_=>d0 (dn Z2)) (λ_=>d0 (ld s2)),?_];rcases RB with hz|⟨T,o,f1,Au,eT,hz⟩
   ·exact .inl (d0 (dn Z2) hz)
   by_cases c:T=d
   ·let#[o2,es,ep,fu,_]:=hd2;exact .inr #[T,o2,f1,Au,by rw[c];exact fu,d0 (dn Z2) hz]
   exact .inr #[T,o,f1,Au,d0 c eT,d0 (dn Z2) hz]
  rw[c1]
  apply ih (i+1) (stored kvs k ys[i]) _ R 0 Z1 Z1 (λj k' hj=>?_) D2 (b0.at λo q=>d0 (rW (b0.at λo q=>kp _ _ (ls _ Z2) q)) (kp _ _ (ls _ Z2) q)) hd2 (by have:=Ud kvs k ys[i];omega) λh' ie iV Ls=>hR h' ie (by
   have e:ys.drop i=ys[i]::ys.drop (i+1):=List.drop_eq_getElem_cons Z1;rw[e];exact iV) λb o h3 h4 q=>Ls b o h3 h4 (d0 h3 (kp b o h4 q))
  let#[v,e,r]:=hk (j+1) k' hj;exact#[v,by rw[<- e];congr 1;omega,r]
theorem fE_{E:Aa->Ab->Prop}{s:Ab}{z TI TO i1 i2 l1 l2:Addr}{xs ys:ag}{ks:List K}{Q:Aa->Ab->Prop}(hh:A.handled=none)(D:mE s.heap z TI TO i1 i2 l1 l2 0 xs.toArray ys.toArray)(hz:Zp s.heap z TI TO .none false)(b0:s.heap.IsList l1 xs.toArray)(e1:ks.length=xs.length)(e2:ks.length=ys.length)(hk:∀(j:Nat) k,ks[j]? = some k->∃v,xs[j]? = some v/\knd.is k v=true)(n5:ks.length<=1000)
  (h:∀h' ie,h'.DictOf knd s.heap.objs.size (eF [] (ks.zip ys))->(∀b o,b∉[z,TO,i1,i2]->s.heap.get? b\o->h'.get? b\o)->Q (.ref s.heap.objs.size) { s with heap:=h',toks:=ie }) :
  wpAny (model prog w) A (call (.type "dict") [.ref z]) Q E s:=by
 apply callType_codes (Q₁:=λobj aL=>obj=.ref s.heap.objs.size/\aL={ s with heap:=s.heap.push { cls:=.type "dict",data:=.dict #[] } }) F.kt_called_dict (F.kt_typeCall_dict_1 _) F.entry_dict_init (kt_code_dict_new _ #[Z,Z]) ?_;rintro obj aL ⟨rfl,rfl⟩;have iU:(s.heap.push { cls:=.type "dict",data:=.dict #[] }).DictOf knd s.heap.objs.size []:=Heap.DictOf.new s.heap;have z1:Zp (s.heap.push { cls:=.type "dict",data:=.dict #[] }) z TI TO .none false:=aU _ hz;apply#[iU.typeIs,F.args_dict_init_2 _ _,?_];unfold Builtin.«dict.__init__» Builtin.Dict.selfAndRest;apply af (af (wpAny_notOrdered_dict iU.typeIs ?_));apply (show wpAny _ _ (pure (s.heap.objs.size,[Value.ref z])) _ _ _ from aE ?_);apply (show wpAny _ _ (Builtin.Dict.updateFrom "dict.__init__" s.heap.objs.size (.ref z) [] .none) _ _ _ from ?_);unfold Builtin.Dict.updateFrom;apply af (wpAny_typeOf (T:="zip") #[_,z1,Z] ?_);rw[aI (by decide)];apply af (vI z1 hh λh2 Wp k2=>?_);simp only[Option.isNone_none,if_true];have z2:IsZip h2 z TI TO .none:=k2 _ _ z1;apply af (wpAny_rule (af (wpAny_pyIter_zip z2 ?_)));apply aE #[plainId_quiet yr _,?_];have all:∀c o,s.heap.get? c\o->h2.get? c\o:=λc o q=>k2 _ _ (aU _ q)
 have lt:∀{b},b∈[z,TO,i1,i2]->b<s.heap.objs.size:=λ{b} hb=>by
  let#[nd,ti,ls,hI,#[a,b,hO],s1,s2,RB]:=D;simp only[bV,fX,or_false] at hb;rcases hb with rfl|rfl|rfl|rfl
  ·exact bz hz
  ·exact bz hO
  ·exact s1.lt.1
  exact s2.lt.1
 apply ZO (A:=A.in1) (knd:=knd) (d:=s.heap.objs.size) (xs:=xs) (ys:=ys) (λhm=>tZ _ (lt hm)) hh ks 0 [] _ _ 0 Z1 Z1 (λj k hj=>by simpa using hk j k hj) (D.zx all) (b0.at λo q=>all _ _ q) (FK iU λo q=>k2 _ _ q) ⇑n5 λh' ie iV kp=>#[Z,h h' ie ⇑iV λb o hb q=>kp b o (dS (bz q)) hb (all _ _ q)]
end
end dM
namespace dM
open PySem PySem.W PyProof.Rows
section
variable{prog:Ad}{w:Af}{A:Ag}{E:Aa->Ab->Prop}{s:Ab}
theorem gD_{l1 l2 l3:Addr}{xs ys zs:Array Aa}{Q:Aa->Ab->Prop}(a1:s.heap.IsList l1 xs)(a2:s.heap.IsTuple l2 ys)(a3:s.heap.IsTuple l3 zs)
  (h:∀h' z TI TO i1 i2 i3,[z,TO,i1,i2,i3].Nodup->TI∉[z,TO,i1,i2,i3]->(∀b∈[z,TI,TO,i1,i2,i3],s.heap.objs.size<=b)->Zp h' z TI TO .none false->eY h' TI (List.toArray [.ref i1,.ref i2,.ref i3])->eY h' TO (List.toArray [.none,.none,.none])->h'.IsListIter i1 l1 0->h'.IsTupleIter i2 l2 0->h'.IsTupleIter i3 l3 0->(∀c o,s.heap.get? c\o->h'.get? c\o)->Q (.ref z) { s with heap:=h' }):wpAny (model prog w) A (call (.type "zip") [.ref l1,.ref l2,.ref l3]) Q E s:=by
 apply callType_new F.called_zip (by decide) (dm_ _ _ _) (dN_ _ _ _) (λobj=>fl_ obj _ _ _) F.entry_zip_new (fA_ l1 l2 l3 xs ys zs) #[a1,a2,a3,?_];have z1:(mM s.heap l1).objs.size=s.heap.objs.size+1:=md ..;have z2:(oE (mM s.heap l1) l2).objs.size=s.heap.objs.size+2:=by rw[md,z1]
 have z3:(Cg s.heap l1 l2 l3).objs.size=s.heap.objs.size+3:=by rw[md,z2]
 have z4:(Cf s.heap l1 l2 l3).objs.size=s.heap.objs.size+4:=by rw[md,z3]
 have z5:(Ce s.heap l1 l2 l3).objs.size=s.heap.objs.size+5:=by rw[md,z4]
 have g6:(yG s.heap l1 l2 l3).get? (Ce s.heap l1 l2 l3).objs.size\_:=cK _ Z;have g5:(yG s.heap l1 l2 l3).get? (Cf s.heap l1 l2 l3).objs.size\_:=aU _ (cK _ Z);have g4:(yG s.heap l1 l2 l3).get? (Cg s.heap l1 l2 l3).objs.size\_:=aU _ (aU _ (cK _ Z));have g3:(yG s.heap l1 l2 l3).get? (oE (mM s.heap l1) l2).objs.size\_:=aU _ (aU _ (aU _ (cK _ Z)));have g2:(yG s.heap l1 l2 l3).get? (mM s.heap l1).objs.size\_:=aU _ (aU _ (aU _ (aU _ (cK _ Z))));have g1:(yG s.heap l1 l2 l3).get? s.heap.objs.size\_:=aU _ (aU _ (aU _ (aU _ (aU _ (cK _ Z)))));show _/\_;apply#[#[_,g6,Z],h _ (Ce s.heap l1 l2 l3).objs.size (Cg s.heap l1 l2 l3).objs.size (Cf s.heap l1 l2 l3).objs.size s.heap.objs.size (mM s.heap l1).objs.size (oE (mM s.heap l1) l2).objs.size ?_ ?_ ?_ g6 g4 g5 #[_,g1,Z,Z] #[_,g2,Z,Z] #[_,g3,Z,Z] λc o x=>aU _ (aU _ (aU _ (aU _ (aU _ (aU _ x)))))]
 ·rw[z1,z2,z4,z5];generalize s.heap.objs.size=n;simp
 ·rw[z1,z2,z3,z4,z5];generalize s.heap.objs.size=n;simp
 intro b hb;simp only[bV,fX,or_false] at hb;rcases hb with rfl|rfl|rfl|rfl|rfl|rfl
 ·rw[z5];exact tT _ _
 ·rw[z3];exact tT _ _
 ·rw[z4];exact tT _ _
 ·exact bh _
 ·rw[z1];exact tT _ _
 rw[z2];exact tT _ _
end
end dM
namespace L2
open PySem PySem.Spec PySem.Calls PyProof.Rows PySem.W dM
inductive rZ (K:aj) (R:It->Hp->Prop) (vs:ai) (H1:Hp):Prop
 |mk:∀a b c xs ys zs,vs=[.ref a,.ref b,.ref c]->dY K H1 a xs->ft K H1 b ys->ft K H1 c zs->R (F4 K a b c) H1->rZ K R vs H1
def DU(K:aj)(ta:TA):TI:=λσ H R=>ta σ H λvs H1=>rZ K R vs H1
theorem _s{X:Cx}{elts:List Expr}{kk:Nat}{p2:Pos}{a:Expr}{es:List Expr}{ta:TA}{p pos:Pos}(hg:Gl X "zip")(hm:X.mg "zip"=none)(ha:PA X (a::es) ta)(hs:starEach (a::es) X.env=(false,eval a X.env)::starEach es X.env:=by rfl)(iq:(backTo pos (starEach es X.env)).any (·.1)=false:=by rfl):PI X (.Tuple elts kk p2) (.Call (.Name "zip" p) (a::es) [] pos) (DU X.K ta):=by
 intro pins s σ H R I h;apply Call_ (wM I hg hm boot_zip (BR (aO (ha pos pins s σ H _ I h) λus s1 ⟨vs,H1,I1,r1,q1⟩=>?_) hs iq));let#[a,b,c,xs,ys,zs,e,q1,q2,q3,q]:=q1;subst e;cases r1 with
 |cons ra rr=>
 cases rr with
 |cons rb rr=>
 cases rr with
 |cons rc rr=>
 cases rr;cases ra;cases rb;cases rc;let#[u1,_,p1,_]:=I1.list q1;let#[u2,_,p2,_]:=I1.tuple q2;let#[u3,_,p3,_]:=I1.tuple q3;have Lj:a<s1.heap.objs.size:=by let#[_,e,_]:=p1.isList;exact bz e
 have Li:b<s1.heap.objs.size:=by let#[_,e,_]:=p2;exact bz e
 have Ye:c<s1.heap.objs.size:=by let#[_,e,_]:=p3;exact bz e
 apply gD_ p1.isList p2 p3 λh' z TI TO i1 i2 i3 nd ti new hz hI hO WQ s2 s3 kp=>?_;apply wpAny_pyIter_zip hz ?_;apply#[z,[z,TI,TO,i1,i2,i3],_,_,H1,Z,I1.kept (t':=s1.toks) kp,h7_ a b c z TI TO i1 i2 i3 nd ti λl hl hm=>?_,#[hz,hI,#[_,_,_,hO],WQ,s2,s3],λd hd=>I1.jN (new d hd) (I1.aA.fresh (new d hd)),q];have hm:s1.heap.objs.size<=l:=new l (by simp at hm ⊢;rcases hm with h|h|h|h|h<;>simp[h])
 simp only[bV,fX,or_false] at hl;rcases hl with rfl|rfl|rfl
 ·exact Nat.not_lt.mpr hm Lj
 ·exact Nat.not_lt.mpr hm Li
 exact Nat.not_lt.mpr hm Ye
theorem _e{K:aj}{a b c:Addr}{xs ys zs:ai}{g:TG}{tb:TS}{D:Ends}{σ:St}{H:Hp}(l2:ys.length=xs.length)(l3:zs.length=xs.length)(Pv:b_)(h0:Pv 0 σ H)(hl:∀i σ H,i<=xs.length->Pv i σ H->dY K H a xs/\ft K H b ys/\ft K H c zs)
  (hs:∀i x y z σ H,xs[i]? = some x->ys[i]? = some y->zs[i]? = some z->Pv i σ H->∀t,H t=none->g (.ref t) σ (upd H t (.tup [x,y,z])) λgg H2=>tb { D with nx:=Pv (i+1),ct:=Pv (i+1),bk:=D.nx } gg H2) (hd:∀σ H,Pv xs.length σ H->D.nx σ H) :
  ∃W:Nat->Nat->St->Hp->Prop,(∃m,W 0 m σ H)/\∀i m σ H,W i m σ H->
   ((F4 K a b c).stop i H/\D.nx σ H)∨((F4 K a b c).go i H/\∃N:St->Hp->Prop,(∀aY H',N aY H'->∃m',m'<m/\W (i+1) m' aY H')/\∀x H',(F4 K a b c).u9 i H x H'->g x σ H' λgg H2=>tb { D with nx:=N,ct:=N,bk:=D.nx } gg H2):=by
 apply#[λi m σ H=>m=xs.length - i/\i<=xs.length/\Pv i σ H,#[xs.length,by simp,gR _,h0],?_];rintro i m σ H ⟨rfl,hi,p⟩;let#[q1,q2,q3]:=hl i σ H hi p;by_cases d5:i<xs.length
 ·apply .inr #[#[xs,ys,zs,xs[i],ys[i]' Z1,zs[i]' Z1,q1,q2,q3,by simp[d5],by simp[l2,d5],by simp[l3,d5]],Pv (i+1),λaY H' p'=>#[xs.length - (i+1),by omega,Z,d5,p'],λv H' y=>?_];let#[t,x,y,z,rfl,ht,y1,y2,y3,rfl]:=y;exact hs i x y z σ H (y1 xs q1) (y2 ys q2) (y3 zs q3) p t ht
 have e:i=xs.length:=by omega
 subst e;exact .inl #[#[xs,q1,Z],hd σ H p]
inductive T7 (K:aj) (Q:VK) (vs:ai) (H1:Hp):Prop
 |mk:∀(l t:Addr) (ns:ae) (ys:ai),vs=[.ref l,.ref t]->dY K H1 l (ns.map V.str)->ft K H1 t ys->ys.length=ns.length->ns.length<=1000->(∀d,H1 d=none->Q (.ref d) (upd H1 d (.dK (wR [] ((ns.zip ys).map λp=>(Sum.inr p.1,p.2))))))->T7 K Q vs H1
def qi(K:aj)(ta:TA):TE:=λσ H Q=>ta σ H λvs H1=>T7 K Q vs H1
theorem Rf:∀{ns:ae} {ys:ai} {us:ag},Vals ys us->KV ((ns.zip ys).map λp=>((Sum.inr p.1:Key),p.2)) ((ns.map Sum.inr).zip us)
 |[],_,_,_=>by simp only[List.zip_nil_left,List.map_nil];exact Paired.nil
 |_::_,_,_,.nil=>by simp only[List.zip_nil_right,List.map_nil];exact Paired.nil
 |n::ns,y::ys,u::us,.cons r t=>.cons #[Z,r] (Rf t)
theorem fx_{X:Cx}{a:Expr}{es:List Expr}{ta:TA}{p1 p2 oQ oP:Pos}(gD:Gl X "dict")(mD:X.mg "dict"=none)(gZ:Gl X "zip")(mZ:X.mg "zip"=none)(ha:PA X (a::es) ta)(hc:X.calm=true:=by rfl)
  (h1:starEach (a::es) X.env=(false,eval a X.env)::starEach es X.env:=by rfl) (h2:starEach [.Call (.Name "zip" p2) (a::es) [] oP] X.env=(false,eval (.Call (.Name "zip" p2) (a::es) [] oP) X.env)::starEach [] X.env:=by rfl)
  (h3:(backTo oQ (starEach [] X.env)).any (·.1)=false:=by rfl) (h4:(backTo oP (starEach es X.env)).any (·.1)=false:=by rfl):PE X (.Call (.Name "dict" p1) [.Call (.Name "zip" p2) (a::es) [] oP] [] oQ) (qi X.K ta):=by
 intro pins s σ H Q I h;apply wpAny_Call_Name_kw (wM I gD mD tQ ?_ (by decide) (by decide));apply BR ?_ h2 h3;rw[h2];apply (show wpAny _ _ (spliced ((false,eval (.Call (.Name "zip" p2) (a::es) [] oP) X.env)::backTo oQ (starEach [] X.env))) _ _ s from Calls.spliced_cons ?_);apply wpAny_Call_Name_kw (wM I gZ mZ boot_zip ?_ (by decide) (by decide));apply BR (aO (ha oP pins s σ H _ I h) λus s1 ⟨vs,H1,I1,r1,q1⟩=>?_) h1 h4;let#[l,t,ns,ys,e,sq,WG,ly,n5,q]:=q1;subst e;cases r1 with
 |cons ra rr=>
 cases rr with
 |cons rb rr=>
 cases rr;cases ra;cases rb;let#[u1,v1,p1,_]:=I1.list sq;let#[u2,v2,p2,_]:=I1.tuple WG;let e1:=v1.length;let e2:=v2.length;rw[aq] at e1;apply hb_ p1.isList p2 λh' z TI TO i1 i2 D hz new kp=>?_;have I2:Inv X pins σ H1 { s1 with heap:=h' }:=I1.kept (t':=s1.toks) kp;apply Calls.spliced_nil ?_;apply fE_ (knd:=fj X.prog X.w) (s:={ s1 with heap:=h' }) (ks:=ns.map Sum.inr) (I1.ok.hd hc) D hz (p1.isList.at λo e=>kp _ _ e) (by rw[aq];omega) (by rw[aq];omega) (λj k hj=>?_) (by rw[aq];exact n5) λg7 tk hd YG=>?_
 ·rw[dk,B4] at hj;let#[n,hn,rfl]:=hj;let#[u,hu,ru]:=v1.get (i:=j) (x:=V.str n) (by rw[dk,hn];rfl);exact#[u,hu,AG (k:=Sum.inr n) ru]
 have hk:∀b o,s1.heap.get? b\o->g7.get? b\o:=λb o e=>YG b o (λhm=>Nat.not_lt.mpr (new b hm) (bz e)) (kp _ _ e);have fresh:s1.heap.objs.size<=h'.objs.size:=Nat.le_of_lt (Nat.lt_of_le_of_lt (new z Z2) (bz hz));let big:=I2.big;apply#[.ref h'.objs.size,_,I1.laid (t':=tk) hk fresh (H_ ?_ (beq_eq_false_iff_ne.mpr (bJ (dS big))) (KV.eF (Rf v2) .nil) hd),Z,q _ (I1.aA.fresh fresh)];show (wR [] ((ns.zip ys).map λp=>((Sum.inr p.1:Key),p.2))).length<=sizeLine;have:=Ph ((ns.zip ys).map λp=>((Sum.inr p.1:Key),p.2)) [];rw[aq,List.length_zip] at this;have:=cJ;simp only[List.length_nil] at *;omega
end L2
namespace dM
open PySem PySem.W PyProof.Rows
section
variable{prog:Ad}{w:Af}{A:Ag}{E:Aa->Ab->Prop}{s:Ab}
theorem ON(hh:A.handled=none)(it l:Addr)(ne:l≠it)(xs:Array Aa):Draws prog w A it [it,l] xs.size (λi v=>xs[i]? = some v) λi h=>h.IsTupleIter it l i/\h.IsTuple l xs where
 live:=λi h ⟨⟨o,e,_⟩,_⟩=>#[o,e]
 frame:=λi h h' ⟨a,b⟩ k=>#[a.at λo e=>k it Z2 o e,by let#[o,e,r]:=b;exact#[o,k l Z2 o e,r]]
 item:=λi s Q E hi ⟨a,b⟩ h=>nextT a b (Array.getElem?_eq_getElem hi) λh' a' sb=>h _ h' s.toks (Array.getElem?_eq_getElem hi) #[a',b.extBut sb.extBut ne] sb
 done:=λs Q E ⟨a,b⟩ hE=>by
  let#[o,ho,hc,hd]:=id a;let#[u,hu,_,n,hv]:=b;have hx:xs[xs.size]? = none:=Array.getElem?_eq_none (bh _);unfold Builtin.SmallTypes.nextOf;apply af (uR (name:=Str.ofString "__next__") a.typeIs F.slot_tuple_iterator_next (s_ F.slot_tuple_iterator_next a.typeIs F.entry_tuple_iterator_next ?_ (F.args_tuple_iterator_next_1 _)));apply (show wpAny _ _ (field (.ref it) 0 >>= _) _ _ s from af (fH ho hd (x:=.ref l) Z ?_));apply (show wpAny _ _ (if (Value.ref l == Value.none)=true then _ else _) _ _ s from ?_);rw[aB (show ¬((Value.ref l == Value.none)=true) from gK)];apply (show wpAny _ _ (field (.ref it) 1 >>= _) _ _ s from af (fH ho hd (x:=.int xs.size 0) Z ?_));apply (show wpAny _ _ (seqItems? (.ref l) >>= _) _ _ s from af (mh hu hv ?_));simp only[yA,hx];apply af (wpAny_rule (af (wpAny_setField ho hd Z2 ?_)));apply (show wpAny _ _ (newExc (.type "StopIteration") [] >>= _) _ _ _ from af ?_);simp only[newExc,newTuple];apply af (pR ?_ (by size_fits));apply af (m:=firstArgMember _ _) (wpAny_of_eq (a:=Value.none) (by first|rfl|(simp only[firstArgMember];rfl)) ?_);apply pR ?_ (by size_fits);simp only[raiseNew];apply af (wpAny_handled ?_)
  first|rw[show A.in1.handled=none from hh]|rw[hh]
  apply af (aE (wpAny_throw ?_));exact hE _ _ (((Heap.SameBut.update ..).extBut.push _).push _) #[_,cK _ Z,Z]
theorem er_(l:Addr)(xs:Array Aa):Meets (Builtin.«enumerate.__new__» #[[.type "enumerate",.ref l],[]]) (λ_ R s=>s.heap.IsTuple l xs /\
   R (.ok (.ret (.ref (oE s.heap l).objs.size))) { s with heap:=(oE s.heap l).push { cls:=.type "enumerate",data:=.fields (List.toArray [.none,.bool false,.ref s.heap.objs.size,rawInt 0,.none,.none]) } }):=
 .of_wp λprog w A R s h=>by
  let#[hp,g,d,tk,os]:=s;let#[a,h]:=h;let zS:=sub_enumerate;let#[o,ho,hc,n,hd]:=id a;have hL:Heap.IsTuple (Shared.heap #[hp,g,d,tk,os]) l xs:=a
  wp_walk using AutoSeq1.wpAny_loadPart' ho
  apply wpAny_stack_any λst=>aE ?_;split
  ·rename_i c _ _ _ _ _
   cases (c == Value.type "enumerate")
   ·wp_walk using AutoSeq1.wpAny_loadPart' ho,wpAny_pyIter_tuple hL
    exact#[_,Z,h]
   wp_walk using AutoSeq1.wpAny_loadPart' ho,wpAny_pyIter_tuple hL
   exact#[_,Z,h]
  wp_walk using AutoSeq1.wpAny_loadPart' ho,wpAny_pyIter_tuple hL
  exact#[_,Z,h]
end
end dM
namespace dM
open PySem PySem.W PyProof.Rows
section
variable{prog:Ad}{w:Af}{A:Ag}{E:Aa->Ab->Prop}{s:Ab}
theorem fi_{l:Addr}{xs:Array Aa}{Q:Aa->Ab->Prop}(hL:s.heap.IsTuple l xs)
  (h:∀h',IsEnum h' (s.heap.objs.size+1) s.heap.objs.size 0 .none->h'.IsTupleIter s.heap.objs.size l 0->(∀b o,s.heap.get? b\o->h'.get? b\o)->Q (.ref (s.heap.objs.size+1)) { s with heap:=h' }) :
  wpAny (model prog w) A (call (.type "enumerate") [.ref l]) Q E s:=by
 apply callType_new F.called_enumerate (by decide) (F.typeCall_enumerate_1 _) (F.newCall_enumerate_1 _) (λobj=>F.args_object_init_2 obj _) F.entry_enumerate_new (er_ l xs) #[hL,?_];have hz:(oE s.heap l).objs.size=s.heap.objs.size+1:=md ..;have g2:((oE s.heap l).push { cls:=.type "enumerate",data:=.fields (List.toArray [.none,.bool false,.ref s.heap.objs.size,rawInt 0,.none,.none]) }).get? (oE s.heap l).objs.size\_:=cK _ Z;have g1:((oE s.heap l).push { cls:=.type "enumerate",data:=.fields (List.toArray [.none,.bool false,.ref s.heap.objs.size,rawInt 0,.none,.none]) }).get? s.heap.objs.size\_:=aU _ (cK _ Z);show _/\_;rw[hz] at g2 ⊢;exact#[#[_,g2,Z],h _ g2 #[_,g1,Z,Z] λb o x=>aU _ (aU _ x)]
end
end dM
namespace L2
open PySem PySem.Spec PyProof.Rows PySem.W dM
def uh(K:aj)(a:Addr):It:=
 #[λi H=>∃xs x,ft K H a xs/\xs[i]? = some x,λi H y H'=>∃t x,y=.ref t/\H t=none/\(∀xs,ft K H a xs->xs[i]? = some x)/\H'=upd H t (.tup [.int i,x]),λi H=>∃xs,ft K H a xs/\xs.length=i]
theorem fa_{P:Ad}{w:Af}{K:aj}{elts:List Expr}{k:Nat}{pos:Pos}(a e it:Addr)(h1:e≠it)(h2:a≠e)(h3:a≠it):Turn P w K (.Tuple elts k pos) (uh K a) [e,it] e (λi h=>(∃old,IsEnum h e it i old)/\h.IsTupleIter it a i) where
 mem:=by simp
 obj:=λi h st b hb=>by
  let#[#[old,q],o,e2,c,d]:=st;rcases bV.mp hb with rfl|hb
  ·exact#[_,q,λv z=>by cases z]
  obtain rfl:b=it:=⇑hb
  exact#[o,e2,λv z=>by rw[d] at z;cases z]
 keep:=λi h h' st kk=>by
  let#[#[old,q],fL]:=st;exact#[#[old,kk e Z2 _ q],fL.at λo q2=>kk it Z2 o q2]
 item:=by
  intro X hP hw hK hc i pins s σ H E I hf st hg;subst hP hw hK;let#[xs,x,hq,hx]:=hg;let#[its,rv,p,hz]:=I.tuple hq;let#[u,hu,ru]:=rv.get hx;have p:s.heap.IsTuple a its.toArray:=p;let W:=WalksT.enumerateD (A:=X.A) (ON (prog:=X.prog) (w:=X.w) (A:=X.A.in1) (I.ok.hd hc) it a h3 its.toArray) e h1 (by simp[h1,bJ h2]) Z2
  have hi:i<its.toArray.size:=by
   simp only[cm];exact (bY.mp hu).1
  let#[old,he]:=st.1;apply wpAny_pyNext_enum_itemD (ON (prog:=X.prog) (w:=X.w) (A:=X.A.in1) (I.ok.hd hc) it a h3 its.toArray) he #[st.2,p] hi h1 (by simp[h1,bJ h2]) λx' h' t vW ho fC MA hsz hk=>?_
  have ex:x'=u:=by
   rw[List.getElem?_toArray,hu] at vW;exact (cY vW).symm
  subst ex;have Ml:e<s.heap.objs.size:=bz he;have Ma:it<s.heap.objs.size:=by let#[_,x,_]:=st.2;exact bz x
  have mid:(∃x,IsEnumOut h' e it ((i:Int)+1) x s.heap.objs.size)/\(h'.IsTupleIter it a (i+1)/\h'.IsTuple a its.toArray)/\s.heap.objs.size≠e/\s.heap.objs.size≠it:=#[#[_,ho],fC,jb Ml,jb Ma];have kk:∀b o,b∉[e,it]->s.heap.get? b\o->h'.get? b\o:=λb o hb x=>hk b o (λe'=>hb (by simp[e'])) (λe'=>hb (by simp[e'])) x;have xM:h'.IsTuple s.heap.objs.size (List.toArray [.int i t,x']):=#[_,MA,Z,_,Z];obtain⟨T,eT⟩:∃T,T=s.heap.objs.size:=#[_,Z];obtain⟨tk,Hd⟩:∃tk,tk=t+1:=#[_,Z];rw[<- eT] at xM mid MA ⊢;have hT:s.heap.objs.size<=T:=Nat.le_of_eq eT.symm;rw[<- Hd];apply#[_,Z,W.go elts k pos i T { s with heap:=h',toks:=tk } _ _ mid λg7 fC Lu=>?_];have nT:T∉[e,it]:=W.apart i T h' mid
  have vS:g7.IsTuple T (List.toArray [.int i t,x']):=by
   let#[o,q,r]:=xM;exact#[o,Lu T o nT q,r]
  have I1:Inv X pins σ (upd H T (.tup [.int i,x])) { s with heap:=g7,toks:=tk }:=I.iN (t':=tk) (fp:=[e,it]) (its:=[.int i t,x']) (λb o hb q=>Lu b o hb (kk b o hb q)) hf hT (zl) (.cons #[t,Z] (.cons ru .nil)) #[vS,_,Lu T _ nT MA,Z];apply#[.ref T,_,I1,Z,#[T,x,Z,I.aA.fresh hT,λys hy=>by rw[I.dN hy hq];exact hx,Z],#[?_,fC.2.1],λb hb=>?_]
  ·let#[old,q]:=fC.1;exact#[old,by simpa using q]
  rw[ax (λz:b=T=>nT (by rw[<- z];exact hb))];exact (hf b hb).1
 done:=by
  intro X hP hw hK hc i pins s σ H E I hf st hg;subst hP hw hK;let#[xs,hq,hx]:=hg;let#[its,rv,p,hz]:=I.tuple hq;have p:s.heap.IsTuple a its.toArray:=p;let W:=WalksT.enumerateD (A:=X.A) (ON (prog:=X.prog) (w:=X.w) (A:=X.A.in1) (I.ok.hd hc) it a h3 its.toArray) e h1 (by simp[h1,bJ h2]) Z2
  have hn:its.toArray.size=i:=by
   have:=rv.length;simp only[cm];omega
  apply W.done s _ _ (by rw[hn];exact#[st.1,st.2,p]) λh' tk kk=>#[Z,I.gP (t':=tk) (fp:=[e,it]) kk hf]
 self:=λA i s Q E st h=>by
  let#[old,q]:=st.1;exact wpAny_pyIter_enum q h
inductive nK (K:aj) (R:It->Hp->Prop) (vs:ai) (H1:Hp):Prop
 |mk:∀a,vs=[.ref a]->(∃xs,ft K H1 a xs)->R (uh K a) H1->nK K R vs H1
def zN(K:aj)(ta:TA):TI:=λσ H R=>ta σ H λvs H1=>nK K R vs H1
theorem hM_{X:Cx}{elts:List Expr}{kk:Nat}{p2:Pos}{a:Expr}{ta:TA}{p pos:Pos}(hg:Gl X "enumerate")(hm:X.mg "enumerate"=none)(ha:PA X [a] ta)(hs:starEach [a] X.env=[(false,eval a X.env)]:=by rfl):PI X (.Tuple elts kk p2) (.Call (.Name "enumerate" p) [a] [] pos) (zN X.K ta):=by
 intro pins s σ H R I h;apply Call_ (wM I hg hm boot_enumerate (BR (aO (ha pos pins s σ H _ I h) λus s1 ⟨vs,H1,I1,r1,q1⟩=>?_) hs Z));let#[l,e,#[xs,hq],q]:=q1;subst e;cases r1 with
 |cons r rr=>
  cases rr;cases r;let#[its,rv,pl,hz]:=I1.tuple hq;have pl:s1.heap.IsTuple l its.toArray:=pl;have ll:l<s1.heap.objs.size:=by let#[_,e,_]:=pl;exact bz e
  apply fi_ pl λh' he hi kp=>?_;apply wpAny_pyIter_enum he ?_;apply#[s1.heap.objs.size+1,[s1.heap.objs.size+1,s1.heap.objs.size],_,_,H1,Z,I1.kept (t':=s1.toks) kp,fa_ l _ _ (Nat.succ_ne_self _) (dS (Nat.lt_succ_of_lt ll)) (dS ll),#[#[_,he],hi],λb hb=>?_,q]
  have e:s1.heap.objs.size<=b:=by
   rcases bV.mp hb with rfl|hb
   ·exact Nat.le_succ _
   obtain rfl:b=s1.heap.objs.size:=⇑hb
   exact bh _
  exact I1.jN e (I1.aA.fresh e)
theorem h6_{K:aj}{a:Addr}{xs:ai}{g:TG}{tb:TS}{D:Ends}{σ:St}{H:Hp}(Pv:b_)(h0:Pv 0 σ H)(hl:∀i σ H,i<=xs.length->Pv i σ H->ft K H a xs)
  (hs:∀i x σ H,xs[i]? = some x->Pv i σ H->∀t,H t=none->g (.ref t) σ (upd H t (.tup [.int i,x])) λgg H2=>tb { D with nx:=Pv (i+1),ct:=Pv (i+1),bk:=D.nx } gg H2) (hd:∀σ H,Pv xs.length σ H->D.nx σ H) :
  ∃W:Nat->Nat->St->Hp->Prop,(∃m,W 0 m σ H)/\∀i m σ H,W i m σ H->
   ((uh K a).stop i H/\D.nx σ H)∨((uh K a).go i H/\∃N:St->Hp->Prop,(∀aY H',N aY H'->∃m',m'<m/\W (i+1) m' aY H')/\∀x H',(uh K a).u9 i H x H'->g x σ H' λgg H2=>tb { D with nx:=N,ct:=N,bk:=D.nx } gg H2):=by
 apply#[λi m σ H=>m=xs.length - i/\i<=xs.length/\Pv i σ H,#[xs.length,by simp,gR _,h0],?_];rintro i m σ H ⟨rfl,hi,p⟩;let q:=hl i σ H hi p;by_cases d5:i<xs.length
 ·apply .inr #[#[xs,xs[i],q,by simp[d5]],Pv (i+1),λaY H' p'=>#[xs.length - (i+1),by omega,Z,d5,p'],λx H' y=>?_];let#[t,x,rfl,ht,y,rfl]:=y;exact hs i x σ H (y xs q) p t ht
 have e:i=xs.length:=by omega
 subst e;exact .inl #[#[xs,q,Z],hd σ H p]
def yN(tk tv:TE):TE:=λσ H Q=>∀p,H p=none->tk σ (upd H p (.dT [])) λx H1=>tv σ H1 λy H2=>H2 p\.dT []/\∃b k,x=.ref b/\H2 b\.tup (k.map kV)/\Q (.ref p) (upd H2 p (.dT [(k,y)]))
theorem Tz{X:Cx}{pos:Pos}{k v:Expr}{tk tv:TE}(hu:X.A.units+1<cLine)(hk:PE X k tk)(hv:PE X v tv):PE X (.Dict [some k] [v] pos) (yN tk tv):=by
 intro pins s σ H Q I q;let hn:=I.aA.fresh (bh s.heap.objs.size);let I1:=I.laid (a:=s.heap.objs.size) (o:=.dT []) (h':=s.heap.push { cls:=.type "dict",data:=.dict #[] }) (t':=s.toks) (λ_ _ q=>aU _ q) (bh _) (Tt s.heap I.big);let shape:=zip_pairTrees [some k] [v] X.env pos Z Z;rw[arm_eval_Dict,shape,dictDisplay_pairs (pairTrees [some k] [v] X.env pos) (by intro e;exact absurd (d7 List.length e) (by rw[pairTrees_length [some k] [v] X.env pos Z Z];exact Nat.one_ne_zero)) (by rw[pairTrees_length [some k] [v] X.env pos Z Z];exact (by decide:1<17))];apply af (wpAny_standAt (af ?_));unfold subDict;apply af (wpAny_alloc (af (i7 ?_)));rw[aI (by rw[pairTrees_length [some k] [v] X.env pos Z Z];exact (by decide:1<=15))];apply af (pairTrees_cons_walk (aO (hk pins _ σ _ _ I1 (q _ hn)) λu s2 ⟨x,H2,I2,rx,q2⟩=>aO (hv pins s2 σ H2 _ I2 q2) λr s3 ⟨y,H3,I3,ry,e,b,kk,ex,eb,q3⟩=>pairTrees_nil_walk ?_));subst ex;cases rx;let#[z,hd,xs,rel,dd]:=Q_ I3.aA e;cases rel;apply i7 ?_;apply af ?_;simp only[wZ,u5];apply af (af (wpAny_dictSet_heap (hsz:=by simp) (show (tupleKind (fj X.prog X.w)).room X.A from Nat.lt_of_succ_lt hu) (BO I3.aA eb) dd λh' yi hs=>aE (aE (aE (aE (aE ?_))))));let#[ob,es,ep,hq,h2,h3,h4,_,h5]:=yi;apply#[.ref s.heap.objs.size,_,Nk (ob:=.dT [(kk,y)]) I3 (by rw[e];exact True.intro) hs #[ob,hq] #[zl,hd,_,(KT.put (H:=H3) (kvs:=[]) (xs:=[]) .nil kk eb ry).keeps λc ys ec=>?_,ob,es,ep,hq,h2,h3,h4,h5],Z,q3];rw[ax (bK ec e nofun)];exact ec
end L2
namespace L2
open PySem PySem.Spec PyProof.Rows
section
variable{X:Cx}
end
end L2
namespace L2
open PySem PySem.Spec PyProof.Rows PySem.Builtin PySem.Builtin.Str
theorem To:∀{ss:ae} {us:ag},Vals (ss.map V.str) us->StrsAre us ss
 |[],_,.nil=>.nil
 |x::ss,_,.cons r rs=>by
  let#[t,rfl]:=r;exact .cons x t (To rs)
section
variable{X:Cx}
end
end L2
namespace L2
open PySem PySem.Spec PyProof.Rows PySem.W
section
variable{X:Cx}
end
end L2
namespace L2
open PySem PySem.Spec PyProof.Rows PySem.W
section
variable{X:Cx}
end
end L2
namespace dM
open PySem PySem.W PyProof.Rows
section
variable{prog:Ad}{w:Af}{A:Ag}{E:Aa->Ab->Prop}{s:Ab}
end
end dM
namespace L2
open PySem PySem.Spec PyProof.Rows PySem.W dM
section
variable{X:Cx}{o i e value:Expr}{pos pos' Cv:Pos}{td ty tv:TE}
end
section
variable{X:Cx}
end
end L2
namespace L2
open PySem PySem.Spec PyProof.Rows PySem.W dM
section
variable{X:Cx}
end
section
variable{X:Cx}{CX:kL}{k:Nat}{f C:Addr}{fd:Ae}{ps ks:ae}{sp:Sp}{E:XK}{m:Str}{pos apos:Pos}{e o:Expr}{es:List Expr}{Bw:List Keyword}{ta:TE}{t tk:TA}{g:ag->ag->ag}{gV:ai->ai->ai}
end
structure FunD (K:aj) (x qual:Str) (st:Stmt) (f:Addr) (fd:Ae):Prop where
 ex:∃(oc:Aa) (od:Option Addr) (T:Addr) (kV doc pm:Aa) (an:Option Addr) (aK ct:Aa) (jA:Array (Option Aa)) (o:Obj) (n:Nat),
  fd=PySem.W.fnOf x qual (gQ st) (f_ st) (aX st) (.ref T) kV doc pm an aK ct/\K.lookup f=some #[oc,od,.func fd,jA]/\PySem.W.codeIn K aK qual=true/\K.lookup T\o/\o.data=.seq (List.toArray [.none]) n
end L2
namespace L2
open PySem PySem.Spec PyProof.Rows PySem.W dM
open AutoSeq1 (wpAny_loadPart')
theorem cX_{prog:Ad}{w:Af}(r:Addr)(o:Obj)(hc:o.cls=.type "dict_values")(φ:ag->Ab->Prop) :
  MeetsIn prog w (Builtin.«tuple.__new__» #[[.type "tuple",.ref r],[]]) (λA R s=>s.heap.get? r\o/\A.handled=none/\(∀(A':Ag) (E':Aa->Ab->Prop) (Rr:ag->Ab->Prop),A'.handled=none->(∀vs s1,φ vs s1->Rr vs s1)->wpAny (model prog w) A' (collect (.ref r)) Rr E' s)/\∀vs s1,φ vs s1->vs.length<=sizeLine/\R (.ok (.ret (.ref s1.heap.objs.size))) { s1 with heap:=s1.heap.push { cls:=.type "tuple",data:=.seq vs.toArray } }):=
 .of_wp λA R s h=>by
  let#[hp,g,d,tk,os]:=s;let#[ht,hh,col,h]:=h;let zS:=sub_tuple_self;let RW:=init_tuple_lookup;let hmh:=madeHere_tuple;have hT:Shared.TypeIs #[hp,g,d,tk,os] (.ref r) "dict_values":=#[o,ht,hc];have Oj:∀{Rr:ag->Ab->Prop} {E':Aa->Ab->Prop},(∀vs s1,φ vs s1->Rr vs s1)->wpAny (model prog w) A.in1 (collect (.ref r)) Rr E' #[hp,g,d,tk,os]:=λh=>col A.in1 _ _ hh h
  wp_walk using o8 ht,wpAny_typeOf hT,Oj
  intro vs s1 hv;let#[hz,h]:=h vs s1 hv;apply (show wpAny _ _ (Builtin.Tuple.tupleExact vs.toArray >>= λv=>ret v) _ _ _ from ?_);unfold Builtin.Tuple.tupleExact;apply af (pR ?_ (by show vs.toArray.size<=sizeLine;simpa using hz));exact aE #[_,Z,h]
section
variable{X:Cx}
inductive xx (xs:ai) (H:Hp) (Q:VK):Prop
 |mk:∀v d kvs,xs=[.ref v]->H v\uP v d->H d\.dK kvs->(∀l,H l=none->Q (.ref l) (upd H l (.tup (kvs.map (·.2)))))->xx xs H Q
theorem g2_(hc:X.calm=true):gy X (.type "tuple") xx:=by
 intro pins s σ H xs us Q I r h;let#[v,d,kvs,rfl,hv,hd,q]:=h;let#[u,rfl,ru]:=vals1 r;cases ru;let#[z,hdn,vs,rel,dd]:=jR I.aA (.inl hd);let#[ep,dat]:=dd.dictAt;let#[iv,_,_]:=I.aA v _ hv;let hl:=rel.length;let#[o,ho,oc,_]:=id iv
 have col:∀(A':Ag) (E':Aa->Ab->Prop) (Rr:ag->Ab->Prop),A'.handled=none->(∀ws s1,(Inv X pins σ H s1/\Vals (kvs.map (·.2)) ws)->Rr ws s1)->wpAny (model X.prog X.w) A' (collect (.ref v)) Rr E' s:=λA' E' Rr hh q=>by
  apply kdu_collect (kdl_values (knd:=fj X.prog X.w) (kvs:=vs) (ep:=ep)) hh #[iv,dat] Z1 λh' tk acc k a=>q _ _ #[I.kept k,?_];have a':ItemsOf (λi v=>∃k,vs[i]? = some (k,v)) acc (kvs.map (·.2)).length:=by rw[aq,hl];exact a
  apply JE a' λj v ⟨k,e⟩ y hy=>?_;rw[dk] at hy;cases e3:kvs[j]? with
  |none=>rw[e3] at hy;cases hy
  |some kv=>
   rw[e3] at hy;let#[u,hu,ru]:=MI rel j (k:=kv.1) (x:=kv.2) e3;rw[e] at hu;let hu:=cY hu;have g2:v=u:=d7 Prod.snd hu;cases (cY hy:kv.2=y);rw[g2];exact ru
 apply callType_newIn F.called_tuple (by decide) (F.typeCall_tuple_1 _) (F.newCall_tuple_1 _) (λobj=>F.args_object_init_2 obj _) F.entry_tuple_new
  (cX_ v o oc λws s1=>Inv X pins σ H s1/\Vals (kvs.map (·.2)) ws) #[ho,I.ok.hd hc,col,λws s1 ⟨I1,r1⟩=>#[?_,#[_,cK _ Z,Z],?_]]
 ·rw[<- r1.length,aq];exact z
 exact#[.ref s1.heap.objs.size,_,I1.laid (t':=s1.toks) (λb o e=>aU _ e) (bh _) (show fw X.prog X.w _ _ _ (.tup (kvs.map (·.2))) from #[by rw[aq];exact z,ws,r1,IsTup.new _ _,_,cK _ Z,Z]),Z,q _ (I1.aA.fresh (bh _))]
end
end L2
namespace L2
open PySem PySem.Spec PyProof.Rows PySem.W dM
theorem hV_{prog:Ad}{w:Af}{A:Ag}{E:Aa->Ab->Prop}{s:Ab}{t b:Addr}{ws:ag}{Q:Aa->Ab->Prop}(ht:IsTup s.heap t #[])(hb:IsTup s.heap b ws.toArray)(h:Q (.ref b) s):wpAny (model prog w) A (binaryOp .Add (.ref t) (.ref b)) Q E s:=by
 let#[#[cls,dd,data,sl],ho,hc,n,hd]:=id ht;let#[#[Om,IQ,data2,Gp],fu,kC,n2,hd2]:=id hb;simp only at hc hd kC hd2;subst hc hd kC hd2;exact concat_meets #[_,ho,Z] #[_,fu,Z] noFill_tuple_add seq_tuple_add PySem.F.slot_tuple_add PySem.F.entry_tuple_add (PySem.F.args_tuple_add_2 _ _) (tuple_addW0 t b #[] ws.toArray n n2 dd IQ sl Gp Z) #[ho,fu,h]
inductive xF (x:V) (y:V) (H:Hp) (Q:VK):Prop
 |mk:∀a b xs ys,x=.ref a->y=.ref b->H a\.tup xs->H b\.tup ys->xs.length+ys.length<=sizeLine->(∀p H',aa H H'->H' p\.tup (xs++ys)->Q (.ref p) H')->xF x y H Q
theorem IS{X:Cx}:dJ X (binaryOp .Add) xF:=by
 intro pins s σ H x y v u Q I rx ry h;let#[a,b,xs,ys,rfl,rfl,ha,hb,hz,q]:=h;cases rx;cases ry;let#[its,r1,p1,_]:=I.tuple (.of ha);let#[ip,r2,p2,_]:=I.tuple (.of hb);by_cases z:its=[]
 ·subst z;let e:=r1.nI.mp rfl;exact hV_ p1 p2 ⟨.ref b,H,I,rfl,q _ _ (aa.refl H) (by rw[e];exact hb)⟩
 apply HT.wC p1 p2 z (λz2=>⟨.ref a,H,I,rfl,q _ _ (aa.refl H) ?_⟩) (λz2=>?_) (by rw[<- r1.length,<- r2.length];exact hz)
 ·rw[r2.nI.mp z2,List.append_nil];exact ha
 apply⟨.ref s.heap.objs.size,_,I.laid (t':=s.toks) (o:=.tup (xs++ys)) (λb ob q=>aU _ q) (bh _) ?_,rfl,q _ _ (aa.new (I.aA.fresh (bh _))) ay⟩;exact⟨by rw[d_];exact hz,_,r1.append r2,IsTup.new _ _,_,cK _ rfl,rfl⟩
end L2
namespace dM
open PySem PySem.W PyProof.Rows
theorem fm_{prog:Ad}{w:Af}(d:Addr)(es:Array DictEntry)(ep:Nat)(hd:(d == sysModules)=false):MeetsIn prog w (Builtin.«dict.__len__» ⟨[.ref d],[]⟩) (λ_ R s=>Raw s.heap d es ep/\R (.ok (.ret (.int es.size s.toks))) { s with toks:=s.toks+1 }):=
 .of_wp λA R s ⟨hm,h⟩=>by
  let#[o,ho,hc,jK]:=hm;apply (show wpAny _ _ (dictSize d >>= _) _ _ s from ?_);unfold dictSize;apply af (af (wpAny_dictEntries ho jK (aE ?_)));apply (show wpAny _ _ (Builtin.Dict.pendingCount d >>= _) _ _ s from af (wpAny_pendingCount_other hd ?_));apply wpAny_ret_mkInt ?_;rw[Nat.add_zero];exact h
theorem ha_{prog:Ad}{w:Af}{A:Ag}{E:Aa->Ab->Prop}{s:Ab}{d:Addr}{es:Array DictEntry}{ep:Nat}{Q:Aa->Ab->Prop}(hd:(d == sysModules)=false)(hm:Raw s.heap d es ep)(hfit:(es.size:Int)<2 ^ 63)
  (h:Q (.int es.size (s.toks+1)) { s with toks:=s.toks+1+1 }):wpAny (model prog w) A (call (.builtin "len") [.ref d]) Q E s:=by
 apply Calls.call_function_entry kind_len plain_len entry_len (args_len1 _) ?_;unfold Builtin.«len»;apply af (m:=oneArg "len" _) (aE ?_);apply af (m:=callSpecial? (.ref d) (Str.ofString "__len__")) (uR (name:=Str.ofString "__len__") hm.ty F.slot_dict_len (call_meetsIn F.slot_dict_len hm.ty F.entry_dict_len (F.args_dict_len_1 _) (fm_ d es ep hd) #[hm,?_]));apply (show wpAny _ _ _ _ _ { s with toks:=s.toks+1 } from af (i7 (aE ?_)));apply af (wpAny_letGo ?_);apply (show wpAny _ _ (if ((es.size:Nat):Int)<0 then _ else _) _ _ _ from ?_);rw[aB Z1];apply (show wpAny _ _ (if ((es.size:Nat):Int) ≥ 2 ^ 63 then _ else _) _ _ _ from ?_);rw[aB Z1];exact af (wpAny_mkInt (aE #[_,Z,h]))
end dM
namespace L2
open PySem PySem.Spec PyProof.Rows PySem.W dM
inductive U3 (xs:ai) (H:Hp) (Q:VK):Prop
 |mk:∀a kvs,xs=[V.ref a]->H a\.dT kvs->Q (.int kvs.length) H->U3 xs H Q
theorem Uk{X:Cx}:gy X (.builtin "len") U3:=by
 intro pins s σ H xs us Q I r h;let#[a,kvs,rfl,ha,q]:=h;let#[u,rfl,ru]:=vals1 r;cases ru;let#[z,hd,xs,rel,o,es,ep,ho,hc,jK,wa,nd]:=I.aA a _ ha
 have l1:es.size=xs.length:=by
  have:=d7 List.length wa;simpa using this
 let l2:=bw rel;let sz:=cJ;apply ha_ (es:=es) (ep:=ep) hd ⟨o,ho,hc,jK⟩ Z1 ⟨.int kvs.length,H,I.tok _,⟨_,by rw[l2,<- l1]⟩,q⟩
end L2
namespace Ev
open PySem L2
abbrev ak:=ae
def sK(s:ak):av:=s.map Sum.inr
abbrev sV(s:ak):ai:=s.map V.str
theorem qY(s:ak):(sK s).map kV=sV s:=by
 unfold sK;rw[cj];rfl
theorem MG{a b:ak}(h:sK a=sK b):a=b:=by
 unfold sK at h;exact List.map_inj_right (λx y e=>hZ e) |>.mp h
inductive Wk (N:ak->ak->Prop) (s0:ak):Nat->ak->Prop
 |z:Wk N s0 0 s0
 |s {k:Nat} {a b:ak}:Wk N s0 k a->N a b->Wk N s0 (k+1) b
def Ds(N:ak->ak->Prop)(s0:ak)(k:Nat)(s:ak):Prop:=Wk N s0 k s/\∀j,j<k->¬Wk N s0 j s
section
variable{N:ak->ak->Prop}{s0:ak}
theorem Wk.ds:∀{k:Nat} {s:ak},Wk N s0 k s->∃j,j<=k/\Ds N s0 j s:=λ{k s} h=>by
 induction k using Nat.strongRecOn with
 |_ k ih=>
  by_cases c:∃j,j<k/\Wk N s0 j s
  ·let#[j,hj,hw]:=c;let#[i,hi,d]:=ih j hj hw;exact#[i,by omega,d]
  exact#[k,bh _,h,λj hj hw=>c #[j,hj,hw]]
theorem Ds.prev{k:Nat}{s:ak}(h:Ds N s0 (k+1) s):∃a,Ds N s0 k a/\N a s:=by
 let#[hw,hn]:=h;cases hw with
 |@s _ a _ ha x6=>exact#[a,#[ha,λj hj hw=>hn (j+1) Z1 (.s hw x6)],x6]
theorem Ds.down:∀{k:Nat} {s:ak},Ds N s0 k s->∀i,i<=k->∃t,Ds N s0 i t
 |0,s,h,i,hi=>#[s,by rw[show i=0 by omega];exact h]
 |k+1,s,h,i,hi=>by
  by_cases c:i=k+1
  ·exact#[s,by rw[c];exact h]
  let#[a,ha,_]:=h.prev;exact ha.down i Z1
theorem Ds.inj{j k:Nat}{s:ak}(h:Ds N s0 j s)(h2:Ds N s0 k s):j=k:=by
 rcases Nat.lt_trichotomy j k with c|c|c
 ·exact absurd h.1 (h2.2 j c)
 ·exact c
 exact absurd h2.1 (h.2 k c)
structure Bf (N:ak->ak->Prop) (s0:ak) (k:Nat) (ks nw:List ak):Prop where
 nd:ks.Nodup
 nn:nw.Nodup
 all:∀s,s∈ks ↔ ∃j,j<=k/\Wk N s0 j s
 new:∀s,s∈nw ↔ Ds N s0 k s
structure Wd (old seen ks fd:List ak):Prop where
 nd:ks.Nodup
 nf:fd.Nodup
 all:∀s,s∈ks ↔ s∈old∨s∈seen
 new:∀s,s∈fd ↔ s∈seen/\s∉old
theorem Wd.start{old:List ak}(nd:old.Nodup):Wd old [] old []:=#[nd,.nil,by simp,by simp]
theorem Wd.skip{old seen ks fd:List ak}{a:ak}(h:Wd old seen ks fd)(ha:a∈ks):Wd old (seen++[a]) ks fd:=by
 apply#[h.nd,h.nf,λs=>?_,λs=>?_]
 ·rw[h.all,d9,eV];apply#[λx=>x.imp id .inl,λx=>?_];rcases x with x|x|rfl
  ·exact .inl x
  ·exact .inr x
  exact (h.all _).mp ha
 rw[h.new,d9,eV];apply#[λ⟨x,y⟩=>#[.inl x,y],λ⟨x,y⟩=>#[?_,y]];rcases x with x|rfl
 ·exact x
 exact ((h.all _).mp ha).resolve_left y
theorem Wd.add{old seen ks fd:List ak}{a:ak}(h:Wd old seen ks fd)(ha:a∉ks):Wd old (seen++[a]) (ks++[a]) (fd++[a]):=by
 have no:a∉old:=λx=>ha ((h.all _).mpr (.inl x));have nf:a∉fd:=λx=>ha ((h.all _).mpr (.inr ((h.new _).mp x).1));apply#[?_,?_,λs=>?_,λs=>?_]
 ·rw[List.nodup_append];exact#[h.nd,by simp,λx hx y hy e=>ha (by rw[<- eV.mp hy,<- e];exact hx)]
 ·rw[List.nodup_append];exact#[h.nf,by simp,λx hx y hy e=>nf (by rw[<- eV.mp hy,<- e];exact hx)]
 ·rw[d9,d9,h.all];constructor
  ·rintro ((x|x)|x)
   ·exact .inl x
   ·exact .inr (.inl x)
   exact .inr (.inr x)
  rintro (x|x|x)
  ·exact .inl (.inl x)
  ·exact .inl (.inr x)
  exact .inr x
 rw[d9,d9,h.new,eV];constructor
 ·rintro (⟨x,y⟩|rfl)
  ·exact#[.inl x,y]
  exact#[.inr Z,no]
 rintro⟨x|x,y⟩
 ·exact .inl #[x,y]
 exact .inr x
theorem Bf.start:Bf N s0 0 [s0] [s0]:=by
 have w0:∀s,Wk N s0 0 s ↔ s=s0:=λs=>#[λh=>by cases h;rfl,λh=>by rw[h];exact .z];apply#[by simp,by simp,λs=>?_,λs=>?_]
 ·rw[eV,<- w0];exact#[λh=>#[0,bh _,h],λ⟨j,hj,h⟩=>by rw[show j=0 by omega] at h;exact h]
 rw[eV,<- w0];exact#[λh=>#[h,λj hj=>by omega],λh=>h.1]
theorem Bf.next{k:Nat}{ks nw seen iT fd:List ak}(B:Bf N s0 k ks nw)(W:Wd ks seen iT fd)(hs:∀s,s∈seen ↔ ∃a∈nw,N a s):Bf N s0 (k+1) iT fd:=by
 have key:∀s,Wk N s0 (k+1) s->(∃j,j<=k/\Wk N s0 j s)∨s∈seen:=λs h=>by
  cases h with
  |@s _ a _ ha x6=>
   by_cases c:∃j,j<k/\Wk N s0 j a
   ·let#[j,hj,hw]:=c;exact .inl #[j+1,by omega,.s hw x6]
   exact .inr ((hs s).mpr #[a,(B.new a).mpr #[ha,λj hj hw=>c #[j,hj,hw]],x6])
 have sw:∀s,s∈seen->Wk N s0 (k+1) s:=λs h=>by
  let#[a,ha,hn]:=(hs s).mp h;exact .s ((B.new a).mp ha).1 hn
 apply#[W.nd,W.nf,λs=>?_,λs=>?_]
 ·rw[W.all,B.all];constructor
  ·rintro (⟨j,hj,h⟩|h)
   ·exact#[j,by omega,h]
   exact#[k+1,bh _,sw s h]
  rintro⟨j,hj,h⟩;by_cases c:j=k+1
  ·rw[c] at h;exact key s h
  exact .inl #[j,by omega,h]
 rw[W.new,B.all];constructor
 ·rintro⟨h,n⟩;exact#[sw s h,λj hj hw=>n #[j,by omega,hw]]
 rintro⟨h,n⟩;have no:¬∃j,j<=k/\Wk N s0 j s:=λ⟨j,hj,hw⟩=>n j Z1 hw;exact#[(key s h).resolve_left no,no]
theorem Bf.last{k:Nat}{ks:List ak}(B:Bf N s0 k ks []){j:Nat}{s:ak}(h:Ds N s0 j s):j<k:=by
 by_cases c:j<k
 ·exact c
 let#[t,ht]:=h.down k Z1;exact absurd ((B.new t).mpr ht) Z2
end
def o_(ns:ae):Nat->List ak
 |0=>[[]]
 |n+1=>ns.flatMap λh=>(o_ ns n).map (h::·)
theorem Tn(ns:ae):∀n,(o_ ns n).length=ns.length ^ n
 |0=>rfl
 |n+1=>by
  unfold o_;rw[List.length_flatMap];have:(ns.map λh=>((o_ ns n).map (h::·)).length)=ns.map λ_=>ns.length ^ n:=uY λh _=>by rw[aq,Tn ns n]
  rw[this,List.map_const',List.sum_replicate_nat,Nat.pow_succ,Nat.mul_comm]
theorem S0{ns:ae}:∀{n:Nat} {s:ak},s.length=n->(∀h∈s,h∈ns)->s∈o_ ns n
 |0,s,e,_=>by rw[List.length_eq_zero_iff.mp e];exact eV.mpr Z
 |n+1,[],e,_=>by cases e
 |n+1,h::s,e,hm=>by
  unfold o_;rw[List.mem_flatMap];exact#[h,hm h Z2,bC.mpr #[s,S0 ⇑e (λx hx=>hm x (by simp[hx])),Z]]
theorem Jd{ns:ae}{n:Nat}{l:List ak}(nd:l.Nodup)(h:∀s∈l,s.length=n/\∀x∈s,x∈ns):l.length<=ns.length ^ n:=by
 rw[<- Tn];exact List.Nodup.length_le_of_subset nd λs hs=>S0 (h s hs).1 (h s hs).2
def sY(hs:Xa)(ts:Xb)(q:Pc)(h:Str):ae:=(near (aS hs) (bM ts) h).filter λo=>BD hs ts q.2.2 (some h) (some o)
structure Mv (hs:Xa) (ts:Xb) (qs:aN) (a b:ak) (m:Str × Str × Str):Prop where
 ex:∃(k:Nat) (q:Pc) (h h':Str),qs[k]? = some q/\a[k]? = some h/\h'∈sY hs ts q h/\b=a.set k h'/\m=(q.1,h,h')
def Nx(hs:Xa)(ts:Xb)(qs:aN)(a b:ak):Prop:=∃m,Mv hs ts qs a b m
structure Vs (hs:Xa) (qs:aN) (a:ak):Prop where
 len:a.length=qs.length
 hY:∀h∈a,h∈aS hs
theorem Nx.vs{hs:Xa}{ts:Xb}{qs:aN}{a b:ak}(h:Nx hs ts qs a b)(v:Vs hs qs a):Vs hs qs b:=by
 let#[m,k,q,x,y,h1,h2,h3,rfl,_]:=h;apply#[by rw[List.length_set];exact v.len,λz hz=>?_];rcases List.mem_or_eq_of_mem_set hz with h|rfl
 ·exact v.hY z h
 exact (jY.mp (jY.mp h3).1).1
theorem Wk.vs{hs:Xa}{ts:Xb}{qs:aN}{s0:ak}(v:Vs hs qs s0):∀{k:Nat} {s:ak},Wk (Nx hs ts qs) s0 k s->Vs hs qs s:=λh=>by
 induction h with
 |z=>exact v
 |s _ n ih=>exact n.vs ih
inductive w4 (hs:Xa) (ts:Xb) (qs:aN):ak->List (Str × Str × Str)->ak->Prop
 |nil {a:ak}:w4 hs ts qs a [] a
 |cons {a b c:ak} {m:Str × Str × Str} {ms:List (Str × Str × Str)}:Mv hs ts qs a b m->w4 hs ts qs b ms c->w4 hs ts qs a (m::ms) c
def M4(hs:Xa)(qs:aN)(f:bo)(a b:Int):Prop:=∀x∈aS hs,∀y∈aS hs,b * (fM hs qs f x - fM hs qs f y)<=a * fG hs
theorem Zg{hs:Xa}{qs:aN}{f:bo}{r a b:Int}(R:BS hs qs f r)(hb:0<b):M4 hs qs f a b ↔ b * r<=a * fG hs:=by
 let#[x,hx,y,hy,rfl,up]:=R;constructor
 ·exact λh=>h x hx y hy
 intro h z hz u hu;let h1:=(up z hz).1;let h2:=(up u hu).2;have:b * (fM hs qs f z - fM hs qs f u)<=b * (fM hs qs f x - fM hs qs f y):=Int.mul_le_mul_of_nonneg_left Z1 Z1;omega
theorem hD_{r M a b:Int}(hr:0<=r)(hM:0<M):a * (fr r M).2<(fr r M).1 * b ↔ a * M<r * b:=by
 have g0:0<(Int.gcd r M:Int):=by
  have:Int.gcd r M≠0:=λe=>by
   have:=Int.gcd_eq_zero_iff.mp e;omega
  omega
 have e1:(fr r M).1 * (Int.gcd r M:Int)=r:=Int.ediv_mul_cancel (Int.gcd_dvd_left ..);have e2:(fr r M).2 * (Int.gcd r M:Int)=M:=Int.ediv_mul_cancel (Int.gcd_dvd_right ..);have h1:a * (fr r M).2 * (Int.gcd r M:Int)=a * M:=by rw[Int.mul_assoc,e2]
 have h2:(fr r M).1 * b * (Int.gcd r M:Int)=r * b:=by rw[Int.mul_right_comm,e1]
 rw[<- h1,<- h2];exact#[λh=>Int.mul_lt_mul_of_pos_right h g0,λh=>Int.lt_of_mul_lt_mul_right h (iD g0)]
def og(ns:ae)(s:ak):bo:=λn=>((ns.zip s).lookup n).getD n
theorem BN{ns:ae}{s:ak}(nd:ns.Nodup){k:Nat}{n h:Str}(hn:ns[k]? = some n)(hh:s[k]? = some h):og ns s n=h:=by
 unfold og
 have:(ns.zip s).lookup n\h:=by
  induction ns generalizing s k with
  |nil=>cases hn
  |cons m ns ih=>
   cases s with
   |nil=>cases hh
   |cons x s=>
    cases k with
    |zero=>
     cases cY hn;cases cY hh;simp[List.lookup]
    |succ k=>
     have hn:ns[k]? = some n:=⇑hn
     have hh:s[k]? = some h:=⇑hh
     have ne:(n == m)=false:=by
      rw[beq_eq_false_iff_ne];intro e;subst e;exact (js.mp nd).1 (cX hn)
     rw[List.zip_cons_cons,pX,ne];exact ih (js.mp nd).2 hn hh
 rw[this];rfl
theorem Rb{ns:ae}{s:ak}(nd:ns.Nodup)(hl:s.length=ns.length):((ns.zip (sV s)).map λp=>((Sum.inr p.1:Key),p.2))=dZ ns (og ns s):=by
 apply List.ext_getElem? ?_;intro k;unfold dZ dX;rw[dk,dk];by_cases c:k<ns.length
 ·have h1:ns[k]? = some ns[k]:=aQ c;have h2:s[k]? = some (s[k]' Z1):=aQ Z1
  have h3:(ns.zip (sV s))[k]? = some (ns[k],V.str (s[k]' Z1)):=by
   rw[List.getElem?_zip_eq_some];exact#[h1,by rw[dk,h2];rfl]
  rw[h3,h1,Option.map_some,Option.map_some];dsimp only;rw[BN nd h1 h2]
 rw[List.getElem?_eq_none (by rw[List.length_zip];omega),List.getElem?_eq_none Z1];rfl
end Ev
namespace L2
open PySem PySem.Spec PyProof.Rows PySem.W
theorem S2{i:Int}(h:-(2 ^ 250)<i/\i<2 ^ 250):Builtin.Int.intBits i<=250:=by
 rw[intBits_le_iff];omega
def F9(i j:Int):Prop:=(-(2 ^ 250)<i/\i<2 ^ 250)/\(-(2 ^ 250)<j/\j<2 ^ 250)
theorem SB{X:Cx}:dJ X (binaryOp .Mult) (rI F9 λi j=>.int (i * j)):=Bt λi j _ _ _ _ _ hc q=>mul_int q (by
 let h1:=S2 hc.1;let h2:=S2 hc.2;let e:=bitsLine_eq;unfold IntMulOk Builtin.Int.intTooBig;have z:¬((Builtin.Int.intBits i:Int)+(Builtin.Int.intBits j:Int) > (bitsLine:Int)):=by omega
 simp[z])
end L2
namespace Ev
open PySem L2
section v
theorem qy:bG ["thing","least"] ["thing","least"] (aX N3):=bR
def Pb:Sp:=λvs H Q _=>∃i a:Int,vs=[.int i,.int a]/\Q (.bl (decide (a<=i))) H
theorem gK_{f0:Addr}{fd:Ae}(F:bj K "is_whole_from" "is_whole_from" N3 f0 fd)(cI:!bp 1 "is_whole" fZ mV):!ao aZ 2 f0 fd ["thing","least"] Pb:=by
 exists F.bQ qy;let#[i,a,rfl,k]:=h;apply#[_,aF (bx (tJ (bc cI hr %[0|0]) (uT (wQ x_ (pv 1) (pv 0))))),?_];exact#[_,Z,i,Z,_,Z,dj #[_,Z,_,Z,_,_,Z,Z,k]]
structure pO (l:Int × Int):Prop where
 b1:1<=l.2
 b2:l.2<2 ^ 200
 a1:-(2 ^ 200)<l.1
 a2:l.1<2 ^ 200
 g:Int.gcd l.1 l.2=1
abbrev gO(H:Hp)(t:Addr)(x:Int × Int):Prop:=H t=some (.tup [.int x.1,.int x.2])
theorem zg:bG fZ fZ (aX qZ):=bR
def qr:Sp:=λvs H Q _=>∃(t:Addr) (l:Int × Int),vs=[.ref t]/\gO H t l/\pO l/\Q (.bl true) H
theorem Zc{f:Addr}{fd:Ae}(F:bj K "is_fraction" "is_fraction" qZ f fd)(B:Bi mg)(Ld:mg "abs"=none)(cI:!bp 1 "is_whole" fZ mV)(cF:!bp 2 "is_whole_from" ["thing","least"] Pb)(cG:!bp 1 BH mr vw):!ao aZ 3 f fd fZ qr:=by
 exists F.bQ zg;let#[t,l,rfl,ht,lo,k]:=h;refine' #[_,aw ?s1 (aw ?s2 (aF ?s3)),?kk]
 case s1=>exact cg (o6 (eX (eP (cO jX (by rfl) B.jg jq %[0,jW (v:=.ty "tuple") (by rfl) B.tuple uV Z|0]))) (pT (fI tH (cO iC (by rfl) B.len gJ %[0|0]) aC))).pt (aF (bx i5)) cq
 case s2=>exact cg (o6 (eX (eP (bc cI hr %[br c_ (pv 0) aC|0]))) (pT (eX (eP (bc cF hr %[br c_ (pv 0) aC,aC|0]))))).pt (aF (bx i5)) cq
 case s3=>exact bx (wQ G_ (bc cG hr %[cO hq_ (by rfl) Ld PyProof.Rows.Boot.«abs» %[br c_ (pv 0) aC|0],br c_ (pv 0) aC|0]) aC)
 apply#[_,Z,_,_,_,_,Z,.tup ht,Z,_,Z,aM ?_];apply#[_,Z,t,_,Z,.inr (.of ht),Z,_,Z,?_];apply AL (show V.int ((2:Nat):Int)=V.int 2 from Z) ?_;apply#[_,Z,t,_,_,_,Z,Z,.of ht,Z,l.1,Z,_,Z,aM ?_];apply#[_,Z,t,_,_,_,Z,Z,.of ht,Z,l.2,1,Z,_,Z,?_];rw[dc lo.b1];apply aM ?_;apply#[_,Z,t,_,_,_,Z,Z,.of ht,Z,l.1,Z,_,Z,t,_,_,_,Z,Z,.of ht,Z,_,l.2,Z,?_,lo.b1,?_]
 ·split<;>omega
 have e:Int.gcd (if l.1<0 then -l.1 else l.1) l.2=1:=by
  split
  ·rw[Int.neg_gcd];exact lo.g
  exact lo.g
 rw[e];exact#[Z,k]
theorem ze:bG mr mr (aX qX):=bR
def Sm(x:Int × Int):Prop:=(-(2 ^ 250)<x.1/\x.1<2 ^ 250)/\(-(2 ^ 250)<x.2/\x.2<2 ^ 250)
inductive k8 (vs:ai) (H:Hp) (Q:VK) (E:XK):Prop
 |mk:∀(t u:Addr) (x y:Int × Int),vs=[.ref t,.ref u]->gO H t x->gO H u y->Sm x->Sm y->Q (.bl (decide (x.1 * y.2<y.1 * x.2))) H->k8 vs H Q E
theorem ZQ{f:Addr}{fd:Ae}(F:bj K "is_less" "is_less" qX f fd):!ao aZ 1 f fd mr k8:=by
 exists F.bQ ze;let#[t,u,x,y,rfl,ht,hu,sx,sy,k]:=h;refine' #[_,aF ?s1,?kk]
 case s1=>exact bx (wQ Q3 (bN SB (br c_ (pv 0) aC) (br c_ (pv 1) aC)) (bN SB (br c_ (pv 1) aC) (br c_ (pv 0) aC)))
 apply#[_,Z,t,_,_,_,Z,Z,.of ht,Z,_,Z,u,_,_,_,Z,Z,.of hu,Z,_,_,Z,Z,#[sx.1,sy.2],?_];exact#[_,Z,u,_,_,_,Z,Z,.of hu,Z,_,Z,t,_,_,_,Z,Z,.of ht,Z,_,_,Z,Z,#[sy.1,sx.2],_,_,Z,Z,k]
theorem zj:bG fZ fZ (aX rC):=bR
def qv:Sp:=λvs H Q _=>∃(t:Addr) (l:Int × Int),vs=[.ref t]/\gO H t l/\pO l/\Q .non H
theorem _t{f:Addr}{fd:Ae}(F:bj K "check_limit" "check_limit" rC f fd)(cF:!bp 3 "is_fraction" fZ qr):!ao aZ 4 f fd fZ qv:=by
 exists F.bQ zj;let#[t,l,rfl,ht,lo,k]:=h;apply#[_,aF (cg (eX (eP (bc cF hr %[0|0]))) gA cq),?_];exact#[_,Z,t,l,Z,ht,lo,_,Z,aM k]
structure Gs (K:aj) (CG CW:Addr) (H:Hp) (g p:Addr) (hs:Xa) (ts:Xb) (qs:aN) (fp:au):Prop where
 G:gz K CG CW H g p hs ts qs fp
 Gd:Good hs ts
 nd:(qs.map (·.1)).Nodup
 bX:qs.length<64
 wp:∀q∈qs,0<=q.2.1/\q.2.1<=1000000000
theorem Gs.same{CG CW:Addr}{H H':Hp}{g p:Addr}{hs:Xa}{ts:Xb}{qs:aN}{fp:au}(G:Gs K CG CW H g p hs ts qs fp)(s:aa H H'):Gs K CG CW H' g p hs ts qs fp:=#[G.G.same s,G.Gd,G.nd,G.bX,G.wp]
theorem Gs.placed{CG CW:Addr}{H H':Hp}{g p d:Addr}{hs:Xa}{ts:Xb}{qs:aN}{fp:au}{f:bo}(G:Gs K CG CW H g p hs ts qs fp)(s:aa H H')(hn:H d=none)(hd:H' d\.dK (dZ (qs.map (·.1)) f))(at_:∀n∈qs.map (·.1),f n∈hs.map (·.1)):∃kE,AW K CG CW H' g p d hs ts qs kE f:=by
 let#[kE,G',h]:=G.G.slim;apply#[kE,G'.same s,G.Gd,λhm=>?_,hd,at_,G.nd,G.bX];let#[o,e]:=h d hm;rw[hn] at e;cases e
theorem Vs.at_{hs:Xa}{qs:aN}{s:ak}(v:Vs hs qs s)(nd:(qs.map (·.1)).Nodup):∀n∈qs.map (·.1),og (qs.map (·.1)) s n∈hs.map (·.1):=λn hn=>by
 let#[k,hk,e]:=hJ hn;have hl:k<s.length:=by rw[v.len];simpa using hk
 rw[BN nd (k:=k) (by rw[aQ hk,e]) (aQ hl)];exact (gL hs).mem_iff.mp (v.hY _ (kK hl))
abbrev fS(qs:aN)(s:ak):bo:=og (qs.map (·.1)) s
theorem y6:bG ["goods","hands"] ["goods","hands"] (aX qQ):=bR
inductive kY (K:aj) (CG CW:Addr) (vs:ai) (H:Hp) (Q:VK) (E:XK):Prop
 |mk:∀(g p t:Addr) (hs:Xa) (ts:Xb) (qs:aN) (fp:au) (s:ak),vs=[.ref g,.ref t]->Gs K CG CW H g p hs ts qs fp->H t\.tup (sV s)->s.length=qs.length->(∀d H',aa H H'->H d=none->H' d\.dK (dZ (qs.map (·.1)) (fS qs s))->Q (.ref d) H')->kY K CG CW vs H Q E
theorem ZW{f CG CW:Addr}{fd:Ae}(F:bj K "placed_by" "placed_by" qQ f fd)(B:Bi mg)(mZ:mg "zip"=none)(T:gm K CG)(cN:!bO CG 1 "names" o5 (BV K CG CW)):!ao aZ 2 f fd ["goods","hands"] (kY K CG CW):=by
 exists F.bQ y6;let#[g,p,t,hs,ts,qs,fp,s,rfl,G,ht,hl,k]:=h;let bX:=G.bX;apply#[_,aF (bx (fx_ (by rfl) B.dict (by rfl) mZ %[AQ cN T.cl (hr.mono (by decide)) (pv 0),1|0])),?_];let#[dx,dw,dy,vs,dF,h1,_]:=id G.G.ex;apply#[_,Z,g,dx,_,Z,h1,wU _ _ _ Z0 Z0 Z0,g,p,hs,ts,qs,fp,Z,G.G,λl gx=>?_];let#[s1,e1]:=aD (o:=.lst ((qs.map (·.1)).map V.str)) gx;generalize upd H l (.lst ((qs.map (·.1)).map V.str))=H1 at s1 e1 ⊢;apply#[_,Z,l,t,qs.map (·.1),sV s,Z,.of e1,.of (s1 _ _ ht),by rw[aq,aq];exact hl,by rw[aq];omega,λd hd=>?_];rw[Rb G.nd (by rw[aq];exact hl)]
 have km:((dZ (qs.map (·.1)) (fS qs s)).map (·.1)).Nodup:=by
  rw[A0,tY,uX];exact G.nd.imp λn e=>n (hZ e)
 rw[wY km];exact k d _ (s1.trans (aa.new hd)) (s1.free hd) ay
theorem Ss{hs:Xa}{ts:Xb}{qs:aN}{f:bo}{r:Int}(G:Good hs ts)(wp:∀q∈qs,0<=q.2.1/\q.2.1<=1000000000)(bX:qs.length<64)(R:BS hs qs f r):0<=r/\r<2 ^ 140:=by
 let#[x,hx,y,hy,rfl,up]:=R;let h1:=(up y hy).1;let h2:=YC G wp bX (f:=f) hy
 have h3:fM hs qs f x<=64000000000 * fG hs:=by
  unfold fM;let l1:=Hv wp bX f x;let mo:=AO G;let so:=AN G hx;have q:fG hs / strOf hs x<=fG hs:=Int.ediv_le_self _ (iD mo.1);have q0:0<=fG hs / strOf hs x:=Int.ediv_nonneg (iD mo.1) Z1;exact Int.le_trans (Int.mul_le_mul_of_nonneg_left q l1.1) (Int.mul_le_mul_of_nonneg_right l1.2 (iD mo.1))
 let mo:=AO G;omega
theorem Q9{r M:Int}(hr:0<=r)(jJ:r<2 ^ 140)(hM:0<M)(hM2:M<2 ^ 100):0<=(fr r M).1/\(fr r M).1<2 ^ 140/\1<=(fr r M).2/\(fr r M).2<2 ^ 100/\Int.gcd (fr r M).1 (fr r M).2=1:=by
 have g0:0<Int.gcd r M:=by
  rcases Nat.eq_zero_or_pos (Int.gcd r M) with e|e
  ·have:=Int.gcd_eq_zero_iff.mp e;omega
  exact e
 have g1:0<(Int.gcd r M:Int):=by omega
 have e2:(fr r M).2 * (Int.gcd r M:Int)=M:=Int.ediv_mul_cancel (Int.gcd_dvd_right ..);have p1:0<=(fr r M).1:=Int.ediv_nonneg hr (iD g1);have p2:(fr r M).1<=r:=Int.ediv_le_self _ hr;have p3:(fr r M).2<=M:=Int.ediv_le_self _ (iD hM)
 have p4:1<=(fr r M).2:=by
  by_cases c:1<=(fr r M).2
  ·exact c
  have:(fr r M).2 * (Int.gcd r M:Int)<=0 * (Int.gcd r M:Int):=Int.mul_le_mul_of_nonneg_right Z1 (iD g1);omega
 exact#[p1,by omega,p4,by omega,Int.gcd_ediv_gcd_ediv_gcd g0]
noncomputable def fN (hs:Xa) (qs:aN) (s:ak) (l:Int × Int):Bool:=@decide (M4 hs qs (fS qs s) l.1 l.2) (Classical.propDecidable _)
theorem SZ{hs:Xa}{qs:aN}{s:ak}{l:Int × Int}:fN hs qs s l=true ↔ M4 hs qs (fS qs s) l.1 l.2:=by
 unfold fN;exact @decide_eq_true_iff _ (Classical.propDecidable _)
theorem qE:bG ow ow (aX NZ):=bR
inductive O6 (K:aj) (CG CW:Addr) (vs:ai) (H:Hp) (Q:VK) (E:XK):Prop
 |mk:∀(g p t lt:Addr) (hs:Xa) (ts:Xb) (qs:aN) (fp:au) (s:ak) (l:Int × Int),vs=[.ref g,.ref t,.ref lt]->Gs K CG CW H g p hs ts qs fp->H t\.tup (sV s)->Vs hs qs s->gO H lt l->pO l->(∀H',aa H H'->Q (.bl (fN hs qs s l)) H')->O6 K CG CW vs H Q E
theorem gW_{f CG CW:Addr}{fd:Ae}(F:bj K "is_even" "is_even" NZ f fd)(cL:!bp 1 "is_less" mr k8)(cS:!bp 6 "spread_at" om (JB K CG CW))(cP:!bp 2 "placed_by" ["goods","hands"] (kY K CG CW)):!ao aZ 7 f fd ow (O6 K CG CW):=by
 exists F.bQ qE;let#[g,p,t,lt,hs,ts,qs,fp,s,l,rfl,G,ht,v,hl,lo,k]:=h;apply#[_,aF (bx (Ro (bc cL hr %[2,bc cS hr %[0,bc cP hr %[0,1|0]|0]|0]))),?_];apply#[_,Z,_,Z,_,Z,_,Z,g,p,t,hs,ts,qs,fp,s,Z,G,ht,v.len,λd H1 s1 n1 e1=>?_];let#[MU,Pl]:=G.placed s1 n1 e1 (v.at_ G.nd);apply#[g,p,d,hs,ts,qs,MU,fS qs s,Z,Pl,G.wp,λu r H2 s2 R e2=>?_];let rl:=Ss G.Gd G.wp G.bX R;let mo:=AO G.Gd;let fb:=Q9 rl.1 rl.2 mo.1 mo.2.1;apply#[lt,u,l,fr r (fG hs),Z,s2 _ _ (s1 _ _ hl),e2,?_,?_,?_]
 ·have:=lo.a1;have:=lo.a2;have:=lo.b1;have:=lo.b2;exact#[#[by omega,by omega],by omega,by omega]
 ·exact#[#[by omega,by omega],by omega,by omega]
 let kk:=k H2 (s1.trans s2)
 have e:(!decide (l.1 * (fr r (fG hs)).2<(fr r (fG hs)).1 * l.2))=fN hs qs s l:=by
  rw[Bool.eq_iff_iff,SZ,Zg R (by have:=lo.b1;omega),Bool.not_eq_true',decide_eq_false_iff_not,hD_ rl.1 mo.1,Int.not_lt,Int.mul_comm]
 apply#[_,Z,?_];rw[e];exact kk
end
end Ev
namespace Ev
open PySem L2
structure B9 (H:Hp) (d:Addr) (hs:Xa) (ts:Xb) (ns:ae) (q:Pc) (ad:Str->Addr):Prop where
 at_:H d\.dK (dX ns λh=>.ref (ad h))
 is:∀h∈ns,H (ad h)\.lst ((sY hs ts q h).map V.str)
def F7(H:Hp)(d:Addr)(hs:Xa)(ts:Xb)(q:Pc):Prop:=∃ad,B9 H d hs ts (aS hs) q ad
theorem B9.same{H H':Hp}{d:Addr}{hs:Xa}{ts:Xb}{ns:ae}{q:Pc}{ad:Str->Addr}(h:B9 H d hs ts ns q ad)(s:aa H H'):B9 H' d hs ts ns q ad:=#[s _ _ h.at_,λx hx=>s _ _ (h.is x hx)]
theorem F7.same{H H':Hp}{d:Addr}{hs:Xa}{ts:Xb}{q:Pc}(h:F7 H d hs ts q)(s:aa H H'):F7 H' d hs ts q:=by
 let#[ad,h]:=h;exact#[ad,h.same s]
def xa(H:Hp)(l d:Addr)(hs:Xa)(ts:Xb)(q:Pc):Prop:=∃ad,B9 H d hs ts (aS hs) q ad/\∀x∈aS hs,ad x≠l
theorem xa.same{H H':Hp}{l d:Addr}{hs:Xa}{ts:Xb}{q:Pc}(h:xa H l d hs ts q)(s:aa H H'):xa H' l d hs ts q:=by
 let#[ad,h,n]:=h;exact#[ad,h.same s,n]
def ui(H:Hp)(l:Addr)(hs:Xa)(ts:Xb)(qs:aN):Prop:=∃ds:au,H l\.lst (ds.map V.ref)/\Paired (λd q=>F7 H d hs ts q) ds qs
theorem ui.same{H H':Hp}{l:Addr}{hs:Xa}{ts:Xb}{qs:aN}(h:ui H l hs ts qs)(s:aa H H'):ui H' l hs ts qs:=by
 let#[ds,h1,h2]:=h;exact#[ds,s _ _ h1,Paired.aV h2 λd q x=>x.same s]
section v
theorem BP:bG ["goods","web","found","piece","exits","one"] ["goods"] (aX lR):=bR
inductive N6 (K:aj) (CG CW:Addr) (vs:ai) (H:Hp) (Q:VK) (E:XK):Prop
 |mk:∀(g p:Addr) (hs:Xa) (ts:Xb) (qs:aN) (fp:au),vs=[.ref g]->Gs K CG CW H g p hs ts qs fp->(∀l H',aa H H'->H l=none->ui H' l hs ts qs->Q (.ref l) H')->N6 K CG CW vs H Q E
theorem hB_{f CG CW CP:Addr}{fd:Ae}(F:bj K "exits_of" "exits_of" lR f fd)(T:gm K CG)(TW:Txt K mg CW)(cN:!bO CG 1 "names" o5 (BV K CG CW))(cH:!bO CW 1 "hands" o5 (FG K CW))(cE:!bO CW 2 "neighbours" wH (Oe K CW))(cM:!bO CG 3 "may_go" ["self","piece","one","other"] (lg K CG CW CP)):!ao aZ 4 f fd ["goods"] (N6 K CG CW):=by
 exists F.bQ BP;let#[g,p,hs,ts,qs,fp,rfl,G,k]:=h;let hu:=gc hr;let sz:=cJ;let bX:=G.bX;let nl:=G.Gd.iS;let h8:=G.Gd.h8;let rT:=G.Gd.rT;have jh:aP 1 _:=hr.mono (by decide);have jJ:aP 2 _:=hr.mono (by decide);have Bx:aP 3 _:=hr.mono (by decide);refine' #[_,aw ?s1 (aw ?s2 (aw ?s3 (aF ?s4))),?kk]
 case s1=>exact bq 1 BP.nd (gN (pv 0) Z)
 case s2=>exact bq 2 BP.nd (fQ bP)
 case' s3=>refine' eW d8 Z ?i3 ?g3 (aw ?b1 (aw ?b2 (aF ?b3)))
 case i3=>exact dI (AQ cN T.cl jh (pv 0))
 case g3=>exact cz 3 BP.nd
 case b1=>exact bq 4 BP.nd FR
 case' b2=>refine' eW d8 Z ?i4 ?g4 (aF ?b4)
 case i4=>exact dI (AQ cH TW.cl jh (pv 1))
 case g4=>exact cz 5 BP.nd
 case' b4=>refine' uQ hu (pv 4) (pv 5) (iL ["other","goods","one","piece"] 1 [0,5,3] (dI (ji cE TW.cl jJ (pv 1) %[5|0])) (λfp s H=>?g5) (λfp s H=>?c5) (λfp s H=>?e5)) Z
 case g5=>exact eO (i:=0) (show (["other","goods","one","piece"]:ae).Nodup by decide +kernel) Z (Or.inl Z)
 case c5=>exact Fm (eP (ji cM T.cl Bx (pv 1) %[3,2,0|0]))
 case e5=>exact pv 0
 case b3=>exact mB (pM o9 wF wG uW (pv 2) %[4|0])
 case s4=>exact bx (pv 2)
 let#[dx,dw,dy,vs,dF,h1,h2,_]:=id G.G.ex;have gno:(cy p dw dy).lookup ("names":Str)=none:=wU _ _ _ Z0 Z0 Z0;have gnm:(cy p dw dy).lookup ("may_go":Str)=none:=wU _ _ _ Z0 Z0 Z0;apply#[_,Z,g,CG,dx,_,_,Z,h1,T.cl,T.nW,A_ _ _ _,?_];apply#[zl,λl hl=>?_];let#[s1,e1]:=aD (o:=.lst []) hl;generalize upd H l (.lst [])=H1 at s1 e1 ⊢;apply#[_,Z,g,dx,_,Z,s1 _ _ h1,gno,g,p,hs,ts,qs,fp,Z,G.G.same s1,λln uD=>?_];let#[s2,e2]:=aD (o:=.lst ((qs.map (·.1)).map V.str)) uD;have nln:H ln=none:=s1.free uD;have Yk:ln≠l:=(bu e1 uD).symm;let el:=s2 _ _ e1;let ng:=s1.trans s2;generalize upd H1 ln (.lst ((qs.map (·.1)).map V.str))=H2 at s2 e2 el ng ⊢
 let Iv:b_:=λi σ H'=>∃(v3 v4 v5:aJ) (ds:au),σ=[some (.ref g),some (.ref p),some (.ref l),v3,v4,v5]/\aa H H'/\H' ln\.lst ((qs.map (·.1)).map V.str)/\H' l\.lst (ds.map V.ref)/\Paired (λd q=>xa H' l d hs ts q) ds (qs.take i)
 apply#[ln,Z,#[_,.of e2],ib (K:=K) (a:=ln) (xs:=(qs.map (·.1)).map V.str) Iv #[none,none,none,[],Z,ng,e2,el,.nil] (λi σ H' _ ⟨_,_,_,_,_,_,q,_⟩=>.of q) ?_ ?_]
 ·rintro i y σ H3 hy ⟨v3,v4,v5,ds,rfl,fg,e3,uI,pd⟩;let#[n,hn,rfl]:=mz hy;rw[dk,B4] at hn;let#[q,hq,rfl]:=hn;let qm:=cX hq;have hi:i<qs.length:=(bY.mp hq).1;intro d hd;let s4:=aa.new (o:=.dK []) hd;have e4:upd H3 d (.dK []) d\.dK (dX [] λh=>.ref d):=ay;have dn:H d=none:=fg.free hd;let oM:=fg.trans s4;let iI:=s4 _ _ uI;let S9:=s4 _ _ e3;let C_:=Paired.aV (G:=λa q=>xa (upd H3 d (.dK [])) l a hs ts q/\a≠d) pd λa q x=>#[x.same s4,by let#[ad,x,_]:=x;exact bu x.at_ hd];have dl:d≠l:=(bu uI hd).symm;have dln:d≠ln:=(bu e3 hd).symm;generalize upd H3 d (.dK [])=H4 at s4 e4 oM iI S9 C_ ⊢;let W4:=h2.same oM;let#[l_,d1,l2,d3,xb,as,ef,w1,_]:=id h2.ex;have VS:(fi d1 l2 d3).lookup ("hands":Str)=none:=pW _ _ _ Z0 Z0 Z0;have VT:(fi d1 l2 d3).lookup ("neighbours":Str)=none:=pW _ _ _ Z0 Z0 Z0;apply#[_,Z,p,l_,_,Z,oM _ _ w1,VS,p,hs,ts,dF,Z,W4,λlh fY=>?_];let#[s5,e5]:=aD (o:=.lst ((aS hs).map V.str)) fY;let oK:=oM.trans s5;have hn5:H lh=none:=oM.free fY;have Yq:lh≠d:=(bu e4 fY).symm;let TX:=s5 _ _ e4;let sZ:=s5 _ _ iI;let S8:=s5 _ _ S9;let Qx:=Paired.aV (G:=λa q=>xa (upd H4 lh (.lst ((aS hs).map V.str))) l a hs ts q/\a≠d) C_ λa q x=>#[x.1.same s5,x.2];generalize upd H4 lh (.lst ((aS hs).map V.str))=H5 at s5 e5 oK TX sZ S8 Qx ⊢
  let Iw:b_:=λj σ H'=>∃(v5:aJ) (ad:Str->Addr),σ=[some (.ref g),some (.ref p),some (.ref l),some (.str q.1),some (.ref d),v5]/\aa H H'/\H' ln\.lst ((qs.map (·.1)).map V.str)/\H' l\.lst (ds.map V.ref)/\H' lh\.lst ((aS hs).map V.str)/\Paired (λa q=>xa H' l a hs ts q/\a≠d) ds (qs.take i)/\B9 H' d hs ts ((aS hs).take j) q ad/\∀x∈(aS hs).take j,ad x≠l
  apply#[lh,Z,#[_,.of e5],ib (K:=K) (a:=lh) (xs:=(aS hs).map V.str) Iw #[_,_,Z,oK,S8,sZ,e5,Qx,#[TX,by simp],by simp] (λj σ H' _ ⟨_,_,_,_,_,_,z,_⟩=>.of z) ?_ ?_]
  ·rintro j y σ H6 hy ⟨JY,ad,rfl,iP,Nc,uH,e6,GI,ex,Ie⟩;let#[h,hh,rfl]:=mz hy;let hm:=cX hh;have hj:j<(aS hs).length:=(bY.mp hh).1;let lZ:=(gL hs).mem_iff.mp hm;let LU:=TJ rT hh;let W6:=h2.same iP;apply#[_,Z,p,l_,_,Z,iP _ _ w1,VT,_,Z,p,h,hs,ts,dF,Z,W6,rT,lZ,λlx ku=>?_];let#[s7,e7]:=aD (o:=.lst ((near (aS hs) (bM ts) h).map V.str)) ku;generalize upd H6 lx (.lst ((near (aS hs) (bM ts) h).map V.str))=H7 at s7 e7 ⊢;have XZ:(near (aS hs) (bM ts) h).length<=8:=iK (Be ..) Z1;apply#[lx,Z,#[_,.of e7],λD hD=>?_];apply i9 (own:=1) (fv:=[some (.ref g),some (.str h),some (.str q.1)]) (xs:=(near (aS hs) (bM ts) h).map V.str) Z fh (λi out H'=>aa H7 H'/\H' D\.lst out/\out=(((near (aS hs) (bM ts) h).take i).filter λo=>BD hs ts q.2.2 (some h) (some o)).map V.str) #[aa.new hD,ay,Z] (λi out H' _ ⟨sm,_,_⟩=>.of (sm _ _ e7)) (λout H8 ⟨sm,hD8,eo⟩=>?_) (λi' y out H' hy ⟨sm,cQ,eo⟩=>?_)
   ·rw[aq,eN] at eo;let Br:=s7.trans sm;let E_:=ex.same Br;have Dn:H6 D=none:=s7.free hD;apply#[_,Z,_,Z,d,_,Z,.k (k:=Sum.inr h) E_.at_ (by rw[jV,dG];omega),?_];have Dd:D≠d:=λz=>by rw[z,ex.at_] at Dn;cases Dn
    apply#[_,λx=>if x=h then D else ad x,Z,fo (iP.trans Br) dn,by rw[ax dln.symm];exact Br _ _ Nc,by rw[ax dl.symm];exact Br _ _ uH,by rw[ax Yq];exact Br _ _ e6,Paired.aV GI λa q ⟨⟨PB,x,xl⟩,ne⟩=>#[#[PB,?_,xl],ne],#[?_,λx hx=>?_],λx hx=>?_]
    ·let x:=x.same Br;exact#[by rw[ax ne];exact x.at_,λz hz=>by rw[ax (bK (x.is z hz) E_.at_ (by intro e;cases e))];exact x.is z hz]
    ·rw[ay,tM hh,Sl LU];exact d7 (λz=>some (HO.dK z)) (JA λn _=>by split<;>rfl)
    ·rw[tM hh] at hx;rcases d9.mp hx with hx|hx
     ·have:x≠h:=λe=>LU (by rw[<- e];exact hx);rw[aB this,ax (bK (E_.is x hx) E_.at_ (by intro e;cases e))];exact E_.is x hx
     rw[eV.mp hx,aI Z,ax Dd,hD8,eo];rfl
    rw[tM hh] at hx;rcases d9.mp hx with hx|hx
    ·have:x≠h:=λe=>LU (by rw[<- e];exact hx);show (if x=h then D else ad x)≠l;rw[aB this];exact Ie x hx
    rw[eV.mp hx];show (if h=h then D else ad h)≠l;rw[aI Z];exact λz=>by rw[z,uH] at Dn;cases Dn
   let#[o,ho,rfl]:=mz hy;apply#[_,Z,Z,λNx hN=>?_];let G':=G.G.same (((iP.trans s7)).trans sm);let l9:=(iP.trans s7).trans sm _ _ h1;apply#[_,Z,g,dx,_,Z,l9,gnm,_,Z,_,Z,_,Z,g,p,.str q.1,.str h,.str o,some q.1,some h,some o,hs,ts,qs,fp,Z,G',G.nd,rT,Z,.inl #[q,qm,Z,Z,Z,λH9 s9=>#[_,Z,?_]]]
   have lo:out.length<=8:=by
    rw[eo,aq];exact iK (Be ..) (iK (by rw[dG];exact Nat.min_le_right ..) XZ)
   apply cw (λc=>?_) (λc=>?_)
   ·apply#[_,Z,out,s9 _ _ cQ,by omega,hN _ _ #[fo (sm.trans s9) hD,ay,?_]];rw[Jt _ ho,eU,<- eo];rw[aI c];rfl
   apply hN out _ #[sm.trans s9,s9 _ _ cQ,?_];rw[Jt _ ho,eU,<- eo,aB c];simp
  rintro σ H6 ⟨JY,ad,rfl,iP,Nc,uH,e6,GI,ex,Ie⟩;rw[aq,eN] at ex Ie;let lp:=bw GI;rw[dG] at lp;apply#[_,Z,.inl #[Z,_,.of uH],_,Z,l,_,_,Z,Z,uH,by rw[aq];omega,?_];have pl:∀{a q},xa H6 l a hs ts q->xa (upd H6 l (.lst (ds.map V.ref++[.ref d]))) l a hs ts q:=λ{a q} ⟨PB,x,xl⟩=>#[PB,#[by rw[ax (bK x.at_ uH (by intro e;cases e))];exact x.at_,λz hz=>by rw[ax (xl z hz)];exact x.is z hz],xl];apply#[_,_,_,ds++[d],Z,fo iP hl,by rw[ax Yk];exact Nc,?_,?_]
  ·rw[ay,eU];rfl
  rw[u4,hq];exact hU (Paired.aV GI λa q x=>pl x.1) (.cons (pl #[ad,ex,Ie]) .nil)
 rintro σ H3 ⟨v3,v4,v5,ds,rfl,fg,e3,uI,pd⟩;rw[aq,aq,eN] at pd;exact#[_,Z,k l H3 fg hl #[ds,uI,Paired.aV pd λa q ⟨ad,x,_⟩=>#[ad,x]]]
end
end Ev
namespace Ev
open PySem L2
abbrev lI:Stmt:=ml IU 0
abbrev lH:Stmt:=ml IU 1
abbrev NX:Stmt:=ml IU 2
abbrev qP:Stmt:=ml IU 3
theorem Uv(f:Str)(u v:V):∀fs:List (Str × V),az f v (az f u fs)=az f v fs
 |[]=>by
  show az f v [(f,u)]=[(f,v)];show (if f=f then _ else _)=_;rw[aI Z]
 |(g,x)::r=>by
  by_cases c:g=f
  ·rw[show az f u ((g,x)::r)=(g,u)::r from aI c,show az f v ((g,u)::r)=(g,v)::r from aI c,show az f v ((g,x)::r)=(g,v)::r from aI c]
  rw[show az f u ((g,x)::r)=(g,x)::az f u r from aB c,show az f v ((g,x)::az f u r)=(g,x)::az f v (az f u r) from aB c,show az f v ((g,x)::r)=(g,x)::az f v r from aB c,Uv f u v r]
def bW(x a n:Addr):List (Str × V):=az "newest" (.ref n) (az pQ (.ref a) (az jS (.ref x) []))
theorem Xh:¬((jS:Str)=pQ):=by decide +kernel
theorem Xg:¬((jS:Str)="newest"):=by decide +kernel
theorem Xd:¬((pQ:Str)="newest"):=by decide +kernel
theorem Za(x a n:Addr):(bW x a n).lookup (jS:Str)\.ref x:=by
 unfold bW;rw[gj,aB Xg,gj,aB Xh,gj,aI Z]
theorem IM(x a n:Addr):(bW x a n).lookup (pQ:Str)\.ref a:=by
 unfold bW;rw[gj,aB Xd,gj,aI Z]
theorem M_(x a n:Addr):(bW x a n).lookup ("newest":Str)\.ref n:=by
 unfold bW;rw[gj,aI Z]
theorem N9(x a n:Addr){m:Str}(h1:¬m=jS)(h2:¬m=pQ)(h3:¬m="newest"):(bW x a n).lookup m=none:=by
 unfold bW;rw[gj,aB h3,gj,aB h2,gj,aB h1]
 all_goals rfl
structure pb (K:aj) (CR:Addr):Prop where
 cl:mJ K CR
 nX:mj K CR jS
 nA:mj K CR pQ
 nN:mj K CR "newest"
def iy(H:Hp):ai->List ak->Prop:=Paired λy s=>∃t,y=.ref t/\H t\.tup (sV s)
theorem iy.keep{H H':Hp}{ys:ai}{l:List ak}(h:iy H ys l)(k:∀b xs,H b\.tup xs->H' b\.tup xs):iy H' ys l:=Paired.aV h λy s ⟨t,e,ht⟩=>#[t,e,k _ _ ht]
def Vm(H:Hp)(v:V):Option ak->Prop
 |none=>v=.non
 |some q=>∃b,v=.ref b/\H b\.tup (sV q)
def fK(H:Hp):List (av × V)->List (ak × Option ak)->Prop:=Paired λkv e=>kv.1=sK e.1/\Vm H kv.2 e.2
theorem fK.keep{H H':Hp}{kvs:List (av × V)}{pa:List (ak × Option ak)}(h:fK H kvs pa)(k:∀b xs,H b\.tup xs->H' b\.tup xs):fK H' kvs pa:=Paired.aV h λkv e ⟨h1,h2⟩=>#[h1,by
 cases z:e.2 with
 |none=>rw[z] at h2;exact h2
 |some q=>
  rw[z] at h2;let#[b,e1,hb]:=h2;exact#[b,e1,k _ _ hb]]
theorem fK.keys{H:Hp}:∀{kvs:List (av × V)} {pa:List (ak × Option ak)},fK H kvs pa->kvs.map (·.1)=(pa.map (·.1)).map sK
 |_,_,.nil=>rfl
 |_,_,.cons h t=>by
  rw[eI,eI,eI,h.1,fK.keys t]
theorem fK.none{H:Hp}{kvs:List (av × V)}{pa:List (ak × Option ak)}(h:fK H kvs pa){s:ak}(hs:s∉pa.map (·.1)):a9 kvs (sK s)=none:=u0 (by
 rw[h.keys];intro hm;let#[x,hx,e]:=bC.mp hm;rw[<- MG e] at hs;exact hs hx)
theorem fK.isSome{H:Hp}{kvs:List (av × V)}{pa:List (ak × Option ak)}(h:fK H kvs pa)(s:ak):(a9 kvs (sK s)).isSome=decide (s∈pa.map (·.1)):=by
 by_cases c:s∈pa.map (·.1)
 ·rw[dc c];exact Jx (by rw[h.keys];exact bC.mpr #[s,c,Z])
 rw[eG c,h.none c];rfl
theorem fK.get{H:Hp}:∀{kvs:List (av × V)} {pa:List (ak × Option ak)},fK H kvs pa->(pa.map (·.1)).Nodup->∀{e:ak × Option ak},e∈pa->∃v,a9 kvs (sK e.1)\v/\Vm H v e.2
 |_,_,.nil,_,_,he=>by cases he
 |_,_,.cons (a:=kv) (b:=e0) h t,nd,e,he=>by
  rw[eI,js] at nd;rcases bV.mp he with rfl|he
  ·exact#[kv.2,by unfold a9;rw[yy];simp[h.1],h.2]
  let#[v,h1,h2]:=fK.get t nd.2 he;apply#[v,?_,h2]
  have ne:¬kv.1=sK e.1:=λz=>by
   rw[h.1] at z;exact nd.1 (by rw[MG z];exact bC.mpr #[e,he,Z])
  unfold a9 at h1 ⊢;rw[yy];simp[ne,h1]
theorem wV{kvs:List (av × V)}{k:av}{v:V}(h:a9 kvs k=none):putK kvs k v=kvs++[(k,v)]:=by
 unfold putK;rw[BX,h];rfl
def ug(N:ak->ak->Prop)(s0:ak)(pa:List (ak × Option ak)):Prop:=∀e∈pa,(e.1=s0/\e.2=none)∨∃q d,e.2\q/\Ds N s0 d q/\Ds N s0 (d+1) e.1/\N q e.1
structure yd (CR:Addr) (H:Hp) (r a x n:Addr) (hs:Xa) (ts:Xb) (qs:aN) (pa:List (ak × Option ak)) (nw:List ak):Prop where
 ins:∃dx,H r\.ins CR dx (bW x a n)
 ex:ui H x hs ts qs
 ah:∃kvs,H a\.dT kvs/\fK H kvs pa
 ne:∃ys,H n\.lst ys/\iy H ys nw
theorem yd.same{CR:Addr}{H H':Hp}{r a x n:Addr}{hs:Xa}{ts:Xb}{qs:aN}{pa:List (ak × Option ak)}{nw:List ak}(R:yd CR H r a x n hs ts qs pa nw)(s:aa H H'):yd CR H' r a x n hs ts qs pa nw:=by
 let#[#[dx,h1],h2,#[kvs,h3,h4],#[ys,h5,h6]]:=R;exact#[#[dx,s _ _ h1],h2.same s,#[kvs,s _ _ h3,h4.keep λb xs e=>s _ _ e],#[ys,s _ _ h5,h6.keep λb xs e=>s _ _ e]]
section v
theorem mX:bG ["self","goods","placed","first"] ["self","goods","placed"] (aX lI):=bR
inductive Nn (K:aj) (CG CW CR:Addr) (vs:ai) (H:Hp) (Q:VK) (E:XK):Prop
 |mk:∀(r dx g p d:Addr) (hs:Xa) (ts:Xb) (qs:aN) (fp:au) (f:bo),vs=[.ref r,.ref g,.ref d]->H r\.ins CR dx []->Gs K CG CW H g p hs ts qs fp->H d\.dK (dZ (qs.map (·.1)) f)->(∀a x n H',(∀b o,H b\o->b≠r->H' b\o)->H a=none->yd CR H' r a x n hs ts qs [((qs.map (·.1)).map f,none)] [(qs.map (·.1)).map f]->Q .non H')->Nn K CG CW CR vs H Q E
theorem _c{f CG CW CR:Addr}{fd:Ae}(F:bj K "__init__" "Reach.__init__" lI f fd)(T:pb K CR)(B:Bi mg)(cE:!bp 4 "exits_of" ["goods"] (N6 K CG CW)):!ao aZ 5 f fd ["self","goods","placed"] (Nn K CG CW CR):=by
 exists F.bQ mX;let#[r,dx,g,p,d,hs,ts,qs,fp,f,rfl,nM,G,hd,k]:=h;let hu:=gc hr;refine' #[_,aw ?s1 (aw ?s2 (aw ?s3 (aF ?s4))),?kk]
 case s1=>exact bq 3 mX.nd (ja (g2_ Z) (by rfl) B.tuple uV %[OH (pv 2)|0])
 case s2=>exact uU (pv 0) (bc cE hr %[1|0]) Z
 case s3=>exact uU (pv 0) (Tz hu (pv 3) uS) Z
 case s4=>exact uU (pv 0) (fQ %[3|0]) Z
 apply#[_,Z,d,_,Z,hd,λv hv=>?_];let#[s1,e1]:=aD (o:=uP v d) hv;generalize upd H v (uP v d)=H1 at s1 e1 ⊢;apply#[v,d,_,Z,e1,s1 _ _ hd,λt ht=>?_]
 have ev:(dZ (qs.map (·.1)) f).map (·.2)=sV ((qs.map (·.1)).map f):=by
  simp only[dZ,dX,sV,cj];rfl
 rw[ev];obtain⟨s0,RI⟩:∃s0,s0=(qs.map (·.1)).map f:=#[_,Z];rw[<- RI];rw[<- RI] at k;let#[s2,e2]:=aD (o:=.tup (sV s0)) ht;let ng:=s1.trans s2;generalize upd H1 t (.tup (sV s0))=H2 at s2 e2 ng ⊢;apply#[_,Z,g,p,hs,ts,qs,fp,Z,G.same ng,λx H3 s3 nx ex=>?_];let fg:=ng.trans s3;apply#[_,Z,r,CR,dx,[],Z,fg _ _ nM,T.cl,T.nX,by show 0<1000;decide,?_];have Gb:∀{b o},H3 b\o->b≠r->upd H3 r (.ins CR dx (az jS (.ref x) [])) b\o:=λe ne=>by rw[ax ne];exact e
 have r4:upd H3 r (.ins CR dx (az jS (.ref x) [])) r\.ins CR dx (az jS (.ref x) []):=ay
 have pI:∀{b},upd H3 r (.ins CR dx (az jS (.ref x) [])) b=none->H3 b=none:=λ{b} e=>by
  by_cases z:b=r
  ·rw[z,ay] at e;cases e
  rw[ax z] at e;exact e
 generalize upd H3 r (.ins CR dx (az jS (.ref x) []))=H4 at Gb r4 pI ⊢;let Bx:=fg _ _ nM;have tr:t≠r:=bK (s3 _ _ e2) Bx nofun;have e4:H4 t\.tup (sV s0):=Gb (s3 _ _ e2) tr;intro a ha;let#[s5,e5]:=aD (o:=.dT []) ha;have an:H a=none:=fg.free (pI ha);have ar:a≠r:=(bu r4 ha).symm;generalize upd H4 a (.dT [])=H5 at s5 e5 ⊢;apply#[_,Z,e5,t,sK s0,Z,by rw[qY];exact s5 _ _ e4,_,Z,?_];have ta:t≠a:=bK (s5 _ _ e4) e5 nofun;have J1:∀{b o},H5 b\o->b≠a->upd H5 a (.dT [(sK s0,.non)]) b\o:=λe ne=>by rw[ax ne];exact e
 have e6:upd H5 a (.dT [(sK s0,.non)]) a\.dT [(sK s0,.non)]:=ay
 have HY:∀{b},upd H5 a (.dT [(sK s0,.non)]) b=none->H5 b=none:=λ{b} e=>by
  by_cases z:b=a
  ·rw[z,ay] at e;cases e
  rw[ax z] at e;exact e
 generalize upd H5 a (.dT [(sK s0,.non)])=H6 at J1 e6 HY ⊢;apply#[r,CR,dx,_,Z,J1 (s5 _ _ r4) ar.symm,T.cl,T.nA,by show 1<1000;decide,?_];have JZ:∀{b o},H6 b\o->b≠r->upd H6 r (.ins CR dx (az pQ (.ref a) (az jS (.ref x) []))) b\o:=λe ne=>by rw[ax ne];exact e
 have r7:upd H6 r (.ins CR dx (az pQ (.ref a) (az jS (.ref x) []))) r\.ins CR dx (az pQ (.ref a) (az jS (.ref x) [])):=ay
 have E7:∀{b},upd H6 r (.ins CR dx (az pQ (.ref a) (az jS (.ref x) []))) b=none->H6 b=none:=λ{b} e=>by
  by_cases z:b=r
  ·rw[z,ay] at e;cases e
  rw[ax z] at e;exact e
 generalize upd H6 r (.ins CR dx (az pQ (.ref a) (az jS (.ref x) [])))=H7 at JZ r7 E7 ⊢
 have e47:∀{b o},H3 b\o->b≠r->H7 b\o:=λ{b o} e ne=>by
  let e4':=s5 _ _ (Gb e ne)
  have ba:b≠a:=λz=>by
   have:=Gb e ne;rw[z,ha] at this;cases this
  exact JZ (J1 e4' ba) ne
 apply#[_,Z,zl,λn hn=>?_];let#[s8,e8]:=aD (o:=.lst [.ref t]) hn;have nr:n≠r:=(bu r7 hn).symm;generalize upd H7 n (.lst [.ref t])=H8 at s8 e8 ⊢;apply#[_,Z,r,CR,dx,_,Z,s8 _ _ r7,T.cl,T.nN,by show 2<1000;decide,?_];have Ga:∀{b o},H8 b\o->b≠r->upd H8 r (.ins CR dx (bW x a n)) b\o:=λe ne=>by rw[ax ne];exact e
 have r9:upd H8 r (.ins CR dx (bW x a n)) r\.ins CR dx (bW x a n):=ay;show Q .non (upd H8 r (.ins CR dx (bW x a n)));generalize upd H8 r (.ins CR dx (bW x a n))=H9 at Ga r9 ⊢;have Fe:∀{b o},H3 b\o->b≠r->H9 b\o:=λe ne=>Ga (s8 _ _ (e47 e ne)) ne;apply k a x n H9 (λb o e ne=>Fe (fg _ _ e) ne) an #[#[dx,r9],?_,#[_,Ga (s8 _ _ (JZ e6 ar)) ar,.cons #[Z,Z] .nil],#[_,Ga e8 nr,.cons #[t,Z,Fe (s3 _ _ e2) tr] .nil]];let#[ds,x1,x2]:=ex
 have KW:∀{b o},H3 b\o->(∀C dx fs,o≠.ins C dx fs)->b≠r:=λe no z=>by
  rw[z,Bx] at e;cases e;exact no _ _ _ Z
 exact#[ds,Fe x1 (KW x1 (by intro _ _ _ z;cases z)),Paired.aV x2 λd q ⟨ad,y1,y2⟩=>#[ad,Fe y1 (KW y1 (by intro _ _ _ z;cases z)),λh hh=>Fe (y2 h hh) (KW (y2 h hh) (by intro _ _ _ z;cases z))]]
end
end Ev
namespace Ev
open PySem L2
theorem T3{s:ak}{i:Nat}(h:i<s.length)(o:Str):(sV s).take i++[V.str o]++(sV s).drop (i+1)=sV (s.set i o):=by
 show (s.map V.str).take i++[V.str o]++(s.map V.str).drop (i+1)=(s.set i o).map V.str;rw[List.set_eq_take_append_cons_drop,aI h,eU,eI,List.map_take,List.map_drop,List.append_assoc];rfl
def JI(hs:Xa)(ts:Xb)(qs:aN)(s:ak)(i:Nat)(b:ak):Prop:=∃(k:Nat) (q:Pc) (h h':Str),k<i/\qs[k]? = some q/\s[k]? = some h/\h'∈sY hs ts q h/\b=s.set k h'
theorem Zj{hs:Xa}{ts:Xb}{qs:aN}{s b:ak}:JI hs ts qs s s.length b ↔ Nx hs ts qs s b:=by
 constructor
 ·rintro⟨k,q,h,h',_,h1,h2,h3,h4⟩;exact#[_,k,q,h,h',h1,h2,h3,h4,Z]
 rintro⟨m,k,q,h,h',h1,h2,h3,h4,_⟩;exact#[k,q,h,h',(bY.mp h2).1,h1,h2,h3,h4]
theorem ui.at_{H:Hp}{l:Addr}{hs:Xa}{ts:Xb}{qs:aN}(h:ui H l hs ts qs){k:Nat}{q:Pc}(hq:qs[k]? = some q):∃(ds:au) (d:Addr),H l\.lst (ds.map V.ref)/\(ds.map V.ref)[k]? = some (.ref d)/\F7 H d hs ts q:=by
 let#[ds,h1,h2]:=h;have hk:k<qs.length:=(bY.mp hq).1;let hl:=bw h2;have:=dU h2 k Z1 hk;rw[aQ hk] at hq;cases hq;exact#[ds,ds[k]' Z1,h1,by rw[dk,aQ Z1];rfl,this]
section v
theorem Fl:bG ["self","hands","found","place","one","other"] BF (aX lH):=bR
inductive NY (CR:Addr) (vs:ai) (H:Hp) (Q:VK) (E:XK):Prop
 |mk:∀(r dx t x a n:Addr) (hs:Xa) (ts:Xb) (qs:aN) (s:ak),vs=[.ref r,.ref t]->H r\.ins CR dx (bW x a n)->ui H x hs ts qs->H t\.tup (sV s)->Vs hs qs s->(aS hs).length<=8->qs.length<64->(∀l ys L H',aa H H'->H l=none->H' l\.lst ys->iy H' ys L->(∀b,b∈L ↔ Nx hs ts qs s b)->L.length<=512->Q (.ref l) H')->NY CR vs H Q E
theorem hU_{f CR:Addr}{fd:Ae}(F:bj K "one_move_on" "Reach.one_move_on" lH f fd)(T:pb K CR)(B:Bi mg):!ao aZ 1 f fd BF (NY CR):=by
 exists F.bQ Fl;let#[r,dx,t,x,a,n,hs,ts,qs,s,rfl,hrr,ex,ht,v,n8,Qr,k]:=h;let hu:=gc hr;let sz:=cJ;let vl:=v.len;refine' #[_,aw ?s1 (aw ?s2 (aF ?s3)),?kk]
 case s1=>exact bq 2 Fl.nd (fQ bP)
 case' s2=>refine' eW d8 Z ?i2 ?g2 (aF ?b2)
 case i2=>exact hM_ (by rfl) B.enum %[1|0]
 case g2=>exact o7 Z (dE (cz 3 Fl.nd) (dE (cz 4 Fl.nd) jc))
 case' b2=>refine' eW d8 Z ?i3 ?g3 (aF ?b3)
 case i3=>exact dI (oq hu (br fO (gN (pv 0) Z) (pv 3)) (pv 4))
 case g3=>exact cz 5 Fl.nd
 case b3=>exact mB (pM o9 wF wG uW (pv 2) %[bN IS (bN IS (A3 IA (pv 1) Ba (A9 (pv 3))) (gf %[5|0])) (A3 IA (pv 1) (A9 (bN gM (pv 3) aC)) Ba)|0])
 case s3=>exact bx (pv 2)
 apply#[zl,λl hl=>?_];let#[s1,e1]:=aD (o:=.lst []) hl;generalize upd H l (.lst [])=H1 at s1 e1 ⊢;apply#[_,Z,t,Z,#[_,.of (s1 _ _ ht)],?_]
 let Iv:b_:=λi σ H'=>∃(v3 v4 v5:aJ) (ys:ai) (L:List ak),σ=[some (.ref r),some (.ref t),some (.ref l),v3,v4,v5]/\aa H H'/\H' l\.lst ys/\iy H' ys L/\(∀b,b∈L ↔ JI hs ts qs s i b)/\L.length<=8 * i
 apply h6_ (xs:=sV s) Iv #[none,none,none,[],[],Z,s1,e1,.nil,λb=>by simp[JI],by simp] (λi σ H' _ ⟨_,_,_,_,_,_,sm,_⟩=>.of (sm _ _ ht)) ?_ ?_
 ·rintro i y σ H2 hy ⟨v3,v4,v5,ys,L,rfl,s2,e2,sp,mem,len⟩ tt D0;let#[h,hh,rfl]:=mz hy;have hi:i<s.length:=(bY.mp hh).1;have hq:qs[i]? = some (qs[i]' Z1):=aQ Z1;obtain⟨q,eq⟩:∃q,q=qs[i]' Z1:=#[_,Z];rw[<- eq] at hq;let hm:=v.hY h (cX hh);let#[s3,e3]:=aD (o:=.tup [.int i,.str h]) D0;let fg:=s2.trans s3;let uI:=s3 _ _ e2;let qw:=sp.keep λb xs e=>s3 _ _ e;show gF _ _ _ _ _ (upd H2 tt (.tup [.int i,.str h])) _;generalize upd H2 tt (.tup [.int i,.str h])=H3 at s3 e3 fg uI qw ⊢;apply#[tt,_,Z,.of e3,Z,_,_,Z,_,_,Z,Z,?_];let#[ds,d,x1,x2,ad,x3,x4]:=ex.at_ hq;apply#[_,Z,r,CR,dx,_,_,Z,fg _ _ hrr,T.cl,T.nX,Za _ _ _,_,Z,x,_,i,.ref d,Z,Z,.of (fg _ _ x1),L2.dR x2,_,Z,d,.ref (ad h),Z,?_,ad h,Z,#[_,.of (fg _ _ (x4 h hm))],?_]
  ·have:=eS.k (k:=.inr h) (fg _ _ x3);rw[A8 (g:=λn=>V.ref (ad n)) hm] at this;exact this
  let Iw:b_:=λj σ H'=>∃(v5:aJ) (ys:ai) (L:List ak),σ=[some (.ref r),some (.ref t),some (.ref l),some (.int i),some (.str h),v5]/\aa H H'/\H' l\.lst ys/\iy H' ys L/\(∀b,b∈L ↔ JI hs ts qs s i b∨∃o∈(sY hs ts q h).take j,b=s.set i o)/\L.length<=8 * i+j
  have el8:(sY hs ts q h).length<=8:=iK (Be ..) (iK (Be ..) n8);apply ib (K:=K) (a:=ad h) (xs:=(sY hs ts q h).map V.str) Iw #[_,ys,L,Z,fg,uI,qw,λb=>by rw[mem];simp,by omega] (λj σ H' _ ⟨_,_,_,_,sm,_⟩=>.of (sm _ _ (x4 h hm))) ?_ ?_
  ·rintro j y σ H4 hy ⟨JY,ys,L,rfl,s4,iI,gr,fE,lV⟩;let#[o,ho,rfl]:=mz hy;have hj:j<(sY hs ts q h).length:=(bY.mp ho).1;let vN:=bw gr;let pG:=s4 _ _ ht;apply#[_,Z,.inl #[Z,_,.of iI],?_];apply#[_,Z,_,Z,_,Z,t,_,Z,.of pG,?_,λp1 xR=>?_]
   ·rw[HT.eD,HT.dW,aq];omega
   rw[TZ];let#[s5,e5]:=aD (o:=.tup ((sV s).take i)) xR;generalize upd H4 p1 (.tup ((sV s).take i))=H5 at s5 e5 ⊢;apply#[_,Z,zl,λp2 kq=>?_];let#[s6,e6]:=aD (o:=.tup [.str o]) kq;generalize upd H5 p2 (.tup [.str o])=H6 at s6 e6 ⊢;apply#[p1,p2,_,_,Z,Z,s6 _ _ e5,e6,by rw[dG,aq,jZ];omega,λp3 H7 s7 e7=>?_];let xw:=(s5.trans s6).trans s7;apply#[_,Z,_,Z,_,_,Z,Z,_,Z,t,_,Z,.of (xw _ _ pG),?_,λp4 Eg=>?_]
   ·rw[show ((i:Int)+1)=((i+1:Nat):Int) by omega,HT.dW,aq];omega
   rw[show ((i:Int)+1)=((i+1:Nat):Int) by omega,OI];let#[s8,e8]:=aD (o:=.tup ((sV s).drop (i+1))) Eg;generalize upd H7 p4 (.tup ((sV s).drop (i+1)))=H8 at s8 e8 ⊢;apply#[p3,p4,_,_,Z,Z,s8 _ _ e7,e8,by rw[d_,dG,aq,jZ,yz,aq];omega,λp5 H9 s9 e9=>?_];rw[T3 hi] at e9;let zq:=(xw.trans s8).trans s9;let AE:=zq _ _ iI;apply#[l,_,_,Z,Z,AE,by omega,?_]
   have kt:∀b xs,H9 b\.tup xs->upd H9 l (.lst (ys++[.ref p5])) b\.tup xs:=λb xs e=>by
    rw[ax (bK e AE nofun)];exact e
   apply#[_,_,L++[s.set i o],Z,fo (s4.trans zq) hl,ay,hU ((gr.keep λb xs e=>zq _ _ e).keep kt) (.cons #[p5,Z,kt _ _ e9] .nil),λb=>?_,by rw[d_,jZ];omega];rw[d9,fE,eV,tM ho];constructor
   ·rintro ((x|⟨z,hz,e⟩)|e)
    ·exact .inl x
    ·exact .inr #[z,d9.mpr (.inl hz),e]
    exact .inr #[o,by simp,e]
   rintro (x|⟨z,hz,e⟩)
   ·exact .inl (.inl x)
   rcases d9.mp hz with hz|hz
   ·exact .inl (.inr #[z,hz,e])
   rw[eV.mp hz] at e;exact .inr e
  rintro σ H4 ⟨JY,ys,L,rfl,s4,iI,gr,fE,lV⟩;rw[aq] at fE lV;apply#[_,_,_,ys,L,Z,s4,iI,gr,λb=>?_,by omega];rw[fE,eN];constructor
  ·rintro (⟨k',q',h',o',k1,k2⟩|⟨o,ho,e⟩)
   ·exact#[k',q',h',o',by omega,k2]
   exact#[i,q,h,o,by omega,hq,hh,ho,e]
  rintro⟨k',q',h',o',k1,k2,k3,k4,k5⟩;by_cases c:k'=i
  ·subst c;rw[hq] at k2;rw[hh] at k3;cases k2;cases k3;exact .inr #[o',k4,k5]
  exact .inl #[k',q',h',o',by omega,k2,k3,k4,k5]
 rintro σ H2 ⟨v3,v4,v5,ys,L,rfl,s2,e2,sp,mem,len⟩;rw[aq] at mem len;exact#[_,Z,k l ys L H2 s2 hl e2 sp (λb=>(mem b).trans Zj) Z1]
end
end Ev
namespace Ev
open PySem L2
def Bm(r a:Addr)(H H':Hp):Prop:=∀b o,H b\o->b≠r->b≠a->H' b\o
theorem a_.gS{a:Addr}{H H':Hp}{o:HO}(b:a_ a H H')(ha:H a\o)(no:∀xs,o≠.tup xs):∀c xs,H c\.tup xs->H' c\.tup xs:=λc xs e=>b _ _ e λz=>by
 rw[z,ha] at e;cases e;exact no _ Z
theorem ui.but{a:Addr}{H H':Hp}{l:Addr}{hs:Xa}{ts:Xb}{qs:aN}{kvs:List (av × V)}(h:ui H l hs ts qs)(b:a_ a H H')(ha:H a\.dT kvs):ui H' l hs ts qs:=by
 have k:∀{c o},H c\o->o≠.dT kvs->H' c\o:=λe ne=>b _ _ e λz=>by
  rw[z,ha] at e;cases e;exact ne Z
 let#[ds,h1,h2]:=h;exact#[ds,k h1 nofun,Paired.aV h2 λd q ⟨ad,x1,x2⟩=>#[ad,k x1 nofun,λy hy=>k (x2 y hy) nofun]]
section v
theorem Jg:bG ["self","most","found","hands","after"] ["self","most"] (aX NX):=bR
def More(N:ak->ak->Prop)(s0:ak)(m:Nat):Prop:=∃l:List ak,l.Nodup/\(∀s∈l,∃j,Wk N s0 j s)/\m<l.length
inductive OG (CR:Addr) (vs:ai) (H:Hp) (Q:VK) (E:XK):Prop
 |mk:∀(r x a n:Addr) (hs:Xa) (ts:Xb) (qs:aN) (pa:List (ak × Option ak)) (nw:List ak) (s0:ak) (k m:Nat),vs=[.ref r,.int m]->yd CR H r a x n hs ts qs pa nw->Bf (Nx hs ts qs) s0 k (pa.map (·.1)) nw->ug (Nx hs ts qs) s0 pa->(∀s∈nw,Vs hs qs s)->(aS hs).length<=8->qs.length<64->m<=1000000->pa.length<=1000000->(∀H',Bm r a H H'->More (Nx hs ts qs) s0 m->Q (.bl false) H')->(∀n' oS uw H',Bm r a H H'->H n'=none->yd CR H' r a x n' hs ts qs oS uw->Bf (Nx hs ts qs) s0 (k+1) (oS.map (·.1)) uw->ug (Nx hs ts qs) s0 oS->oS.length=pa.length+uw.length->(oS.length<=m∨uw=[])->Q (.bl true) H')->OG CR vs H Q E
theorem ga_{f CR:Addr}{fd:Ae}(F:bj K "widen" "Reach.widen" NX f fd)(T:pb K CR)(B:Bi mg)(cM:!bO CR 1 "one_move_on" BF (NY CR)):!ao aZ 2 f fd ["self","most"] (OG CR):=by
 exists F.bQ Jg;let#[r,x,a,n,hs,ts,qs,pa,nw,s0,k,m,rfl,R,bf,po,vv,n8,Qr,m6,p6,kF,kT]:=h;let hu:=gc hr;let sz:=cJ;refine' #[_,aw ?s1 (aw ?s2 (aw ?s3 (aF ?s4))),?kk]
 case s1=>exact bq 2 Jg.nd (fQ bP)
 case' s2=>refine' eW d8 Z ?i2 ?g2 (aF ?b2)
 case i2=>exact dI (gN (pv 0) Z)
 case g2=>exact cz 3 Jg.nd
 case' b2=>refine' eW d8 Z ?i3 ?g3 (aF ?b3)
 case i3=>exact dI (ji cM T.cl hr (pv 0) %[3|0])
 case g3=>exact cz 4 Jg.nd
 case' b3=>refine' cg (tO (Jv hu (pv 4) (gN (pv 0) Z))) (aw ?c1 (aw ?c2 (aF ?c3))) cq
 case c1=>exact cg (fI YE (cO Uk (by rfl) B.len gJ %[gN (pv 0) Z|0]) (pv 1)) (aF (bx i5)) cq
 case c2=>exact uQ hu (gN (pv 0) Z) (pv 4) (pv 3) Z
 case c3=>exact mB (pM o9 wF wG uW (pv 2) %[4|0])
 case s3=>exact uU (pv 0) (pv 2) Z
 case s4=>exact bx i5
 let#[#[dx,nM],ex,#[kvs,nZ,Pz],#[JP,Hl,Kw]]:=R;apply#[zl,λl hl=>?_];let#[s1,e1]:=aD (o:=.lst []) hl;generalize upd H l (.lst [])=H1 at s1 e1 ⊢;apply#[_,Z,r,CR,dx,_,_,Z,s1 _ _ nM,T.cl,T.nN,M_ _ _ _,n,Z,#[_,.of (s1 _ _ Hl)],?_];have uq:∀{b:Addr} {H':Hp},a_ a H H'->∀c xs,H c\.tup xs->H' c\.tup xs:=λbt=>a_.gS bt nZ (by intro xs z;cases z);have KJ:r≠a:=bK nM nZ nofun;have XU:n≠a:=bK Hl nZ nofun
 let J:List ak->Hp->Prop:=λseen H'=>∃(kvs:List (av × V)) (oS:List (ak × Option ak)) (fs:ai) (fd:List ak),a_ a H H'/\H' a\.dT kvs/\fK H' kvs oS/\H' l\.lst fs/\iy H' fs fd/\Wd (pa.map (·.1)) seen (oS.map (·.1)) fd/\ug (Nx hs ts qs) s0 oS/\oS.length=pa.length+fd.length/\(oS.length<=m∨fd=[])
 let Iv:b_:=λi σ H'=>∃(v3 v4:aJ) (seen:List ak),σ=[some (.ref r),some (.int m),some (.ref l),v3,v4]/\J seen H'/\(∀b,b∈seen ↔ ∃h∈nw.take i,Nx hs ts qs h b)
 let Ym:=bw Kw;apply ib (K:=K) (a:=n) (xs:=JP) Iv #[none,none,[],Z,#[kvs,pa,[],[],a_.of s1,s1 _ _ nZ,Pz.keep λb xs e=>s1 _ _ e,e1,.nil,Wd.start bf.nd,po,by simp,.inr Z],by simp] (λi σ H' _ ⟨_,_,_,_,⟨_,_,_,_,bt,_⟩,_⟩=>.of (bt _ _ Hl XU)) ?_ ?_
 ·rintro i y σ H2 hy ⟨v3,v4,seen,rfl,⟨DP,KS,SJ,MX,wO,nV,Py,Ik,yZ,JT,KP,ln2,KU⟩,mem⟩;have hi:i<JP.length:=(bY.mp hy).1
  obtain⟨h,hh,t,rfl,ht⟩:∃h,nw[i]? = some h/\∃t,y=.ref t/\H t\.tup (sV h):=by
   have:=dU Kw i hi Z1;rw[aQ hi] at hy;cases hy;exact#[nw[i]' Z1,aQ Z1,this]
  let hm:=cX hh;let sf:=(bf.new h).mp hm;let xQ:=uq (b:=a) wO _ _ ht;let jJ:=wO _ _ nM KJ;apply#[_,Z,r,dx,_,Z,jJ,N9 _ _ _ Z0 Z0 Z0,_,Z,r,dx,t,x,a,n,hs,ts,qs,h,Z,jJ,ex.but wO nZ,xQ,vv h hm,n8,Qr,λl3 mO L H3 s3 oU e3 qw ik DN=>?_];have QV:l3≠l:=λz=>by rw[z,Ik] at oU;cases oU
  have G5:l3≠a:=λz=>by rw[z,nV] at oU;cases oU
  have l3n:H l3=none:=by
   cases z:H l3 with
   |none=>rfl
   |some o=>
    have:=wO _ _ z G5;rw[oU] at this;cases this
  let DM:=bw qw
  let Iw:b_:=λj σ H'=>∃(v4:aJ) (dD:List ak),σ=[some (.ref r),some (.int m),some (.ref l),some (.ref t),v4]/\H' l3\.lst mO/\iy H' mO L/\H' t\.tup (sV h)/\J dD H'/\(∀b,b∈dD ↔ b∈seen∨b∈L.take j)
  apply#[l3,Z,#[_,.of e3],?_];apply ib (K:=K) (a:=l3) (xs:=mO) Iw ?_ ?_ ?_ ?_
  ·exact#[_,seen,Z,e3,qw,s3 _ _ xQ,#[DP,KS,SJ,MX,wO.trans (a_.of s3),s3 _ _ nV,Py.keep λb xs e=>s3 _ _ e,s3 _ _ Ik,yZ.keep λb xs e=>s3 _ _ e,JT,KP,ln2,KU],λb=>#[.inl,λz=>z.elim id λw=>absurd w (fX)]]
  ·rintro j σ H' _ ⟨_,_,_,e,_⟩;exact .of e
  ·rintro j y σ H4 hy ⟨V6,dD,rfl,e4,gr,pG,⟨gW,Da,SI,SR,Js,jL,B3,iI,yX,Cp,Qt,Yi,XF⟩,fE⟩;have hj:j<mO.length:=(bY.mp hy).1
   obtain⟨b,hb,u,rfl,RC⟩:∃b,L[j]? = some b/\∃u,y=.ref u/\H4 u\.tup (sV b):=by
    have:=dU gr j hj Z1;rw[aQ hj] at hy;cases hy;exact#[L[j]' Z1,aQ Z1,this]
   let Hf:=Js _ _ nM KJ;have bL:Nx hs ts qs h b:=(ik b).mp (cX hb)
   have tk:∀c,c∈L.take (j+1) ↔ c∈L.take j∨c=b:=λc=>by
    rw[u4,hb];simp
   have hK:H4 u\.tup ((sK b).map kV):=by rw[qY];exact RC
   apply#[_,Z,_,Z,r,CR,dx,_,_,Z,Hf,T.cl,T.nA,IM _ _ _,a,_,Z,.t jL hK,_,Z,?_];rw[B3.isSome];by_cases c:b∈Da.map (·.1)
   ·rw[dc c];apply aM ?_;apply#[_,dD++[b],Z,e4,gr,pG,#[gW,Da,SI,SR,Js,jL,B3,iI,yX,Cp.skip c,Qt,Yi,XF],λz=>?_];rw[d9,fE,tk,eV,or_assoc]
   rw[eG c];apply dj ?_;let lk:=bw B3;let lf:=bw yX;apply#[_,Z,r,CR,dx,_,_,Z,Hf,T.cl,T.nA,IM _ _ _,a,_,Z,jL,_,Z,_,_,Z,Z,_,Z,?_]
   have Px:∀z∈Da.map (·.1),∃j,Wk (Nx hs ts qs) s0 j z:=λz hz=>by
    rcases (Cp.all z).mp hz with y|y
    ·let#[j,_,w]:=(bf.all z).mp y;exact#[j,w]
    rcases (fE z).mp y with y|y
    ·let#[h',se,nx]:=(mem z).mp y;exact#[_,.s ((bf.new h').mp (List.mem_of_mem_take se)).1 nx]
    exact#[_,.s sf.1 ((ik z).mp (List.mem_of_mem_take y))]
   apply cw (λc2=>?_) (λc2=>?_)
   ·apply kF H4 (λc o e n1 n2=>Js _ _ e n2) #[Da.map (·.1)++[b],?_,λz hz=>?_,?_]
    ·rw[List.nodup_append];exact#[Cp.nd,by simp,λx hx y hy e=>c (by rw[<- eV.mp hy,<- e];exact hx)]
    ·rcases d9.mp hz with hz|hz
     ·exact Px z hz
     rw[eV.mp hz];exact#[_,.s sf.1 bL]
    have:(m:Int)<=(gW.length:Int):=tF c2;rw[d_,aq,jZ];omega
   have lt:gW.length<m:=by
    have:¬(m:Int)<=(gW.length:Int):=of_decide_eq_false ⇑c2;omega
   apply#[_,Z,_,Z,r,CR,dx,_,_,Z,Hf,T.cl,T.nA,IM _ _ _,_,Z,a,_,Z,.t jL hK Z1,?_];rw[wV (B3.none c)];have Va:a_ a H (upd H4 a (.dT (gW++[(sK b,.ref t)]))):=Js.trans a_.upd;have k5:∀{c o},H4 c\o->c≠a->upd H4 a (.dT (gW++[(sK b,.ref t)])) c\o:=λe ne=>by rw[ax ne];exact e
   have t5:∀c xs,H4 c\.tup xs->upd H4 a (.dT (gW++[(sK b,.ref t)])) c\.tup xs:=λc xs e=>k5 e (bK e jL nofun);have e5:upd H4 a (.dT (gW++[(sK b,.ref t)])) a\.dT (gW++[(sK b,.ref t)]):=ay;have la:l≠a:=bK iI jL nofun;generalize upd H4 a (.dT (gW++[(sK b,.ref t)]))=H5 at Va k5 t5 e5 ⊢;let sZ:=k5 iI la;apply#[_,Z,.inl #[Z,_,.of sZ],_,Z,l,_,_,Z,Z,sZ,by omega,?_]
   have t6:∀c xs,H5 c\.tup xs->upd H5 l (.lst (SI++[.ref u])) c\.tup xs:=λc xs e=>by
    rw[ax (bK e sZ nofun)];exact e
   let Bp:=λc xs e=>t6 c xs (t5 c xs e);have kb:¬∃j,j<=k/\Wk (Nx hs ts qs) s0 j b:=λz=>c ((Cp.all b).mpr (.inl ((bf.all b).mpr z)));apply#[_,dD++[b],Z,by rw[ax QV];exact k5 e4 G5,gr.keep Bp,Bp _ _ pG,#[_,Da++[(b,some h)],_,SR++[b],λc o e ne=>?_,by rw[ax la.symm];exact e5,hU (B3.keep Bp) (.cons #[Z,t,Z,Bp _ _ pG] .nil),ay,hU (yX.keep Bp) (.cons #[u,Z,Bp _ _ RC] .nil),?_,?_,?_,?_],λz=>?_]
   ·rw[ax (bu e hl)];exact Va _ _ e ne
   ·rw[eU];exact Cp.add c
   ·intro e he;rcases d9.mp he with he|he
    ·exact Qt e he
    rw[eV.mp he];exact .inr #[h,k,Z,sf,#[.s sf.1 bL,λj hj w=>kb #[j,by omega,w]],bL]
   ·rw[d_,d_,jZ,jZ];omega
   ·left
    rw[d_,jZ];omega
   rw[d9,fE,tk,eV,or_assoc]
  rintro σ H4 ⟨V6,dD,rfl,e4,gr,pG,jj,fE⟩;apply#[_,_,dD,Z,jj,λb=>?_];rw[fE,mem,show mO.length=L.length from DM,eN,ik,u4,hh];simp only[Option.toList_some,d9,eV];constructor
  ·rintro (⟨h',se,nx⟩|nx)
   ·exact#[h',.inl se,nx]
   exact#[h,.inr Z,nx]
  rintro⟨h',se|rfl,nx⟩
  ·exact .inl #[h',se,nx]
  exact .inr nx
 rintro σ H2 ⟨v3,v4,seen,rfl,⟨DP,KS,SJ,MX,wO,nV,Py,Ik,yZ,JT,KP,ln2,KU⟩,mem⟩;let jJ:=wO _ _ nM KJ;apply#[_,Z,_,Z,r,CR,dx,_,Z,jJ,T.cl,T.nN,?_,?_]
 ·show 3<1000;decide
 have ef:az "newest" (V.ref l) (bW x a n)=bW x a l:=Uv _ _ _ _;rw[ef];have k3:∀{c o},H2 c\o->c≠r->upd H2 r (.ins CR dx (bW x a l)) c\o:=λe ne=>by rw[ax ne];exact e
 have ni:∀{c o},H2 c\o->(∀C dx fs,o≠.ins C dx fs)->upd H2 r (.ins CR dx (bW x a l)) c\o:=λe no=>k3 e λz=>by
  rw[z,jJ] at e;cases e;exact no _ _ _ Z
 let#[ds,x1,x2]:=ex.but wO nZ;apply kT l KS MX _ (λc o e n1 n2=>by rw[ax n1];exact wO _ _ e n2) hl #[#[dx,ay],#[ds,ni x1 (by intro _ _ _ z;cases z),Paired.aV x2 λd q ⟨ad,y1,y2⟩=>#[ad,ni y1 (by intro _ _ _ z;cases z),λh hh=>ni (y2 h hh) (by intro _ _ _ z;cases z)]],#[_,ni nV (by intro _ _ _ z;cases z),Py.keep λb xs e=>ni e (by intro _ _ _ z;cases z)],#[_,ni Ik (by intro _ _ _ z;cases z),yZ.keep λb xs e=>ni e (by intro _ _ _ z;cases z)]] (bf.next JT λb=>?_) KP ln2 KU;rw[mem,Ym,eN]
end
end Ev
namespace Ev
open PySem L2
def Cn(N:ak->ak->Prop):List ak->Prop
 |[]=>True
 |[_]=>True
 |a::b::r=>N a b/\Cn N (b::r)
structure Row (N:ak->ak->Prop) (a s:ak) (k:Nat) (row:List ak):Prop where
 cn:Cn N row
 hd:row.head? = some a
 lt:row.getLast? = some s
 len:row.length=k+1
theorem Row.one{N:ak->ak->Prop}{s:ak}:Row N s s 0 [s]:=#[trivial,Z,Z,Z]
theorem Row.more{N:ak->ak->Prop}{a b s:ak}{k:Nat}{row:List ak}(h:Row N b s k row)(n:N a b):Row N a s (k+1) (a::row):=by
 cases row with
 |nil=>cases h.hd
 |cons c r=>
  have e:c=b:=cY h.hd;subst e;exact#[#[n,h.cn],Z,by rw[List.getLast?_cons_cons];exact h.lt,by rw[jt,h.len]]
theorem UJ{α β:Type}{F:α->β->Prop}:∀{l:List α} {m:List β},Paired F l m->Paired F l.reverse m.reverse
 |_,_,.nil=>.nil
 |_,_,.cons h t=>by
  rw[List.reverse_cons,List.reverse_cons];exact hU (UJ t) (.cons h .nil)
section v
theorem Io:bG ["self","hands","row","there"] BF (aX qP):=bR
inductive kX (CR:Addr) (vs:ai) (H:Hp) (Q:VK) (E:XK):Prop
 |mk:∀(r x a n t:Addr) (hs:Xa) (ts:Xb) (qs:aN) (pa:List (ak × Option ak)) (nw:List ak) (s0 s:ak) (k:Nat),vs=[.ref r,.ref t]->yd CR H r a x n hs ts qs pa nw->H t\.tup (sV s)->Ds (Nx hs ts qs) s0 k s->(pa.map (·.1)).Nodup->(∀j z,j<=k->Wk (Nx hs ts qs) s0 j z->z∈pa.map (·.1))->ug (Nx hs ts qs) s0 pa->k<1000000->(∀l ys row H',aa H H'->H l=none->H' l\.lst ys->iy H' ys row->Row (Nx hs ts qs) s0 s k row->Q (.ref l) H')->kX CR vs H Q E
theorem ZR{f CR:Addr}{fd:Ae}(F:bj K "row_to" "Reach.row_to" qP f fd)(T:pb K CR):!ao aZ 1 f fd BF (kX CR):=by
 exists F.bQ Io;let#[r,x,a,n,t,hs,ts,qs,pa,nw,s0,s,k,rfl,R,ht,ds,nd,all,po,p6,kk]:=h;let hu:=gc hr;let sz:=cJ;refine' #[_,aw ?s1 (aw ?s2 (aw ?s3 (aw ?s4 (aF ?s5)))),?kk]
 case s1=>exact bq 2 Io.nd (fQ bP)
 case s2=>exact bq 3 Io.nd (pv 1)
 case' s3=>refine' Jl d8 ?c1 (aw ?b1 (aF ?b2))
 case c1=>exact tO (Zm (pv 3))
 case b1=>exact mB (pM o9 wF wG uW (pv 2) %[3|0])
 case b2=>exact bq 3 Io.nd (oq hu (gN (pv 0) Z) (pv 3))
 case s4=>exact mB (YQ o9 PySem.F.slot_list_reverse PySem.F.type_list_reverse fy_ (pv 2))
 case s5=>exact bx (pv 2)
 let#[#[dx,nM],ex,#[kvs,nZ,Pz],#[JP,Hl,Kw]]:=R;apply#[zl,λl hl=>?_];let#[s1,e1]:=aD (o:=.lst []) hl;generalize upd H l (.lst [])=H1 at s1 e1 ⊢;apply#[_,Z,?_]
 let Iv:b_:=λm σ H'=>∃(v:V) (ys:ai) (wr:List ak),σ=[some (.ref r),some (.ref t),some (.ref l),some v]/\aa H H'/\H' l\.lst ys/\iy H' ys wr.reverse/\wr.length<=k+1/\((v=.non/\m=0/\Row (Nx hs ts qs) s0 s k wr)∨∃u z,v=.ref u/\H u\.tup (sV z)/\m+wr.length=k+1/\0<m/\Ds (Nx hs ts qs) s0 (m - 1) z/\((wr=[]/\z=s)∨∃b,Nx hs ts qs z b/\∃j,wr.length=j+1/\Row (Nx hs ts qs) b s j wr))
 apply#[Iv,#[k+1,.ref t,[],[],Z,s1,e1,.nil,by simp,.inr #[t,s,Z,ht,by simp,by omega,by simpa using ds,.inl #[Z,Z]]],?_];rintro m σ H2 ⟨v,ys,wr,rfl,s2,e2,yZ,lw,cs⟩;let vN:=bw yZ;rw[List.length_reverse] at vN;rcases cs with⟨rfl,rfl,row⟩|⟨u,z,rfl,hz,lm,m0,dz,cs⟩
 ·apply#[_,Z,_,Z,aM ?_];apply#[_,Z,.inl #[Z,_,.of e2],l,_,Z,Z,e2,?_]
  have t3:∀c xs,H2 c\.tup xs->upd H2 l (.lst ys.reverse) c\.tup xs:=λc xs e=>by
   rw[ax (bK e e2 nofun)];exact e
  let qw:=UJ (yZ.keep t3);rw[List.reverse_reverse] at qw;exact#[_,Z,kk l _ wr _ (fo s2 hl) hl ay qw row]
 apply#[_,Z,_,Z,dj #[λaY H'=>∃m',m'<m/\Iv m' aY H',λ_ _ h=>h,?_]];apply#[_,Z,.inl #[Z,_,.of e2],_,Z,l,_,_,Z,Z,e2,by omega,?_]
 have t3:∀c xs,H2 c\.tup xs->upd H2 l (.lst (ys++[.ref u])) c\.tup xs:=λc xs e=>by
  rw[ax (bK e e2 nofun)];exact e
 have s3:aa H (upd H2 l (.lst (ys++[.ref u]))):=fo s2 hl;have e3:upd H2 l (.lst (ys++[.ref u])) l\.lst (ys++[.ref u]):=ay;let qw:=hU (yZ.keep t3) (.cons #[u,Z,s3 _ _ hz] .nil:iy (upd H2 l (.lst (ys++[.ref u]))) [.ref u] [z]);generalize upd H2 l (.lst (ys++[.ref u]))=H3 at s3 e3 qw ⊢;have Vv:z∈pa.map (·.1):=all _ z Z1 dz.1;let#[e,he,rfl]:=bC.mp Vv;let#[v',gv,GH]:=Pz.get nd he;apply#[_,Z,r,CR,dx,_,_,Z,s3 _ _ nM,T.cl,T.nA,IM _ _ _,_,Z,a,v',Z,?_,?_]
 ·rw[<- gv];exact .t (s3 _ _ nZ) (by rw[qY];exact s3 _ _ hz)
 have je:∃j,(e.1::wr).length=j+1/\Row (Nx hs ts qs) e.1 s j (e.1::wr):=by
  rcases cs with⟨rfl,rfl⟩|⟨b,nb,j,lj,rj⟩
  ·exact#[0,Z,.one]
  exact#[j+1,by rw[jt,lj],rj.more nb]
 have CS:iy H3 (ys++[.ref u]) (e.1::wr).reverse:=by rw[List.reverse_cons];exact qw
 have lc:(e.1::wr).length=wr.length+1:=jt;rcases po e he with⟨e0,en⟩|⟨q,d,eq,dq,de,nq⟩
 ·rw[en] at GH
  have dz0:m - 1=0:=by
   rw[e0] at dz;exact dz.inj #[.z,λj hj=>by omega]
  let#[j,lj,rj]:=je;apply#[0,by omega,v',_,e.1::wr,Z,s3,e3,CS,by omega,.inl #[GH,Z,?_]];rw[<- e0];have:j=k:=by omega
  rw[<- this];exact rj
 rw[eq] at GH;let#[b,rfl,hb]:=GH;let dm:=dz.inj de;apply#[m - 1,by omega,_,_,e.1::wr,Z,s3,e3,CS,by omega,.inr #[b,q,Z,hb,by omega,by omega,?_,.inr #[e.1,nq,je]]];rw[show m - 1 - 1=d by omega];exact dq
end
end Ev
namespace Ev
open PySem L2
theorem YZ{hs:Xa}{ts:Xb}(G:Good hs ts){q:Pc}{h h':Str}(m:h'∈sY hs ts q h):h≠h':=by
 intro e;subst e;let m2:=(jY.mp (jY.mp m).1).2;let#[t,ht,et]:=I0.mp (tF m2);let g:=(G.tok t ht).2.2;have e1:aH h h=(h,h):=by rcases BU h h with e|e<;>exact e
 rw[e1] at et;rcases BU t.1 t.2 with e|e
 ·rw[e] at et;exact g ((d7 Prod.fst et).trans (d7 Prod.snd et).symm)
 rw[e] at et;exact g ((d7 Prod.snd et).trans (d7 Prod.fst et).symm)
def ka(H:Hp):ai->List (Str × Str × Str)->Prop:=Paired λy m=>∃t,y=.ref t/\H t\.tup [.str m.1,.str m.2.1,.str m.2.2]
theorem Rh{hs:Xa}{ts:Xb}{qs:aN}:∀{ms:List (Str × Str × Str)} {row:List ak} {a s:ak},row.length=ms.length+1->(∀(j:Nat) m,ms[j]? = some m->∃x y,row[j]? = some x/\row[j+1]? = some y/\Mv hs ts qs x y m)->row.head? = some a->row.getLast? = some s->w4 hs ts qs a ms s
 |[],[],_,_,hl,_,_,_=>by cases hl
 |[],[x],a,s,_,_,h1,h2=>by
  cases cY h1;cases cY h2;exact .nil
 |[],_::_::_,_,_,hl,_,_,_=>by simp at hl
 |m::ms,[],_,_,hl,_,_,_=>by cases hl
 |m::ms,[x],_,_,hl,_,_,_=>by simp at hl
 |m::ms,x::y::r,a,s,hl,hm,h1,h2=>by
  cases cY h1;let#[x',y',e1,e2,mv]:=hm 0 m Z;cases cY e1;cases cY e2;apply .cons mv (Rh ⇑hl (λj m' hj=>hm (j+1) m' hj) Z ?_);rw[List.getLast?_cons_cons] at h2;exact h2
section v
theorem Ip:bG ["goods","hands","after","piece","one","other"] ["goods","hands","after"] (aX qU):=bR
inductive k6 (K:aj) (CG CW:Addr) (vs:ai) (H:Hp) (Q:VK) (E:XK):Prop
 |mk:∀(g p t u:Addr) (hs:Xa) (ts:Xb) (qs:aN) (fp:au) (a b:ak) (m:Str × Str × Str),vs=[.ref g,.ref t,.ref u]->Gs K CG CW H g p hs ts qs fp->H t\.tup (sV a)->H u\.tup (sV b)->a.length=qs.length->Mv hs ts qs a b m->(∀x H',aa H H'->H' x\.tup [.str m.1,.str m.2.1,.str m.2.2]->Q (.ref x) H')->k6 K CG CW vs H Q E
theorem Zh{f CG CW:Addr}{fd:Ae}(F:bj K "move_between" "move_between" qU f fd)(mZ:mg "zip"=none)(T:gm K CG)(cN:!bO CG 1 "names" o5 (BV K CG CW)):!ao aZ 2 f fd ["goods","hands","after"] (k6 K CG CW):=by
 exists F.bQ Ip;let#[g,p,t,u,hs,ts,qs,fp,a,b,m,rfl,G,ht,hu,la,mv,k]:=h;have jh:aP 1 _:=hr.mono (by decide);refine' #[_,aw ?s1 (aF ?s2),?kk]
 case' s1=>refine' eW d8 Z ?i1 ?g1 (aF ?b1)
 case i1=>exact _s (by rfl) mZ %[AQ cN T.cl jh (pv 0),1,2|0]
 case g1=>exact o7 Z (dE (cz 3 Ip.nd) (dE (cz 4 Ip.nd) (dE (cz 5 Ip.nd) jc)))
 case b1=>exact cg (fI tH (pv 4) (pv 5)) (aF (bx (gf %[3,4,5|0]))) cq
 case s2=>exact bx uS
 let#[k0,q,h,h',q1,q2,q3,rfl,rfl]:=mv;let ne:=YZ G.Gd q3;have hk:k0<qs.length:=(bY.mp q1).1;let#[dx,dw,dy,vs,dF,h1,_]:=id G.G.ex;apply#[_,Z,g,dx,_,Z,h1,wU _ _ _ Z0 Z0 Z0,g,p,hs,ts,qs,fp,Z,G.G,λl hl=>?_];let#[s1,e1]:=aD (o:=.lst ((qs.map (·.1)).map V.str)) hl;generalize upd H l (.lst ((qs.map (·.1)).map V.str))=H1 at s1 e1 ⊢;apply#[_,Z,_,Z,l,t,u,_,_,_,Z,.of e1,.of (s1 _ _ ht),.of (s1 _ _ hu),?_]
 let Iv:b_:=λi σ H'=>∃(v3 v4 v5:aJ),σ=[some (.ref g),some (.ref t),some (.ref u),v3,v4,v5]/\aa H1 H'/\i<=k0
 apply _e (by rw[aq,aq,aq];exact la) (by rw[aq,aq,aq,List.length_set];exact la) Iv #[none,none,none,Z,aa.refl _,gR _] (λi σ H' _ ⟨_,_,_,_,sm,_⟩=>#[.of (sm _ _ e1),.of (sm _ _ (s1 _ _ ht)),.of (sm _ _ (s1 _ _ hu))]) ?_ ?_
 ·rintro i x y z σ H2 hx hy hz ⟨v3,v4,v5,rfl,s2,le⟩ tt D0;let#[n,hn,rfl]:=mz hx;let#[o1,uB,rfl]:=mz hy;let#[o2,fu,rfl]:=mz hz;let#[s3,e3]:=aD (o:=.tup [.str n,.str o1,.str o2]) D0;show gF _ _ _ _ _ (upd H2 tt (.tup [.str n,.str o1,.str o2])) _;generalize upd H2 tt (.tup [.str n,.str o1,.str o2])=H3 at s3 e3 ⊢;apply#[tt,_,Z,.of e3,Z,_,_,Z,_,_,Z,_,_,Z,Z,?_];apply#[_,Z,_,Z,Z,_,Z,?_];by_cases c:i=k0
  ·subst c;rw[q2] at uB;cases uB;rw[List.getElem?_set_self Z1] at fu;cases fu;rw[dk,q1] at hn;cases hn;rw[eG (λz:V.str h=V.str h'=>ne (V.str.inj z))];apply dj #[_,Z,_,Z,_,Z,zl,λx hx=>?_];exact k x _ (((s1.trans s2).trans s3).trans (aa.new hx)) ay
  rw[List.getElem?_set_ne (bJ c),uB] at fu;cases fu;rw[dc Z];exact aM #[_,_,_,Z,s2.trans s3,by omega]
 rintro σ H2 ⟨v3,v4,v5,rfl,s2,le⟩;rw[aq,aq] at le;omega
theorem y_:bG ["goods","row"] ["goods","row"] (aX qV):=bR
inductive k7 (K:aj) (CG CW:Addr) (vs:ai) (H:Hp) (Q:VK) (E:XK):Prop
 |mk:∀(g p l:Addr) (ys:ai) (hs:Xa) (ts:Xb) (qs:aN) (fp:au) (a s:ak) (n:Nat) (row:List ak),vs=[.ref g,.ref l]->Gs K CG CW H g p hs ts qs fp->H l\.lst ys->iy H ys row->Row (Nx hs ts qs) a s n row->(∀z∈row,z.length=qs.length)->n<1000000->(∀x zs ms H',aa H H'->H x=none->H' x\.lst zs->ka H' zs ms->w4 hs ts qs a ms s->ms.length=n->Q (.ref x) H')->k7 K CG CW vs H Q E
theorem Q7{N:ak->ak->Prop}:∀{row:List ak},Cn N row->∀{j:Nat} {x y:ak},row[j]? = some x->row[j+1]? = some y->N x y
 |[],_,_,_,_,h,_=>by cases h
 |[_],_,j,_,_,_,h=>by simp at h
 |a::b::r,c,0,x,y,h1,h2=>by
  cases cY h1;cases cY h2;exact c.1
 |a::b::r,c,j+1,x,y,h1,h2=>Q7 c.2 ⇑h1 ⇑h2
theorem MY{H:Hp}{ys:ai}{l:List ak}(h:iy H ys l){j:Nat}{s:ak}(hs:l[j]? = some s):∃t,ys[j]? = some (.ref t)/\H t\.tup (sV s):=by
 have hj:j<l.length:=(bY.mp hs).1;let hl:=bw h;let#[t,e,ht]:=dU h j Z1 hj;rw[aQ hj] at hs;cases hs;exact#[t,by rw[aQ Z1,e],ht]
theorem _A{f CG CW:Addr}{fd:Ae}(F:bj K "moves_along" "moves_along" qV f fd)(B:Bi mg)(cB:!bp 2 "move_between" ["goods","hands","after"] (k6 K CG CW)):!ao aZ 3 f fd ["goods","row"] (k7 K CG CW):=by
 exists F.bQ y_;let#[g,p,l,ys,hs,ts,qs,fp,a,s,n,row,rfl,G,hl,sp,GE,vl,n6,k]:=h;let sz:=cJ;let vN:=bw sp;let lr:=GE.len;refine' #[_,aF (bx (iL ["k","goods","row"] 1 [0,1] (wX (by rfl) B.range %[bN Iz (cO iC (by rfl) B.len gJ %[1|0]) aC|0]) (λfp s H=>?g1) (λfp s H=>jr) (λfp s H=>?e1))),?kk]
 case g1=>exact eO (i:=0) (show (["k","goods","row"]:ae).Nodup by decide +kernel) Z (Or.inl Z)
 case e1=>exact bc cB hr %[1,br (uz (K:=K) oN fO) (pv 2) (pv 0),br (uz (K:=K) oN fO) (pv 2) (bN gM (pv 0) aC)|0]
 apply#[_,Z,l,_,Z,.inl (.of hl),_,_,Z,Z,_,Z,by show (-(2 ^ 62):Int)<=(ys.length:Int) - 1;omega,by show (ys.length:Int) - 1<2 ^ 62;omega,λD hD=>?_];apply IH (own:=1) (fv:=[some (.ref g),some (.ref l)]) Z fh n (λi out H'=>aa H H'/\H' D\.lst out/\∃ms,ka H' out ms/\ms.length=i/\∀(j:Nat) m,ms[j]? = some m->∃x y,row[j]? = some x/\row[j+1]? = some y/\Mv hs ts qs x y m) #[aa.new hD,ay,[],.nil,Z,by simp] (λout H' ⟨sm,cQ,ms,mv,lm,tr⟩=>?_) (λi out H' hi ⟨sm,cQ,ms,mv,lm,tr⟩=>?_)
 ·apply#[?_,k D out ms H' sm hD cQ mv (Rh Z1 tr GE.hd GE.lt) lm];show ((ys.length:Int) - 1).toNat<=n;omega
 apply#[by show i<((ys.length:Int) - 1).toNat;omega,?_];rintro x H2 ⟨rfl,rfl⟩;rw[Int.zero_add];apply#[_,Z,Z,λNx' hN=>ed ?_];have h1:row[i]? = some (row[i]' Z1):=aQ Z1;have h2:row[i+1]? = some (row[i+1]' Z1):=aQ Z1;obtain⟨x1,e1⟩:∃x,x=row[i]' Z1:=#[_,Z];obtain⟨x2,e2⟩:∃x,x=row[i+1]' Z1:=#[_,Z];rw[<- e1] at h1;rw[<- e2] at h2;let#[t1,y1,uA]:=MY sp h1;let#[t2,y2,xQ]:=MY sp h2;let#[m,mm]:=Q7 GE.cn h1 h2;apply#[_,Z,_,Z,_,Z,l,_,i,.ref t1,Z,Z,.of (sm _ _ hl),L2.dR y1,_,Z,_,Z,_,_,Z,Z,l,_,((i:Int)+1),.ref t2,Z,Z,.of (sm _ _ hl),?_,g,p,t1,t2,hs,ts,qs,fp,x1,x2,m,Z,G.same sm,sm _ _ uA,sm _ _ xQ,vl _ (cX h1),mm,λz H3 s3 e3=>?_]
 ·rw[show ((i:Int)+1)=((i+1:Nat):Int) by omega];exact L2.dR y2
 let lo:=bw mv;apply#[out,s3 _ _ cQ,by omega,hN _ _ #[fo (sm.trans s3) hD,ay,ms++[m],?_,by rw[d_,lm];rfl,λj m' hj=>?_]]
 ·have tD:∀{c xs},H3 c\.tup xs->upd H3 D (.lst (out++[.ref z])) c\.tup xs:=λe=>by
   rw[ax (bK e (s3 _ _ cQ) nofun)];exact e
  exact hU (Paired.aV mv λy m ⟨t,e,ht⟩=>#[t,e,tD (s3 _ _ ht)]) (.cons #[z,Z,tD e3] .nil)
 by_cases c:j<ms.length
 ·rw[yx c] at hj;exact tr j m' hj
 have:j=ms.length:=by
  have:=(bY.mp hj).1;rw[d_,jZ] at this;omega
 subst this;rw[Bg (bh _),Nat.sub_self] at hj;cases cY hj;rw[lm];exact#[x1,x2,h1,h2,mm]
end
end Ev
namespace Ev
open PySem L2
theorem Q6{hs:Xa}{ts:Xb}{qs:aN}:∀{row:List ak} {a:ak},Cn (Nx hs ts qs) row->row.head? = some a->Vs hs qs a->∀z∈row,Vs hs qs z
 |[],_,_,_,_,_,hz=>by cases hz
 |[x],a,_,h,v,z,hz=>by
  cases cY h;rw[eV.mp hz];exact v
 |x::y::r,a,c,h,v,z,hz=>by
  cases cY h;rcases bV.mp hz with rfl|hz
  ·exact v
  exact Q6 c.2 Z (c.1.vs v) z hz
section v
theorem Ji:bG ["goods","stand","limit","most","placed","reach","hands"] j7 (aX N1):=bR
structure wK (H:Hp) (d:Addr) (hs:Xa) (qs:aN) (fp:au) (s0:ak) (ns:ae) (f:bo):Prop where
 hd:H d\.dK (dZ ns f)
 o4:d∉fp
 ok:IP hs qs ns f
 s0:s0=(qs.map (·.1)).map f
inductive FW (K:aj) (CG CW:Addr) (vs:ai) (H:Hp) (Q:VK) (E:XK):Prop
 |mk:∀(g p d lt:Addr) (hs:Xa) (ts:Xb) (qs:aN) (fp:au) (s0:ak) (ns:ae) (f:bo) (l:Int × Int) (m:Nat),vs=[.ref g,.ref d,.ref lt,.int m]->Gs K CG CW H g p hs ts qs fp->wK H d hs qs fp s0 ns f->gO H lt l->pO l->1<=m->m<1000000->(∀t x ys ms s H',aa H H'->H x=none->H' t\.tup [.str "moves",.ref x]->H' x\.lst ys->ka H' ys ms->w4 hs ts qs s0 ms s->Ds (Nx hs ts qs) s0 ms.length s->fN hs qs s l=true->(∀j z,j<ms.length->Ds (Nx hs ts qs) s0 j z->fN hs qs z l=false)->Q (.ref t) H')->(∀t H',aa H H'->H' t\.tup [.str "none"]->(∀j z,Ds (Nx hs ts qs) s0 j z->fN hs qs z l=false)->Q (.ref t) H')->(∀t H',aa H H'->H' t\.tup [.str "more"]->More (Nx hs ts qs) s0 m->Q (.ref t) H')->FW K CG CW vs H Q E
theorem wK.vs{H:Hp}{d:Addr}{hs:Xa}{qs:aN}{fp:au}{s0:ak}{ns:ae}{f:bo}(S:wK H d hs qs fp s0 ns f):Vs hs qs s0:=by
 apply⟨by rw[S.s0,aq,aq],λh hh=>?_⟩;rw[S.s0] at hh;let#[n,hn,rfl]:=bC.mp hh;exact (gL hs).mem_iff.mpr (S.ok.at_ n (S.ok.perm.mem_iff.mpr hn))
theorem g4_{f0 CG CW CR:Addr}{fd:Ae}(F:bj K "fewest_moves" "fewest_moves" N1 f0 fd)(B:Bi mg)(T:pb K CR)(cL:!bp 4 "check_limit" fZ qv)(cS:!bp 2 "checked_stand" ya (Jb K CG CW))(cF:!bp 2 "is_whole_from" ["thing","least"] Pb)(cR:!mK CR 5 "Reach" ["self","goods","placed"] (Nn K CG CW CR))(cE:!bp 7 "is_even" ow (O6 K CG CW))(cA:!bp 3 "moves_along" ["goods","row"] (k7 K CG CW))(cT:!bO CR 1 "row_to" BF (kX CR))(cW:!bO CR 2 "widen" ["self","most"] (OG CR)):!ao aZ 8 f0 fd j7 (FW K CG CW):=by
 exists F.bQ Ji;let#[g,p,d,lt,hs,ts,qs,fp,s0,ns,f,l,m,rfl,G,S,hl,lo,m1,m6,kM,kN,kO]:=h;let hu:=gc hr;let sz:=cJ;have n8:(aS hs).length<=8:=by rw[G.Gd.iS];exact G.Gd.h8
 have jh:aP 1 _:=hr.mono (by decide);have jJ:aP 2 _:=hr.mono (by decide);have Hf:aP 4 _:=hr.mono (by decide);refine' #[_,aw ?s1 (aw ?s2 (aw ?s3 (aw ?s4 (aw ?s5 (aF ?s6))))),?kk]
 case s1=>exact mB (bc cL hr %[2|0])
 case s2=>exact bq 4 Ji.nd (bc cS hr %[0,1|0])
 case s3=>exact cg (eX (eP (bc cF hr %[3,aC|0]))) gA cq
 case s4=>exact bq 5 Ji.nd (E4 cR hr %[0,4|0])
 case' s5=>refine' Jl d8 ?c5 (aw ?b1 (aF ?b2))
 case c5=>exact fI (N5 (oj hr 0)) (gN (pv 5) Z) (fQ bP)
 case' b1=>refine' eW d8 Z ?i1 ?g1 (aF ?e1)
 case i1=>exact dI (gN (pv 5) Z)
 case g1=>exact cz 6 Ji.nd
 case e1=>exact cg (eP (bc cE hr %[0,6,2|0])) (aF (bx (gf %[tP,bc cA hr %[0,ji cT T.cl jh (pv 5) %[6|0]|0]|0]))) cq
 case b2=>exact cg (eX (eP (ji cW T.cl jJ (pv 5) %[3|0]))) (aF (bx (ja Pg (by rfl) B.tuple uV %[fQ %[tP|0]|0]))) cq
 case s6=>exact bx (ja Pg (by rfl) B.tuple uV %[fQ %[tP|0]|0])
 apply#[_,Z,lt,l,Z,hl,lo,?_];apply#[_,Z,_,Z,g,p,d,hs,ts,qs,fp,ns,f,Z,G.G,S.o4,S.hd,S.ok,G.nd,G.bX,λd1 H1 s1 n1 e1=>?_];apply#[_,Z,m,1,Z,_,Z,?_];rw[dc (show (1:Int)<=(m:Int) by omega)];apply aM ?_;apply#[_,Z,_,Z,λr dx nM hdx ne=>?_];have s2:aa H1 (upd (upd H1 dx (.own r)) r (.ins CR dx [])):=(aa.new hdx).trans (aa.new (by rw[ax ne.symm];exact nM));have e2:upd (upd H1 dx (.own r)) r (.ins CR dx []) r\.ins CR dx []:=ay;have rn:H r=none:=s1.free nM;generalize upd (upd H1 dx (.own r)) r (.ins CR dx [])=H2 at s2 e2 ⊢;let ng:=s1.trans s2;apply#[r,dx,g,p,d1,hs,ts,qs,fp,f,Z,e2,G.same ng,s2 _ _ e1,λa x n H3 k3 an R3=>#[Z,?_]];have wq:(qs.map (·.1)).map f=s0:=S.s0.symm;rw[wq] at R3;have an0:H a=none:=ng.free an;have fg:aa H H3:=λb o e=>k3 b o (ng _ _ e) (bu e rn);let v0:=S.vs
 let N:ak->ak->Prop:=Nx hs ts qs
 let Iv:b_:=λq σ H'=>∃(v6:aJ) (n:Addr) (pa:List (ak × Option ak)) (nw:List ak) (k:Nat),σ=[some (.ref g),some (.ref d),some (.ref lt),some (.int m),some (.ref d1),some (.ref r),v6]/\aa H H'/\yd CR H' r a x n hs ts qs pa nw/\Bf N s0 k (pa.map (·.1)) nw/\ug N s0 pa/\pa.length<=m/\(nw≠[]->k+1<=pa.length)/\(∀j z,j<k->Ds N s0 j z->fN hs qs z l=false)/\q=(m - pa.length)+(if nw=[] then 0 else 1)
 apply#[Iv,#[_,_,n,[(s0,none)],[s0],0,Z,fg,R3,Bf.start,?_,by simpa using m1,by simp,λj z hj=>by omega,Z],?_]
 ·intro e he;rw[eV.mp he];exact .inl #[Z,Z]
 rintro q σ H4 ⟨v6,n,pa,nw,k,rfl,s4,R,bf,po,pm,kp,ev,rfl⟩;let#[#[IG,vZ],ex4,#[gW,jL,B3],#[Bn,Ah,gr]]:=id R;let l4:=bw gr;have Cs:∀z∈nw,Vs hs qs z:=λz hz=>((bf.new z).mp hz).1.vs v0;apply#[_,Z,r,CR,IG,_,_,Z,vZ,T.cl,T.nN,M_ _ _ _,zl,λb hb=>?_];let#[s5,e5]:=aD (o:=.lst []) hb;generalize upd H4 b (.lst [])=H5 at s5 e5 ⊢;apply#[n,b,Bn,Z,Z,.of (s5 _ _ Ah),.of e5,_,Z,?_];let oK:=s4.trans s5;by_cases c:nw=[]
 ·have ye:Bn=[]:=List.length_eq_zero_iff.mp (by rw[l4,c];rfl);rw[ye];apply aM ?_;apply#[zl,λl1 gx=>?_];let#[s6,e6]:=aD (o:=.lst [.str "none"]) gx;generalize upd H5 l1 (.lst [.str "none"])=H6 at s6 e6 ⊢;apply#[l1,_,Z,.inl #[.of e6,λt ht=>?_]];apply kN t _ ((oK.trans s6).trans (aa.new ht)) ay λj z dz=>?_;rw[c] at bf;exact ev j z (bf.last dz) dz
 have ye:Bn.isEmpty=false:=by
  cases Bn with
  |nil=>
   cases nw with
   |nil=>exact absurd Z c
   |cons _ _=>cases l4
  |cons _ _=>rfl
 rw[ye];let kpa:=kp c;apply dj #[λaY H'=>∃q',q'<(m - pa.length)+(if nw=[] then 0 else 1)/\Iv q' aY H',λ_ _ h=>h,?_];rw[aB c];apply#[_,Z,r,CR,IG,_,_,Z,s5 _ _ vZ,T.cl,T.nN,M_ _ _ _,n,Z,#[_,.of (s5 _ _ Ah)],?_]
 let Iw:b_:=λi σ H'=>∃(v6:aJ),σ=[some (.ref g),some (.ref d),some (.ref lt),some (.int m),some (.ref d1),some (.ref r),v6]/\aa H4 H'/\∀(j:Nat) z,j<i->nw[j]? = some z->fN hs qs z l=false
 apply ib (K:=K) (a:=n) (xs:=Bn) Iw ?_ ?_ ?_ ?_
 ·exact#[_,Z,s5,λj z hj=>by omega]
 ·rintro i σ H' _ ⟨_,_,sm,_⟩;exact .of (sm _ _ Ah)
 ·rintro i y σ H6 hy ⟨V5,rfl,s6,M3⟩;have hi:i<Bn.length:=(bY.mp hy).1;have hz:nw[i]? = some (nw[i]' Z1):=aQ Z1;obtain⟨z,ez⟩:∃z,z=nw[i]' Z1:=#[_,Z];rw[<- ez] at hz;let#[t,yt,ht]:=MY gr hz;rw[hy] at yt;cases yt;let zm:=cX hz;let zd:=(bf.new z).mp zm;let iP:=s4.trans s6;apply#[_,Z,_,Z,_,Z,g,p,t,lt,hs,ts,qs,fp,z,l,Z,G.same iP,s6 _ _ ht,Cs z zm,iP _ _ hl,lo,λH7 s7=>#[_,Z,?_]];let xw:=s6.trans s7;let rD:=s4.trans xw;apply cw (λcc=>?_) (λcc=>?_)
  ·apply#[_,Z,_,Z,r,IG,_,Z,xw _ _ vZ,N9 _ _ _ Z0 Z0 Z0,_,Z,r,x,a,n,t,hs,ts,qs,pa,nw,s0,z,k,Z,R.same xw,xw _ _ ht,zd,bf.nd,λj u hj wu=>(bf.all u).mpr #[j,hj,wu],po,by omega,λl8 VB row H8 s8 n8' e8 WI KI=>?_];apply#[g,p,l8,VB,hs,ts,qs,fp,s0,z,k,row,Z,(G.same rD).same s8,e8,WI,KI,λu vX=>(Q6 KI.cn KI.hd v0 u vX).len,by omega,λx9 zs ms H9 s9 n9 e9 mv tr lm=>#[zl,λt9 D9=>?_]];let WN:=s8.trans s9;let GD:=rD.trans WN;let sA:=aa.new (o:=.tup [.str "moves",.ref x9]) D9;apply kM t9 x9 zs ms z _ (GD.trans sA) (rD.free (s8.free n9)) ay (sA _ _ e9) (Paired.aV mv λy m ⟨t,e,ht⟩=>#[t,e,sA _ _ ht]) tr (by rw[lm];exact zd) cc λj u hj du=>ev j u Z1 du
  apply#[_,Z,xw,λj u hj vX=>?_];by_cases c2:j=i
  ·subst c2;rw[hz] at vX;cases vX;simpa using cc
  exact M3 j u Z1 vX
 rintro σ H6 ⟨V5,rfl,s6,M3⟩;let iP:=s4.trans s6
 have evk:∀j z,j<k+1->Ds N s0 j z->fN hs qs z l=false:=λj z hj dz=>by
  by_cases c2:j=k
  ·subst c2;let#[i,hi,e]:=hJ ((bf.new z).mpr dz);exact M3 i z Z1 (by rw[aQ hi,e])
  exact ev j z Z1 dz
 have sN:∀{H7:Hp},Bm r a H6 H7->aa H H7:=λb7 b o e=>b7 b o (iP _ _ e) (bu e rn) (bu e an0);apply#[_,Z,r,IG,_,Z,s6 _ _ vZ,N9 _ _ _ Z0 Z0 Z0,_,Z,r,x,a,n,hs,ts,qs,pa,nw,s0,k,m,Z,R.same s6,bf,po,Cs,n8,G.bX,by omega,by omega,λH7 b7 more=>#[_,Z,dj ?_],λn' oS uw H7 b7 nn R7 bf7 Xu vP QE=>#[_,Z,aM ?_]]
 ·apply#[zl,λl1 gx=>?_];let#[s8,e8]:=aD (o:=.lst [.str "more"]) gx;generalize upd H7 l1 (.lst [.str "more"])=H8 at s8 e8 ⊢;apply#[l1,_,Z,.inl #[.of e8,λt ht=>?_]];exact kO t _ (((sN b7).trans s8).trans (aa.new ht)) ay more
 apply#[_,?_,_,n',oS,uw,k+1,Z,sN b7,R7,bf7,Xu,?_,?_,evk,Z]
 ·split
  ·rename_i c3
   rw[c3] at vP;simp at vP;omega
  rename_i c3
  have:1<=uw.length:=by
   cases uw with
   |nil=>exact absurd Z c3
   |cons _ _=>simp
  rcases QE with o|o
  ·omega
  exact absurd o c3
 ·rcases QE with o|o
  ·exact o
  rw[o] at vP;simp at vP;omega
 intro c3
 have:1<=uw.length:=by
  cases uw with
  |nil=>exact absurd Z c3
  |cons _ _=>simp
 omega
end
end Ev
namespace Ev
open PySem L2
structure ki (ts:Xb) (p:Pc):Prop where
 g:kh ts p
 sub:∀ws,p.2.2\ws->∀w∈ws,w∈ts
theorem U5:∀us:Xb,Paired (λw u=>w=u∨w=(u.2,u.1)) us us
 |[]=>.nil
 |u::us=>.cons (.inl Z) (U5 us)
section v
theorem AY:bG [gI,uO,"_law_most",yf,"_law_k","_law_name_here","_law_some","_law_weight","_law_ways"] ua (aX Nz):=bR
inductive OP (K:aj) (vs:ai) (H:Hp) (Q:VK) (E:XK):Prop
 |mk:∀(l lt:Addr) (m:Nat) (zs:ai) (ts:Xb),vs=[.ref l,.ref lt,.int m]->m<=8->dB H l->H lt\.lst zs->bT K H zs (ts.map kT)->lt≠l->ts.length<64->(∀t∈ts,wI t)->(ts.map kO).Nodup->(∀(a:Addr) (ys:ai) (ps:aN) (H':Hp),a_ l H H'->dB H' l->H a=none->H' a\.lst ys->jo K H' ys ps->(∀p∈ps,ki ts p)->(ps.map (·.1)).Nodup->ps.length<=m->Q (.ref a) H')->OP K vs H Q E
theorem fB_{f:Addr}{fd:Ae}(F:bj K "_law_pieces" "_law_pieces" Nz f fd)(B:Bi mg)(cD:!bp 1 uM wA yq)(cN:!bp 2 "_law_name" [gI] Nr):!ao aZ 3 f fd ua (OP K):=by
 exists F.bQ AY;let#[l,lt,m,zs,ts,rfl,m8,st,d5,tu,uy,bX,good,nd,k]:=h;let sz:=cJ;let lz:=bw tu;rw[aq] at lz;refine' #[_,aw ?s1 (aw ?s2 (aF ?s3)),?kk]
 case s1=>exact bq 3 AY.nd (fQ bP)
 case' s2=>refine' eW d8 Z ?i2 ?g2 (aw ?b1 (aF ?b2))
 case i2=>exact wX (by rfl) B.range %[bc cD hr %[0,bN gM (pv 2) aC|0]|0]
 case g2=>exact cz 4 AY.nd
 case b1=>exact bq 5 AY.nd (bc cN hr %[0|0])
 case' b2=>refine' cg (fI (Ui g_ (oj hr 0)) (pv 5) (iL [tq] 1 [] (dI (pv 3)) (λfp s H=>?g3) (λfp s H=>jr) (λfp s H=>?e3)) (by with_unfolding_all rfl)) (aw ?c1 (aw ?c2 (aw ?c3 (aF ?c4)))) cq
 case g3=>exact eO (i:=0) (show ([tq]:ae).Nodup by decide +kernel) Z (Or.inl Z)
 case e3=>exact br (uz (K:=K) jz c_) (pv 0) aC
 case c1=>exact bq 6 AY.nd (fQ %[bN gM aC (bc cD hr %[0,aC|0]),bN gM aC (bc cD hr %[0,aC|0]),bN gM aC (bc cD hr %[0,bN Y2 aC aC|0])|0])
 case c2=>exact bq 7 AY.nd (br fO (pv 6) (bc cD hr %[0,aC|0]))
 case' c3=>refine' Ni (i:=8) ["_law_tie",gI] 1 [0] AY.nd Z (Or.inl Z) (dI (pv 1)) (λfp s H=>?g4) (λfp s H=>?t4) (λfp s H=>?e4)
 case g4=>exact eO (i:=0) (show (["_law_tie",gI]:ae).Nodup by decide +kernel) Z (Or.inl Z)
 case t4=>exact Fm (fI Lw (bc cD hr %[1,aC|0]) aC)
 case e4=>exact pv 0
 case c4=>exact mB (pM o9 wF wG uW (pv 3) %[gf %[5,7,br fO (fQ %[uS,uS,8|0]) (bc cD hr %[0,aC|0])|0]|0])
 case s3=>exact bx (pv 3)
 apply#[zl,λa ha=>?_];let#[JR,lY]:=st.some;have gi:l≠a:=bu lY ha;let#[s1,e1]:=aD (o:=.lst []) ha;let qp:=st.same s1;generalize upd H a (.lst [])=H1 at s1 e1 qp ⊢;apply#[_,Z,_,Z,_,_,Z,Z,l,(m:Int)+1,Z,by omega,by omega,qp,λr H2 r0 rm b2 fL=>?_];apply#[_,Z,by show (-(2 ^ 62):Int)<=r;omega,by show r<(2 ^ 62:Int);omega,?_]
 let Iv:b_:=λi σ H'=>∃(v4 v5 v6 v7 v8:aJ) (ys:ai) (ps:aN),σ=[some (.ref l),some (.ref lt),some (.int m),some (.ref a),v4,v5,v6,v7,v8]/\a_ l H H'/\dB H' l/\H' a\.lst ys/\Paired (λy p=>∃t v,y=.ref t/\H' t\.tup [.str p.1,.int p.2.1,v]/\bU K H' v p.2.2/\v≠.ref a) ys ps/\(∀p∈ps,ki ts p)/\(ps.map (·.1)).Nodup/\ps.length<=i
 apply A4 (lo:=0) (n:=r.toNat) Iv #[none,none,none,none,none,[],[],Z,(a_.of s1).trans b2,fL,b2 _ _ e1 gi.symm,.nil,by simp,.nil,bh _] ?_ ?_
 ·rintro i σ H3 hi ⟨v4,v5,v6,v7,v8,ys,ps,rfl,b3,iF,jM,GL,gp,rK,le⟩;let ly:=bw GL;apply#[_,Z,l,Z,iF,λx H4 nx b4 ij=>?_];let#[VH,Ak]:=iF.some;let jL:=b4 _ _ jM gi.symm
  have GJ:∀{Ha Hb:Hp},a_ l Ha Hb->dB Ha l->∀{y p},(∃t v,y=V.ref t/\Ha t\.tup [.str p.1,.int p.2.1,v]/\bU K Ha v p.2.2/\v≠.ref a)->∃t v,y=V.ref t/\Hb t\.tup [.str (p:Pc).1,.int p.2.1,v]/\bU K Hb v p.2.2/\v≠.ref a:=by
   intro Ha Hb bb sb y p h;let#[t,v,e,ht,wy,na]:=h;let#[xs,e2]:=sb.some;exact#[t,v,e,bb _ _ ht (bK ht e2 nofun),wy.but bb sb,na]
  let QD:=Paired.aV GL λy p h=>GJ b4 iF h;apply#[_,Z,_,Z,a,Z,#[_,.of jL],λD hD=>?_];apply i9 (own:=1) (fv:=[]) (xs:=ys) Z fh (λi out H'=>aa H4 H'/\H' D\.lst out/\out=((ps.take i).map (·.1)).map V.str) #[aa.new hD,ay,Z] (λi out H' _ ⟨sm,_,_⟩=>.of (sm _ _ jL)) (λout H5 ⟨s5,ix,eo⟩=>?_) (λj y out H' hy ⟨sm,cQ,eo⟩=>?_);rotate_left 1
  ·have hj:j<ys.length:=(bY.mp hy).1;let#[t,v,e,ht,_]:=dU QD j hj Z1;rw[aQ hj] at hy;cases hy;rw[e];have hp:ps[j]? = some (ps[j]' Z1):=aQ Z1;apply#[_,Z,Z,λNx hN=>ed ?_];apply#[_,Z,t,_,0,_,Z,Z,.of (sm _ _ ht),L2.dR (j:=0) Z,out,cQ,?_,hN _ _ #[fo sm hD,ay,?_]]
   ·rw[eo,aq,aq,dG];omega
   rw[tS _ hp,eU,eo];rfl
  rw[ly,eN] at eo;subst eo;have b5:a_ l H H5:=(b3.trans b4).trans (a_.of s5);let hX:=ij.same s5;let EW:=s5 _ _ jL;let QC:=Paired.aV QD λy p h=>GJ (a_.of s5) ij h;apply#[x,_,Z,TU ix,_,Z,?_];apply cw (λc=>?_) (λc=>?_)
  ·have K3:x∉ps.map (·.1):=⇑c
   apply#[_,Z,l,3,Z,by decide,by decide,hX,λr1 H6 q0 q1 b6 iO=>#[_,_,Z,Z,?_]];apply#[_,Z,l,9,Z,by decide,by decide,iO,λr2 H7 q2 q3 b7 jd=>#[_,_,Z,Z,?_]];apply#[_,Z,_,_,Z,Z,#[by decide,by decide,by decide],l,_,Z,by decide,by decide,jd,λr3 H8 q4 q5 b8 yU=>#[_,_,Z,Z,?_]];have q5:r3<1000000000:=q5;apply#[zl,λp hp=>?_];let#[s9,e9]:=aD (o:=.lst [.int (1+r1),.int (1+r2),.int (1+r3)]) hp;let vt:=yU.same s9
   have pl:p≠l:=by
    let#[xs,e]:=yU.some;exact (bu e hp).symm
   have BZ:a_ l H5 (upd H8 p (.lst [.int (1+r1),.int (1+r2),.int (1+r3)])):=((b6.trans b7).trans b8).trans (a_.of s9);generalize upd H8 p (.lst [.int (1+r1),.int (1+r2),.int (1+r3)])=H9 at s9 e9 vt BZ ⊢;apply#[_,Z,_,Z,l,3,Z,by decide,by decide,vt,λr4 HA q6 q7 bA Ks=>?_];let#[y,hy,wt,ew,w1,w2]:=EC (p:=λy:V=>∃n:Int,y=.int n/\1<=n/\n<=1000000000) (a:=V.int (1+r1)) (b:=.int (1+r2)) (c:=.int (1+r3)) q6 q7 #[_,Z,by omega,by omega] #[_,Z,by omega,by omega] #[_,Z,by omega,by omega];subst ew;apply#[p,_,_,_,Z,Z,.of (bA _ _ e9 pl),hy,?_];let Pq:=BZ.trans bA;have RT:a_ l H HA:=b5.trans Pq;let Eo:=RT _ _ d5 uy;let We:=i_ tu RT lY;apply#[_,Z,lt,Z,#[_,.of Eo],λD2 uG=>?_]
   have P1:D2≠l:=by
    let#[xs,e]:=Ks.some;exact (bu e uG).symm
   apply i9 (own:=1) (fv:=[some (.ref l)]) (xs:=zs) Z fh (λi out H'=>∃us:Xb,a_ l HA H'/\dB H' l/\H' D2\.lst out/\bT K H' out (us.map kT)/\us.Sublist (ts.take i)) #[[],a_.of (aa.new uG),Ks.same (aa.new uG),ay,.nil,List.nil_sublist _] (λi out H' _ ⟨_,b,_⟩=>.of (b _ _ Eo uy)) (λVC HB ⟨us,bB,yT,Hx,Wc,sub⟩=>?_) (λi x out H' hx ⟨us,b,stx,hDx,Qa,sub⟩=>?_);rotate_left 1
   ·let#[t,ht,p,rfl,hp]:=uZ We hx;apply#[_,Z,Z,λNx hN=>?_];apply#[_,Z,l,3,Z,by decide,by decide,stx,λr2 H4 q0 q1 b4 ij=>#[_,_,Z,Z,_,Z,?_]];let#[VF,ku]:=stx.some;let yI:=i_ Qa b4 ku;let iW:=b4 _ _ hDx P1;let#[VM,e1]:=Ks.some;have iq:p≠l:=bK hp e1 nofun;apply cw (λc2=>?_) (λc2=>?_)
    ·let lo:=bw Qa;rw[aq] at lo;let ls:=sub.length_le;rw[dG] at ls;let Eg:=b4 _ _ (b _ _ hp iq) iq;apply#[_,Z,out,iW,by omega,hN _ _ #[us++[t],λb' o e ne=>?_,?_,ay,?_,?_]]
     ·rw[ax (bu e uG)];exact b4 _ _ (b _ _ e ne) ne
     ·unfold dB;rw[ax P1.symm];exact ij
     ·rw[eU];exact Jh (fS_ yI Eg) iW
     rw[pY,ht];exact sub.append (List.Sublist.refl _)
    apply hN _ _ #[us,b.trans b4,ij,iW,yI,sub.trans ?_];rw[pY];exact List.sublist_append_left _ _
   rw[lz,eN] at sub;let Pp:=Pq.trans bB;let R_:=Pp _ _ EW gi.symm;let XA:=Paired.aV QC λy p h=>GJ Pp hX h
   have D2a:D2≠a:=λz=>by
    have:=Pq _ _ EW gi.symm;rw[<- z,uG] at this;cases this
   apply#[_,Z,.inl #[Z,_,.of R_],_,Z,_,Z,_,Z,zl,λlx ku=>?_];let#[sC,eC]:=aD (o:=.lst [.non,.non,.ref D2]) ku;let stC:=yT.same sC
   have DG:lx≠l:=by
    let#[xs,e]:=yT.some;exact (bu e ku).symm
   generalize upd HB lx (.lst [.non,.non,.ref D2])=HC at sC eC stC ⊢;apply#[_,Z,l,3,Z,by decide,by decide,stC,λr5 HD q8 q9 bD Kr=>?_];have FS:a_ l HB HD:=(a_.of sC).trans bD;let V_:=i_ Wc FS (yT.some.choose_spec);let hDD:=FS _ _ Hx P1;let#[v,hv,o,wy,fresh,gw,gs]:=EC (p:=λv:V=>∃o,bU K HD v o/\v≠.ref a/\(∀ws,o\ws->Ff ts ws)/\∀ws,o\ws->∀w∈ws,w∈ts) (a:=V.non) (b:=.non) (c:=.ref D2) q8 q9 #[none,Z,nofun,(λws z=>by cases z),(λws z=>by cases z)] #[none,Z,nofun,(λws z=>by cases z),(λws z=>by cases z)] #[some us,#[D2,VC,Z,hDD,V_],(λz=>D2a (V.ref.inj z)),(λws z=>by cases z;exact _r good nd sub (U5 us)),(λws z w hw=>by cases z;exact sub.subset hw)];apply#[lx,_,_,_,Z,Z,.of (bD _ _ eC DG),hv,zl,λt ht=>?_];let haD:=FS _ _ R_ gi.symm;let#[sE,eE]:=aD (o:=.tup [.str x,.int wt,v]) ht;let Bs:=Paired.aV XA λy p h=>GJ (FS.trans (a_.of sE)) yT h;let Qh:=Kr.same sE;let P7:=wy.same sE;let bE:=(b5.trans Pp).trans (FS.trans (a_.of sE));let BC:=sE _ _ haD;generalize upd HD t (.tup [.str x,.int wt,v])=HE at sE eE Bs Qh P7 bE BC ⊢;apply#[a,_,_,Z,Z,BC,by omega,?_];apply#[_,_,_,_,_,_,ps++[(x,wt,o)],Z,λb' o' e ne=>?_,?_,ay,?_,?_,?_,?_]
   ·rw[ax (bu e ha)];exact bE _ _ e ne
   ·unfold dB;rw[ax gi];exact Qh
   ·exact hU (Paired.aV Bs λy p ⟨t',v,e,Ee,wy,na⟩=>#[t',v,e,by rw[ax (bK Ee BC nofun)];exact Ee,wy.put BC na,na]) (.cons #[t,v,Z,by rw[ax (bK eE BC nofun)];exact eE,P7.put BC fresh,fresh] .nil)
   ·intro q hq;rcases d9.mp hq with hq|hq
    ·exact gp q hq
    rw[eV.mp hq];exact#[#[nx,w1,w2,gw],gs]
   ·rw[eU,List.nodup_append];exact#[rK,by simp,λa1 h1 a2 h2 e=>K3 (by rw[<- (eV.mp h2:a2=x),<- e];exact h1)]
   rw[d_,jZ];omega
  exact#[_,_,_,_,_,ys,ps,Z,b5,hX,EW,QC,gp,rK,by omega]
 rintro σ H3 ⟨v4,v5,v6,v7,v8,ys,ps,rfl,b3,iF,jM,GL,gp,rK,le⟩;exact#[_,Z,k a ys ps H3 b3 iF ha jM (Paired.aV GL λy p ⟨t,v,e,ht,wy,_⟩=>#[t,v,e,ht,wy]) gp rK Z1]
end
end Ev
namespace Ev
open PySem L2
section v
theorem qD:bG oA oA (aX N0):=bR
inductive OC (K:aj) (vs:ai) (H:Hp) (Q:VK) (E:XK):Prop
 |mk:∀(l lh lp:Addr) (yh yp:ai) (hs:Xa) (ps:aN),vs=[.ref l,.ref lh,.ref lp]->dB H l->H lh\.lst yh->bT K H yh (hs.map kH)->lh≠l->1<=hs.length->hs.length<=8->H lp\.lst yp->jo K H yp ps->lp≠l->(ps.map (·.1)).Nodup->ps.length<=8->(∀d f H',a_ l H H'->dB H' l->H d=none->H' d\.dK (dZ (ps.map (·.1)) f)->(∀n∈ps.map (·.1),f n∈hs.map (·.1))->Q (.ref d) H')->OC K vs H Q E
theorem gO_{f:Addr}{fd:Ae}(F:bj K "_law_stand" "_law_stand" N0 f fd)(B:Bi mg)(cD:!bp 1 uM wA yq):!ao aZ 2 f fd oA (OC K):=by
 exists F.bQ qD;let#[l,lh,lp,yh,yp,hs,ps,rfl,st,fY,th,pE,h1,h8,kz,pc,DK,nd,p8,k]:=h;let sz:=cJ;let zG:=bw th;rw[aq] at zG;let DD:=bw pc;refine' #[_,aF (bx (ja (yw Z) (by rfl) B.dict tQ %[iL [tq,jn,gI] 1 [1,0] (dI (pv 2)) (λfp s H=>?g1) (λfp s H=>jr) (λfp s H=>?e1)|0])),?kk]
 case g1=>exact eO (i:=0) (show ([tq,jn,gI]:ae).Nodup by decide +kernel) Z (Or.inl Z)
 case e1=>exact gf %[br (uz (K:=K) jz c_) (pv 0) aC,br (uz (K:=K) jz c_) (br (uz (K:=K) oN fO) (pv 1) (bc cD hr %[2,cO (yk (K:=K) Jr iC) (by rfl) B.len gJ %[1|0]|0])) aC|0]
 let#[JR,lY]:=st.some;apply#[_,Z,lp,Z,#[_,.of kz],λD hD=>?_];have Dl:D≠l:=(bu lY hD).symm;apply i9 (own:=1) (fv:=[some (.ref lh),some (.ref l)]) (xs:=yp) Z fh (λi out H'=>∃hh:ak,a_ l H H'/\dB H' l/\H' D\.lst out/\hh.length=i/\(∀h∈hh,h∈hs.map (·.1))/\jk K H' out ((((ps.map (·.1)).take i).zip (sV hh)).map λp=>(Sum.inr p.1,p.2))) #[[],a_.of (aa.new hD),st.same (aa.new hD),ay,Z,by simp,by simp;exact .nil] (λi out H' _ ⟨_,b,_⟩=>.of (b _ _ kz DK)) (λout H5 ⟨hh,b5,hX,ix,Ll,mem,pa⟩=>?_) (λi y out H' hy ⟨hh,b,stx,cQ,Yr,mem,pa⟩=>?_)
 ·rw[DD] at Ll;have lt:(ps.map (·.1)).take yp.length=ps.map (·.1):=by rw[DD];exact tW Z2
  rw[lt] at pa;have ln:(ps.map (·.1)).length=ps.length:=aq _;rw[Rb nd (by rw[ln];exact Ll)] at pa;apply#[D,out,_,Z,ix,pa,by rw[jV,ln];omega,λd hd=>?_]
  have km:((dZ (ps.map (·.1)) (og (ps.map (·.1)) hh)).map (·.1)).Nodup:=by
   rw[A0,tY,uX];exact nd.imp λn e=>n (hZ e)
  rw[wY km];apply k d (og (ps.map (·.1)) hh) _ (b5.trans (a_.of (aa.new hd))) (hX.same (aa.new hd)) (b5.free hX hd) ay λn hn=>?_;let#[j,hj,e]:=hJ hn;have Ez:j<hh.length:=by rw[Ll,<- ln];exact hj
  rw[BN nd (k:=j) (by rw[aQ hj,e]) (aQ Ez)];exact mem _ (kK Ez)
 have hi:i<yp.length:=(bY.mp hy).1;let#[t,v,e,ht,_]:=dU pc i hi Z1;rw[aQ hi] at hy;cases hy;rw[e];have hp:ps[i]? = some (ps[i]' Z1):=aQ Z1;obtain⟨pz,ep⟩:∃p,p=ps[i]' Z1:=#[_,Z];rw[<- ep] at hp ht;have tl:t≠l:=bK ht lY nofun;apply#[_,Z,Z,λNx hN=>ed ?_];apply#[_,Z,t,_,0,_,Z,Z,.of (b _ _ ht tl),L2.dR (j:=0) Z,_,Z,_,Z,_,Z,lh,_,Z,.inl (.of (b _ _ fY pE)),l,(yh.length:Int),Z,by omega,by omega,stx,λr H2 r0 r1 b2 fL=>?_];let#[r,rfl]:=tX r0;have RJ:r<yh.length:=by omega
 let#[u,eu,hu]:=dU th r RJ (by rw[aq];omega);let bb:=b.trans b2;have hh':(hs.map kH)[r]'(by rw[aq];omega)=kH (hs[r]' Z1):=List.getElem_map ..;rw[hh'] at hu;let zR:=zY (bb _ _ hu (bK hu lY nofun));apply#[lh,_,r,.ref u,Z,Z,.of (bb _ _ fY pE),L2.dR (by rw[aQ RJ,eu]),u,_,0,_,Z,Z,.of zR,L2.dR (j:=0) Z,zl,λz hz=>?_];let#[s3,e3]:=aD (o:=.tup [.str pz.1,.str (hs[r]' Z1).1]) hz;let iF:=fL.same s3;let kD:=s3 _ _ (b2 _ _ cQ Dl);generalize upd H2 z (.tup [.str pz.1,.str (hs[r]' Z1).1])=H3 at s3 e3 iF kD ⊢;let lo:=bw pa;rw[aq,List.length_zip,dG,aq,aq] at lo
 have tD:∀{c xs},H3 c\.tup xs->upd H3 D (.lst (out++[.ref z])) c\.tup xs:=λe=>by
  rw[ax (bK e kD nofun)];exact e
 let#[VF,ku]:=stx.some;apply#[out,kD,by omega,hN _ _ #[hh++[(hs[r]' Z1).1],λc o e ne=>?_,?_,ay,by rw[d_,Yr];rfl,λh hm=>?_,?_]]
 ·rw[ax (bu e hD)];exact s3 _ _ (bb _ _ e ne)
 ·unfold dB;rw[ax Dl.symm];exact iF
 ·rcases d9.mp hm with hm|hm
  ·exact mem h hm
  rw[eV.mp hm];exact bC.mpr #[_,kK Z1,Z]
 have ez:((ps.map (·.1)).take (i+1)).zip (sV (hh++[(hs[r]' Z1).1]))=((ps.map (·.1)).take i).zip (sV hh)++[(pz.1,V.str (hs[r]' Z1).1)]:=by
  rw[tM (n:=pz.1) (by rw[dk,hp];rfl)];show _=_;rw[show sV (hh++[(hs[r]' Z1).1])=sV hh++[V.str (hs[r]' Z1).1] from eU,List.zip_append (by rw[dG,aq,aq];omega)];rfl
 rw[ez,eU];apply hU (Paired.aV pa λy p ⟨c,e,hc⟩=>#[c,e,tD (s3 _ _ (b2 _ _ hc (bK hc ku nofun)))]) (.cons #[z,Z,tD e3] .nil)
theorem OZ:bG [jn,kJ,"_law_spot",yf,"_law_k"] ub (aX NR):=bR
def jG(ss:aN)(s:ak)(h:Str):Int:=ld (fS ss s) (ss.map eZ) h
inductive OA (K:aj) (vs:ai) (H:Hp) (Q:VK) (E:XK):Prop
 |mk:∀(lh lp t:Addr) (yh yp:ai) (hs:Xa) (ss:aN) (s:ak),vs=[.ref lh,.ref lp,.ref t]->H lh\.lst yh->bT K H yh (hs.map kH)->(hs.map (·.1)).Nodup->hs.length<=8->H lp\.lst yp->jo K H yp ss->(ss.map (·.1)).Nodup->ss.length<=8->H t\.tup (sV s)->s.length=ss.length->(∀h∈s,h∈hs.map (·.1))->(∀d H',aa H H'->H d=none->H' d\.dK (dX (hs.map (·.1)) λh=>.int (jG ss s h))->Q (.ref d) H')->OA K vs H Q E
theorem gU_{f:Addr}{fd:Ae}(F:bj K "_law_loads" "_law_loads" NR f fd)(B:Bi mg):!ao aZ 1 f fd ub (OA K):=by
 exists F.bQ OZ;let#[lh,lp,t,yh,yp,hs,ss,s,rfl,fY,th,uC,h8,kz,pc,nd,p8,ht,ls,hY,k]:=h;let hu:=gc hr;let sz:=cJ;let zG:=bw th;rw[aq] at zG;let DD:=bw pc;refine' #[_,aw ?s1 (aw ?s2 (aF ?s3)),?kk]
 case' s1=>refine' bq 3 OZ.nd (ja (yw Z) (by rfl) B.dict tQ %[iL BK 2 [] (dI (pv 0)) (λfp s H=>?g1) (λfp s H=>jr) (λfp s H=>?e1)|0])
 case g1=>exact Bb (n:=2) (dE (eO (i:=0) (show (BK:ae).Nodup by decide +kernel) Z (Or.inl Z)) (dE (eO (i:=1) (show (BK:ae).Nodup by decide +kernel) Z (Or.inl Z)) jc))
 case e1=>exact gf %[0,aC|0]
 case' s2=>refine' eW d8 Z ?i2 ?g2 (aF ?b2)
 case i2=>exact wX (by rfl) B.range %[cO iC (by rfl) B.len gJ %[1|0]|0]
 case g2=>exact cz 4 OZ.nd
 case b2=>exact uQ hu (pv 3) (br c_ (pv 2) (pv 4)) (bN gM (oq hu (pv 3) (br c_ (pv 2) (pv 4))) (br c_ (br fO (pv 1) (pv 4)) aC)) Z
 case s3=>exact bx (pv 3)
 apply#[_,Z,lh,Z,#[_,.of fY],λD hD=>?_];apply i9 (own:=2) (fv:=[]) (xs:=yh) Z we (λi out H'=>aa H H'/\H' D\.lst out/\jk K H' out (dX ((hs.map (·.1)).take i) λ_=>.int 0)) #[aa.new hD,ay,.nil] (λi out H' _ ⟨sm,_,_⟩=>.of (sm _ _ fY)) (λout H5 ⟨sm,ix,pa⟩=>?_) (λi y out H' hy ⟨sm,cQ,pa⟩=>?_);rotate_left 1
 ·let#[h,hh,p,rfl,hp]:=uZ th hy;apply#[_,#[p,_,_,Z,.of (sm _ _ (zY hp)),Z],Z,λNx hN=>ed ?_];apply#[_,Z,zl,λz hz=>?_];let#[s3,e3]:=aD (o:=.tup [.str h.1,.int 0]) hz;generalize upd H' z (.tup [.str h.1,.int 0])=H3 at s3 e3 ⊢;have hi:i<hs.length:=(bY.mp hh).1;let lo:=bw pa;rw[jV,dG,aq] at lo
  have tD:∀{c xs},H3 c\.tup xs->upd H3 D (.lst (out++[.ref z])) c\.tup xs:=λe=>by
   rw[ax (bK e (s3 _ _ cQ) nofun)];exact e
  apply#[out,s3 _ _ cQ,by omega,hN _ _ #[fo (sm.trans s3) hD,ay,?_]];rw[tM (n:=h.1) (by rw[dk,hh];rfl)];show jk K _ _ (((hs.map (·.1)).take i++[h.1]).map _);rw[eU];exact hU (Paired.aV pa λy p ⟨c,e,hc⟩=>#[c,e,tD (s3 _ _ hc)]) (.cons #[z,Z,tD e3] .nil)
 have lt:(hs.map (·.1)).take yh.length=hs.map (·.1):=tW (by rw[aq];omega);rw[lt] at pa;apply#[D,out,_,Z,ix,pa,by rw[jV,aq];omega,λd hd=>?_]
 have km:((dX (hs.map (·.1)) λ_=>V.int 0).map (·.1)).Nodup:=by
  rw[A0,tY,uX];exact uC.imp λn e=>n (hZ e)
 rw[wY km];let#[s6,e6]:=aD (o:=.dK (dX (hs.map (·.1)) λ_=>V.int 0)) hd;have dn:H d=none:=sm.free hd;let iP:=sm.trans s6;generalize upd H5 d (.dK (dX (hs.map (·.1)) λ_=>V.int 0))=H6 at s6 e6 iP ⊢;apply#[_,Z,lp,_,Z,.inl (.of (iP _ _ kz)),_,Z,by show (-(2 ^ 62):Int)<=(yp.length:Int);omega,by show (yp.length:Int)<2 ^ 62;omega,?_]
 let Iv:b_:=λi σ H'=>∃(v4:aJ),σ=[some (.ref lh),some (.ref lp),some (.ref t),some (.ref d),v4]/\aa H H'/\H' d\.dK (dX (hs.map (·.1)) λh=>.int (ld (fS ss s) ((ss.take i).map eZ) h))
 apply A4 (lo:=0) (n:=((yp.length:Nat):Int).toNat) Iv #[none,Z,iP,e6] ?_ ?_
 ·rintro i σ H7 hi ⟨v4,rfl,s7,e7⟩;rw[Int.zero_add];have hi:i<ss.length:=by omega
  let#[u,v,eu,vX,_]:=dU pc i Z1 hi;have He:s[i]? = some (s[i]' Z1):=aQ Z1;obtain⟨h,eh⟩:∃h,h=s[i]' Z1:=#[_,Z];obtain⟨q,eq⟩:∃q,q=ss[i]:=#[_,Z];have hq:ss[i]? = some q:=by rw[eq];exact aQ hi
  rw[<- eh] at He;rw[<- eq] at vX;have hm:h∈hs.map (·.1):=hY h (cX He);have EN:iB (sV s) (i:Int)\.str h:=L2.dR (by rw[dk,He];rfl);let RF:=s7 _ _ ht;have ff:fS ss s q.1=h:=BN nd (k:=i) (by rw[dk,hq];rfl) He;apply#[_,Z,_,Z,_,Z,t,_,i,_,Z,Z,.of RF,EN,d,.int (ld (fS ss s) ((ss.take i).map eZ) h),Z,?_,?_]
  ·have:=eS.k (k:=.inr h) e7;rw[A8 (g:=λh=>V.int (ld (fS ss s) ((ss.take i).map eZ) h)) hm] at this;exact this
  apply#[_,Z,_,Z,lp,_,i,.ref u,Z,Z,.of (s7 _ _ kz),L2.dR (by rw[aQ Z1,eu]),u,_,1,_,Z,Z,.of (s7 _ _ vX),L2.dR (j:=1) Z,_,_,Z,Z,?_];apply#[_,Z,_,Z,_,Z,t,_,i,_,Z,Z,.of RF,EN,d,_,Z,.k (k:=Sum.inr h) e7 (by rw[jV,aq];omega),?_];apply#[_,Z,fo s7 dn,?_];rw[ay,Sw hm];apply d7 (λz=>some (HO.dK z)) (JA λn _=>?_);rw[tS _ hq,Sz];show (if n=h then _ else _)=V.int (if n=fS ss s q.1 then _ else _);rw[ff];by_cases c:n=h
  ·rw[aI c,aI c,c];rfl
  rw[aB c,aB c]
 rintro σ H7 ⟨v4,rfl,s7,e7⟩;have:ss.take ((yp.length:Nat):Int).toNat=ss:=tW Z1;rw[this] at e7;exact#[_,Z,k d H7 s7 dn e7]
end
end Ev
namespace Ev
open PySem L2
structure fq (ts:Xb) (ss qs:aN):Prop where
 qs:qs=ss.map pC
 dr:∀p∈ss,ki ts p
 nd:(ss.map (·.1)).Nodup
theorem fq.vK{ts:Xb}{ss qs:aN}(S:fq ts ss qs):qs.map (·.1)=ss.map (·.1):=by
 rw[S.qs,cj];rfl
theorem fq.ws{ts:Xb}{ss qs:aN}(S:fq ts ss qs):qs.map eZ=ss.map eZ:=by
 rw[S.qs,cj];rfl
theorem fq.wp{ts:Xb}{ss qs:aN}(S:fq ts ss qs):∀q∈qs,0<=q.2.1/\q.2.1<=1000000000:=λq hq=>by
 rw[S.qs] at hq;let#[p,hp,rfl]:=bC.mp hq;let g:=(S.dr p hp).g;let h1:=g.w1;let h2:=g.w2;exact#[by show 0<=p.2.1;omega,h2]
theorem fq.len{ts:Xb}{ss qs:aN}(S:fq ts ss qs):qs.length=ss.length:=by rw[S.qs,aq]
theorem MR{ts:Xb}{ss qs:aN}(S:fq ts ss qs)(s:ak)(h:Str):jG ss s h=ld (fS qs s) (qs.map eZ) h:=by
 unfold jG fS;rw[S.vK,S.ws]
theorem S5{hs:Xa}{ts:Xb}{ss qs:aN}(G:Good hs ts)(S:fq ts ss qs)(s:ak)(l:Int × Int):fN hs qs s l=true ↔ ∀a∈hs,∀b∈hs,¬(l.1 * a.2 * b.2<l.2 * (jG ss s a.1 * b.2 - jG ss s b.1 * a.2)):=by
 rw[SZ];let mo:=AO G
 have one:∀a∈hs,∀b∈hs,(¬(l.1 * a.2 * b.2<l.2 * (jG ss s a.1 * b.2 - jG ss s b.1 * a.2)) ↔ l.2 * (fM hs qs (fS qs s) a.1 - fM hs qs (fS qs s) b.1)<=l.1 * fG hs):=λa ha b hb=>by
  have am:a.1∈aS hs:=(gL hs).mem_iff.mpr (bC.mpr #[a,ha,Z]);have bm:b.1∈aS hs:=(gL hs).mem_iff.mpr (bC.mpr #[b,hb,Z]);have ea:strOf hs a.1=a.2:=Tp G.uC ha;have eb:strOf hs b.1=b.2:=Tp G.uC hb;let sa:=AN G am;let sb:=AN G bm;let ma:=mo.2.2 _ am;let mb:=mo.2.2 _ bm;rw[ea] at sa ma;rw[eb] at sb mb;let alg:=YY (La:=ld (fS qs s) (qs.map eZ) a.1) (Lb:=ld (fS qs s) (qs.map eZ) b.1) ma mb
  have e1:fM hs qs (fS qs s) a.1=ld (fS qs s) (qs.map eZ) a.1 * (fG hs / a.2):=by
   unfold fM;rw[ea]
  have e2:fM hs qs (fS qs s) b.1=ld (fS qs s) (qs.map eZ) b.1 * (fG hs / b.2):=by
   unfold fM;rw[eb]
  rw[MR S,MR S,e1,e2,Int.not_lt];have Vi:0<a.2 * b.2:=Int.mul_pos Z1 Z1
  have k1:l.2 * (ld (fS qs s) (qs.map eZ) a.1 * b.2 - ld (fS qs s) (qs.map eZ) b.1 * a.2) * fG hs=a.2 * b.2 * (l.2 * (ld (fS qs s) (qs.map eZ) a.1 * (fG hs / a.2) - ld (fS qs s) (qs.map eZ) b.1 * (fG hs / b.2))):=by
   rw[Int.mul_assoc,alg]
   grind
  have k2:l.1 * a.2 * b.2 * fG hs=a.2 * b.2 * (l.1 * fG hs):=by grind
  constructor
  ·intro h;have:=Int.mul_le_mul_of_nonneg_right h (iD mo.1);rw[k1,k2] at this;exact Int.le_of_mul_le_mul_left this Vi
  intro h;have:=Int.mul_le_mul_of_nonneg_left h (iD Vi);rw[<- k1,<- k2] at this;exact Int.le_of_mul_le_mul_right this mo.1
 constructor
 ·intro h a ha b hb;exact (one a ha b hb).mpr (h _ ((gL hs).mem_iff.mpr (bC.mpr #[a,ha,Z])) _ ((gL hs).mem_iff.mpr (bC.mpr #[b,hb,Z])))
 intro h x hx y hy;let#[a,ha,rfl]:=bC.mp ((gL hs).mem_iff.mp hx);let#[b,hb,rfl]:=bC.mp ((gL hs).mem_iff.mp hy);exact (one a ha b hb).mp (h a ha b hb)
section v
theorem A5:bG [jn,kJ,"_law_spot","_law_limit_here",yf,"_law_one","_law_strength","_law_other","_law_more","_law_over"] oB (aX lO):=bR
inductive Jq (K:aj) (vs:ai) (H:Hp) (Q:VK) (E:XK):Prop
 |mk:∀(lh lp t lt:Addr) (yh yp:ai) (hs:Xa) (ts:Xb) (ss qs:aN) (s:ak) (l:Int × Int),vs=[.ref lh,.ref lp,.ref t,.ref lt]->H lh\.lst yh->bT K H yh (hs.map kH)->Good hs ts->H lp\.lst yp->jo K H yp ss->fq ts ss qs->ss.length<=8->H t\.tup (sV s)->Vs hs qs s->gO H lt l->pO l->(∀H',aa H H'->Q (.bl (fN hs qs s l)) H')->Jq K vs H Q E
theorem _d{f:Addr}{fd:Ae}(F:bj K "_law_even" "_law_even" lO f fd)(cL:!bp 1 "_law_loads" ub (OA K)):!ao aZ 2 f fd oB (Jq K):=by
 exists F.bQ A5;let#[lh,lp,t,lt,yh,yp,hs,ts,ss,qs,s,l,rfl,fY,th,G,kz,pc,S,s8,ht,v,hl,lo,k]:=h;let hu:=gc hr;let zG:=bw th;rw[aq] at zG;have hY:∀h∈s,h∈hs.map (·.1):=λh hh=>(gL hs).mem_iff.mp (v.hY h hh);refine' #[_,aw ?s1 (aw ?s2 (aF ?s3)),?kk]
 case s1=>exact bq 4 A5.nd (bc cL hr %[0,1,2|0])
 case' s2=>refine' eW d8 Z (dI (pv 0)) ?g2 (aF ?b2)
 case g2=>exact o7 Z (dE (cz 5 A5.nd) (dE (cz 6 A5.nd) jc))
 case' b2=>refine' eW d8 Z (dI (pv 0)) ?g3 (aw ?c1 (aF ?c2))
 case g3=>exact o7 Z (dE (cz 7 A5.nd) (dE (cz 8 A5.nd) jc))
 case c1=>exact bq 9 A5.nd (bN Iz (bN pU (oq hu (pv 4) (pv 5)) (pv 8)) (bN pU (oq hu (pv 4) (pv 7)) (pv 6)))
 case c2=>exact cg (fI Lw (bN pU (br c_ (pv 3) aC) (pv 9)) (bN pU (bN pU (br c_ (pv 3) aC) (pv 6)) (pv 8))) (aF (bx i5)) cq
 case s3=>exact bx i5
 apply#[_,Z,_,Z,_,Z,lh,lp,t,yh,yp,hs,ss,s,Z,fY,th,G.uC,G.h8,kz,pc,S.nd,s8,ht,by rw[v.len,S.len],hY,λd H1 s1 n1 e1=>?_];let Qe:=th.same s1
 have QO:∀n,0<=jG ss s n/\jG ss s n<=64000000000:=λn=>by
  rw[MR S];exact Hv S.wp (by rw[S.len];omega) _ _
 let X:(Str × Int)->(Str × Int)->Prop:=λa b=>l.1 * a.2 * b.2<l.2 * (jG ss s a.1 * b.2 - jG ss s b.1 * a.2)
 let Iv:b_:=λi σ H'=>∃(v5 v6 v7 v8 v9:aJ),σ=[some (.ref lh),some (.ref lp),some (.ref t),some (.ref lt),some (.ref d),v5,v6,v7,v8,v9]/\H'=H1/\∀a∈hs.take i,∀b∈hs,¬X a b
 apply#[_,Z,lh,Z,#[_,.of (s1 _ _ fY)],?_];apply ib (K:=K) (a:=lh) (xs:=yh) Iv ?_ ?_ ?_ ?_
 ·exact#[none,none,none,none,none,Z,Z,by simp]
 ·rintro i σ H' _ ⟨_,_,_,_,_,_,rfl,_⟩;exact .of (s1 _ _ fY)
 ·rintro i y σ H2 hy ⟨v5,v6,v7,v8,v9,rfl,rfl,no⟩;let#[a,ha,p,rfl,hp]:=uZ Qe hy;let am:=cX ha;have an:a.1∈hs.map (·.1):=bC.mpr #[a,am,Z];let ga:=G.aA a am;apply#[p,_,Z,.of (zY hp),Z,_,_,Z,_,_,Z,Z,?_]
  let Iw:b_:=λj σ H'=>∃(v7 v8 v9:aJ),σ=[some (.ref lh),some (.ref lp),some (.ref t),some (.ref lt),some (.ref d),some (.str a.1),some (.int a.2),v7,v8,v9]/\H'=H2/\∀b∈hs.take j,¬X a b
  apply#[_,Z,lh,Z,#[_,.of (s1 _ _ fY)],?_];apply ib (K:=K) (a:=lh) (xs:=yh) Iw ?_ ?_ ?_ ?_
  ·exact#[_,_,_,Z,Z,by simp]
  ·rintro j σ H' _ ⟨_,_,_,_,rfl,_⟩;exact .of (s1 _ _ fY)
  ·rintro j y σ H3 hy ⟨v7,v8,v9,rfl,rfl,GN⟩;let#[b,hb,q,rfl,hq]:=uZ Qe hy;let bm:=cX hb;have bn:b.1∈hs.map (·.1):=bC.mpr #[b,bm,Z];let gb:=G.aA b bm;let la:=QO a.1;let lb:=QO b.1;let ga1:=ga.2.1;let ga2:=ga.2.2;let gb1:=gb.2.1;let gb2:=gb.2.2
   have dg:∀{n},n∈hs.map (·.1)->eS H3 d (.str n) (some (.int (jG ss s n))):=λ{n} hn=>by
    have:=eS.k (k:=.inr n) e1;rw[A8 (g:=λh=>V.int (jG ss s h)) hn] at this;exact this
   apply#[q,_,Z,.of (zY hq),Z,_,_,Z,_,_,Z,Z,?_];apply#[_,Z,_,Z,d,_,Z,dg an,_,Z,_,_,Z,Z,.inr #[by omega,by omega],_,Z,_,Z,d,_,Z,dg bn,_,Z,_,_,Z,Z,.inr #[by omega,by omega],_,_,Z,Z,?_];have m1:0<=jG ss s a.1 * b.2/\jG ss s a.1 * b.2<=64000000000 * 1000:=#[Int.mul_nonneg la.1 Z1,Int.mul_le_mul la.2 gb2 Z1 (by decide)];have m2:0<=jG ss s b.1 * a.2/\jG ss s b.1 * a.2<=64000000000 * 1000:=#[Int.mul_nonneg lb.1 Z1,Int.mul_le_mul lb.2 ga2 Z1 (by decide)];apply#[_,Z,lt,_,1,_,Z,Z,.of (s1 _ _ hl),L2.dR (j:=1) Z,_,Z,_,_,Z,Z,.inr #[by omega,by omega],?_];apply#[_,Z,lt,_,0,_,Z,Z,.of (s1 _ _ hl),L2.dR (j:=0) Z,_,Z,_,_,Z,Z,.inr #[by omega,by omega],_,Z,_,_,Z,Z,.inr #[by omega,by omega],_,_,Z,Z,_,Z,?_];apply cw (λc=>?_) (λc=>?_)
   ·have hx:X a b:=tF c;let kk:=k H3 s1
    have:fN hs qs s l=false:=by
     rw[<- Bool.not_eq_true,S5 G S];exact λh=>h a am b bm hx
    rw[this] at kk;exact kk
   have hx:¬X a b:=λh=>absurd h (Int.not_lt.mpr ⇑c);apply#[_,_,_,Z,Z,λz hz=>?_];rw[u4,hb] at hz;rcases d9.mp hz with hz|hz
   ·exact GN z hz
   have:z=b:=⇑hz
   rw[this];exact hx
  rintro σ H3 ⟨v7,v8,v9,rfl,rfl,GN⟩;rw[zG,eN] at GN;apply#[_,_,_,_,_,Z,Z,λz hz=>?_];rw[u4,ha] at hz;rcases d9.mp hz with hz|hz
  ·exact no z hz
  have:z=a:=⇑hz
  rw[this];exact GN
 rintro σ H2 ⟨v5,v6,v7,v8,v9,rfl,rfl,no⟩;rw[zG,eN] at no;let kk:=k H2 s1;rw[(S5 G S s l).mpr no] at kk;exact kk
end
end Ev
namespace L2
open PySem PySem.Spec PyProof.Rows PySem.W mG dM
def KM(K:aj){D:Type}[DecidableEq D](R:Rp D)(neg:Bool):V->V->Hp->VK->Prop:=λx y H Q=>∃(d:D) (es:List D) (a:Addr) (ys:ai),R H x d/\y=.ref a/\ft K H a ys/\Paired (R H) ys es/\Q (.bl (if neg then !decide (d∈es) else decide (d∈es))) H
theorem YK{X:Cx}{n:Nat}{D:Type}[DecidableEq D]{R:Rp D}(c:uj X n R)(hu:X.A.units+n+1<cLine):dJ X (compareOp .In) (KM X.K R false):=by
 intro pins s σ H x y v u Q I rx ry h;let#[d,es,a,ys,hx,rfl,t,q,hq]:=h;cases ry;let#[us,r,pl,_]:=I.tuple t;let#[f,h1,h2]:=MZ c I (A:=X.A.in1) rx hx (by show X.A.units+1+n<cLine;omega) r q;apply SeqAt.in_tupleAt f (Bd pl) (λw hw=>h1 w ⇑hw) #[.bl _,H,I,Z,?_];rw[show us.toArray.any f=us.any f by simp,h2];exact hq
end L2
namespace Ev
open PySem L2
def iG(t:Str × Str)(h:Str):Str:=if t.1=h then t.2 else t.1
theorem NQ{ts:Xb}{a b:Str}:aH a b∈bM ts ↔ (a,b)∈ts∨(b,a)∈ts:=by
 rw[I0];constructor
 ·rintro⟨⟨x,y⟩,ht,e⟩;rcases Rt (a:=x) (b:=y) (c:=a) (d:=b) (by show kT (aH x y)=kT (aH a b);rw[<- e]) with⟨rfl,rfl⟩|⟨rfl,rfl⟩
  ·exact .inl ht
  exact .inr ht
 rintro (h|h)
 ·exact#[_,h,Z]
 exact#[_,h,OJ _ _]
def gB(ts:Xb)(p:Pc):Xb:=p.2.2.getD ts
theorem ZI{ws:Xb}(g:∀t∈ws,wI t){h h':Str}:(∃t∈ws,(h=t.1∨h=t.2)/\h'=iG t h) ↔ (h,h')∈ws∨(h',h)∈ws:=by
 constructor
 ·rintro⟨⟨x,y⟩,ht,e,rfl⟩;let ne:=(g _ ht).2.2;rcases e with rfl|rfl
  ·left
   rw[show iG (h,y) h=y from aI Z];exact ht
  right
  rw[show iG (x,h) h=x from aB ne];exact ht
 rintro (ht|ht)
 ·exact#[_,ht,.inl Z,(aI Z).symm]
 exact#[_,ht,.inr Z,(aB (g _ ht).2.2).symm]
theorem Zb{hs:Xa}{ts:Xb}(G:Good hs ts){p:Pc}(d:ki ts p){h h':Str}(hm:h∈aS hs):h'∈sY hs ts (pC p) h ↔ ∃t∈gB ts p,(h=t.1∨h=t.2)/\h'=iG t h:=by
 have gw:∀t∈gB ts p,t∈ts:=λt ht=>by
  unfold gB at ht;cases e:p.2.2 with
  |none=>
   rw[e] at ht;exact ht
  |some ws=>
   rw[e] at ht;exact d.sub ws e t ht
 rw[ZI λt ht=>G.tok t (gw t ht)]
 have jD:∀{o},o∈near (aS hs) (bM ts) h ↔ (h,o)∈ts∨(o,h)∈ts:=λ{o}=>by
  unfold near;rw[jY,decide_eq_true_iff,NQ];apply#[λz=>z.2,λz=>#[?_,z]];rcases z with z|z
  ·exact (gL hs).mem_iff.mpr (G.uq _ z).2
  exact (gL hs).mem_iff.mpr (G.uq _ z).1
 unfold sY;rw[jY,jD];let lZ:=(gL hs).mem_iff.mp hm;constructor
 ·rintro⟨h1,h2⟩;cases e:p.2.2 with
  |none=>
   unfold gB;rw[e];exact h1
  |some ws=>
   have e2:(pC p).2.2\bM ws:=by
    show p.2.2.map bM=_;rw[e];rfl
   rw[e2] at h2;let h3:=(Bool.and_eq_true_iff.mp h2).2;have h4:aH h h'∈bM ws:=tF h3;unfold gB;rw[e];exact NQ.mp h4
 intro z;have zt:(h,h')∈ts∨(h',h)∈ts:=z.imp (gw _) (gw _);apply#[zt,?_]
 have L_:h'∈hs.map (·.1):=by
  rcases zt with y|y
  ·exact (G.uq _ y).2
  exact (G.uq _ y).1
 have td:BG hs ts (some h) (some h')=true:=by
  show (decide _&&(decide _&&decide _))=true;rw[dc lZ,dc L_,dc (jD.mpr zt)];rfl
 unfold BD;rw[td,Bool.true_and];cases e:p.2.2 with
 |none=>
  have e2:(pC p).2.2=none:=by
   show p.2.2.map bM=_;rw[e];rfl
  rw[e2]
 |some ws=>
  have e2:(pC p).2.2\bM ws:=by
   show p.2.2.map bM=_;rw[e];rfl
  rw[e2];unfold gB at z;rw[e] at z;exact dc (NQ.mpr z)
abbrev Me:=(Str × Str × Str) × ak
def AH(H:Hp):ai->List Me->Prop:=Paired λy e=>∃t m u,y=.ref t/\H t\.tup [.ref m,.ref u]/\H m\.tup [.str e.1.1,.str e.1.2.1,.str e.1.2.2]/\H u\.tup (sV e.2)
theorem AH.keep{H H':Hp}{ys:ai}{L:List Me}(h:AH H ys L)(k:∀b xs,H b\.tup xs->H' b\.tup xs):AH H' ys L:=Paired.aV h λy e ⟨t,m,u,e1,e2,e3,e4⟩=>#[t,m,u,e1,k _ _ e2,k _ _ e3,k _ _ e4]
def PQ(hs:Xa)(ts:Xb)(qs:aN)(s:ak)(i:Nat)(e:Me):Prop:=∃(k:Nat) (q:Pc) (h h':Str),k<i/\qs[k]? = some q/\s[k]? = some h/\h'∈sY hs ts q h/\e=((q.1,h,h'),s.set k h')
theorem ZF{hs:Xa}{ts:Xb}{qs:aN}{s:ak}{e:Me}:PQ hs ts qs s qs.length e ↔ Mv hs ts qs s e.2 e.1:=by
 constructor
 ·rintro⟨k,q,h,h',_,h1,h2,h3,rfl⟩;exact#[k,q,h,h',h1,h2,h3,Z,Z]
 rintro⟨k,q,h,h',h1,h2,h3,h4,h5⟩;exact#[k,q,h,h',(bY.mp h1).1,h1,h2,h3,Prod.ext h5 h4]
section v
theorem wN:bG [kJ,uO,"_law_spot",yf,"_law_k","_law_name_here","_law_weight","_law_ways","_law_tie","_law_other","_law_later"] oz (aX N_):=bR
inductive Jk (K:aj) (vs:ai) (H:Hp) (Q:VK) (E:XK):Prop
 |mk:∀(lp lt t:Addr) (yp zs:ai) (hs:Xa) (ts:Xb) (ss qs:aN) (s:ak),vs=[.ref lp,.ref lt,.ref t]->H lp\.lst yp->jo K H yp ss->H lt\.lst zs->bT K H zs (ts.map kT)->Good hs ts->fq ts ss qs->ss.length<=8->H t\.tup (sV s)->Vs hs qs s->(∀l ys L H',aa H H'->H l=none->H' l\.lst ys->AH H' ys L->(∀e,e∈L ↔ Mv hs ts qs s e.2 e.1)->L.length<=512->Q (.ref l) H')->Jk K vs H Q E
theorem gH_{f:Addr}{fd:Ae}(F:bj K "_law_moves" "_law_moves" N_ f fd)(B:Bi mg):!ao aZ 1 f fd oz (Jk K):=by
 exists F.bQ wN;let#[lp,lt,t,yp,zs,hs,ts,ss,qs,s,rfl,kz,pc,d5,tu,G,S,s8,ht,v,k]:=h;let sz:=cJ;let DD:=bw pc;let vl:=v.len;let sl:=S.len;let xp:=G.xp;let lz:=bw tu;rw[aq] at lz;refine' #[_,aw ?s1 (aw ?s2 (aF ?s3)),?kk]
 case s1=>exact bq 3 wN.nd (fQ bP)
 case' s2=>refine' eW d8 Z ?i2 ?g2 (aw ?b1 (aF ?b2))
 case i2=>exact wX (by rfl) B.range %[cO iC (by rfl) B.len gJ %[0|0]|0]
 case g2=>exact cz 4 wN.nd
 case b1=>exact IC (br fO (pv 0) (pv 4)) (o7 Z (dE (cz 5 wN.nd) (dE (cz 6 wN.nd) (dE (cz 7 wN.nd) jc))))
 case' b2=>refine' eW d8 Z (dI (br fO (fQ %[7,1|0]) (ja Uq (by rfl) B.int ML %[wQ RA (pv 7) uS|0]))) ?g3 (aF ?b3)
 case g3=>exact cz 8 wN.nd
 case' b3=>refine' cg (fI (YK g_ (oj hr 0)) (br c_ (pv 2) (pv 4)) (pv 8) (by with_unfolding_all rfl)) (aw ?c1 (aw ?c2 (aF ?c3))) cq
 case c1=>exact bq 9 wN.nd (br fO (fQ %[br c_ (pv 8) aC,br c_ (pv 8) aC|0]) (ja Uq (by rfl) B.int ML %[wQ G_ (br c_ (pv 8) aC) (br c_ (pv 2) (pv 4))|0]))
 case c2=>exact bq 10 wN.nd (bN IS (bN IS (A3 IA (pv 2) Ba (A9 (pv 4))) (gf %[9|0])) (A3 IA (pv 2) (A9 (bN gM (pv 4) aC)) Ba))
 case c3=>exact mB (pM o9 wF wG uW (pv 3) %[gf %[gf %[5,br c_ (pv 2) (pv 4),9|0],10|0]|0])
 case s3=>exact bx (pv 3)
 apply#[zl,λl hl=>?_];let#[s1,e1]:=aD (o:=.lst []) hl;generalize upd H l (.lst [])=H1 at s1 e1 ⊢;apply#[_,Z,lp,_,Z,.inl (.of (s1 _ _ kz)),_,Z,by show (-(2 ^ 62):Int)<=(yp.length:Int);omega,by show (yp.length:Int)<2 ^ 62;omega,?_]
 let Iv:b_:=λi σ H'=>∃(v4 v5 v6 v7 v8 v9 v10:aJ) (ys:ai) (L:List Me),σ=[some (.ref lp),some (.ref lt),some (.ref t),some (.ref l),v4,v5,v6,v7,v8,v9,v10]/\aa H H'/\H' l\.lst ys/\AH H' ys L/\(∀e,e∈L ↔ PQ hs ts qs s i e)/\L.length<=64 * i
 apply A4 (lo:=0) (n:=((yp.length:Nat):Int).toNat) Iv ?_ ?_ ?_
 ·exact#[none,none,none,none,none,none,none,[],[],Z,s1,e1,.nil,λe=>#[λz=>absurd z fX,λ⟨_,_,_,_,z,_⟩=>absurd z (Nat.not_lt_zero _)],gR _]
 ·rintro i σ H2 hi ⟨v4,v5,v6,v7,v8,v9,v10,ys,L,rfl,s2,e2,me,mem,len⟩;have hi:i<yp.length:=by omega
  let#[tp,wv,ep,hp,wy]:=dU pc i hi Z1;have LN:ss[i]? = some (ss[i]' Z1):=aQ Z1;obtain⟨p,epp⟩:∃p,p=ss[i]' Z1:=#[_,Z];rw[<- epp] at hp wy LN;have hq:qs[i]? = some (pC p):=by rw[S.qs,dk,LN];rfl
  have RH:i<s.length:=by omega
  obtain⟨h,eh⟩:∃h,h=s[i]:=#[_,Z];have hh:s[i]? = some h:=by rw[aQ RH,eh]
  have hV:(sV s)[i]? = some (.str h):=by rw[dk,hh];rfl
  let hm:=v.hY h (cX hh);let dp:=S.dr p (cX LN);let ex:=λ{h'}=>Zb G dp (h':=h') hm;rw[show (0:Int)+(i:Nat)=(i:Int) by omega];apply#[_,Z,_,Z,lp,_,i,_,Z,Z,.of (s2 _ _ kz),L2.dR (by rw[aQ hi,ep]),?_];apply#[tp,_,Z,.of (s2 _ _ hp),Z,_,_,Z,_,_,Z,_,_,Z,Z,?_]
  obtain⟨la,Ca,j,hj,gi,tl,G4⟩:∃(la:Addr) (Ca:ai) (j:Nat),(if decide (wv=V.non)=true then (1:Int) else 0)=(j:Int)/\[wv,V.ref lt][j]? = some (.ref la)/\(H la\.lst Ca/\bT K H Ca ((gB ts p).map kT))/\(gB ts p).length<64:=by
   unfold gB;cases e:p.2.2 with
   |none=>
    rw[e] at wy;have wy:wv=.non:=wy;subst wy;exact#[lt,zs,1,Z,Z,#[d5,tu],xp]
   |some ws=>
    rw[e] at wy;let#[a,ys,rfl,ha,ta]:=wy;let wl:=(dp.g.ws ws e).len;exact#[a,ys,0,Z,Z,#[ha,ta],by show ws.length<64;omega]
  let#[Er,tl]:=tl;apply#[_,Z,_,Z,zl,λlx ku=>?_];let#[s3,e3]:=aD (o:=.lst [wv,.ref lt]) ku;let fg:=s2.trans s3;let uI:=s3 _ _ e2;let Dv:=me.keep λb xs e=>s3 _ _ e;generalize upd H2 lx (.lst [wv,.ref lt])=H3 at s3 e3 fg uI Dv ⊢;apply#[_,Z,Z,.inr #[_,Z,?_]];rw[hj];apply#[lx,_,j,_,Z,Z,.of e3,L2.dR gi,la,Z,#[_,.of (fg _ _ Er)],?_];let zF:=bw tl;rw[aq] at zF
  let Iw:b_:=λj σ H'=>∃(v8 v9 v10:aJ) (ys:ai) (L:List Me),σ=[some (.ref lp),some (.ref lt),some (.ref t),some (.ref l),some (.int i),some (.str p.1),some (.int p.2.1),some wv,v8,v9,v10]/\aa H H'/\H' l\.lst ys/\AH H' ys L/\(∀e,e∈L ↔ PQ hs ts qs s i e∨∃u∈(gB ts p).take j,(h=u.1∨h=u.2)/\e=((p.1,h,iG u h),s.set i (iG u h)))/\L.length<=64 * i+j
  apply ib (K:=K) (a:=la) (xs:=Ca) Iw ?_ ?_ ?_ ?_
  ·exact#[_,_,_,ys,L,Z,fg,uI,Dv,λe=>(mem e).trans #[.inl,λz=>z.elim id λ⟨_,z,_⟩=>absurd z fX],by omega]
  ·rintro j σ H' _ ⟨_,_,_,_,_,_,sm,_⟩;exact .of (sm _ _ Er)
  ·rintro j y σ H4 hy ⟨v8,v9,v10,ys,L,rfl,s4,iI,Du,fE,lV⟩;let#[u,hu,c,rfl,hc]:=uZ tl hy;have Ht:H4 c\.tup [.str u.1,.str u.2]:=s4 _ _ hc;let pG:=s4 _ _ ht;have Ez:j<Ca.length:=(bY.mp hy).1;let vN:=bw Du
   have tk:∀z,z∈(gB ts p).take (j+1) ↔ z∈(gB ts p).take j∨z=u:=λz=>by
    rw[u4,hu];simp
   apply#[_,Z,_,Z,t,_,i,_,Z,Z,.of pG,L2.dR hV,_,Z,h,[u.1,u.2],c,_,Z,Z,.of Ht,.cons Z (.cons Z .nil),_,Z,?_];apply cw (λcd=>?_) (λcd=>?_)
   ·have lZ:h=u.1∨h=u.2:=⇑cd
    have ho:[V.str u.1,V.str u.2][(if u.1=h then 1 else 0:Nat)]? = some (.str (iG u h)):=by
     unfold iG;by_cases z:u.1=h
     ·rw[aI z,aI z];rfl
     rw[aB z,aB z];rfl
    have hz:(if decide (V.str u.1=V.str h)=true then (1:Int) else 0)=((if u.1=h then 1 else 0:Nat):Int):=by
     by_cases z:u.1=h
     ·rw[aI z,z];simp
     rw[aB z,aB (by intro y;exact z (V.str.inj (tF y)))];rfl
    apply#[_,Z,c,_,0,_,Z,Z,.of Ht,L2.dR (j:=0) Z,_,Z,c,_,1,_,Z,Z,.of Ht,L2.dR (j:=1) Z,zl,λlo RQ=>?_];let#[sA,eA]:=aD (o:=.lst [.str u.1,.str u.2]) RQ;generalize upd H4 lo (.lst [.str u.1,.str u.2])=HA at sA eA ⊢;apply#[_,Z,c,_,0,_,Z,Z,.of (sA _ _ Ht),L2.dR (j:=0) Z,_,Z,_,Z,t,_,i,_,Z,Z,.of (sA _ _ pG),L2.dR hV,Z,.inr #[_,Z,?_]];rw[hz];apply#[lo,_,_,_,Z,Z,.of eA,L2.dR ho,?_];let RE:=sA _ _ pG;apply#[_,Z,_,Z,_,Z,t,_,Z,.of RE,?_,λp1 xR=>?_]
    ·rw[HT.eD,HT.dW,aq];omega
    rw[TZ];let#[s5,e5]:=aD (o:=.tup ((sV s).take i)) xR;generalize upd HA p1 (.tup ((sV s).take i))=H5 at s5 e5 ⊢;apply#[_,Z,zl,λp2 kq=>?_];let#[s6,e6]:=aD (o:=.tup [.str (iG u h)]) kq;generalize upd H5 p2 (.tup [.str (iG u h)])=H6 at s6 e6 ⊢;apply#[p1,p2,_,_,Z,Z,s6 _ _ e5,e6,by rw[dG,aq,jZ];omega,λp3 H7 s7 e7=>?_];let Qo:=(s5.trans s6).trans s7;apply#[_,Z,_,Z,_,_,Z,Z,_,Z,t,_,Z,.of (Qo _ _ RE),?_,λp4 Eg=>?_]
    ·rw[show ((i:Int)+1)=((i+1:Nat):Int) by omega,HT.dW,aq];omega
    rw[show ((i:Int)+1)=((i+1:Nat):Int) by omega,OI];let#[pA,e8]:=aD (o:=.tup ((sV s).drop (i+1))) Eg;generalize upd H7 p4 (.tup ((sV s).drop (i+1)))=H8 at pA e8 ⊢;apply#[p3,p4,_,_,Z,Z,pA _ _ e7,e8,by rw[d_,dG,aq,jZ,yz,aq];omega,λp5 H9 s9 e9=>?_];rw[T3 RH] at e9;let zq:=sA.trans ((Qo.trans pA).trans s9);let AE:=zq _ _ iI;apply#[_,Z,.inl #[Z,_,.of AE],_,Z,_,Z,_,Z,t,_,i,_,Z,Z,.of (zq _ _ pG),L2.dR hV,_,Z,zl,λm se=>?_];let#[sB,eB]:=aD (o:=.tup [.str p.1,.str h,.str (iG u h)]) se;generalize upd H9 m (.tup [.str p.1,.str h,.str (iG u h)])=HB at sB eB ⊢;apply#[_,Z,zl,λx hx=>?_];let#[sC,eC]:=aD (o:=.tup [.ref m,.ref p5]) hx;generalize upd HB x (.tup [.ref m,.ref p5])=HC at sC eC ⊢;let zp:=sB.trans sC;let KF:=zq.trans zp;let S_:=KF _ _ iI;apply#[l,_,_,Z,Z,S_,by omega,?_]
    have kt:∀b xs,HC b\.tup xs->upd HC l (.lst (ys++[.ref x])) b\.tup xs:=λb xs e=>by
     rw[ax (bK e S_ nofun)];exact e
    apply#[_,_,_,_,L++[((p.1,h,iG u h),s.set i (iG u h))],Z,fo (s4.trans KF) hl,ay,hU ((Du.keep λb xs e=>KF _ _ e).keep kt) (.cons #[x,m,p5,Z,kt _ _ eC,kt _ _ (sC _ _ eB),kt _ _ (zp _ _ e9)] .nil),λe=>?_,by rw[d_,jZ];omega];rw[d9,fE,eV];constructor
    ·rintro ((z|⟨z,DY,r⟩)|z)
     ·exact .inl z
     ·exact .inr #[z,(tk z).mpr (.inl DY),r]
     exact .inr #[u,(tk u).mpr (.inr Z),lZ,z]
    rintro (z|⟨z,DY,r⟩)
    ·exact .inl (.inl z)
    rcases (tk z).mp DY with DY|rfl
    ·exact .inl (.inr #[z,DY,r])
    exact .inr r.2
   have kr:¬(h=u.1∨h=u.2):=⇑cd
   apply#[_,_,_,ys,L,Z,s4,iI,Du,λe=>(fE e).trans #[λz=>z.imp id λ⟨x,hx,r⟩=>#[x,(tk x).mpr (.inl hx),r],λz=>z.imp id λ⟨x,hx,r⟩=>?_],by omega];rcases (tk x).mp hx with hx|rfl
   ·exact#[x,hx,r]
   exact absurd r.1 kr
  rintro σ H4 ⟨v8,v9,v10,ys,L,rfl,s4,iI,Du,fE,lV⟩;apply#[_,_,_,_,_,_,_,ys,L,Z,s4,iI,Du,λe=>(fE e).trans ?_,by omega];rw[zF,eN];constructor
  ·rintro (⟨k',q',h1,h2,z1,z2⟩|⟨x,hx,r,rfl⟩)
   ·exact#[k',q',h1,h2,by omega,z2]
   exact#[i,_,h,_,by omega,hq,hh,ex.mpr #[x,hx,r,Z],Z]
  rintro⟨k',q',h1,h2,z1,z2,z3,z4,z5⟩;by_cases ck:k'=i
  ·subst ck;rw[hq] at z2;cases cY z2;rw[hh] at z3;cases cY z3;let#[x,hx,r,rfl]:=ex.mp z4;exact .inr #[x,hx,r,z5]
  exact .inl #[k',q',h1,h2,by omega,z2,z3,z4,z5]
 rintro σ H2 ⟨v4,v5,v6,v7,v8,v9,v10,ys,L,rfl,s2,e2,me,mem,len⟩;have:((yp.length:Nat):Int).toNat=qs.length:=by omega
 rw[this] at mem len;exact#[_,Z,k l ys L H2 s2 hl e2 me (λe=>(mem e).trans ZF) Z1]
end
end Ev
namespace Ev
open PySem L2
theorem hS_{α:Type}{xs:List α}(h:0<xs.length):iB xs (-1)=xs[xs.length - 1]?:=by
 unfold iB vR;rw[aB (by decide),aI Z1];show xs[((xs.length:Int) + -1).toNat]? = _;congr 1;omega
def kn(ks:List ak):List (av × V):=ks.map λs=>(sK s,.bl true)
theorem Sq(ks:List ak):(kn ks).map (·.1)=ks.map sK:=by
 unfold kn;rw[cj];rfl
theorem SD{ks:List ak}{s:ak}(hs:s∉ks):a9 (kn ks) (sK s)=none:=u0 (by
 rw[Sq];intro hm;let#[x,hx,e]:=bC.mp hm;rw[<- MG e] at hs;exact hs hx)
theorem ZH(ks:List ak)(s:ak):(a9 (kn ks) (sK s)).isSome=decide (s∈ks):=by
 by_cases c:s∈ks
 ·rw[dc c];exact Jx (by rw[Sq];exact bC.mpr #[s,c,Z])
 rw[eG c,SD c];rfl
theorem YM{ks:List ak}{s:ak}(hs:s∉ks):putK (kn ks) (sK s) (.bl true)=kn (ks++[s]):=by
 rw[wV (SD hs)];unfold kn;rw[eU];rfl
theorem wL{K:aj}{H H':Hp}{ys:ai}{ps:aN}(h:jo K H ys ps)(s:aa H H'):jo K H' ys ps:=Paired.aV h λy p ⟨t,v,e,ht,wy⟩=>#[t,v,e,s _ _ ht,wy.same s]
def gq(H:Hp):ai->List (List ak)->Prop:=Paired λy L=>∃a zs,y=.ref a/\H a\.lst zs/\iy H zs L
theorem gq.keep{H H':Hp}:∀{ys:ai} {LL:List (List ak)},gq H ys LL->(∀a,V.ref a∈ys->∀xs,H a\.lst xs->H' a\.lst xs)->(∀b xs,H b\.tup xs->H' b\.tup xs)->gq H' ys LL
 |_,_,.nil,_,_=>.nil
 |_,_,.cons ⟨a,zs,e,h1,h2⟩ t,kl,kt=>.cons #[a,zs,e,kl a (by rw[e];exact gd) _ h1,h2.keep kt] (gq.keep t (λa m=>kl a (fP _ m)) kt)
theorem gq.same{H H':Hp}{ys:ai}{LL:List (List ak)}(h:gq H ys LL)(s:aa H H'):gq H' ys LL:=h.keep (λ_ _ _ e=>s _ _ e) λ_ _ e=>s _ _ e
structure gn (N:ak->ak->Prop) (s0:ak) (LL:List (List ak)):Prop where
 is:∀(j:Nat) L,LL[j]? = some L->L.Nodup/\∀s,s∈L ↔ Ds N s0 j s
 last:∃n,LL.length=n+1/\LL[n]? = some []
 ne:∀(j:Nat) L,j+1<LL.length->LL[j]? = some L->L≠[]
theorem gn.mem{N:ak->ak->Prop}{s0:ak}{LL:List (List ak)}(h:gn N s0 LL){j:Nat}{s:ak}(d:Ds N s0 j s):∃L,LL[j]? = some L/\s∈L:=by
 let#[n,hn,hl]:=h.last
 have hj:j<n:=by
  by_cases c:j<n
  ·exact c
  let#[t,ht]:=d.down n Z1;exact absurd (((h.is n _ hl).2 t).mpr ht) fX
 have hx:LL[j]? = some (LL[j]' Z1):=aQ Z1;exact#[_,hx,((h.is j _ hx).2 s).mpr d]
theorem gn.flat{N:ak->ak->Prop}{s0:ak}{LL:List (List ak)}(h:gn N s0 LL):LL.flatten.Nodup:=by
 rw[tY,List.pairwise_flatten];apply#[λL hL=>?_,?_]
 ·let#[j,hj,e]:=hJ hL;exact tY.mp (h.is j L (by rw[aQ hj,e])).1
 rw[List.pairwise_iff_getElem];intro i j hi hj lt;intro s h1 t h2 e;subst e;let d1:=((h.is i _ (aQ hi)).2 s).mp h1;let d2:=((h.is j _ (aQ hj)).2 s).mp h2;have:=d1.inj d2;omega
theorem gn.all{N:ak->ak->Prop}{s0:ak}{LL:List (List ak)}(h:gn N s0 LL)(s:ak):s∈LL.flatten ↔ ∃j,Wk N s0 j s:=by
 rw[List.mem_flatten];constructor
 ·rintro⟨L,hL,hs⟩;let#[j,hj,e]:=hJ hL;exact#[j,(((h.is j L (by rw[aQ hj,e])).2 s).mp hs).1]
 rintro⟨j,w⟩;let#[i,_,d]:=w.ds;let#[L,hL,hs]:=h.mem d;exact#[L,cX hL,hs]
theorem gn.vH{N:ak->ak->Prop}{s0:ak}{LL:List (List ak)}(h:gn N s0 LL){m:Nat}(hm:LL.flatten.length<=m):¬More N s0 m:=λ⟨l,nd,al,lt⟩=>by
 have:=List.Nodup.length_le_of_subset nd λs hs=>(h.all s).mpr (al s hs);omega
section v
theorem Bc:bG [kJ,uO,"_law_spot","_law_most","_law_known","_law_layers_here","_law_layer","_law_one","_law_move","_law_later"] ud (aX N4):=bR
inductive ND (K:aj) (vs:ai) (H:Hp) (Q:VK) (E:XK):Prop
 |mk:∀(lp lt t:Addr) (m:Nat) (yp zs:ai) (hs:Xa) (ts:Xb) (ss qs:aN) (s:ak),vs=[.ref lp,.ref lt,.ref t,.int m]->H lp\.lst yp->jo K H yp ss->H lt\.lst zs->bT K H zs (ts.map kT)->Good hs ts->fq ts ss qs->ss.length<=8->H t\.tup (sV s)->Vs hs qs s->(aS hs).length ^ qs.length<=m->m<=1000000->(∀l ys LL H',aa H H'->H l=none->H' l\.lst ys->gq H' ys LL->(∀b,V.ref b∈ys->H b=none)->gn (Nx hs ts qs) s LL->LL.flatten.length<=m->Q (.ref l) H')->ND K vs H Q E
theorem fQ_{f:Addr}{fd:Ae}(F:bj K "_law_layers" "_law_layers" N4 f fd)(B:Bi mg)(cM:!bp 1 "_law_moves" oz (Jk K)):!ao aZ 2 f fd ud (ND K):=by
 exists F.bQ Bc;let#[lp,lt,t,m,yp,zs,hs,ts,ss,qs,s,rfl,kz,pc,d5,tu,G,S,s8,ht,v,bm,m6,k]:=h;let hu:=gc hr;let sz:=cJ;refine' #[_,aw ?s1 (aw ?s2 (aw ?s3 (aF ?s4))),?kk]
 case s1=>exact bq 4 Bc.nd (Tz hu (pv 2) i5)
 case s2=>exact bq 5 Bc.nd (fQ %[fQ %[2|0]|0])
 case' s3=>refine' Jl d8 (PW.pt (Rw ?w1 (SW ?w2))) (aw ?b1 (aw ?b2 (aF ?b3)))
 case w1=>exact fI (N5 (oj hr 0)) (br fO (pv 5) (Lx MN aC)) (fQ bP)
 case w2=>exact fI x_ (cO Uk (by rfl) B.len gJ %[4|0]) (pv 3)
 case b1=>exact bq 6 Bc.nd (fQ bP)
 case' b2=>refine' eW d8 Z (dI (br fO (pv 5) (Lx MN aC))) ?g2 (aF ?c1)
 case g2=>exact cz 7 Bc.nd
 case' c1=>refine' eW d8 Z (dI (bc cM hr %[0,1,7|0])) ?g3 (aF ?c2)
 case g3=>exact o7 Z (dE (cz 8 Bc.nd) (dE (cz 9 Bc.nd) jc))
 case' c2=>refine' cg (tO (Jv hu (pv 9) (pv 4))) (aw ?d1 (aF ?d2)) cq
 case d1=>exact uQ hu (pv 4) (pv 9) i5 Z
 case d2=>exact mB (pM o9 wF wG uW (pv 6) %[9|0])
 case b3=>exact mB (pM o9 wF wG uW (pv 5) %[6|0])
 case s4=>exact bx (pv 5)
 intro d hd;have hK:∀{H':Hp},H' t\.tup (sV s)->H' t\.tup ((sK s).map kV):=λe=>by rw[qY];exact e
 apply#[_,Z,ay,t,sK s,Z,by rw[ax (bu ht hd)];exact hK ht,?_];have s1:aa H (upd (upd H d (.dT [])) d (.dT [(sK s,.bl true)])):=fo (aa.new hd) hd;have e1:upd (upd H d (.dT [])) d (.dT [(sK s,.bl true)]) d\.dT (kn [s]):=ay;generalize upd (upd H d (.dT [])) d (.dT [(sK s,.bl true)])=H1 at s1 e1 ⊢;apply#[_,Z,zl,λa0 nZ=>?_];let#[s2,e2]:=aD (o:=.lst [.ref t]) nZ;have a0n:H a0=none:=s1.free nZ;let Te:=s2 _ _ e1;let ng:=s1.trans s2;generalize upd H1 a0 (.lst [.ref t])=H2 at s2 e2 Te ng ⊢;apply#[zl,λl hl=>?_];let#[s3,e3]:=aD (o:=.lst [.ref a0]) hl;have ln:H l=none:=ng.free hl;have a0l:a0≠l:=bu e2 hl;let Td:=s3 _ _ Te;let Tj:=s3 _ _ e2;let fg:=ng.trans s3;generalize upd H2 l (.lst [.ref a0])=H3 at s3 e3 Td Tj fg ⊢
 let N:ak->ak->Prop:=Nx hs ts qs
 let Wv:b_:=λn σ H'=>∃(v6 v7 v8 v9:aJ) (k:Nat) (ys:ai) (LL:List (List ak)) (ks nw:List ak),σ=[some (.ref lp),some (.ref lt),some (.ref t),some (.int m),some (.ref d),some (.ref l),v6,v7,v8,v9]/\aa H H'/\H' d\.dT (kn ks)/\H' l\.lst ys/\gq H' ys LL/\(∀b,V.ref b∈ys->H b=none/\b≠l)/\LL.length=k+1/\LL[k]? = some nw/\(∀(j:Nat) L,LL[j]? = some L->L.Nodup/\∀s',s'∈L ↔ Ds N s j s')/\Bf N s k ks nw/\(∀s'∈ks,Vs hs qs s')/\n=(aS hs).length ^ qs.length - ks.length+(if nw=[] then 0 else 1)/\k+(if nw=[] then 0 else 1)<=ks.length/\∀(j:Nat) L,j<k->LL[j]? = some L->L≠[]
 apply#[Wv,#[_,none,none,none,none,0,[.ref a0],[[s]],[s],[s],Z,fg,Td,e3,.cons #[a0,_,Z,Tj,.cons #[t,Z,fg _ _ ht] .nil] .nil,?_,Z,Z,?_,Bf.start,?_,Z,?_,λj L z=>absurd z (Nat.not_lt_zero _)],?_]
 ·intro b hb;cases V.ref.inj (eV.mp hb);exact#[a0n,a0l]
 ·intro j L hj;cases j with
  |zero=>
   cases cY hj;exact#[by simp,(Bf.start (N:=N) (s0:=s)).new]
  |succ j=>cases hj
 ·intro s' hs';rw[eV.mp hs'];exact v
 ·simp
 rintro n σ H4 ⟨v6,v7,v8,v9,kk,ys,LL,ks,nw,rfl,s4,ed4,iI,Lh,pI,lV,vM,Rk,FO,JU,hn,kle,ne4⟩;let kB:=Jd (ns:=aS hs) (n:=qs.length) FO.nd λs' hs'=>#[(JU s' hs').len,(JU s' hs').hY];let GY:=bw Lh;have hk:kk<ys.length:=by omega
 let#[an,yn,Th,han,gr]:=dU Lh kk hk Z1;rw[aQ Z1] at vM;rw[cY vM] at gr
 have nQ:iB ys (-1)\.ref an:=by
  rw[hS_ Z1,show ys.length - 1=kk by omega,aQ hk,Th]
 have anm:V.ref an∈ys:=by rw[<- Th];exact kK hk
 let GU:=bw gr;apply#[_,Z,_,Z,l,ys,_,_,Z,Z,.of iI,nQ,zl,λle hle=>?_];let#[s5,e5]:=aD (o:=.lst []) hle;let oK:=s4.trans s5;let Im:=s5 _ _ ed4;let sZ:=s5 _ _ iI;let GW:=Lh.same s5;let sk:=s5 _ _ han;let Qk:=gr.keep λb xs e=>s5 _ _ e;generalize upd H4 le (.lst [])=H5 at s5 e5 oK Im sZ GW sk Qk ⊢;apply#[an,le,yn,Z,Z,.of sk,.of e5,_,Z,?_];by_cases cn:nw=[]
 ·have JQ:yn=[]:=by
   rw[cn] at GU;exact List.length_eq_zero_iff.mp GU
  rw[JQ];apply aM (aM #[_,Z,?_]);rw[cn] at FO;have ok:gn (Nx hs ts qs) s LL:=#[Rk,#[kk,lV,by rw[aQ Z1];exact vM.trans (by rw[cn])],λj L z=>ne4 j L Z1];apply k l ys LL H5 oK ln sZ GW (λb hb=>(pI b hb).1) ok (iK (Jd ok.flat λs' hs'=>?_) bm);let#[j,wj]:=(ok.all s').mp hs';exact#[(wj.vs v).len,(wj.vs v).hY]
 have JQ:yn.isEmpty=false:=by
  cases yn with
  |nil=>exact absurd (List.length_eq_zero_iff.mp GU.symm) cn
  |cons _ _=>rfl
 rw[JQ];apply dj #[_,Z,d,_,Z,Im,_,Z,_,_,Z,Z,_,Z,?_];have lk:(kn ks).length=ks.length:=aq _;rw[aB cn] at hn kle;have ct:decide (((kn ks).length:Int)<=(m:Int))=true:=dc Z1;rw[ct];apply dj #[λaY H'=>∃m',m'<n/\Wv m' aY H',λ_ _ h=>h,?_];apply#[zl,λla gi=>?_];let#[s6,e6]:=aD (o:=.lst []) gi;have QU:H la=none:=oK.free gi;have Lp:la≠l:=(bu sZ gi).symm;have ana:an≠la:=bu sk gi;have Pw:an≠l:=(pI an anm).2;have and_:an≠d:=bK sk Im nofun
 have fra:∀b,V.ref b∈ys->b≠la:=λb hb=>by
  let#[i,hi,ei]:=hJ hb;let#[a',Vu,e',h',_]:=dU GW i hi Z1;rw[ei] at e';cases e';exact bu h' gi
 let iP:=oK.trans s6;let Tc:=s6 _ _ Im;let uH:=s6 _ _ sZ;let QN:=GW.same s6;let Aq:=s6 _ _ sk;let Qj:=Qk.keep λb xs e=>s6 _ _ e;generalize upd H5 la (.lst [])=H6 at s6 e6 iP Tc uH QN Aq Qj ⊢
 let J:List ak->Hp->Prop:=λseen H'=>∃(iT fd:List ak) (fs:ai),aa H H'/\H' d\.dT (kn iT)/\H' l\.lst ys/\gq H' ys LL/\H' an\.lst yn/\iy H' yn nw/\H' la\.lst fs/\iy H' fs fd/\Wd ks seen iT fd/\(∀s'∈iT,Vs hs qs s')/\iT.length=ks.length+fd.length
 let Iv:b_:=λi σ H'=>∃(v7 v8 v9:aJ) (seen:List ak),σ=[some (.ref lp),some (.ref lt),some (.ref t),some (.int m),some (.ref d),some (.ref l),some (.ref la),v7,v8,v9]/\J seen H'/\(∀b,b∈seen ↔ ∃h∈nw.take i,N h b)
 apply#[_,Z,_,Z,l,ys,_,_,Z,Z,.of uH,nQ,an,Z,#[_,.of Aq],?_];apply ib (K:=K) (a:=an) (xs:=yn) Iv ?_ ?_ ?_ ?_
 ·exact#[_,_,_,[],Z,#[ks,[],[],iP,Tc,uH,QN,Aq,Qj,e6,.nil,Wd.start FO.nd,JU,Z],λb=>#[λz=>absurd z fX,λ⟨_,z,_⟩=>absurd z fX]]
 ·rintro i σ H' _ ⟨_,_,_,_,_,⟨_,_,_,_,_,_,_,e,_⟩,_⟩;exact .of e
 ·rintro i y σ H7 hy ⟨V4,V3,V2,seen,rfl,⟨G6,oZ,SH,rD,Fc,AF,Lg,EU,Kv,Iu,yW,Co,Cq,QR⟩,mem⟩;have hi:i<yn.length:=(bY.mp hy).1
  obtain⟨h,hh,u,rfl,_Z⟩:∃h,nw[i]? = some h/\∃u,y=.ref u/\H7 u\.tup (sV h):=by
   have:=dU Kv i hi Z1;rw[aQ hi] at hy;cases hy;exact#[nw[i]' Z1,aQ Z1,this]
  let hm:=cX hh;let sf:=(FO.new h).mp hm;have vh:Vs hs qs h:=sf.1.vs v;apply#[_,Z,_,Z,_,Z,lp,lt,u,yp,zs,hs,ts,ss,qs,h,Z,rD _ _ kz,wL pc rD,rD _ _ d5,tu.same rD,G,S,s8,_Z,vh,λl3 mO L H8 pA oU e8 QK ik DN=>?_];have QV:l3≠l:=λz=>by rw[z,AF] at oU;cases oU
  have G5:l3≠la:=λz=>by rw[z,Iu] at oU;cases oU
  have l3d:l3≠d:=λz=>by rw[z,Fc] at oU;cases oU
  let DM:=bw QK
  let Iw:b_:=λj σ H'=>∃(v8 v9:aJ) (dD:List ak),σ=[some (.ref lp),some (.ref lt),some (.ref t),some (.int m),some (.ref d),some (.ref l),some (.ref la),some (.ref u),v8,v9]/\H' l3\.lst mO/\AH H' mO L/\J dD H'/\(∀b,b∈dD ↔ b∈seen∨∃e∈L.take j,b=e.2)
  apply#[l3,Z,#[_,.of e8],?_];apply ib (K:=K) (a:=l3) (xs:=mO) Iw ?_ ?_ ?_ ?_
  ·exact#[_,_,seen,Z,e8,QK,#[G6,oZ,SH,rD.trans pA,pA _ _ Fc,pA _ _ AF,Lg.same pA,pA _ _ EU,Kv.keep λb xs e=>pA _ _ e,pA _ _ Iu,yW.keep λb xs e=>pA _ _ e,Co,Cq,QR],λb=>#[.inl,λz=>z.elim id λ⟨_,w,_⟩=>absurd w (fX)]]
  ·rintro j σ H' _ ⟨_,_,_,_,e,_⟩;exact .of e
  ·rintro j y σ H9 hy ⟨JX,JW,dD,rfl,e9,GT,⟨pF,SQ,MS,GD,Fb,AE,QM,ET,Qi,Ti,yV,JS,F_,QQ⟩,vL⟩;have hj:j<mO.length:=(bY.mp hy).1
   obtain⟨e,he,tt,mm,uu,rfl,D9,_,Hc⟩:∃e,L[j]? = some e/\∃t m u,y=.ref t/\H9 t\.tup [.ref m,.ref u]/\H9 m\.tup [.str e.1.1,.str e.1.2.1,.str e.1.2.2]/\H9 u\.tup (sV e.2):=by
    have:=dU GT j hj Z1;rw[aQ hj] at hy;cases hy;exact#[L[j]' Z1,aQ Z1,this]
   have bL:N h e.2:=#[e.1,(ik e).mp (cX he)]
   have tk:∀c,(∃e∈L.take (j+1),c=e.2) ↔ (∃e∈L.take j,c=e.2)∨c=e.2:=λc=>by
    rw[u4,he];constructor
    ·rintro⟨x,hx,r⟩;rcases d9.mp hx with hx|hx
     ·exact .inl #[x,hx,r]
     have:x=e:=⇑hx
     rw[this] at r;exact .inr r
    rintro (⟨x,hx,r⟩|r)
    ·exact#[x,d9.mpr (.inl hx),r]
    exact#[e,by simp,r]
   have Sh:H9 uu\.tup ((sK e.2).map kV):=by rw[qY];exact Hc
   apply#[tt,_,Z,.of D9,Z,_,_,Z,_,_,Z,Z,?_];apply#[_,Z,_,Z,d,_,Z,.t Fb Sh,_,Z,?_];rw[ZH];by_cases c:e.2∈pF
   ·rw[dc c];apply aM ?_;apply#[_,_,dD++[e.2],Z,e9,GT,#[pF,SQ,MS,GD,Fb,AE,QM,ET,Qi,Ti,yV,JS.skip c,F_,QQ],λz=>?_];rw[d9,vL,tk,eV,or_assoc]
   rw[eG c];apply dj ?_;let kB9:=Jd (ns:=aS hs) (n:=qs.length) JS.nd λs' hs'=>#[(F_ s' hs').len,(F_ s' hs').hY];let lf:=bw yV;have Yp:(kn pF).length=pF.length:=aq _;apply#[_,Z,_,Z,d,_,Z,.t Fb Sh Z1,?_];rw[YM c];have kA:∀{c o},H9 c\o->c≠d->upd H9 d (.dT (kn (pF++[e.2]))) c\o:=λe ne=>by rw[ax ne];exact e
   have tA:∀c xs,H9 c\.tup xs->upd H9 d (.dT (kn (pF++[e.2]))) c\.tup xs:=λc xs e=>kA e (bK e Fb nofun);have lA:∀c xs,H9 c\.lst xs->upd H9 d (.dT (kn (pF++[e.2]))) c\.lst xs:=λc xs e=>kA e (bK e Fb nofun);have sA:aa H (upd H9 d (.dT (kn (pF++[e.2])))):=fo GD hd;have eA:upd H9 d (.dT (kn (pF++[e.2]))) d\.dT (kn (pF++[e.2])):=ay;generalize upd H9 d (.dT (kn (pF++[e.2])))=HA at kA tA lA sA eA ⊢;let Ir:=lA _ _ Ti;apply#[_,Z,.inl #[Z,_,.of Ir],_,Z,la,_,_,Z,Z,Ir,by omega,?_];have lB:∀c xs,c≠la->H9 c\.lst xs->upd HA la (.lst (MS++[.ref uu])) c\.lst xs:=λc xs ne e=>by rw[ax ne];exact lA _ _ e
   have tB:∀c xs,H9 c\.tup xs->upd HA la (.lst (MS++[.ref uu])) c\.tup xs:=λc xs e=>by
    rw[ax (bK (tA _ _ e) Ir nofun)];exact tA _ _ e
   have Yt:d≠la:=bK eA Ir nofun;apply#[_,_,dD++[e.2],Z,lB _ _ G5 e9,GT.keep tB,#[pF++[e.2],SQ++[e.2],_,fo sA QU,by rw[ax Yt];exact eA,lB _ _ Lp.symm AE,QM.keep (λb hb xs e=>lB _ _ (fra b hb) e) tB,lB _ _ ana ET,Qi.keep tB,ay,hU (yV.keep tB) (.cons #[uu,Z,tB _ _ Hc] .nil),JS.add c,λs' hs'=>?_,?_],λz=>?_]
   ·rcases d9.mp hs' with hs'|hs'
    ·exact F_ s' hs'
    rw[eV.mp hs'];exact bL.vs vh
   ·rw[d_,d_,QQ];rfl
   rw[d9,vL,tk,eV,or_assoc]
  rintro σ H9 ⟨JX,JW,dD,rfl,e9,GT,jj,vL⟩;apply#[_,_,_,dD,Z,jj,λb=>?_];rw[vL,mem,show mO.length=L.length from DM,eN,u4,hh];simp only[Option.toList_some,d9,eV];constructor
  ·rintro (⟨h',se,nx⟩|⟨e,he,rfl⟩)
   ·exact#[h',.inl se,nx]
   exact#[h,.inr Z,e.1,(ik e).mp he]
  rintro⟨h',se|rfl,nx⟩
  ·exact .inl #[h',se,nx]
  let#[mm,nx]:=nx;exact .inr #[(mm,b),(ik (mm,b)).mpr nx,Z]
 rintro σ H7 ⟨V4,V3,V2,seen,rfl,⟨G6,oZ,SH,rD,Fc,AF,Lg,EU,Kv,Iu,yW,Co,Cq,QR⟩,mem⟩;rw[GU,eN] at mem;let Vc:=FO.next Co mem;apply#[_,Z,.inl #[Z,_,.of AF],_,Z,l,_,_,Z,Z,AF,by omega,?_];have lB:∀c xs,c≠l->H7 c\.lst xs->upd H7 l (.lst (ys++[.ref la])) c\.lst xs:=λc xs ne e=>by rw[ax ne];exact e
 have tB:∀c xs,H7 c\.tup xs->upd H7 l (.lst (ys++[.ref la])) c\.tup xs:=λc xs e=>by
  rw[ax (bK e AF nofun)];exact e
 let kB7:=Jd (ns:=aS hs) (n:=qs.length) Co.nd λs' hs'=>#[(Cq s' hs').len,(Cq s' hs').hY];have dl:d≠l:=bK Fc AF nofun
 have gl:(LL++[oZ])[kk+1]? = some oZ:=by
  rw[Bg Z1,show kk+1 - LL.length=0 by omega];rfl
 have fl:oZ=[]->oZ.length=0:=λz=>by rw[z];rfl
 have HZ:oZ≠[]->0<oZ.length:=λz=>List.length_pos_iff.mpr z;apply#[(aS hs).length ^ qs.length - G6.length+(if oZ=[] then 0 else 1),?_,_,_,_,_,kk+1,_,LL++[oZ],G6,oZ,Z,fo rD ln,by rw[ax dl];exact Fc,ay,hU (Lg.keep (λb hb xs e=>lB _ _ (pI b hb).2 e) tB) (.cons #[la,_,Z,lB _ _ Lp Iu,yW.keep tB] .nil),?_,by rw[d_,lV];rfl,gl,?_,Vc,Cq,Z,?_,?_]
 ·by_cases z:oZ=[]
  ·rw[aI z];have:=fl z;omega
  rw[aB z];have:=HZ z;omega
 ·intro b hb;rcases d9.mp hb with hb|hb
  ·exact pI b hb
  cases V.ref.inj (eV.mp hb);exact#[QU,Lp]
 ·intro j L hL;by_cases c:j<LL.length
  ·rw[yx c] at hL;exact Rk j L hL
  let Ez:=(bY.mp hL).1;rw[d_,jZ] at Ez;have:j=kk+1:=by omega
  subst this;rw[gl] at hL;cases cY hL;exact#[Co.nf,Vc.new]
 ·by_cases z:oZ=[]
  ·rw[aI z];omega
  rw[aB z];have:=HZ z;omega
 intro j L hj hL;rw[yx Z1] at hL;by_cases c:j<kk
 ·exact ne4 j L c hL
 have:j=kk:=by omega
 subst this;rw[aQ Z1,cY vM] at hL;rw[<- cY hL];exact cn
end
end Ev
namespace L2
open PySem PySem.Spec PyProof.Rows PySem.W mG dM
section
variable{X:Cx}
inductive rH (K:aj) (x:V) (y:V) (H:Hp) (Q:VK):Prop
 |mk:∀a b xs,x=.ref a->y=.ref b->dY K H a xs->dY K H b []->Q (.bl xs.isEmpty) H->rH K x y H Q
theorem _L(hu:X.A.units+0+1<cLine):dJ X (compareOp .Eq) (rH X.K):=by
 intro pins s σ H x y v u Q I rx ry h;let#[a,b,xs,rfl,rfl,t,t',hq]:=h;cases xs with
 |nil=>exact YT g_ hu pins s σ H (.ref a) (.ref b) v u Q I rx ry #[[],[],#[a,[],Z,t,.nil],#[b,[],Z,t',.nil],hq]
 |cons z zs=>
  cases rx;cases ry;let#[us,r,pl,_]:=I.list t;let#[vs,r',oR,_]:=I.list t';let l1:=r.length;let l2:=r'.length;exact SeqAt.eq_list_lengthsAt pl.isList oR.isList (by simp only[cm,bne_iff_ne];simp at l1 l2;omega) Z1 #[.bl false,H,I,Z,hq]
inductive ny (K:aj) (neg:Bool) (x:V) (y:V) (H:Hp) (Q:VK):Prop
 |mk:∀(a b:Addr) (ds es:ae) (rest:ai),x=.ref a->y=.ref b->ft K H a (ds.map V.str++rest)->ft K H b (es.map V.str)->(rest=[]∨es.length<=ds.length)->Q (.bl (if neg then !decide (ds.map V.str++rest=es.map V.str) else decide (ds.map V.str++rest=es.map V.str))) H->ny K neg x y H Q
theorem S6{pins:List (Addr × Obj)}{σ:St}{H:Hp}{s:Ab}{A:Ag}(I:Inv X pins σ H s){ds es:ae}{rest:ai}{us vs:ag}(ru:Vals (ds.map V.str++rest) us)(rv:Vals (es.map V.str) vs)(h:rest=[]∨es.length<=ds.length)(hu:A.units<cLine):∀j (h1:j<us.toArray.size) (h2:j<vs.toArray.size),SeqAt.EqAt A s us.toArray[j] vs.toArray[j] (decide ((ds.map V.str++rest)[j]? = (es.map V.str)[j]?)):=λj h1 h2=>by
 let l1:=ru.length;let l2:=rv.length;rw[d_,aq] at l1;rw[aq] at l2;simp only[cm] at h1 h2
 have hj:j<ds.length:=by
  rcases h with h|h
  ·rw[h] at l1;simp at l1;omega
  omega
 let q1:=dU ru j (by rw[d_,aq];omega) h1;let q2:=dU rv j (by rw[aq];omega) h2
 have e1:(ds.map V.str++rest)[j]'(by rw[d_,aq];omega)=V.str ds[j]:=by
  rw[List.getElem_append_left (by rw[aq];omega),List.getElem_map]
 have e2:(es.map V.str)[j]'(by rw[aq];omega)=V.str (es[j]' Z1):=List.getElem_map ..;rw[e1] at q1;rw[e2] at q2;let q:=g_.eq (A:=A) I q1 q2 Z Z hu
 have e:decide ((ds.map V.str++rest)[j]? = (es.map V.str)[j]?)=decide (ds[j]=es[j]' Z1):=by
  rw[aQ (by rw[d_,aq];omega),aQ (by rw[aq];omega),e1,e2];by_cases z:ds[j]=es[j]' Z1
  ·simp[z]
  simp[z]
 rw[e];exact q
theorem Ru{xs ys:ai}{us vs:ag}(l1:xs.length=us.length)(l2:ys.length=vs.length):((List.range (min us.toArray.size vs.toArray.size)).all (λj=>decide (xs[j]? = ys[j]?))&&us.toArray.size == vs.toArray.size)=decide (xs=ys):=by
 simp only[cm];by_cases hl:xs.length=ys.length
 ·have e:us.length=vs.length:=by omega
  rw[e,Nat.min_self,<- l2,<- hl,Po hl];simp
 rw[eG (λz=>hl (by rw[z])),show (us.length == vs.length)=false by rw[beq_eq_false_iff_ne];omega,Bool.and_false]
theorem Sk(hu:X.A.units+0+1<cLine):dJ X (compareOp .Eq) (ny X.K false):=by
 intro pins s σ H x y v u Q I rx ry h;let#[a,b,ds,es,rest,rfl,rfl,t,t',hr,hq]:=h;cases rx;cases ry;let#[us,r,pl,_]:=I.tuple t;let#[vs,r',oR,_]:=I.tuple t';apply SeqAt.eq_tupleAt (Bd pl) (Bd oR) Z1 (S6 I r r' hr (by show X.A.units+1<cLine;omega)) #[.bl _,H,I,Z,?_];rw[Ru r.length r'.length];exact hq
theorem ZM(hu:X.A.units+0+1<cLine):dJ X (compareOp .NotEq) (ny X.K true):=by
 intro pins s σ H x y v u Q I rx ry h;let#[a,b,ds,es,rest,rfl,rfl,t,t',hr,hq]:=h;cases rx;cases ry;let#[us,r,pl,_]:=I.tuple t;let#[vs,r',oR,_]:=I.tuple t';apply SeqAt.RcNeAt.tuples (Bd pl) (Bd oR) Z1 (S6 I r r' hr (by show X.A.units+1<cLine;omega)) X.prog X.w _ _ #[.bl _,H,I,Z,?_];rw[Ru r.length r'.length];exact hq
end
end L2
namespace Ev
open PySem L2
theorem YL{hs:Xa}{ts:Xb}{qs:aN}(nd:(qs.map (·.1)).Nodup){a b b':ak}{m:Str × Str × Str}(h:Mv hs ts qs a b m)(h2:Mv hs ts qs a b' m):b=b':=by
 let#[k,q,x,y,q1,q2,q3,rfl,rfl]:=h;let#[k',q',x',y',r1,r2,r3,rfl,e]:=h2;have e1:q.1=q'.1:=(Prod.mk.inj e).1;have e2:y=y':=(Prod.mk.inj (Prod.mk.inj e).2).2;have hk:k<(qs.map (·.1)).length:=by rw[aq];exact (bY.mp q1).1
 have:k=k':=(List.getElem?_inj hk nd).mp (by rw[dk,dk,q1,r1,Option.map_some,Option.map_some,e1]);rw[this,e2]
theorem Mv.vs{hs:Xa}{ts:Xb}{qs:aN}{a b:ak}{m:Str × Str × Str}(h:Mv hs ts qs a b m)(v:Vs hs qs a):Vs hs qs b:=Nx.vs #[m,h] v
section v
theorem IT:bG [jn,kJ,uO,"_law_spot","_law_limit_here","_law_moves_here","_law_move","_law_some"] uf (aX qK):=bR
structure w6 (K:aj) (H:Hp) (lh lp lt ll:Addr) (hs:Xa) (ts:Xb) (ss qs:aN) (l:Int × Int):Prop where
 hh:∃yh,H lh\.lst yh/\bT K H yh (hs.map kH)
 hp:∃yp,H lp\.lst yp/\jo K H yp ss
 ht:∃zs,H lt\.lst zs/\bT K H zs (ts.map kT)
 hl:gO H ll l
 lo:pO l
 G:Good hs ts
 S:fq ts ss qs
 s8:ss.length<=8
theorem w6.same{K:aj}{H H':Hp}{lh lp lt ll:Addr}{hs:Xa}{ts:Xb}{ss qs:aN}{l:Int × Int}(h:w6 K H lh lp lt ll hs ts ss qs l)(s:aa H H'):w6 K H' lh lp lt ll hs ts ss qs l:=by
 let#[#[yh,a1,a2],#[yp,b1,b2],#[zs,c1,c2],d,e,f,g,i]:=h;exact#[#[yh,s _ _ a1,a2.same s],#[yp,s _ _ b1,wL b2 s],#[zs,s _ _ c1,c2.same s],s _ _ d,e,f,g,i]
inductive kR (K:aj) (vs:ai) (H:Hp) (Q:VK) (E:XK):Prop
 |mk:∀(lh lp lt t ll lm:Addr) (ym:ai) (hs:Xa) (ts:Xb) (ss qs:aN) (l:Int × Int) (s b:ak) (ms:List (Str × Str × Str)),vs=[.ref lh,.ref lp,.ref lt,.ref t,.ref ll,.ref lm]->w6 K H lh lp lt ll hs ts ss qs l->H t\.tup (sV s)->Vs hs qs s->H lm\.lst ym->ka H ym ms->w4 hs ts qs s ms b->fN hs qs b l=true->(∀H',aa H H'->Q (.bl true) H')->kR K vs H Q E
theorem Zo{f:Addr}{fd:Ae}(F:bj K "_law_way_right" "_law_way_right" qK f fd)(B:Bi mg)(cM:!bp 1 "_law_moves" oz (Jk K))(cE:!bp 2 "_law_even" oB (Jq K)):!ao aZ 3 f fd uf (kR K):=by
 exists F.bQ IT;let#[lh,lp,lt,t,ll,lm,ym,hs,ts,ss,qs,l,s,b,ms,rfl,Pt,ht,v,RR,mv,tr,ev,k]:=h;let sz:=cJ;refine' #[_,aw ?s1 (aF ?s2),?kk]
 case' s1=>refine' eW d8 Z (dI (pv 5)) ?g1 (aw ?b1 (aw ?b2 (aF ?b3)))
 case g1=>exact cz 6 IT.nd
 case' b1=>refine' Ni (i:=7) t7 2 [6] IT.nd Z (Or.inl Z) (dI (bc cM hr %[1,2,3|0])) (λfp s H=>?g2) (λfp s H=>?t2) (λfp s H=>?e2)
 case g2=>exact Bb (n:=2) (dE (eO (i:=0) (show (t7:ae).Nodup by decide +kernel) Z (Or.inl Z)) (dE (eO (i:=1) (show (t7:ae).Nodup by decide +kernel) Z (Or.inl Z)) jc))
 case t2=>exact Fm (fI (QF (K:=K) (λK=>ny K false) (Sk (oj hr 0))) (pv 0) (pv 2))
 case e2=>exact pv 1
 case b2=>exact cg (o6 (eX (eP (cO jX (by rfl) B.jg jq %[6,jW (v:=.ty "tuple") (by rfl) B.tuple uV Z|0]))) (pT (fI (_L (oj hr 0)) (pv 7) (fQ bP)))).pt (aF (bx i5)) cq
 case b3=>exact bq 3 IT.nd (br fO (pv 7) aC)
 case s2=>exact bx (bc cE hr %[0,1,3,4|0])
 let Lf:=bw mv
 let Iv:b_:=λi σ H'=>∃(v6 v7:aJ) (u:Addr) (cur:ak),σ=[some (.ref lh),some (.ref lp),some (.ref lt),some (.ref u),some (.ref ll),some (.ref lm),v6,v7]/\aa H H'/\H' u\.tup (sV cur)/\Vs hs qs cur/\w4 hs ts qs cur (ms.drop i) b
 apply#[_,Z,lm,Z,#[_,.of RR],?_];apply ib (K:=K) (a:=lm) (xs:=ym) Iv ?_ ?_ ?_ ?_
 ·exact#[none,none,t,s,Z,aa.refl _,ht,v,tr]
 ·rintro i σ H' _ ⟨_,_,_,_,_,sm,_⟩;exact .of (sm _ _ RR)
 ·rintro i y σ H2 hy ⟨v6,v7,u,cur,rfl,s2,zR,vc,Cu⟩;have hi:i<ym.length:=(bY.mp hy).1
  obtain⟨m,hm,x,rfl,hx⟩:∃m,ms[i]? = some m/\∃t,y=V.ref t/\H t\.tup [.str m.1,.str m.2.1,.str m.2.2]:=by
   have:=dU mv i hi Z1;rw[aQ hi] at hy;cases hy;exact#[ms[i]' Z1,aQ Z1,this]
  have dr:ms.drop i=m::ms.drop (i+1):=by
   rw[List.drop_eq_getElem_cons Z1];rw[aQ Z1] at hm;rw[cY hm]
  rw[dr] at Cu;cases Cu with
  |@cons _ b' _ _ _ K7 Wn=>
  let u6:=Pt.same s2;let#[#[yp,b1,b2],#[zs,c1,c2]]:=And.intro u6.hp u6.ht;apply#[_,Z,_,Z,_,Z,lp,lt,u,yp,zs,hs,ts,ss,qs,cur,Z,b1,b2,c1,c2,Pt.G,Pt.S,Pt.s8,zR,vc,λl3 mO L H3 s3 oU e3 Dv ik DN=>?_];let DM:=bw Dv;let fg:=s2.trans s3;apply#[l3,Z,#[_,.of e3],λD hD=>?_];apply i9 (own:=2) (fv:=[some (.ref x)]) (xs:=mO) Z we (λi out H'=>aa H3 H'/\H' D\.lst out/\iy H' out (((L.take i).filter λe=>e.1=m).map (·.2))) #[aa.new hD,ay,.nil] (λi out H' _ ⟨sm,_,_⟩=>.of (sm _ _ e3)) (λout H4 ⟨s4,iW,gr⟩=>?_) (λj y out H' hy ⟨sm,cQ,sp⟩=>?_);rotate_left 1
  ·have hj:j<mO.length:=(bY.mp hy).1
   obtain⟨e,he,tt,mm,uu,rfl,D9,hm9,Hc⟩:∃e,L[j]? = some e/\∃t m u,y=.ref t/\H3 t\.tup [.ref m,.ref u]/\H3 m\.tup [.str e.1.1,.str e.1.2.1,.str e.1.2.2]/\H3 u\.tup (sV e.2):=by
    have:=dU Dv j hj Z1;rw[aQ hj] at hy;cases hy;exact#[L[j]' Z1,aQ Z1,this]
   apply#[_,#[tt,_,_,Z,.of (sm _ _ D9),Z],Z,λNx hN=>?_]
   have fe:decide (([e.1.1,e.1.2.1,e.1.2.2]:ae).map V.str++[]=([m.1,m.2.1,m.2.2]:ae).map V.str)=decide (e.1=m):=by
    by_cases z:e.1=m
    ·rw[z];simp
    rw[eG z,eG];intro q;apply z ?_;simp at q;exact Prod.ext q.1 (Prod.ext q.2.1 q.2.2)
   apply#[_,Z,_,Z,mm,x,[e.1.1,e.1.2.1,e.1.2.2],[m.1,m.2.1,m.2.2],[],Z,Z,.of (sm _ _ hm9),.of (sm _ _ (fg _ _ hx)),.inl Z,_,Z,?_];rw[show (if false=true then !decide (([e.1.1,e.1.2.1,e.1.2.2]:ae).map V.str++[]=([m.1,m.2.1,m.2.2]:ae).map V.str) else decide (([e.1.1,e.1.2.1,e.1.2.2]:ae).map V.str++[]=([m.1,m.2.1,m.2.2]:ae).map V.str))=decide (e.1=m) from fe]
   have tk:((L.take (j+1)).filter λe=>e.1=m).map (·.2)=((L.take j).filter λe=>e.1=m).map (·.2)++if e.1=m then [e.2] else []:=by
    rw[u4,he,List.filter_append,eU];by_cases z:e.1=m
    ·simp[z]
    simp[z]
   apply cw (λc=>?_) (λc=>?_)
   ·let lo:=bw sp;rw[aq] at lo;let lf:=Be (λe:Me=>decide (e.1=m)) (L.take j);rw[dG] at lf;apply#[_,Z,out,cQ,by omega,hN _ _ #[fo sm hD,ay,?_]]
    have kt:∀b xs,H' b\.tup xs->upd H' D (.lst (out++[.ref uu])) b\.tup xs:=λb xs e=>by
     rw[ax (bK e cQ nofun)];exact e
    rw[tk,aI (tF c)];exact hU (sp.keep kt) (.cons #[uu,Z,kt _ _ (sm _ _ Hc)] .nil)
   apply hN out _ #[sm,cQ,?_];rw[tk,aB ⇑c,List.append_nil];exact sp
  rw[DM,eN] at gr;let oM:=fg.trans s4;have mem:b'∈(L.filter λe=>e.1=m).map (·.2):=bC.mpr #[(m,b'),jY.mpr #[(ik _).mpr K7,by simp],Z]
  obtain⟨c0,cs,ec⟩:∃c0 cs,(L.filter λe=>e.1=m).map (·.2)=c0::cs:=by
   cases z:(L.filter λe=>e.1=m).map (·.2) with
   |nil=>rw[z] at mem;cases mem
   |cons c0 cs=>exact#[c0,cs,Z]
  have e0:c0=b':=by
   have:c0∈(L.filter λe=>e.1=m).map (·.2):=by rw[ec];exact gd
   let#[e,he,rfl]:=bC.mp this;let#[h1,h2]:=jY.mp he;let h3:=(ik e).mp h1;rw[show e.1=m from tF h2] at h3;exact YL (by rw[Pt.S.vK];exact Pt.S.nd) h3 K7
  rw[ec] at gr;cases gr with
  |@cons y0 _ ysr _ _P tl=>
  let#[t0,rfl,RG]:=_P;rw[e0] at RG;apply#[_,Z,_,_,_,_,Z,.tup (oM _ _ hx),Z,_,Z,aM ?_];apply#[_,Z,zl,λle hle=>?_];let#[s5,e5]:=aD (o:=.lst []) hle;generalize upd H4 le (.lst [])=H5 at s5 e5 ⊢;apply#[D,le,_,Z,Z,.of (s5 _ _ iW),.of e5,_,Z,aM ?_];apply#[_,Z,D,_,0,_,Z,Z,.of (s5 _ _ iW),L2.dR (j:=0) Z,?_];exact#[_,_,t0,b',Z,oM.trans s5,s5 _ _ RG,K7.vs vc,Wn]
 rintro σ H2 ⟨v6,v7,u,cur,rfl,s2,zR,vc,Cu⟩;rw[Lf,List.drop_length] at Cu;cases Cu;let u6:=Pt.same s2;let#[#[yh,a1,a2],#[yp,b1,b2]]:=And.intro u6.hh u6.hp;apply#[_,Z,_,Z,_,Z,_,Z,lh,lp,u,ll,yh,yp,hs,ts,ss,qs,_,l,Z,a1,a2,Pt.G,b1,b2,Pt.S,Pt.s8,zR,vc,u6.hl,Pt.lo,λH3 s3=>?_];rw[ev];exact k H3 (s2.trans s3)
end
end Ev
namespace Ev
open PySem L2
def Bk(N:ak->ak->Prop)(s0:ak)(hs:Xa)(qs:aN)(l:Int × Int)(v:V):Prop:=
 (∃k:Nat,v=.int k/\(∃s,Ds N s0 k s/\fN hs qs s l=true)/\∀j z,j<k->Ds N s0 j z->fN hs qs z l=false)∨(v=.non/\∀j z,Ds N s0 j z->fN hs qs z l=false)
def PL(H:Hp)(t:Addr)(hs:Xa)(ts:Xb)(qs:aN)(s0:ak)(l:Int × Int):Prop:=
 (∃(x:Addr) (ys:ai) (ms:List (Str × Str × Str)) (s:ak),H t\.tup [.str "moves",.ref x]/\H x\.lst ys/\ka H ys ms/\w4 hs ts qs s0 ms s/\Ds (Nx hs ts qs) s0 ms.length s/\fN hs qs s l=true/\∀j z,j<ms.length->Ds (Nx hs ts qs) s0 j z->fN hs qs z l=false)∨(H t\.tup [.str "none"]/\∀j z,Ds (Nx hs ts qs) s0 j z->fN hs qs z l=false)
section v
theorem qI:bG [jn,kJ,"_law_layers_here","_law_limit_here","_law_k"] ue (aX rA):=bR
inductive lD (K:aj) (vs:ai) (H:Hp) (Q:VK) (E:XK):Prop
 |mk:∀(lh lp lt lL ll:Addr) (ys:ai) (LL:List (List ak)) (hs:Xa) (ts:Xb) (ss qs:aN) (l:Int × Int) (s0:ak),vs=[.ref lh,.ref lp,.ref lL,.ref ll]->w6 K H lh lp lt ll hs ts ss qs l->H lL\.lst ys->gq H ys LL->gn (Nx hs ts qs) s0 LL->Vs hs qs s0->LL.length<=1000000->(∀L∈LL,L.length<=1000000)->(∀v H',aa H H'->Bk (Nx hs ts qs) s0 hs qs l v->Q v H')->lD K vs H Q E
theorem ZJ{f:Addr}{fd:Ae}(F:bj K "_law_due" "_law_due" rA f fd)(B:Bi mg)(cE:!bp 2 "_law_even" oB (Jq K)):!ao aZ 3 f fd ue (lD K):=by
 exists F.bQ qI;let#[lh,lp,lt,lL,ll,ys,LL,hs,ts,ss,qs,l,s0,rfl,Pt,hL,ly,ok,v,L6,PR,k]:=h;let sz:=cJ;let GY:=bw ly;refine' #[_,aw ?s1 (aF ?s2),?kk]
 case' s1=>refine' eW d8 Z ?i1 ?g1 (aF ?b1)
 case i1=>exact wX (by rfl) B.range %[cO iC (by rfl) B.len gJ %[2|0]|0]
 case g1=>exact cz 4 qI.nd
 case' b1=>refine' cg (fI (N5 (oj hr 0)) (iL yB 1 [0,3,1] (dI (br fO (pv 2) (pv 4))) (λfp s H=>?g2) (λfp s H=>?t2) (λfp s H=>?e2)) (fQ bP)) (aF (bx (pv 4))) cq
 case g2=>exact eO (i:=0) (show (yB:ae).Nodup by decide +kernel) Z (Or.inl Z)
 case t2=>exact Fm (eP (bc cE hr %[1,3,0,2|0]))
 case e2=>exact pv 0
 case s2=>exact bx uS
 apply#[_,Z,lL,_,Z,.inl (.of hL),_,Z,by show (-(2 ^ 62):Int)<=(ys.length:Int);omega,by show (ys.length:Int)<2 ^ 62;omega,?_]
 let Iv:b_:=λi σ H'=>∃(v4:aJ),σ=[some (.ref lh),some (.ref lp),some (.ref lL),some (.ref ll),v4]/\aa H H'/\∀j z,j<i->Ds (Nx hs ts qs) s0 j z->fN hs qs z l=false
 apply A4 (lo:=0) (n:=((ys.length:Nat):Int).toNat) Iv ?_ ?_ ?_
 ·exact#[none,Z,aa.refl _,λj z hj=>absurd hj (Nat.not_lt_zero _)]
 ·rintro i σ H2 hi ⟨v4,rfl,s2,no⟩;have hi:i<ys.length:=by omega
  let#[a,zs,ea,ha,sp]:=dU ly i hi Z1;have MD:LL[i]? = some (LL[i]' Z1):=aQ Z1;obtain⟨Lr,eL⟩:∃L,L=LL[i]' Z1:=#[_,Z];rw[<- eL] at MD sp;let is:=ok.is i Lr MD;let vN:=bw sp;let Yv:=PR Lr (cX MD);rw[show (0:Int)+(i:Nat)=(i:Int) by omega];apply#[_,Z,_,Z,lL,_,i,_,Z,Z,.of (s2 _ _ hL),L2.dR (by rw[aQ hi,ea]),a,Z,#[_,.of (s2 _ _ ha)],λD hD=>?_];apply i9 (own:=1) (fv:=[some (.ref lh),some (.ref ll),some (.ref lp)]) (xs:=zs) Z fh (λj out H'=>aa H2 H'/\H' D\.lst out/\iy H' out ((Lr.take j).filter λz=>fN hs qs z l)) #[aa.new hD,ay,.nil] (λj out H' _ ⟨sm,_,_⟩=>.of (sm _ _ (s2 _ _ ha))) (λout H4 ⟨s4,iW,gr⟩=>?_) (λj y out H' hy ⟨sm,cQ,Ku⟩=>?_);rotate_left 1
  ·have hj:j<zs.length:=(bY.mp hy).1
   obtain⟨z,hz,u,rfl,hu⟩:∃z,Lr[j]? = some z/\∃t,y=V.ref t/\H t\.tup (sV z):=by
    have:=dU sp j hj Z1;rw[aQ hj] at hy;cases hy;exact#[Lr[j]' Z1,aQ Z1,this]
   have zv:Vs hs qs z:=(((is.2 z).mp (cX hz)).1).vs v;let KH:=s2.trans sm;let u6:=Pt.same KH;let#[#[yh,a1,a2],#[yp,b1,b2]]:=And.intro u6.hh u6.hp;apply#[_,Z,Z,λNx hN=>?_];apply#[_,Z,_,Z,_,Z,_,Z,lh,lp,u,ll,yh,yp,hs,ts,ss,qs,z,l,Z,a1,a2,Pt.G,b1,b2,Pt.S,Pt.s8,KH _ _ hu,zv,u6.hl,Pt.lo,λH3 s3=>#[_,Z,?_]]
   have tk:((Lr.take (j+1)).filter λz=>fN hs qs z l)=((Lr.take j).filter λz=>fN hs qs z l)++if fN hs qs z l=true then [z] else []:=by
    rw[u4,hz,List.filter_append];by_cases c:fN hs qs z l=true
    ·simp[c]
    simp[c]
   apply cw (λc=>?_) (λc=>?_)
   ·let lo:=bw Ku;let lf:=Be (λz=>fN hs qs z l) (Lr.take j);rw[dG] at lf;let kD:=s3 _ _ cQ;apply#[_,Z,out,kD,by omega,hN _ _ #[fo (sm.trans s3) hD,ay,?_]]
    have kt:∀b xs,H' b\.tup xs->upd H3 D (.lst (out++[.ref u])) b\.tup xs:=λb xs e=>by
     rw[ax (bK (s3 _ _ e) kD nofun)];exact s3 _ _ e
    rw[tk,aI c];exact hU (Ku.keep kt) (.cons #[u,Z,kt _ _ (KH _ _ hu)] .nil)
   apply hN out _ #[sm.trans s3,s3 _ _ cQ,?_];rw[tk,aB c,List.append_nil];exact Ku.keep λb xs e=>s3 _ _ e
  rw[vN,eN] at gr;let oM:=s2.trans s4;apply#[zl,λle hle=>?_];let#[s5,e5]:=aD (o:=.lst []) hle;let oK:=oM.trans s5;let ix:=s5 _ _ iW;generalize upd H4 le (.lst [])=H5 at s5 e5 oK ix ⊢;apply#[D,le,_,Z,Z,.of ix,.of e5,_,Z,?_];cases ef:Lr.filter λz=>fN hs qs z l with
  |nil=>
   rw[ef] at gr;cases gr;apply aM ?_;apply#[_,Z,oK,λj z hj dz=>?_];by_cases c:j=i
   ·subst c;let zm:=(is.2 z).mpr dz;rw[<- Bool.not_eq_true];intro c;have:z∈Lr.filter λz=>fN hs qs z l:=jY.mpr #[zm,c];rw[ef] at this;cases this
   ·exact no j z Z1 dz
  |cons z zr=>
   rw[ef] at gr;cases gr;apply dj ?_;have zm:z∈Lr.filter λz=>fN hs qs z l:=by rw[ef];exact gd
   let#[z1,z2]:=jY.mp zm;exact#[_,Z,k _ _ oK (.inl #[i,Z,#[z,(is.2 z).mp z1,z2],no])]
 rintro σ H2 ⟨v4,rfl,s2,no⟩;apply k _ _ s2 (.inr #[Z,λj z dz=>?_]);let#[L,hL',_]:=ok.mem dz;have:=(bY.mp hL').1;exact no j z Z1 dz
theorem BW:bG ["_law_told","_law_due_here","_law_parts",jn,kJ,uO,"_law_spot","_law_limit_here"] t_ (aX Od):=bR
inductive OF (K:aj) (vs:ai) (H:Hp) (Q:VK) (E:XK):Prop
 |mk:∀(t lq lh lp lt tt ll:Addr) (v:V) (hs:Xa) (ts:Xb) (ss qs:aN) (l:Int × Int) (s0:ak),vs=[.ref t,v,.ref lq]->H lq\.tup [.ref lh,.ref lp,.ref lt,.ref tt,.ref ll]->w6 K H lh lp lt ll hs ts ss qs l->H tt\.tup (sV s0)->Vs hs qs s0->PL H t hs ts qs s0 l->Bk (Nx hs ts qs) s0 hs qs l v->(∀H',aa H H'->Q (.bl true) H')->OF K vs H Q E
theorem gE_{f:Addr}{fd:Ae}(F:bj K "_law_right" "_law_right" Od f fd)(B:Bi mg)(cW:!bp 3 "_law_way_right" uf (kR K)):!ao aZ 4 f fd t_ (OF K):=by
 exists F.bQ BW;let#[t,lq,lh,lp,lt,tt,ll,v,hs,ts,ss,qs,l,s0,rfl,hq,Pt,D0,vv,tl,dv,k]:=h;refine' #[_,aw ?s1 (aw ?s2 (aw ?s3 (aw ?s4 (aF ?s5)))),?kk]
 case s1=>exact IC (pv 2) (o7 Z (dE (cz 3 BW.nd) (dE (cz 4 BW.nd) (dE (cz 5 BW.nd) (dE (cz 6 BW.nd) (dE (cz 7 BW.nd) jc))))))
 case s2=>exact cg (fI RA (pv 1) uS) (aF (bx (wQ (Sk (oj hr 0)) (pv 0) (gf %[tP|0])))) cq
 case s3=>exact cg (o6 (eX (eP (cO jX (by rfl) B.jg jq %[0,jW (v:=.ty "tuple") (by rfl) B.tuple uV Z|0]))) (o6 (fI tH (cO iC (by rfl) B.len gJ %[0|0]) aC) (pT (fI tH (br c_ (pv 0) aC) tP)))).pt (aF (bx i5)) cq
 case s4=>exact cg (o6 (eX (eP (cO jX (by rfl) B.jg jq %[br c_ (pv 0) aC,jW (v:=.ty "list") (by rfl) B.list yo Z|0]))) (pT (fI tH (cO iC (by rfl) B.len gJ %[br c_ (pv 0) aC|0]) (pv 1)))).pt (aF (bx i5)) cq
 case s5=>exact bx (bc cW hr %[3,4,5,6,7,br c_ (pv 0) aC|0])
 apply#[_,Z,lq,_,Z,.of hq,Z,_,_,Z,_,_,Z,_,_,Z,_,_,Z,_,_,Z,Z,?_];rcases tl with⟨x,ys,ms,sE,h1,h2,h3,h4,h5,h6,h7⟩|⟨h1,h2⟩
 ·rcases dv with⟨kd,rfl,⟨sd,d1,d2⟩,d3⟩|⟨_,d1⟩
  ·have ek:kd=ms.length:=by
    rcases Nat.lt_trichotomy kd ms.length with c|c|c
    ·rw[h7 kd sd c d1] at d2;cases d2
    ·exact c
    rw[d3 _ sE c h5] at h6;cases h6
   let Lf:=bw h3;apply#[_,Z,Z,_,Z,aM ?_];apply#[_,Z,_,_,_,_,Z,.tup h1,Z,_,Z,aM ?_];apply#[_,Z,t,_,Z,.inr (.of h1),Z,_,Z,?_];apply AL (show V.int ((2:Nat):Int)=V.int 2 from Z) ?_;apply#[_,Z,t,_,0,_,Z,Z,.of h1,L2.dR (j:=0) Z,Z,_,Z,?_];apply AL Z ?_;apply#[_,Z,t,_,1,_,Z,Z,.of h1,L2.dR (j:=1) Z,_,_,_,_,Z,.lst h2,Z,_,Z,aM ?_];apply#[_,Z,t,_,1,_,Z,Z,.of h1,L2.dR (j:=1) Z,x,_,Z,.inl (.of h2),_,Z,Z,_,Z,?_];apply AL (by rw[Lf,ek]) ?_;exact#[_,Z,_,Z,_,Z,_,Z,_,Z,_,Z,t,_,1,_,Z,Z,.of h1,L2.dR (j:=1) Z,lh,lp,lt,tt,ll,x,ys,hs,ts,ss,qs,l,s0,sE,ms,Z,Pt,D0,vv,h2,h3,h4,h6,k]
  rw[d1 _ sE h5] at h6;cases h6
 rcases dv with⟨kd,rfl,⟨sd,d1,d2⟩,d3⟩|⟨rfl,d1⟩
 ·rw[h2 _ sd d1] at d2;cases d2
 apply#[_,Z,Z,_,Z,dj ?_];apply#[_,Z,zl,λq hq'=>?_];let#[s5,e5]:=aD (o:=.tup [.str "none"]) hq';generalize upd H q (.tup [.str "none"])=H5 at s5 e5 ⊢;apply#[t,q,["none"],["none"],[],Z,Z,.of (s5 _ _ h1),.of e5,.inl Z,?_];exact k H5 s5
end
end Ev
namespace Ev
open PySem L2
theorem EB{α:Type}{p:α->Prop}{xs:List α}{r:Int}(h0:0<=r)(h1:r<xs.length)(all:∀x∈xs,p x):∃x,iB xs r\x/\p x:=by
 let#[j,rfl]:=tX h0;have hj:j<xs.length:=by omega
 exact#[xs[j],L2.dR (aQ hj),all _ (kK hj)]
theorem gz.but{K:aj}{CG CW:Addr}{H H':Hp}{l g p:Addr}{hs:Xa}{ts:Xb}{qs:aN}{fp:au}(G:gz K CG CW H g p hs ts qs fp)(b:a_ l H H')(st:dB H l)(nl:l∉fp):gz K CG CW H' g p hs ts qs fp:=by
 let#[xs,e]:=st.some;exact G.keep (λc hc o ho=>b _ _ ho λz=>nl (by rw[<- z];exact hc)) (λc zs hz=>b _ _ hz (bK hz e nofun))
theorem gz.xr{K:aj}{CG CW:Addr}{H:Hp}{g p:Addr}{hs:Xa}{ts:Xb}{qs:aN}{fp:au}(G:gz K CG CW H g p hs ts qs fp):∃kE,gz K CG CW H g p hs ts qs kE/\(∀b∈kE,∃o,H b\o)/\∀c∈kE,c∈fp:=by
 let#[dx,dw,dy,vs,dF,h1,h2,h3,h4,h5,m1,m2,m3,m4,m5]:=G.ex;have hY:∀{b:Addr} {o:HO},b∈fp->H b\o->b∈fp.filter λb=>(H b).isSome:=λm e=>jY.mpr #[m,by rw[e];rfl];apply#[fp.filter λb=>(H b).isSome,#[dx,dw,dy,vs,dF,h1,h2,h3,h4,h5,hY m1 h1,hY m2 h3,hY m3 h4,λb hb=>?_,λv hv a z=>?_],λb hb=>?_,λb hb=>(jY.mp hb).1]
 ·let#[o,e]:=h2.has hb;exact hY (m4 b hb) e
 ·let#[i,hi,ev]:=hJ hv;let le:=bw h5;let w:=dU h5 i hi Z1;rw[ev,z] at w;cases o:(qs[i]' Z1).2.2 with
  |none=>
   rw[o] at w;cases (show V.ref a=.non from w)
  |some ws=>
   rw[o] at w;let#[a',ys,e,h,_]:=w;cases e;exact hY (m5 v hv a z) h
 exact Option.isSome_iff_exists.mp (jY.mp hb).2
theorem gz_{r b:Int}(h0:0<=r)(h9:r<9)(hb:b=1∨b=2∨b=4∨b=8):pO (1+2 * r,b):=by
 have g:Int.gcd (1+2 * r) b=1:=by
  let#[j,rfl]:=tX h0;have hj:j<9:=by omega
  have key:∀j:Fin 9,Int.gcd (1+2 * ((j:Nat):Int)) 1=1/\Int.gcd (1+2 * ((j:Nat):Int)) 2=1/\Int.gcd (1+2 * ((j:Nat):Int)) 4=1/\Int.gcd (1+2 * ((j:Nat):Int)) 8=1:=by decide +kernel
  let#[k1,k2,k3,k4]:=key #[j,hj];rcases hb with rfl|rfl|rfl|rfl
  ·exact k1
  ·exact k2
  ·exact k3
  exact k4
 apply#[?_,?_,?_,?_,g]<;>dsimp only<;>omega
theorem fH_{hs:Xa}{ts:Xb}{qs:aN}{f:bo}{r:Int}(G:Good hs ts)(wp:∀q∈qs,0<=q.2.1/\q.2.1<=1000000000)(bX:qs.length<64)(R:BS hs qs f r):pO (fr r (fG hs)):=by
 let rl:=Ss G wp bX R;let mo:=AO G;let fb:=Q9 rl.1 rl.2 mo.1 mo.2.1;let#[f1,f2,f3,f4,f5]:=fb;apply#[f3,?_,?_,?_,f5]<;>omega
section v
theorem FU:bG [gI,"_law_goods","_law_names","_law_layers_here","_law_layer","_law_some","_law_one","_law_drawn"] uc (aX Ob):=bR
inductive Oy (K:aj) (CG CW:Addr) (vs:ai) (H:Hp) (Q:VK) (E:XK):Prop
 |mk:∀(l g ln lL p:Addr) (hs:Xa) (ts:Xb) (qs:aN) (fp:au) (ys:ai) (LL:List (List ak)) (s0:ak),vs=[.ref l,.ref g,.ref ln,.ref lL]->dB H l->Gs K CG CW H g p hs ts qs fp->l∉fp->(∀b∈fp,∃o,H b\o)->H ln\.lst ((qs.map (·.1)).map V.str)->ln≠l->H lL\.lst ys->lL≠l->gq H ys LL->(∀b,V.ref b∈ys->b≠l)->gn (Nx hs ts qs) s0 LL->Vs hs qs s0->LL.length<=1000000->(∀L∈LL,L.length<=1000000)->(∀t lim H',a_ l H H'->dB H' l->gO H' t lim->pO lim->Q (.ref t) H')->Oy K CG CW vs H Q E
theorem gN_{f CG CW:Addr}{fd:Ae}(F:bj K "_law_limit" "_law_limit" Ob f fd)(B:Bi mg)(cD:!bp 1 uM wA yq)(cS:!bp 7 "spread" ya (NH K CG CW)):!ao aZ 8 f fd uc (Oy K CG CW):=by
 exists F.bQ FU;let#[l,g,ln,lL,p,hs,ts,qs,fp,ys,LL,s0,rfl,st,G,lfp,has,uD,Bv,hL,G0,ly,fr,ok,v,L6,PR,k]:=h;let sz:=cJ;refine' #[_,aw ?s1 (aw ?s2 (aw ?s3 (aw ?s4 (aF ?s5)))),?kk]
 case s1=>exact bq 4 FU.nd (br fO (pv 3) (bc cD hr %[0,cO (hg_ Z) (by rfl) B.max PyProof.Rows.Boot.«max» %[aC,bN Iz (cO iC (by rfl) B.len gJ %[3|0]) aC|0]|0]))
 case s2=>exact bq 5 FU.nd (br fO (pv 4) (bc cD hr %[0,cO iC (by rfl) B.len gJ %[4|0]|0]))
 case' s3=>refine' bq 6 FU.nd (bc cS hr %[1,ja (yw Z) (by rfl) B.dict tQ %[iL ["_law_k","_law_names","_law_some"] 1 [2,5] (wX (by rfl) B.range %[cO iC (by rfl) B.len gJ %[2|0]|0]) (λfp s H=>?g3) (λfp s H=>jr) (λfp s H=>?e3)|0]|0])
 case g3=>exact eO (i:=0) (show (["_law_k","_law_names","_law_some"]:ae).Nodup by decide +kernel) Z (Or.inl Z)
 case e3=>exact gf %[br (uz (K:=K) oN fO) (pv 1) (pv 0),br (uz (K:=K) jz c_) (pv 2) (pv 0)|0]
 case s4=>exact bq 7 FU.nd (gf %[bN gM aC (bN pU aC (bc cD hr %[0,aC|0])),br fO (fQ %[aC,aC,aC,aC|0]) (bc cD hr %[0,aC|0])|0])
 case s5=>exact bx (br fO (fQ %[gf %[aC,aC|0],7,6,6,gf %[Lx MN aC,aC|0]|0]) (bc cD hr %[0,aC|0]))
 let GY:=bw ly;let#[n,hn,nQ]:=ok.last
 have n1:1<=n:=by
  let#[L,Sg,hm]:=ok.mem (j:=0) (s:=s0) #[.z,λj hj=>by omega];rcases Nat.eq_zero_or_pos n with rfl|h
  ·rw[nQ] at Sg;cases cY Sg;cases hm
  exact h
 have mx:(if (ys.length:Int) - 1 > 1 then (ys.length:Int) - 1 else 1)=(n:Int):=by split<;>omega
 apply#[_,Z,_,Z,_,Z,lL,_,Z,.inl (.of hL),_,_,Z,Z,_,_,Z,?_];apply#[l,n,d7 (λz=>[V.ref l,V.int z]) mx,by omega,by omega,st,λr H1 r0 r1 b1 qp=>?_];let#[r,rfl]:=tX r0;have LJ:r<ys.length:=by omega
 let#[a,zs,ea,ha,sp]:=dU ly r LJ Z1;have Hw:LL[r]? = some (LL[r]' Z1):=aQ Z1;obtain⟨Lr,eL⟩:∃L,L=LL[r]' Z1:=#[_,Z];rw[<- eL] at Hw sp;let is:=ok.is r Lr Hw;let nz:=ok.ne r Lr Z1 Hw;let vN:=bw sp;let Yv:=PR Lr (cX Hw);have l0:0<Lr.length:=List.length_pos_iff.mpr nz;have al:a≠l:=fr a (by rw[<- ea];exact kK LJ);let#[JR,lY]:=st.some;have tk:∀{H':Hp},a_ l H H'->∀c xs,H c\.tup xs->H' c\.tup xs:=λb c xs e=>b _ _ e (bK e lY nofun);apply#[lL,_,r,_,Z,Z,.of (b1 _ _ hL G0),L2.dR (by rw[aQ LJ,ea]),?_];apply#[_,Z,_,Z,_,Z,a,_,Z,.inl (.of (b1 _ _ ha al)),l,zs.length,Z,by omega,by omega,qp,λr2 H2 Xe r21 b2 fL=>?_];let#[r2,rfl]:=tX Xe;have jJ:r2<zs.length:=by omega
 let#[u,eu,hu]:=dU sp r2 jJ Z1;obtain⟨z,ez⟩:∃z,z=Lr[r2]' Z1:=#[_,Z];rw[<- ez] at hu;have zm:z∈Lr:=by rw[ez];exact kK Z1
 have zv:Vs hs qs z:=((is.2 z).mp zm).1.vs v;let B1:=b1.trans b2;let zR:=tk B1 _ _ hu;apply#[a,_,r2,_,Z,Z,.of (B1 _ _ ha al),L2.dR (by rw[aQ jJ,eu]),?_];let ln2:=B1 _ _ uD Bv;let G2:=G.G.but B1 st lfp
 have ER:∀b∈fp,∃o,H2 b\o:=λb hb=>by
  let#[o,e]:=has b hb;exact#[o,B1 _ _ e λz=>lfp (by rw[<- z];exact hb)]
 let bX:=G.bX;let lz:=zv.len;have ln:((qs.map (·.1)).map V.str).length=qs.length:=by rw[aq,aq]
 have Yn:(qs.map (·.1)).length=qs.length:=aq _;obtain⟨nm,Na⟩:∃nm,nm=qs.map (·.1):=#[_,Z];rw[<- Na] at ln2 ln Yn;have K6:nm.Nodup:=by rw[Na];exact G.nd
 apply#[_,Z,_,Z,_,_,Z,.inl (.of ln2),_,Z,by show (-(2 ^ 62):Int)<=((nm.map V.str).length:Int);omega,by show ((nm.map V.str).length:Int)<2 ^ 62;omega,λD hD=>?_]
 have Dl:D≠l:=by
  let#[xs,e]:=fL.some;exact (bu e hD).symm
 apply IH (own:=1) (fv:=[some (.ref _),some (.ref u)]) Z fh nm.length (λi out H'=>aa H2 H'/\H' D\.lst out/\jk K H' out (dZ (nm.take i) (og nm z))) #[aa.new hD,ay,.nil] (λout H3 ⟨s3,kD,pa⟩=>#[?_,?_]) (λi out H3 hi ⟨s3,kD,pa⟩=>#[?_,λx H4 ⟨e4,ex⟩=>?_])
 ·show ((nm.map V.str).length:Int).toNat<=nm.length;omega
 rotate_left 1
 ·show i<((nm.map V.str).length:Int).toNat;omega
 ·subst e4;subst ex;rw[show (0:Int)+(i:Nat)=(i:Int) by omega];have h1:nm[i]? = some nm[i]:=aQ hi;have h2:z[i]? = some (z[i]' Z1):=aQ Z1;apply#[_,Z,Z,λNx hN=>ed ?_];apply#[_,Z,_,Z,_,_,i,_,Z,Z,.of (s3 _ _ ln2),L2.dR (by rw[dk,h1];rfl),_,Z,_,Z,u,_,i,_,Z,Z,.of (s3 _ _ zR),L2.dR (by rw[dk,h2];rfl),zl,λq hq=>?_];let#[s5,e5]:=aD (o:=.tup [.str nm[i],.str (z[i]' Z1)]) hq;generalize upd H4 q (.tup [.str nm[i],.str (z[i]' Z1)])=H5 at s5 e5 ⊢;let ix:=s5 _ _ kD;let lo:=bw pa;rw[jV,dG] at lo
  have tD:∀{c xs},H5 c\.tup xs->upd H5 D (.lst (out++[.ref q])) c\.tup xs:=λe=>by
   rw[ax (bK e ix nofun)];exact e
  apply#[out,ix,by omega,hN _ _ #[fo (s3.trans s5) hD,ay,?_]];rw[tM h1];show jk K _ _ ((nm.take i++[nm[i]]).map _);rw[eU];apply hU (Paired.aV pa λy p ⟨c,e,hc⟩=>#[c,e,tD (s5 _ _ hc)]) (.cons #[q,Z,?_] .nil);rw[tD e5];show some (HO.tup [V.str nm[i],V.str (z[i]' Z1)])\HO.tup [V.str nm[i],V.str (og nm z nm[i])];rw[BN K6 h1 h2]
 rw[eN] at pa;apply#[D,out,_,Z,kD,pa,by rw[jV];omega,λd hd=>?_]
 have km:((dZ nm (og nm z)).map (·.1)).Nodup:=by
  rw[A0,tY,uX];exact K6.imp λn e=>n (hZ e)
 rw[wY km];let#[s4,e4]:=aD (o:=.dK (dZ nm (og nm z))) hd;let vD:=s3.trans s4;generalize upd H3 d (.dK (dZ nm (og nm z)))=H4 at s4 e4 vD ⊢;have b04:a_ l H H4:=B1.trans (a_.of vD);let ij:=fL.same vD
 have o4:d∉fp:=λm=>by
  let#[o,e]:=ER d m;rw[s3 _ _ e] at hd;cases hd
 have WJ:IP hs qs nm (og nm z):=by
  apply#[by rw[Na],λn hn=>?_];let#[j,hj,e]:=hJ hn;rw[BN K6 (k:=j) (by rw[aQ hj,e]) (aQ (show j<z.length by omega))];exact (gL hs).mem_iff.mp (zv.hY _ (kK Z1))
 apply#[g,p,d,hs,ts,qs,fp,nm,og nm z,Z,#[G2.same vD,G.Gd,o4,e4,WJ,G.nd,bX,λq hq=>(G.wp q hq).1],G.wp,λto rr H5 s5 R hto=>?_];have b05:a_ l H H5:=b04.trans (a_.of s5);let hX:=ij.same s5;let DJ:=fH_ G.Gd G.wp bX R;apply#[_,Z,l,9,Z,by decide,by decide,hX,λr3 H6 q0 q1 b6 iO=>#[_,_,Z,Z,.inr #[by omega,by omega],_,_,Z,Z,?_]];apply#[zl,λlx ku=>?_];let#[s7,e7]:=aD (o:=.lst [.int 1,.int 2,.int 4,.int 8]) ku;let jd:=iO.same s7
 have DG:lx≠l:=by
  let#[xs,e]:=iO.some;exact (bu e ku).symm
 generalize upd H6 lx (.lst [.int 1,.int 2,.int 4,.int 8])=H7 at s7 e7 jd ⊢;apply#[_,Z,l,4,Z,by decide,by decide,jd,λr4 H8 q2 q3 b8 yU=>?_]
 let#[y,hy,bb,eb,hb]:=EB (p:=λy:V=>∃b:Int,y=.int b/\(b=1∨b=2∨b=4∨b=8)) (xs:=[V.int 1,.int 2,.int 4,.int 8]) q2 q3 (λx hx=>by
  simp only[bV,fX,or_false] at hx;rcases hx with rfl|rfl|rfl|rfl
  ·exact#[_,Z,.inl Z]
  ·exact#[_,Z,.inr (.inl Z)]
  ·exact#[_,Z,.inr (.inr (.inl Z))]
  exact#[_,Z,.inr (.inr (.inr Z))])
 subst eb;apply#[lx,_,_,_,Z,Z,.of (b8 _ _ e7 DG),hy,zl,λtd htd=>?_];let#[s9,e9]:=aD (o:=.tup [.int (1+2 * r3),.int bb]) htd;let vt:=yU.same s9;have BZ:a_ l H5 (upd H8 td (.tup [.int (1+2 * r3),.int bb])):=((b6.trans (a_.of s7)).trans b8).trans (a_.of s9);generalize upd H8 td (.tup [.int (1+2 * r3),.int bb])=H9 at s9 e9 vt BZ ⊢
 have tl:∀{Ha Hb:Hp},dB Ha l->a_ l Ha Hb->∀{c xs},Ha c\.tup xs->Hb c\.tup xs:=by
  intro Ha Hb sa b c xs e;let#[xs,e2]:=sa.some;exact b _ _ e (bK e e2 nofun)
 let D5:=tl hX BZ hto;apply#[zl,λt1 uA=>?_];let#[sA,eA]:=aD (o:=.tup [.int 0,.int 1]) uA;generalize upd H9 t1 (.tup [.int 0,.int 1])=HA at sA eA ⊢;apply#[_,Z,_,Z,_,Z,_,Z,zl,λt2 xQ=>?_];let#[sB,eB]:=aD (o:=.tup [.int (-1),.int 2]) xQ;generalize upd HA t2 (.tup [.int (-1),.int 2])=HB at sB eB ⊢;apply#[zl,λlc xT=>?_];let#[sC,eC]:=aD (o:=.lst [.ref t1,.ref td,.ref to,.ref to,.ref t2]) xT;let yT:=(vt.same sA).same sB
 have Ys:lc≠l:=by
  let#[xs,e]:=yT.some;exact (bu e xT).symm
 let stC:=yT.same sC;generalize upd HB lc (.lst [.ref t1,.ref td,.ref to,.ref to,.ref t2])=HC at sC eC stC ⊢;let zp:=(sA.trans sB).trans sC;apply#[_,Z,l,5,Z,by decide,by decide,stC,λr5 HD q4 q5 bD Kr=>?_];have tD:∀{c xs},HC c\.tup xs->HD c\.tup xs:=λe=>tl stC bD e
 let#[y,hy,tt,lim,ey,h1,h2]:=EB (p:=λy:V=>∃(t:Addr) (lim:Int × Int),y=.ref t/\gO HD t lim/\pO lim) (xs:=[V.ref t1,.ref td,.ref to,.ref to,.ref t2]) q4 q5 (λx hx=>by
  simp only[bV,fX,or_false] at hx;rcases hx with rfl|rfl|rfl|rfl|rfl
  ·exact#[t1,(0,1),Z,tD ((sB.trans sC) _ _ eA),by constructor<;>decide]
  ·exact#[td,(1+2 * r3,bb),Z,tD (zp _ _ e9),gz_ q0 q1 hb]
  ·exact#[to,_,Z,tD (zp _ _ D5),DJ]
  ·exact#[to,_,Z,tD (zp _ _ D5),DJ]
  exact#[t2,(-1,2),Z,tD (sC _ _ eB),by constructor<;>decide])
 subst ey;apply#[lc,_,_,_,Z,Z,.of (bD _ _ eC Ys),hy,?_];exact k tt lim HD ((b05.trans (BZ.trans (a_.of zp))).trans bD) Kr h1 h2
end
end Ev
namespace L2
open PySem PySem.Spec PyProof.Rows
section
variable{M:Model}{A:Ag}{E:Aa->Ab->Prop}{s:Ab}
end
section
variable{X:Cx}{E:XK}
end
section v
section
variable{N:ae}{qual:Str}{scope:Scope}{f:Addr}{cd:Aa}{A:Ag}{outer:List Env}{s:Ab}{H:Hp}{E:XK}
end
end
end L2
namespace L2
open PySem PySem.Spec PySem.Calls PyProof.Rows PySem.W
section
variable{M:Model}{A:Ag}{E:Aa->Ab->Prop}{s:Ab}{base:Heap}{env:Env}{outer:List Env}{L e:Addr}{cls a0:Aa}{Q:Unit->Ab->Prop}
end
end L2
namespace L2
open PySem PySem.Spec PySem.Calls PyProof.Rows PySem.W
section
variable{prog:Ad}{w:Af}{A:Ag}{E:Aa->Ab->Prop}{h:Heap}{g:Array GenState}{d:Drawn}{t:Nat}{os:OsState}{nm q:Str}{C N f:Addr}{bs bm Vb:ag}{Mp:Bool}{sn:ae}{sub:ag}{ab:Bool}{col:Option Bool}{dd:Option Addr}{k0 k1 k2 k3 k5:Option Aa}{B newId zL:String}{K:aj}{rest:ag}
end
end L2
namespace L2
open PySem PySem.Spec PySem.Calls PyProof.Rows PySem.W Builtin Builtin.ObjectAttr
def AB(C CE:Addr):ag:=[.ref C,.ref CE,.type "ValueError",.type "Exception",.type "BaseException",.type "object"]
section
variable{prog:Ad}{w:Af}{A:Ag}{E:Aa->Ab->Prop}{s:Ab}{K:aj}{x C CE:Addr}{ox:Obj}{od:Option Obj}{name:Str}{tk:Tok}{v:Aa}{cd:ClassData}
end
end L2
namespace L2
open PySem PySem.Spec PySem.Calls PyProof.Rows PySem.W
section
variable{M:Model}{A:Ag}{E:Aa->Ab->Prop}{s:Ab}{env:Env}{nm q:Str}{C N:Addr}{bs bm:ag}{Mp:Bool}{sn:ae}{sub:ag}{ab:Bool}{col:Option Bool}{dd:Option Addr}{k0 k1 k2 k3 k5:Option Aa}{newId:String}
end
end L2
namespace L2
open PySem PySem.Spec PySem.Calls PyProof.Rows PySem.W
def AC(K:aj)(C:Addr)(Vb:ag)(newId:String):Bool:=
 match K.lookup C with
 |some ⟨.type "type",_,.cls cd,sl⟩=>
  match cd.mro,sl.toList with
  |.ref C'::bm,[_,_,_,_,some (.builtin n),_]=>C' == C&&n == newId&&!cd.hasDel&&tailIn K Vb bm&&nsOkIn K cd.ns
  |_,_=>false
 |_=>false
def Ol(K:aj)(C CE:Addr):Bool:=
 match clsIn K C with
 |some cd=>cd.mro == AB C CE&&cd.hasDict
 |none=>false
structure ExO (K:aj) (C CE:Addr):Prop where
 kx:P0 K C
 ex:AC K C bmV "ValueError.__new__"=true
 es:findIn K (.ref C) "__setattr__"\some (.builtin "object.__setattr__")
 cl:Ol K C CE=true
structure ExF (K:aj) (C:Addr) (f:Str):Prop where
 tk:takerIn K C f\none
 fd:findIn K (.ref C) f\none
structure ExB (K:aj) (CE:Addr):Prop where
 sp:specialIn K (.ref CE) "__getattribute__"\some (.builtin "type.__getattribute__")
 rd:readsIn K CE (.type "type")=true
 fc:findCls K (.ref CE) (.type "type") "__init__"\.val (.builtin "ValueError.__init__")
section
variable{P:Ad}{w:Af}{H:Hp}{h:Heap}{e C a0 d:Addr}{dd:Option Addr}{fs:List (Str × V)}
end
section
variable{X:Cx}{C CE:Addr}{x f:Str}{p apos pos pos':Pos}{o e value:Expr}{es:List Expr}{ta tv:TE}{t:TA}
end
end L2
namespace L2
open PySem PySem.Spec PySem.Calls PyProof.Rows PySem.W
section
variable{X:Cx}{pins:List (Addr × Obj)}{σ:St}{H H':Hp}{s s1:Ab}{B h:Heap}{a:Addr}{cls a0:Aa}{dd:Option Addr}{E:XK}
end
section
variable{P:Ad}{w:Af}{K:aj}{mg:Str->Option Aa}{base:Heap}{N:ae}{qual:Str}{scope:Scope}{f:Addr}{cd:Aa}{A:Ag}{outer:List Env}{s:Ab}{H:Hp}{E:XK}
end
section
variable{X:Cx}{x:Str}{C f:Addr}{fd:Ae}{ps:ae}{sp:Sp}{k:Nat}{np bZ pos:Pos}{e:Expr}{es:List Expr}{t:TA}{E:XK}
end
end L2
namespace L2
open PySem PySem.Spec PySem.Calls PyProof.Rows PySem.W
section
variable{X:Cx}{i:Nat}{x n:Str}{D C:Addr}{np zW pos:Pos}{AX:Stmt}{qo body:List Stmt}{tb:XK->TS}{ts:TS}{rest:List ExceptHandler}
end
end L2
namespace L2
open PySem PySem.Spec PySem.Calls PyProof.Rows PySem.W
section
variable{P:Ad}{w:Af}{K:aj}{mg:Str->Option Aa}{base:Heap}{N:ae}{qual:Str}{scope:Scope}{f:Addr}{cd:Aa}{A:Ag}{outer:List Env}{s:Ab}{H:Hp}{E:XK}
end
section
variable{X:Cx}{i:Nat}{x x2 n:Str}{D C D2 C2:Addr}{np zW np2 RL pos:Pos}{AX c₀:Stmt}{qo Kp body:List Stmt}{tb:XK->TS}{ts Gc:TS}
end
section
variable{X:Cx}
end
end L2
namespace L2
open PySem PySem.Spec PySem.Calls PyProof.Rows PySem.W
section
variable{X:Cx}{i:Nat}{x n:Str}{D:Addr}{ok:Addr->Prop}{np zW pos:Pos}{AX:Stmt}{qo body:List Stmt}{tb:XK->TS}{ts:TS}
end
end L2
namespace L2
open PySem PySem.Spec PySem.Calls PyProof.Rows PySem.W
end L2
namespace L2
open PySem PySem.Spec PyProof.Rows
section
variable{X:Cx}
end
section
variable{X:Cx}{k:Nat}{ps:ae}{x:Str}{p pos:Pos}{e:Expr}{es:List Expr}{tn:TE}{t:TA}
end
end L2
namespace L2
open PySem PySem.Spec PyProof.Rows PySem.W
structure I_ (ps cZ:ae) (scope:Scope):Prop where
 nd:(ps++cZ).Nodup
 kind:scope.kind=.function
 co:scope.isCoroutine=false
 gen:scope.isGenerator=false
 par:∀p∈ps,scope.names.lookup p\.local
 fv:∀x∈cZ,scope.names.lookup x\.free
 all:∀x,scope.names.lookup x\.free->x∈cZ
 rR:∀x∈scope.names,x.2≠.cell
def BI(CX:kL)(P:Ad)(w:Af)(K:aj)(mg:Str->Option Aa)(base:Heap)(N:ae)(qual:Str)(scope:Scope)(f:Addr)(cd:Aa)(cl:List (Str × Addr))(A:Ag)(outer:List Env)(s:Ab)(H:Hp)(E:XK):Cx where
 prog:=P
 w:=w
 K:=K
 mg:=mg
 base:=base
 A:=A.deeper (envX qual scope s.heap.objs.size f cd cl)
 N:=N
 df:=s
 kg:=H
 env:=envX qual scope s.heap.objs.size f cd cl
 outer:=outer
 stack:=envX qual scope s.heap.objs.size f cd cl::outer
 ex:=[]
 calm:=true
 fn:=λ_=>false
 pn:=[]
 xe:=λe s'=>wpAny (model P w) (A.deeper (envX qual scope s.heap.objs.size f cd cl)) (leaving (envX qual scope s.heap.objs.size f cd cl) e) (λ_ pB=>CX outer H s E e pB) (λe' pB=>CX outer H s E e' pB) s'
theorem Ul{x:Str}{u:Aa}:∀{l:List (Str × Aa)},(l.map (·.1)).Nodup->(x,u)∈l->l.lookup x\u
 |(y,v)::l,nd,h=>by
  let n:=js.mp nd;rcases bV.mp h with e|h
  ·cases e;simp[List.lookup]
  have ne:x≠y:=λz=>n.1 (by rw[<- z];exact bC.mpr #[_,h,Z]);have:(x == y)=false:=⇑ne
  rw[pX,this];exact Ul n.2 h
theorem Sv:∀(ps:ae) (us:ag),((ps.zip us).map (·.1)).Sublist ps
 |[],_=>by simp
 |_::_,[]=>by simp
 |p::ps,u::us=>by
  simp only[List.zip_cons_cons,eI];exact (Sv ps us).cons₂ p
theorem cY_{ps:ae}{us:ag}{i:Nat}{x:Str}{u:Aa}(nd:ps.Nodup)(h1:ps[i]? = some x)(h2:us[i]? = some u):(ps.zip us).reverse.lookup x\u:=by
 apply Ul ?_ (List.mem_reverse.mpr (cX (i:=i) ?_))
 ·rw[List.map_reverse];apply (List.reverse_perm _).nodup_iff.mpr (nd.sublist ?_);exact Sv ps us
 rw[List.getElem?_zip_eq_some];exact#[h1,h2]
structure IZ (cZ:ae) (cl:List (Str × Addr)) (gs:ai) (h:Heap):Prop where
 inj:∀x y c,cl.lookup x\c->cl.lookup y\c->x=y
 has:∀x∈cZ,∃c,cl.lookup x\c
 all:∀x c,cl.lookup x\c->∃v,h.IsCell c v
 is:∀(i:Nat) x v,cZ[i]? = some x->gs[i]? = some v->∃c u,cl.lookup x\c/\RelV v u/\h.IsCell c (some u)
theorem IsCell.keeps{h h':Heap}{c:Addr}{v:Option Aa}(x:h.IsCell c v)(k:∀o,h.get? c\o->h'.get? c\o):h'.IsCell c v:=let #[o,e,d]:=x;#[o,k o e,d]
theorem _g{CX:kL}{P:Ad}{w:Af}{K:aj}{mg:Str->Option Aa}{base:Heap}{ps cZ:ae}{qual:Str}{scope:Scope}{f:Addr}{cd:Aa}{cl:List (Str × Addr)}{A:Ag}{outer:List Env}{s:Ab}{H:Hp}{E:XK}{us:ag}{vs gs:ai}{h1:Heap}{tk:Nat}
  (S:I_ ps cZ scope) (hd:A.handled=none) (e0:iE P w K mg base A outer s H) (hl:vs.length=ps.length) (hg:gs.length=cZ.length) (r:Vals vs us) (C:IZ cZ cl gs s.heap) (fc:∀x c,cl.lookup x\c->H c=none)
  (ns:h1.Ns s.heap.objs.size λx=>(ps.zip us).reverse.lookup x) (k:∀b o,s.heap.get? b\o->h1.get? b\o) :
  Inv (BI CX P w K mg base (ps++cZ) qual scope f cd cl A outer s H E) [] (vs.map some++gs.map some) H { s with heap:=h1,toks:=tk }:=by
 have vJ:∀b:Addr,b∉(BI CX P w K mg base (ps++cZ) qual scope f cd cl A outer s H E).ex:=λb z=>absurd (show b∈([]:au) from z) Z2
 apply#[#[e0.mod,S.kind,Z,Z,bh _,C.inj,λy hy=>?_,λy c h=>(by cases h),λ_=>hd,Around.frames_deeper e0.frames,.inr #[Z,Z],λb z=>absurd z (vJ b),e0.bs,e0.tL,λb _ _=>vJ b,λb z=>absurd z (vJ b),e0.fW,e0.wk],
  rfl,e0.bare,Un.kept k,#[_,ns,λi y v l9 h2 h3=>?_],λy c h=>?_,e0.aA.fresh (bh _),fc,λp hp=>absurd (show p∈([]:List (Addr × Obj)) from hp) Z2,e0.aA.kept k,?_]
 ·have hy:scope.names.lookup y\.cell∨scope.names.lookup y\.free:=hy;rcases hy with hy|hy
  ·exact absurd Z (S.rR _ (pV hy))
  exact C.has y (S.all y hy)
 ·have l9:(ps++cZ)[i]? = some y:=l9;by_cases hi:i<ps.length
  ·rw[yx hi] at l9;rw[yx (by simpa [hl] using hi),dk] at h2;let#[v',hv,e]:=B4.mp h2;cases e;let#[u,hu,rv]:=r.get hv;apply#[u,rv,.inl #[S.par y (cX l9),?_]];have GQ:ps.Nodup:=(List.nodup_append.mp S.nd).1;show (ps.zip us).reverse.lookup y\u;exact cY_ GQ l9 hu
  rw[Bg Z1] at l9;rw[Bg (by simp[hl];omega),dk,aq,hl] at h2;let#[v',hv,e]:=B4.mp h2;cases e;let#[c,u,e1,rv,ce]:=C.is _ _ _ l9 hv;exact#[u,rv,.inr #[.inr (S.fv y (cX l9)),c,e1,IsCell.keeps ce λo e=>k _ _ e]]
 ·let#[v,ce]:=C.all y c h;exact#[v,IsCell.keeps ce λo e=>k _ _ e]
 show _=(ps++cZ).length;rw[d_,d_,aq,aq,hl,hg]
theorem _i{CX:kL}{P:Ad}{w:Af}{K:aj}{mg:Str->Option Aa}{base:Heap}{k:Nat}{ps cZ:ae}{qual:Str}{params:Arguments}{body:PySem.Expr}{scope:Scope}{f c':Addr}{pm kG:Aa}{cl:List (Str × Addr)}{A:Ag}{outer:List Env}{s:Ab}{H:Hp}{Q:VK}{E:XK}{us:ag}{vs gs:ai}{t:TE}
  (S:I_ ps cZ scope) (hr:aP (k+1) A) (e0:iE P w K mg base A outer s H) (hf:s.heap.get? f\kla_obj "<lambda>" qual params body scope cl pm c' kG) (iw:s.heap.CodeRec (.ref c') qual)
  (hb:bindArgs (kla_fn "<lambda>" qual params body scope cl pm (.ref c') kG) #[us,[]]=pure (ps.zip us)) (hl:vs.length=ps.length) (hg:gs.length=cZ.length) (r:Vals vs us) (C:IZ cZ cl gs s.heap) (fc:∀x c,cl.lookup x\c->H c=none)
  (ht:aP k (A.deeper (envX qual scope s.heap.objs.size f (.ref c') cl))->PE (BI CX P w K mg base (ps++cZ) qual scope f (.ref c') cl A outer s H E) body t) (hq:t (vs.map some++gs.map some) H Q) :
  codeAny (model P w) A (.call (.ref f) #[us,[]]) (CR CX outer P w H s Q E) s:=by
 have lim:s.heap.NoLimit:=e0.mod.nolimit.keeps λb o e=>(e0.bs b o e).1;apply kla_callFunE hr.depth hf Z S.co S.gen Z iw ?_;rw[hb];apply aE (wpAny_newFunctionEnv S.rR (λx hx=>?_) (λh1 ns sb=>?_) S.kind)
 ·exact S.par x.1 (List.of_mem_zip hx).1
 have k1:∀b o,s.heap.get? b\o->h1.get? b\o:=λb o e=>sb.extBut b o (dS (bz e)) (aU _ e);apply#[lim.keeps k1,?_];show codeAny _ _ (.expr body (envX qual scope s.heap.objs.size f (.ref c') cl)) _ _;let I:=_g (CX:=CX) (qual:=qual) (f:=f) (cd:=.ref c') (E:=E) (tk:=s.toks+(ps.zip us).length) S hr.hd e0 hl hg r C fc ns k1;apply kla_codeExpr (wpAny_mono (ht (hr.deeper _) [] _ _ H _ I hq) (λv s' hs=>?_) λe s' hs=>hs);let#[x,H',J,rv,q]:=hs;exact#[x,H',J.os,J.bare,J.base,J.aA,rv,q]
end L2
namespace L2
open PySem PySem.Spec PyProof.Rows PySem.W
def jI(f:Addr)(qual:Str)(params:Arguments)(body:PySem.Expr)(scope:Scope)(cl:List (Str × Addr))(c':Addr):HO:=.ext λh=>∃pm kG,h.get? f\kla_obj "<lambda>" qual params body scope cl pm c' kG
def AK(c':Addr)(qual:Str):HO:=.ext λh=>∃o vs t,h.get? c'\o/\o.data=.fields vs/\vs[1]? = some (.str qual t)
inductive xi (P:Addr) (qual:Str) (params:Arguments) (body:PySem.Expr) (scope:Scope) (pos:Pos) (cl:List (Str × Addr)) (H:Hp) (Q:VK):Prop
 |mk:∀ps,H P\.tbl ps->TriplesOk ps.toList->((codeAmong pos ps.toList=none/\∀c' f,H c'=none->H f=none->c'≠f->Q (.ref f) (upd (upd (upd H P (.tbl (ps++(List.toArray [rawInt pos.line,rawInt pos.col,.ref c'])))) c' (AK c' qual)) f (jI f qual params body scope cl c')))∨∃c',codeAmong pos ps.toList\.ref c'/\∀f,H f=none->Q (.ref f) (upd H f (jI f qual params body scope cl c')))->xi P qual params body scope pos cl H Q
def CI(P:Addr)(qual:Str)(params:Arguments)(body:PySem.Expr)(scope:Scope)(pos:Pos)(cl:List (Str × Addr)):TE:=λ_ H Q=>xi P qual params body scope pos cl H Q
theorem Zs{X:Cx}{params:Arguments}{body:PySem.Expr}{scope:Scope}{pos:Pos}{cl:List (Str × Addr)}{c P:Addr}(Mo:defaultsOf params X.env=([],[]))(wb:closureFor scope X.env=pure cl)(xX:X.env.code=.ref c)(C:CodeHd X.base c P)(xZ:X.base.BuiltinsAt X.mg P) :
  PE X (.Lambda params body scope pos) (CI P (X.env.qual++"<lambda>") params body scope pos cl):=by
 intro pins s σ H Q I h;let#[ps,hP,ht,h]:=h;have Se:s.heap.get? P\tabObj ps:=I.aA P _ hP
 have RX:H mainGlobals=none:=by
  let#[o,_,_,e,_]:=I.mod.glob;exact (I.bs _ _ e).2
 apply kla_eval Mo ?_;rcases h with⟨hn,q⟩|⟨c',hf,q⟩
 ·apply kla_makeFunction wb I.ok.glob (I.mod.glob.keeps I.bk) xX (C.keeps I.bk) Se ht hn (λz=>by rw[z,hP] at RX;cases RX) (xZ.keeps I.bk) λc' kG h' tk hx Mc d5 LK RD=>?_;have fz:s.heap.objs.size<=h'.objs.size:=iK Mc (Nat.le_of_lt d5);have nc:H c'=none:=I.aA.fresh Mc;have nf:H h'.objs.size=none:=I.aA.fresh fz;have cf:c'≠h'.objs.size:=dS d5;have Pc:P≠c':=bu hP nc;have Pf:P≠h'.objs.size:=bu hP nf
  have old:∀{b u},H b\u->b≠P->upd (upd (upd H P (.tbl (ps++(List.toArray [rawInt pos.line,rawInt pos.col,.ref c'])))) c' (AK c' (X.env.qual++"<lambda>"))) h'.objs.size (jI h'.objs.size (X.env.qual++"<lambda>") params body scope cl c') b\u:=λ{b u} e n=>by
   rw[ax (bu e nf),ax (bu e nc),ax n];exact e
  have rN:∀{b u},H b\u->(∀ps,u≠.tbl ps)->b≠P:=λ{b u} e n z=>by
   rw[z,hP] at e;cases e;exact n _ Z
  have kp:∀b o,b≠P->s.heap.get? b\o->(h'.push (kla_obj "<lambda>" (X.env.qual++"<lambda>") params body scope cl ((X.mg "__name__").getD .none) c' kG)).get? b\o:=λb o n e=>aU _ (hx b o n e);apply#[.ref h'.objs.size,_,I.un (t':=tk) #[λb o e n _ _=>kp b o (λz=>by rw[z,hP] at n;cases n) e,λb o e n _ _=>#[o.slots,kp b o (λz=>by rw[z,hP] at n;cases n) e],λb o e n _=>?_,λb o e _=>?_,λb xs e=>old e (rN e Z2),λb o u e=>old e (rN e Z2),λb qs e=>?_] (λb u e=>?_),Z,q c' h'.objs.size nc nf cf]
  ·let lt:=bz e;rw[ax (dS (ju lt fz)),ax (dS (ju lt Mc)),ax (λz=>by rw[z,hP] at n;cases n)];exact n
  ·by_cases z:b=P
   ·subst z;exact#[_,aU _ RD]
   exact#[o,kp b o z e]
  ·by_cases z:b=P
   ·subst z;rw[hP] at e;cases e;exact#[_,by rw[ax Pf,ax Pc,ay]]
   exact#[#[],by rw[Array.append_empty];exact old e z]
  by_cases z1:b=h'.objs.size
  ·subst z1;rw[ay] at e;cases e;exact#[#[_,_,cK _ Z],#[_,cK _ Z],λh1 h2 ⟨pm,cv,e1⟩ k=>#[pm,cv,k _ e1]]
  rw[ax z1] at e;by_cases z2:b=c'
  ·subst z2;rw[ay] at e;cases e;let#[c2,oc,vs,t,ec,El,hd,hv]:=LK;cases ec;exact#[#[oc,vs,t,aU _ El,hd,hv],#[_,aU _ El],λh1 h2 ⟨o,vs,t,e1,r⟩ k=>#[o,vs,t,k _ e1,r]]
  rw[ax z2] at e;by_cases z3:b=P
  ·subst z3;rw[ay] at e;cases e;exact aU _ RD
  rw[ax z3] at e;apply (I.aA b u e).er (λd v hd e1=>kp d v ?_ e1) (λd e1=>old e1 (rN e1 Z2)) λd xs e1=>old e1 (rN e1 Z2);rcases hd with rfl|hd
  ·exact z3
  exact rN hd Z2
 apply kla_makeFunctionHit wb I.ok.glob (I.mod.glob.keeps I.bk) xX (C.keeps I.bk) Se ht hf (xZ.keeps I.bk) λkG h' tk hk hsz=>?_;have nf:H h'.objs.size=none:=I.aA.fresh hsz;apply#[.ref h'.objs.size,_,I.laid (t':=tk) (λb o e=>aU _ (hk b o e)) hsz ?_,Z,q _ nf];exact#[#[_,_,cK _ Z],#[_,cK _ Z],λh1 h2 ⟨pm,cv,e1⟩ k=>#[pm,cv,k _ e1]]
end L2
namespace L2
open PySem PySem.Spec PyProof.Rows PySem.W
theorem vF{P:Ad}{w:Af}{K:aj}{mg:Str->Option Aa}{base:Heap}{N:ae}{qual:Str}{scope:Scope}{f:Addr}{cd:Aa}{cl:List (Str × Addr)}{A:Ag}{outer:List Env}{s:Ab}{H:Hp}{E:XK}:wW aZ (BI aZ P w K mg base N qual scope f cd cl A outer s H E) E:=λ_ _ _ _ _ _ _ h=>h.elim
section
variable{cs:List (Addr × Obj)}{H H':Hp}{b:Addr}{o:Obj}{u:HO}
variable{P:Ad}{w:Af}{h:Heap}
end
section
variable{X:Cx}{pins:List (Addr × Obj)}{σ:St}{H:Hp}{s s':Ab}{cs:List (Addr × Obj)}
def ke(P:Ad)(w:Af)(K:aj)(mg:Str->Option Aa)(base:Heap)(k:Nat)(qual:Str)(params:Arguments)(body:PySem.Expr)(scope:Scope)(ps cZ:ae)(sp:ai->ai->Hp->VK->XK->Prop):Prop:=
 ∀(A:Ag) (outer:List Env) (s:Ab) (H:Hp) (f c':Addr) (pm kG:Aa) (cl:List (Str × Addr)) (us:ag) (vs gs:ai) (Q:VK) (E:XK),aP k A->iE P w K mg base A outer s H->s.heap.get? f\kla_obj "<lambda>" qual params body scope cl pm c' kG->s.heap.CodeRec (.ref c') qual->
  vs.length=ps.length->gs.length=cZ.length->Vals vs us->IZ cZ cl gs s.heap->(∀x c,cl.lookup x\c->H c=none)->sp vs gs H Q E->codeAny (model P w) A (.call (.ref f) #[us,[]]) (CR aZ outer P w H s Q E) s
theorem DO{P:Ad}{w:Af}{K:aj}{mg:Str->Option Aa}{base:Heap}{k:Nat}{qual:Str}{params:Arguments}{body:PySem.Expr}{scope:Scope}{ps cZ:ae}{sp:ai->ai->Hp->VK->XK->Prop}(S:I_ ps cZ scope)
  (hb:∀pm c' kG cl us,us.length=ps.length->bindArgs (kla_fn "<lambda>" qual params body scope cl pm (.ref c') kG) #[us,[]]=pure (ps.zip us))
  (fU:∀(A:Ag) (outer:List Env) (s:Ab) (H:Hp) (f:Addr) (cd:Aa) (cl:List (Str × Addr)) (vs gs:ai) (Q:VK) (E:XK),aP k (A.deeper (envX qual scope s.heap.objs.size f cd cl))->sp vs gs H Q E->wW aZ (BI aZ P w K mg base (ps++cZ) qual scope f cd cl A outer s H E) E->
   ∃t,PE (BI aZ P w K mg base (ps++cZ) qual scope f cd cl A outer s H E) body t/\t (vs.map some++gs.map some) H Q):!ke (k+1) qual params body scope ps cZ sp:=by
 intro A outer s H f c' pm kG cl us vs gs Q E hr e0 hf iw hl hg r C fc ko;let#[t,ht,hq]:=fU A outer s H f (.ref c') cl vs gs Q E (hr.deeper _) ko vF;exact _i S hr e0 hf iw (hb pm c' kG cl us (by rw[<- r.length];exact hl)) hl hg r C fc (λ_=>ht) hq
end
end L2
namespace L2
open PySem PySem.Spec PyProof.Rows PySem.W
structure JM (cZ:ae) (cl:List (Str × Addr)) (cs:List (Addr × Obj)) (gs:ai):Prop where
 len:gs.length=cZ.length
 inj:∀x y c,cl.lookup x\c->cl.lookup y\c->x=y
 has:∀x∈cZ,∃c,cl.lookup x\c
 all:∀x c,cl.lookup x\c->∃o v,cs.lookup c\o/\o.data=.cell v
 is:∀(i:Nat) x v,cZ[i]? = some x->gs[i]? = some v->∃c o u,cl.lookup x\c/\cs.lookup c\o/\o.data=.cell (some u)/\RelV v u
section
variable{X:Cx}{k:Nat}{x:Str}{p pos:Pos}{tn:TE}{qual:Str}{params:Arguments}{body:PySem.Expr}{scope:Scope}{cZ ps:ae}{Bq:ai->ai->Hp->VK->XK->Prop}{E:XK}
end
section
variable{X:Cx}{k:Nat}{x:Str}{p pos:Pos}{e:PySem.Expr}{es:List PySem.Expr}{ta:TA}{cZ ps:ae}{sp:Sp}{f:Addr}{fd:Ae}{cl:List (Str × Addr)}{is:List Nat}
end
end L2
namespace L2
open PySem PySem.Spec PyProof.Rows PySem.W
theorem h9_{P:Ad}{w:Af}{K:aj}{mg mb:Str->Option Aa}{CX:kL}{k:Nat}{fa a:Addr}{ts:au}{fd:Ae}{x:Str}{sp:Sp}{aL:Ab}{vs:ag}{ns:List Int}
  (hT:∀T∈ts,K.lookup T=none) (eT:∀T∈ts,aL.heap.get? T\tabObj #[]) (EK:∀T∈ts,isCodeTable aL.heap T)
  (KX:K.In aL.heap) (LV:aL.heap.Ns mainGlobals mg) (hb:aL.heap.Ns builtinsNs mb) (hbb:∀x:Str,x≠"__name__"->mb x=bootBuiltins x) (L0:aL.heap.NoLimit) (hg:aL.gens=#[])
  (ha:aL.heap.get? a=some { cls:=.type "list",data:=.seq vs.toArray }) (hi:IntsAre vs ns) (hl:ns.length<=sizeLine) (hr:aP k callerA)
  (xZ:∃bm ob,mg "__builtins__"\.ref bm/\bm≠builtinsNs/\aL.heap.get? bm\ob/\ob.cls=.type "module"/\ob.dict\builtinsNs/\ob.data=.plain)
  (F:∀base:Heap,K.In base->base.Ns mainGlobals mg->(∀T∈ts,base.BuiltinsAt mg T)->!ao CX k fa fd [x] sp) (EM:∀(s:Ab) (u:Aa),BindsTo s fd #[[u],[]] [(x,u)])
  (ko:∀H:Hp,(∀T∈ts,H T\.tbl #[])->dY K H a (ns.map V.int)->sp [.ref a] H (λv _=>v=.bl true) λ_ _ _=>False)
  (MF:∀H e s',CX [] H aL (λ_ _ _=>False) e s'->False) :
  codeAny (model P w) callerA (.call (.ref fa) #[[.ref a],[]]) (λr s'=>r=.ok (.ret (.bool true))/\OldK aL.heap s'.heap/\s'.os=aL.os/\AllBare s'.gens) aL:=by
 let rv:=TY hi;let Lm:=hi.length
 have aT:∀{b},b∈ts->b≠a:=λ{b} hb z=>by
  have:=eT b hb;rw[z,ha] at this;cases this
 have core:∀H:Hp,(∀b,H b=none∨(b∈ts/\H b\.tbl #[])∨(b∉ts/\∃o xs,H b\.frz o (.lst xs)))->(∀T∈ts,H T\.tbl #[])->dY K H a (ns.map V.int)->fR P w H aL.heap->(∀b,H b≠none->b=a∨b∈ts)->(H a≠none->K.lookup a=none)->
   codeAny (model P w) callerA (.call (.ref fa) #[[.ref a],[]]) (λr s'=>r=.ok (.ret (.bool true))/\OldK aL.heap s'.heap/\s'.os=aL.os/\AllBare s'.gens) aL:=by
  intro H hO hHT hS aA hA hK;have i6:∀{b:Addr} {o:Obj},aL.heap.get? b\o->H b=none->(iu aL.heap H).get? b\o:=λe n=>hR_ e n
  have vJ:∀{b:Addr} {o:Obj} {es:Array DictEntry} {ep:Nat},aL.heap.get? b\o->o.data=.dict es ep->H b=none:=λ{b o es ep} e d=>by
   cases q:H b with
   |none=>rfl
   |some u=>
    rcases hA b (by rw[q];simp) with e'|e'
    ·subst e';rw[ha] at e;cases e;have d':Data.seq vs.toArray _=Data.dict es ep:=d;cases d'
    rw[eT b e'] at e;cases e;cases d
  have GM:∀{b:Addr} {m:Str->Option Aa},aL.heap.Ns b m->(iu aL.heap H).Ns b m:=λ{b m} ⟨o,es,ep,e,d,r⟩=>#[o,es,ep,i6 e (vJ e d),d,r]
  have Si:K.In (iu aL.heap H):=λb o e=>i6 (KX b o e) (by
   cases q:H b with
   |none=>rfl
   |some u=>
    rcases hA b (by rw[q];simp) with e'|e'
    ·subst e';rw[hK (by rw[q];simp)] at e;cases e
    rw[hT b e'] at e;cases e)
  have hB:∀T∈ts,(iu aL.heap H).BuiltinsAt mg T:=λT Mz=>by
   let#[bm,ob,h1,h2,h3,h4,h5,h6]:=xZ
   have n1:bm≠mainGlobals:=λz=>by
    let#[o,es,ep,e,d,_]:=LV;rw[z,e] at h3;cases h3;rw[d] at h6;cases h6
   have n2:∀{b},b∈ts->bm≠b:=λ{b} hb z=>by
    rw[z,eT b hb] at h3;cases h3;cases h6
   apply#[bm,ob,h1,h2,n1,n2 Mz,i6 h3 ?_,h4,h5,h6];cases q:H bm with
   |none=>rfl
   |some u=>
    rcases hA bm (by rw[q];simp) with e'|e'
    ·subst e';rw[ha] at h3;cases h3;cases h6
    exact absurd Z (n2 e')
  have hM:Mod K mg (iu aL.heap H):=#[Si,GM LV,#[mb,GM hb,hbb],let #[mc,h1,h2]:=L0;#[mc,GM h1,h2]];have e0:iE P w K mg (iu aL.heap H) callerA [] aL H:=#[Z,hM,λb o e=>Y6 e,Nat.le_of_eq (gC_ _ _),trivial,λb hb=>absurd (show b∈([]:au) from hb) Z2,aA,.of_eq hg];apply codeAny_mono ((F _ Si (GM LV) hB).run callerA [] aL H #[[.ref a],[]] [.ref a] [.ref a] _ _ hr e0 (EM aL (.ref a)) (.cons Z .nil) (ko H hHT hS)) λr s' h=>?_;cases r with
  |error e=>exact (MF H e s' h).elim
  |ok fl=>
   cases fl with
   |next=>exact False.elim h
   |brk=>exact False.elim h
   |cont=>exact False.elim h
   |ret u=>
    let#[v,H',os,bare,un,Ej,r',q]:=h;have q':v=.bl true:=q;subst q';obtain rfl:u=Value.bool true:=r'
    have main:∀b o,aL.heap.get? b\o->s'.heap.get? b\o∨(b∈ts/\o=tabObj #[]/\∃more,s'.heap.get? b\tabObj (#[]++more)):=λb o e=>by
     cases q:H b with
     |none=>exact .inl (un.keep b o e q (by intro z;exact absurd (show b∈([]:au) from z) Z2) Z2)
     |some u=>
      rcases hO b with z|⟨zT,z⟩|⟨_,ob,xs,z⟩
      ·rw[q] at z;cases z
      ·rw[eT b zT] at e;cases e;let#[more,z]:=un.ig b _ z;exact .inr #[zT,Z,more,Ej b _ z]
      let z2:=un.g8 b ob _ z;let#[e1,_]:=aA b _ z;let#[e2,_]:=Ej b _ z2;rw[e] at e1;cases e1;exact .inl e2
    apply#[Z,#[λb o e=>?_,λb o e=>?_],os,bare]
    ·rcases main b o e with z|⟨zT,rfl,more,z⟩
     ·exact .inl z
     exact .inr (.inl #[EK b zT,Z,_,_,Z,z])
    rcases main b o e with z|⟨_,_,more,z⟩
    ·exact#[_,z]
    exact#[_,z]
 cases hk:K.lookup a with
 |some o=>
  let e:=KX a o hk;rw[ha] at e;cases e;apply core (λb=>if b∈ts then some (.tbl #[]) else none) (λb=>?_) (λT h=>aI h) (.inr #[_,vs.toArray,_,hk,Z,Z,Z,by rw[cm,Lm];exact hl,by simpa using rv]) (λb u z=>?_) (λb z=>?_) λz=>absurd (aB λq=>aT q Z) z
  ·by_cases hb:b∈ts
   ·exact .inr (.inl #[hb,aI hb])
   exact .inl (aB hb)
  ·by_cases hb:b∈ts
   ·let z':=(aI hb).symm.trans z;cases z';exact eT b hb
   let z':=(aB hb).symm.trans z;cases z'
  ·by_cases hb:b∈ts
   ·exact .inr hb
   ·exact absurd (aB hb) z
 |none=>
  have T2:∀{b:Addr},b∈ts->(λb=>if b∈ts then some (.tbl #[]) else if b=a then some (HO.frz { cls:=.type "list",data:=.seq vs.toArray } (.lst (ns.map V.int))) else none) b\.tbl #[]:=λ{b} hb=>aI hb;apply core (λb=>if b∈ts then some (.tbl #[]) else if b=a then some (.frz { cls:=.type "list",data:=.seq vs.toArray } (.lst (ns.map V.int))) else none) (λb=>?_) (λT h=>aI h) (.inl (.inr #[{ cls:=.type "list",data:=.seq vs.toArray },(aB λq=>aT q Z).trans (aI Z)])) (λb u z=>?_) (λb z=>?_) λ_=>hk
  ·by_cases l7:b∈ts
   ·exact .inr (.inl #[l7,aI l7])
   by_cases hb:b=a
   ·exact .inr (.inr #[l7,_,_,(aB l7).trans (aI hb)])
   exact .inl ((aB l7).trans (aB hb))
  ·by_cases l7:b∈ts
   ·let z':=(aI l7).symm.trans z;cases z';exact eT b l7
   by_cases hb:b=a
   ·let z':=((aB l7).trans (aI hb)).symm.trans z;cases z';subst hb;exact#[ha,by rw[aq];exact hl,vs,_,rv,ha]
   let z':=((aB l7).trans (aB hb)).symm.trans z;cases z'
  by_cases l7:b∈ts
  ·exact .inr l7
  by_cases hb:b=a
  ·exact .inl hb
  exact absurd ((aB l7).trans (aB hb)) z
theorem fq_{K:aj}{T:Addr}(h:T∉K.map (·.1)):K.lookup T=none:=by
 induction K with
 |nil=>rfl
 |cons p K ih=>
  let#[b,o]:=p;simp only[eI,bV,not_or] at h;rw[pX,show (T == b)=false by simpa using h.1];exact ih h.2
theorem p9{l:PySem.W.OpenLaw}{n k:Nat}{q:Ad}{loose:ae}{XP:(Str->Option Aa)->Heap->Prop}{d:DefRec}{K:Params->aj}{as ts:au}{Iq:∀P:Params,as=(K P).map (·.1)}{CX:Af->kL}{sp:Af->Sp}{x:Str}
  (hn:l.most\n) (xS:n<=sizeLine) (EJ:d.params.defaults=[]) (hr:aP k callerA)
  (LG:(ts.all λT=>!as.contains T)=true)
  (F:∀(w:Af) (mg:Str->Option Aa) (fa:Addr) (h:Heap),(K w.params).In h->h.Ns mainGlobals mg->mg d.name\.ref fa->
   ∃fd:Ae,(∀(s:Ab) (u:Aa),BindsTo s fd #[[u],[]] [(x,u)])/\(∀T∈ts,isCodeTable h T) /\
    ∀base:Heap,(K w.params).In base->base.Ns mainGlobals mg->(∀T∈ts,base.BuiltinsAt mg T)->ao l.prog w (K w.params) mg base (CX w) k fa fd [x] (sp w))
  (ko:∀(w:Af) (H:Hp) (a:Addr) (ns:List Int),ns.length<=n->(∀T∈ts,H T\.tbl #[])->dY (K w.params) H a (ns.map V.int)->sp w [.ref a] H (λv _=>v=.bl true) λ_ _ _=>False)
  (MF:∀(w:Af) (H:Hp) (s:Ab) (e:Aa) (s':Ab),CX w [] H s (λ_ _ _=>False) e s'->False) :
  PySem.W.WalkO q loose XP (kmHook K as Iq ts).says l.row.toRowW d [] (λf vs=>PySem.call f vs):=by
 apply Vp.jU hn EJ λw df aL mg mb fa o pm cd doc a vs ns G Y ho hd iw hmg z_ hints hlen hg=>?_;have KX:(K w.params).In aL.heap:=km_in_of Y;have eT:∀T∈ts,aL.heap.get? T\tabObj #[]:=Y.2;let#[fd,hb,EK,hF]:=F w mg fa _ KX G.T.g hmg;apply h9_ (λT h=>fq_ ?_) eT EK KX G.T.g G.T.b G.T.builtins G.T.nolimit hg z_ hints (iK hlen xS) hr G.T.bmain hF hb (λH hO hS=>ko w H a ns hlen hO hS) λH e s'=>MF w H aL e s';have:=List.all_eq_true.mp LG T h;rw[<- Iq w.params];simpa using this
end L2
namespace L2
open PySem PySem.Spec PyProof.Rows
section
variable{X:Cx}
end
open PySem.W in
def mq:List (Pos × Addr)->ag
 |[]=>[]
 |(p,c)::es=>rawInt p.line::rawInt p.col::.ref c::mq es
def jT(H:Hp)(T:Addr)(qual:Str):Prop:=∃es:List (Pos × Addr),H T\.tbl (mq es).toArray/\∀e∈es,H e.2\AK e.2 qual
theorem jT.same{H H':Hp}{T:Addr}{qual:Str}(s:aa H H')(h:jT H T qual):jT H' T qual:=by
 let#[es,a,b]:=h;exact#[es,s _ _ a,λe he=>s _ _ (b e he)]
theorem S1:∀es:List (Pos × Addr),TriplesOk (mq es)
 |[]=>trivial
 |(p,c)::es=>by
  have:=S1 es;simp[mq,TriplesOk,rawInt,this]
theorem Ue:∀(es:List (Pos × Addr)) (p:Pos) (c:Addr),mq (es++[(p,c)])=mq es++[rawInt p.line,rawInt p.col,.ref c]
 |[],p,c=>rfl
 |(p',c')::es,p,c=>by
  show rawInt p'.line::rawInt p'.col::.ref c'::mq (es++[(p,c)])=_;rw[Ue es p c];rfl
theorem UO(pos:Pos):∀es:List (Pos × Addr),codeAmong pos (mq es)=none∨∃e∈es,codeAmong pos (mq es)\.ref e.2
 |[]=>.inl Z
 |(p,c)::es=>by
  by_cases h:codeAmong pos (mq ((p,c)::es))\.ref c
  ·exact .inr #[(p,c),gd,h]
  have e:codeAmong pos (mq ((p,c)::es))=codeAmong pos (mq es):=by
   show codeAmong pos (rawInt p.line::rawInt p.col::.ref c::mq es)=_;have h:¬codeAmong pos (rawInt p.line::rawInt p.col::.ref c::mq es)=some (.ref c):=h;simp only[codeAmong,rawInt] at h ⊢;split at h
   ·exact absurd Z h
   rename_i q
   rw[aB q]
  rcases UO pos es with q|⟨x,hx,q⟩
  ·exact .inl (e.trans q)
  exact .inr #[x,fP _ hx,e.trans q]
end L2
namespace L2
open PySem PySem.Spec PyProof.Rows PySem.W mG
section
variable{X:Cx}{pins:List (Addr × Obj)}{σ:St}{H:Hp}{s:Ab}
theorem Inv.yJ{h':Heap}{t':Nat}{fp:au}{T:Addr}{ys:ai}{its:ag}{n:Nat}(I:Inv X pins σ H s)(k:∀b o,b∉fp->s.heap.get? b\o->h'.get? b\o)(hf:∀b∈fp,dA X pins H b)
  (hT:T∈fp) (hz:ys.length<=sizeLine) (r:Vals ys its) (ht:h'.get? T=some { cls:=.type "list",data:=.seq its.toArray n }):Inv X pins σ (upd H T (.lst ys)) { s with heap:=h',toks:=t' }:=by
 have fT:H T=none:=(hf T hT).1;have nf:∀b u,H b\u->b∉fp:=λb u e hb=>by rw[(hf b hb).1] at e;cases e
 have old:∀{b u},H b\u->upd H T (.lst ys) b\u:=λe=>by rw[ax (bu e fT)];exact e
 apply I.step (g':=s.gens) (d':=s.drawn) (ch:=fp) (λb hb=>?_) (λb o _ _ hc e _=>k b o hc e) (λb o _ _ hc e _=>#[o.slots,k b o hc e]) (λb o hc e n=>?_)
  (λb o hc e=>#[o,k b o hc e]) (λb ys e=>old e) (λb o u e=>old e) (λb ps e=>#[#[],by rw[Array.append_empty];exact old e]) (λm hm=>?_) (λb u e=>?_) I.bare
 ·let#[f0,f1,f2,f3,f4,f5]:=hf b hb;exact#[f3,f1,f4,f5]
 ·rw[ax (λz=>hc (by rw[z];exact hT))];exact n
 ·let#[o,es,ep,ho,r]:=hm;exact#[o,es,ep,k _ o (λhb=>(hf _ hb).2.1 Z) ho,r]
 by_cases z:b=T
 ·subst z;rw[ay] at e;cases e;exact#[hz,its,n,r,ht]
 rw[ax z] at e;apply (I.aA b u e).er (λc v hc q=>k c v ?_ q) (λ_ q=>old q) λ_ _ q=>old q;rcases hc with z|z
 ·rw[z];exact nf b u e
 exact nf c _ z
theorem dA.at{H':Hp}{b:Addr}(f:dA X pins H b)(n:H' b=none):dA X pins H' b:=#[n,f.2]
end
section
variable{X:Cx}{pins:List (Addr × Obj)}{σ:St}{H:Hp}{s:Ab}{B:Ag}
theorem _y{xs zs:ai}{kf:V->av}{p:Array Nat}(g:Good xs.length p)(up:Up (λi j=>bF ((xs.map kf).getD i []) ((xs.map kf).getD j [])) p xs.length)(ez:zs=p.toList.map λi=>xs.getD i .non):zs.Perm xs/\zs.map kf=bg (xs.map kf):=by
 have gk:Good (xs.map kf).length p:=by rw[aq];exact g
 let asc:=Ng (ks:=xs.map kf) (λi j _ _=>rfl) gk (by rw[aq];exact up)
 have perm:(p.toList.map λi=>(xs.map kf).getD i []).Perm (xs.map kf):=by
  have:=FV gk λi=>(xs.map kf).getD i [];rwa [FX] at this
 let es:=OR perm asc;apply#[?_,?_]
 ·have:=FV (n:=xs.length) g λi=>xs.getD i .non;rw[FX] at this;rw[ez];exact this
 rw[<- es,ez,cj];apply uY λi hi=>?_;have m:i∈(List.range xs.length).toArray:=g.mem_iff.mp ⇑hi;have m:i<xs.length:=⇑m
 show kf (xs.getD i .non)=(xs.map kf).getD i [];simp[List.getD,m]
end
end L2
namespace L2
open PySem PySem.Spec PyProof.Rows PySem.W mG
section
variable{X:Cx}{pins:List (Addr × Obj)}{σ:St}{H:Hp}{s:Ab}
theorem Inv.tw{cZ:ae}{cl:List (Str × Addr)}{is:List Nat}{gs:ai}(I:Inv X pins σ H s)(lZ:∀q∈cl,X.env.cells.lookup q.1\q.2)(wb:∀x∈cZ,∃c,cl.lookup x\c)(Ey:∀x∈cZ,X.env.scope.names.lookup x\.cell)(hN:is.map (λi=>X.N[i]?)=cZ.map some)
  (BA:is.map (λi=>σ[i]?)=gs.map (λv=>some (some v))):gs.length=cZ.length/\IZ cZ cl gs s.heap/\∀x c,cl.lookup x\c->H c=none:=by
 have lk:∀{x c},cl.lookup x\c->(x,c)∈cl:=λe=>pV e;apply#[?_,#[λa b c h1 h2=>I.ok.inj a b c (lZ _ (lk h1)) (lZ _ (lk h2)),wb,λa c h1=>I.cell a c (lZ _ (lk h1)),λj a v h1 h2=>?_],λx c e=>I.d6 x c (lZ _ (lk e))]
 ·let a:=d7 List.length BA;let b:=d7 List.length hN;simp only[aq] at a b;omega
 let#[c,hc]:=wb a (cX h1);have e1:(is.map λi=>X.N[i]?)[j]? = some (some a):=by rw[hN,dk,h1];rfl
 have e2:(is.map λi=>σ[i]?)[j]? = some (some (some v)):=by rw[BA,dk,h2];rfl
 rw[dk] at e1 e2;let#[i,hi,e1]:=B4.mp e1;rw[hi] at e2;have e2:σ[i]? = some (some v):=cY e2;let#[m,_,hl]:=I.loc;let kd:=Ey a (cX h1);let#[u,ru,lo]:=hl i a v e1 e2 (.inr (.inl kd));rcases lo with⟨z,_⟩|⟨_,c2,e3,o,e4,e5⟩
 ·have z:X.env.scope.names.lookup a\.local:=z;rw[kd] at z;cases z
 rw[lZ _ (lk hc)] at e3;cases e3;exact#[c,u,hc,ru,o,e4,e5]
end
def PM(K:aj)(H:Hp)(x:V)(xs:ai):Prop:=(∃l,x=.ref l/\dY K H l xs)∨∃d kvs,x=.ref d/\H d\.dK kvs/\xs=kvs.map λkv=>kV kv.1
end L2
namespace L2
open PySem PySem.Spec PyProof.Rows PySem.W mG
theorem h8_{xs zs:ai}{kf:V->Str}(h:(zs.map λx=>bH (kf x))=bg (xs.map λx=>bH (kf x))):zs.map kf=h_ (xs.map kf):=by
 apply Tx ?_;rw[O0,cj,cj];exact h
theorem fv_{prog:Ad}{w:Af}{A:Ag}{s:Ab}{xs:ai}{kf:V->Str}{vs:ag}(r:StrsAre vs (xs.map kf))(h2:2<=vs.length):uk prog w A (λi j=>bF ((xs.map λx=>bH (kf x)).getD i []) ((xs.map λx=>bH (kf x)).getD j [])) vs s:=by
 have:=Uj (prog:=prog) (w:=w) (A:=A) (s:=s) r h2;rw[cj] at this;exact this
section
variable{X:Cx}{pins:List (Addr × Obj)}{σ:St}{H:Hp}{s:Ab}
def Iy(X:Cx)(σ:St)(B:Ag)(fv:Aa)(H0:Hp)(kf:V->Str)(xs:ai):Prop:=
 ∀(pins:List (Addr × Obj)) (H:Hp) (s:Ab) (x:V) (u:Aa),Inv X pins σ H s->aa H0 H->x∈xs->RelV x u->
  wpAny (model X.prog X.w) B (call fv [u]) (EP X pins σ λv H'=>aa H H'/\v=.str (kf x)) (λ_ _=>False) s
theorem _I{B:Ag}{fv:Aa}{a kS:Addr}{e1:Nat}{H0:Hp}{kf:V->Str}{all:ai}{Q:PUnit->Ab->Prop}{E:Aa->Ab->Prop}{body:Aa->PUnit->Sem (ForInStep PUnit)}(lW:a≠kS)(jP:Iy X σ B fv H0 kf all)
  (hb:∀(u:Aa) (s:Ab) (Qb:ForInStep PUnit->Ab->Prop),wpAny (model X.prog X.w) B (call fv [u]) (λk s'=>wpAny (model X.prog X.w) B (Builtin.List.listUpdate (.ref kS) (·.push k)) (λ_ pB=>Qb (.yield ⟨⟩) pB) E s') (λ_ _=>False) s->wpAny (model X.prog X.w) B (body u ⟨⟩) Qb E s) :
  ∀(xs:ai) (us:ag) (ks:ai) (kvs:ag) (kk:ae) (H:Hp) (s:Ab) (c:Nat),Vals xs us->(∀x∈xs,x∈all)->Inv X pins σ H s->aa H0 H->dA X pins H a->dA X pins H kS->s.heap.get? a\seqObj "list" #[] e1->s.heap.get? kS\seqObj "list" kvs.toArray c->
   Vals ks kvs->ks=kk.map V.str->kvs.length+us.length<64->
   (∀H' s' fF c',Inv X pins σ H' s'->aa H0 H'->dA X pins H' a->dA X pins H' kS->s'.heap.get? a\seqObj "list" #[] e1->s'.heap.get? kS\seqObj "list" fF.toArray c'->fF.length=kvs.length+us.length->(∃iT,Vals iT fF/\iT=(kk++xs.map kf).map V.str)->Q ⟨⟩ s')->
   wpAny (model X.prog X.w) B (forIn us PUnit.unit body) Q E s:=by
 intro xs
 induction xs with
 |nil=>
  intro us ks kvs kk H s c rv _ I sm fa fk ha hk r t _ q;cases rv;rw[u5];exact aE (q H s kvs c I sm fa fk ha hk Z2 #[ks,r,by simpa using t])
 |cons x xs ih=>
  intro us ks kvs kk H s c rv hx I sm fa fk ha hk r t hz q
  obtain⟨u,us,rfl,ru,rr⟩:∃u P9,us=u::P9/\RelV x u/\Vals xs P9:=by
   cases rv with
   |cons h t=>exact#[_,_,Z,h,t]
  rw[wZ];rw[jt] at hz;apply af (hb u s _ ?_)
  have hf:∀b∈[a,kS],dA X pins H b:=λb hb=>by
   rcases bV.mp hb with rfl|hb
   ·exact fa
   obtain rfl:b=kS:=⇑hb
   exact fk
  let I1:=I.pinned (fp:=[a,kS]) hf (λb hb=>by
   rcases bV.mp hb with rfl|hb
   ·exact#[_,ha,λv z=>by cases z]
   obtain rfl:b=kS:=⇑hb
   exact#[_,hk,λv z=>by cases z])
  apply wpAny_mono (jP _ H s x u I1 sm (hx x gd) ru) (λk s1 ⟨v,H1,J,rv,WR,ev⟩=>?_) λ_ _ z=>z
  have pa:(a,seqObj "list" #[] e1)∈wB [a,kS] s.heap:=by
   unfold wB;exact yu.mpr #[a,by simp,by rw[ha];rfl]
  have pk:(kS,seqObj "list" kvs.toArray c)∈wB [a,kS] s.heap:=by
   unfold wB;exact yu.mpr #[kS,by simp,by rw[hk];rfl]
  let#[My,X5,_]:=J.pin _ (mC _ (mC _ pa));let#[Ho,X3,_]:=J.pin _ (mC _ (mC _ pk));have My:s1.heap.get? a\seqObj "list" #[] e1:=My;have Ho:s1.heap.get? kS\seqObj "list" kvs.toArray c:=Ho;let J0:=J.eg;let fa1:=fa.at (H':=H1) X5;let SO:=fk.at (H':=H1) X3;have G4:kvs.length<64:=by omega
  apply listUpdate_at Ho Z ?_ (by rw[cm,cJ];omega) (iK (Nat.le_of_eq (Array.size_push ..)) (by rw[cm,cJ];omega));have iG:∀b o,b∉[kS]->s1.heap.get? b\o->(s1.heap.update kS (Obj.mapSeq (·.push k))).get? b\o:=λb o hb e=>(uL _ _ (λz=>hb (by simp[z]))).trans e;have ea:kvs.toArray.push k=(kvs++[k]).toArray:=by simp
  obtain⟨c2,kC⟩:∃c2,(s1.heap.update kS (Obj.mapSeq (·.push k))).get? kS\seqObj "list" (kvs++[k]).toArray c2:=#[_,by rw[<- ea];exact get?_update_seq Ho (·.push k)]
  have I2:Inv X pins σ H1 { s1 with heap:=s1.heap.update kS (Obj.mapSeq (·.push k)) }:=J0.gP (t':=s1.toks) (fp:=[kS]) iG (λb hb=>by
   obtain rfl:b=kS:=⇑hb
   exact SO)
  subst ev;apply ih us (ks++[.str (kf x)]) (kvs++[k]) (kk++[kf x]) H1 _ c2 rr (λy hy=>hx y (fP _ hy)) I2 (sm.trans WR) fa1 SO ?_ kC (r.append (.cons rv .nil)) ?_ (by rw[d_,jZ];omega) λH' s' fF c' a1 a2 a3 a4 a5 a6 a7 a8=>?_
  ·exact iG a _ ⇑lW My
  ·rw[eU,<- t];rfl
  apply q H' s' fF c' a1 a2 a3 a4 a5 a6 (by rw[a7,d_,jZ,jt];omega) ?_;let#[iT,b1,b2]:=a8;exact#[iT,b1,by simpa using b2]
end
section
variable{X:Cx}{pins:List (Addr × Obj)}{σ:St}{H:Hp}{s:Ab}{B:Ag}
theorem fk_{f a:Addr}{xs:ai}{us:ag}{n:Nat}{P:PySem.Fin->Ab->Prop}{E:Aa->Ab->Prop}{kf:V->Str}(I:Inv X pins σ H s)(fa:dA X pins H a)(ho:s.heap.get? a\seqObj "list" us.toArray n)(r:Vals xs us)(bX:us.length<64)(jP:Iy X σ B (.ref f) H kf xs)
  (h:∀zs H' s',Inv X pins σ (upd H' a (.lst zs)) s'->aa H H'->H' a=none->zs.Perm xs->zs.map kf=h_ (xs.map kf)->P (.done (.ret .none)) s'):wpAny (model X.prog X.w) B (ksk_tree a (.ref f) false) P E s:=by
 let lx:=r.length;obtain⟨e1,uB⟩:∃e1,(s.heap.update a (Obj.mapSeq λ_=>(#[]:Array Aa))).get? a\seqObj "list" #[] e1:=#[_,get?_update_seq ho λ_=>#[]];have iG:∀b o,b∉[a]->s.heap.get? b\o->(s.heap.update a (Obj.mapSeq λ_=>(#[]:Array Aa))).get? b\o:=λb o hb e=>(uL _ _ (λz=>hb (by simp[z]))).trans e
 have I1:Inv X pins σ H { s with heap:=s.heap.update a (Obj.mapSeq λ_=>(#[]:Array Aa)) }:=I.gP (t':=s.toks) (fp:=[a]) iG (λb hb=>by
  obtain rfl:b=a:=⇑hb
  exact fa)
 unfold ksk_tree;apply af (listItems_at ho Z ?_);apply af (listUpdate_at ho Z ?_ (by rw[cm,cJ];omega) (gR _));apply af (seqEpoch_at uB Z ?_);apply af (wpAny_newTuple ?_ (by show us.length<=_;rw[cJ];omega));apply af (wpAny_newList ?_ (gR _));apply i7 ?_;have I2:Inv X pins σ H { s with heap:=(s.heap.update a (Obj.mapSeq λ_=>(#[]:Array Aa))).push (seqObj "tuple" us.toArray 0) }:=I1.kept (t':=s.toks) λb u e=>aU _ e;have I3:Inv X pins σ H { s with heap:=((s.heap.update a (Obj.mapSeq λ_=>(#[]:Array Aa))).push (seqObj "tuple" us.toArray 0)).push (seqObj "list" #[] 0) }:=I2.kept (t':=s.toks) λb u e=>aU _ e;have fk:dA X pins H ((s.heap.update a (Obj.mapSeq λ_=>(#[]:Array Aa))).push (seqObj "tuple" us.toArray 0)).objs.size:=I2.jN (bh _) (I2.aA.fresh (bh _));have jM:(((s.heap.update a (Obj.mapSeq λ_=>(#[]:Array Aa))).push (seqObj "tuple" us.toArray 0)).push (seqObj "list" #[] 0)).get? a\seqObj "list" #[] e1:=aU _ (aU _ uB);have L5:(((s.heap.update a (Obj.mapSeq λ_=>(#[]:Array Aa))).push (seqObj "tuple" us.toArray 0)).push (seqObj "list" #[] 0)).get? ((s.heap.update a (Obj.mapSeq λ_=>(#[]:Array Aa))).push (seqObj "tuple" us.toArray 0)).objs.size\seqObj "list" #[] 0:=cK _ Z;have lW:a≠((s.heap.update a (Obj.mapSeq λ_=>(#[]:Array Aa))).push (seqObj "tuple" us.toArray 0)).objs.size:=dS (bz (aU (seqObj "tuple" us.toArray 0) uB));show wpAny (model X.prog X.w) B (ksk_rest a (.ref f) false us.toArray e1 (.ref ((s.heap.update a (Obj.mapSeq λ_=>(#[]:Array Aa))).push (seqObj "tuple" us.toArray 0)).objs.size)) P E { s with heap:=((s.heap.update a (Obj.mapSeq λ_=>(#[]:Array Aa))).push (seqObj "tuple" us.toArray 0)).push (seqObj "list" #[] 0) };generalize ((s.heap.update a (Obj.mapSeq λ_=>(#[]:Array Aa))).push (seqObj "tuple" us.toArray 0)).objs.size=kS at fk L5 lW ⊢;generalize ((s.heap.update a (Obj.mapSeq λ_=>(#[]:Array Aa))).push (seqObj "tuple" us.toArray 0)).push (seqObj "list" #[] 0)=h3 at I3 jM L5 ⊢;clear I2 I1 iG;unfold ksk_rest;apply af (wpAny_rule ?_);rw[List.forIn_toArray];apply af (_I (pins:=pins) (E:=E) (e1:=e1) lW jP (λu s4 Qb hq=>?_) xs us [] [] [] H _ 0 r (λx hx=>hx) I3 (aa.refl H) fa fk jM L5 .nil Z ⇑bX λH5 s5 kvs c5 I5 WK SS fk5 EW RU lk ⟨ks,rk,tk⟩=>?_)
 ·apply af (wpAny_attempt (wpAny_mono hq (λk pB hk=>?_) λ_ _ hF=>hF.elim));exact af (wpAny_mono hk (λ_ s6 h6=>aE h6) λ_ _ z=>z)
 rw[List.nil_append] at tk;rw[List.length_nil,Nat.zero_add] at lk;apply af (listItems_at RU Z ?_)
 have tail:∀(p:Array Nat) (st:SortSt),Good xs.length p->Up (λi j=>bF ((xs.map λx=>bH (kf x)).getD i []) ((xs.map λx=>bH (kf x)).getD j [])) p xs.length->(arrOf st).map (·.2)=(mw p us).toArray->failedOf st=none->wpAny (model X.prog X.w) B (ksk_tail a false e1 (.ref kS) st) P E s5:=λp st g up LR Mh=>by
  have gu:Good us.length p:=by rw[<- lx];exact g
  have hz:(mw p us).length=us.length:=by
   unfold mw;rw[aq,tU];exact gu.size
  let s1:=Heap.SameBut.update s5.heap kS (Obj.mapSeq λ_=>(#[]:Array Aa));have wc:(s5.heap.update kS (Obj.mapSeq λ_=>(#[]:Array Aa))).get? a\seqObj "list" #[] e1:=(uL _ _ (bJ lW)).trans EW;unfold ksk_tail;dsimp only;rw[LR];apply af (listUpdate_at RU Z ?_ (by rw[cm,cJ];omega) (gR _));apply af (wpAny_letGo ?_);apply af (seqEpoch_at wc Z ?_);simp only[pZ,if_false];apply af (listUpdate_at wc Z ?_ (gR _) (by rw[cm,hz,cJ];omega));rw[Mh];simp only[bne_self_eq_false,pZ,if_false]
  have zl:(p.toList.map λi=>xs.getD i .non).length<=sizeLine:=by
   rw[aq,tU,g.size,cJ];omega
  let#[pz,ek]:=_y (kf:=λx=>bH (kf x)) (zs:=p.toList.map λi=>xs.getD i .non) g up Z;let ek:=h8_ ek;apply aE (h _ H5 _ (I5.yJ (t':=s5.toks) (fp:=[a,kS]) (T:=a) (λb o hb e=>?_) (λb hb=>?_) Z2 zl (NA r gu) (get?_update_seq wc _)) WK SS.1 pz ek)
  ·have n1:b≠a:=λz=>hb (by simp[z]);have n2:b≠kS:=λz=>hb (by simp[z]);exact (uL _ _ (bJ n1)).trans ((uL _ _ (bJ n2)).trans e)
  rcases bV.mp hb with rfl|hb
  ·exact SS
  obtain rfl:b=kS:=⇑hb
  exact fk5
 unfold ksk_end;dsimp only;simp only[pZ,if_false];by_cases h2:us.toArray.size<2
 ·rw[aI h2,aI h2];apply af (aE ?_);rw[StateT.run_pure];apply af (aE (tail (List.range xs.length).toArray _ (Array.Perm.refl _) (λi j nR hj=>?_) ?_ Z))
  ·have e:i=j:=by
    simp only[cm] at h2;omega
   subst e;exact Ny _
  show ((kvs.toArray.zip us.toArray).map λx:Keyed=>x.2)=_;rw[show xs.length=us.length from lx,U8];apply Array.ext' ?_;simp[List.map_snd_zip,lk]
 rw[aB h2,aB h2]
 have g7:2<=us.length:=by
  simp only[cm] at h2;omega
 let#[κ,hk,hc]:=fv_ (prog:=X.prog) (w:=X.w) (A:=B) (s:=s5) (kf:=kf) (xs:=xs) (To (tk▸rk)) Z1;apply af (wpAny_mono (hk (λk s'=>k=κ/\s'=s5) #[Z,Z]) (λk s7 Ew=>?_) λ_ _ x=>x.elim);let#[rfl,rfl]:=Ew;have O:Ord (λi j=>bF ((xs.map λx=>bH (kf x)).getD i []) ((xs.map λx=>bH (kf x)).getD j [])):=Nw _
 apply af (wpAny_mono (kat_run (ks:=kvs) (vs:=us) (G:=λp s'=>s'=s7/\Good us.length p/\Up (λi j=>bF ((xs.map λx=>bH (kf x)).getD i []) ((xs.map λx=>bH (kf x)).getD j [])) p us.length)
  (Q:=λfC s'=>∃p:Array Nat,arrOf fC=p.map (kas_item (kvs.toArray.zip us.toArray))/\failedOf fC=none/\s'=s7/\Good us.length p/\Up (λi j=>bF ((xs.map λx=>bH (kf x)).getD i []) ((xs.map λx=>bH (kf x)).getD j [])) p us.length)
  lk g7 bX (λp fC s' _ q1 q2 q3=>#[p,q1,q2,q3]) (Ok.wp (n:=us.length) (λi j C hi hj=>hc i j C Z1 Z1) (λp q=>#[Z,q]) (SU O Z1))) ?_ λ_ _ x=>x)
 rintro⟨⟨⟩,fC⟩ s' ⟨p,Mu,hf,hs',g,u⟩;subst hs';rw[<- lx] at g u;exact tail p fC g u (kat_snds lk Mu) hf
end
section
variable{X:Cx}{pins:List (Addr × Obj)}{σ:St}{H:Hp}{s:Ab}
theorem _R{B:Ag}{k:Nat}{qual:Str}{params:Arguments}{body:PySem.Expr}{scope:Scope}{p:Str}{cZ:ae}{sp:ai->ai->Hp->VK->XK->Prop}{f c':Addr}{cl:List (Str × Addr)}{is:List Nat}{gs xs:ai}{kf:V->Str}{H0:Hp}(F:ke X.prog X.w X.K X.mg X.base k qual params body scope [p] cZ sp)(hr:aP k B)(hB:B.frames=X.A.frames)
  (hf:H0 f\jI f qual params body scope cl c') (hc:H0 c'\AK c' qual) (lZ:∀q∈cl,X.env.cells.lookup q.1\q.2) (wb:∀x∈cZ,∃c,cl.lookup x\c) (Ey:∀x∈cZ,X.env.scope.names.lookup x\.cell) (hN:is.map (λi=>X.N[i]?)=cZ.map some) (BA:is.map (λi=>σ[i]?)=gs.map (λv=>some (some v)))
  (ko:∀H x,aa H0 H->x∈xs->sp [x] gs H (λv H'=>aa H H'/\v=.str (kf x)) (λ_ _ _=>False)):Iy X σ B (.ref f) H0 kf xs:=by
 intro pins H s x u I sm hx ru;let#[#[pm,kG,ef],_]:=I.aA f _ (sm _ _ hf);let#[#[oc,JV,t,ec,d1,d2],_]:=I.aA c' _ (sm _ _ hc);let#[hg,C,fc]:=I.tw lZ wb Ey hN BA;let e0:=I.AD;apply wpAny_call (codeAny_mono (F B X.stack s H f c' pm kG cl [u] [x] gs _ _ hr #[hB.trans e0.frames,e0.mod,e0.bs,e0.tL,e0.fW,e0.wk,e0.aA,e0.bare] ef #[c',oc,JV,t,Z,ec,d1,d2] Z hg (.cons ru .nil) C fc (ko H x sm hx)) λr s' hq=>?_);cases r with
 |error e=>
  let#[a,cls,H',B,a0,dd,rfl,os,bare,un,aA,fl,i,hE]:=hq
 |ok fl=>
  cases fl with
  |ret u=>exact I.after hq
  |next=>exact False.elim hq
  |brk=>exact False.elim hq
  |cont=>exact False.elim hq
theorem qx{f:Addr}{x:Aa}{xs:ai}{kf:V->Str}{Q:VK}{E:Aa->Ab->Prop}(I:Inv X pins σ H s)(bX:xs.length<64)(jP:Iy X σ X.A.in1.in1 (.ref f) H kf xs)
  (l6:∀R:ag->Ab->Prop,(∀vs s1,Inv X pins σ H s1->Vals xs vs->R vs s1)->wpAny (model X.prog X.w) X.A.in1 (collect x) R E s)
  (q:∀l zs H',aa H H'->H' l=none->H l=none->zs.Perm xs->zs.map kf=h_ (xs.map kf)->Q (.ref l) (upd H' l (.lst zs))):wpAny (model X.prog X.w) X.A (call (.builtin "sorted") [x] [(Str.ofString "key",.ref f)]) (EP X pins σ Q) E s:=by
 apply call_function_entry_kw kind_sorted plain_sorted entry_sorted (ksk_s1 _ _) ?_;unfold Builtin.«sorted»;apply af (m:=checkCount "sorted" 1 1 _) (aE ?_);apply af (l6 _ λvs s1 I1 r=>?_);let lv:=r.length;apply af (wpAny_newList ?_ (by rw[cJ];omega));have Hh:(s1.heap.push (seqObj "list" vs.toArray 0)).get? s1.heap.objs.size\seqObj "list" vs.toArray 0:=cK _ Z;have I2:Inv X pins σ H { s1 with heap:=s1.heap.push (seqObj "list" vs.toArray 0) }:=I1.kept (t':=s1.toks) λb u e=>aU _ e;have fa:dA X pins H s1.heap.objs.size:=I1.jN (bh _) (I1.aA.fresh (bh _));have nl:H s1.heap.objs.size=none:=I1.aA.fresh (bh _);apply af (i7 (wpAny_call_entry_kw slot_list_sort #[_,Hh,Z] entry_list_sort ?body (ksk_l1 _ _)))
 case body=>
  show wpAny (model X.prog X.w) X.A.in1.in1 (Builtin.«list.sort» #[[.ref s1.heap.objs.size],[(Str.ofString "key",.ref f)]]) _ _ _;rw[ksk_t1];apply fk_ (s:={ s1 with heap:=s1.heap.push (seqObj "list" vs.toArray 0) }) I2 fa Hh r Z1 jP λzs H' s' I' sm na pz ek=>?_;exact#[_,Z,aE #[_,Z,.ref _,_,I',Z,q _ zs H' sm na nl pz ek]]
end
inductive UI (K:aj) (qual:Str) (params:Arguments) (body:PySem.Expr) (scope:Scope) (cl:List (Str × Addr)) (is:List Nat) (sp:ai->ai->Hp->VK->XK->Prop) (σ:St) (H:Hp) (Q:VK) (vs:ai) (ws:ai) (H2:Hp):Prop
 |mk:∀x f c' xs kf gs,vs=[x]->ws=[.ref f]->H2 f\jI f qual params body scope cl c'->H2 c'\AK c' qual->PM K H2 x xs->xs.length<64->is.map (λi=>σ[i]?)=gs.map (λv=>some (some v))->(∀H x,aa H2 H->x∈xs->sp [x] gs H (λv H'=>aa H H'/\v=.str (kf x)) (λ_ _ _=>False))->(∀l zs H',aa H2 H'->H' l=none->H2 l=none->zs.Perm xs->zs.map kf=h_ (xs.map kf)->Q (.ref l) (upd H' l (.lst zs)))->UI K qual params body scope cl is sp σ H Q vs ws H2
def vo(K:aj)(qual:Str)(params:Arguments)(body:PySem.Expr)(scope:Scope)(cl:List (Str × Addr))(is:List Nat)(sp:ai->ai->Hp->VK->XK->Prop)(t tk:TA):TE:=λσ H Q=>t σ H λvs H1=>tk σ H1 λws H2=>UI K qual params body scope cl is sp σ H Q vs ws H2
theorem g6_{X:Cx}{e:PySem.Expr}{t tk:TA}{p pos kp rY:Pos}{k:Nat}{params:Arguments}{body:PySem.Expr}{scope:Scope}{px:Str}{cZ:ae}{qual:Str}{sp:ai->ai->Hp->VK->XK->Prop}{cl:List (Str × Addr)}{is:List Nat}(hc:X.calm=true)(hg:Gl X "sorted")(hm:X.mg "sorted"=none)(ha:PA X [e] t)(hkw:PK X [#[some "key",.Lambda params body scope rY,kp]] tk)
  (F:ke X.prog X.w X.K X.mg X.base k qual params body scope [px] cZ sp) (hr:aP (k+2) X.A) (lZ:∀q∈cl,X.env.cells.lookup q.1\q.2) (wb:∀x∈cZ,∃c,cl.lookup x\c) (Ey:∀x∈cZ,X.env.scope.names.lookup x\.cell) (hN:is.map (λi=>X.N[i]?)=cZ.map some)
  (he:starEach [e] X.env=[(false,eval e X.env)]:=by rfl) (Ar:(backToKw pos (keywordEach [#[some "key",.Lambda params body scope rY,kp]] X.env)).all (·.1.isSome)=true:=by rfl) (Ew:(backToKw pos (keywordEach [#[some "key",.Lambda params body scope rY,kp]] X.env)).filterMap (·.1)=[Str.ofString "key"]:=by rfl)
  (hkn:(backToKw pos (keywordEach [#[some "key",.Lambda params body scope rY,kp]] X.env)).any (·.1.isNone)=false:=by rfl):PE X (.Call (.Name "sorted" p) [e] [#[some "key",.Lambda params body scope rY,kp]] pos) (vo X.K qual params body scope cl is sp t tk):=by
 intro pins s σ H Q I h;apply wpAny_Call_Name_kw (wM I hg hm Jz ?_);let hA:=ha pos pins s σ H _ I h;rw[he] at hA ⊢;apply callWith_builtin_kwB (first:=[]) Z hkn (evalArgs_kwB Ar (aO hA λus s1 ⟨vs,H1,I1,r1,q1⟩=>?_));apply aO (hkw pos pins s1 σ H1 _ I1 q1) λws s2 ⟨zs,H2,I2,rz,x,f,c',xs,kf,gs,ev,ez,hf,iw,src,bX,BA,ko,q⟩=>?_;subst ev ez;let#[u,rfl,ru]:=Vals.one r1;let#[fv,rfl,rf]:=Vals.one rz;cases rf;rw[Ew];have hd:X.A.in1.handled=none:=I.ok.hd hc;apply qx I2 bX (_R F hr.in1.in1 Z hf iw lZ wb Ey hN BA ko) (λR hR=>?_) q;rcases src with⟨l,rfl,hl⟩|⟨d,kvs,rfl,hd2,rfl⟩
 ·cases ru;exact _N I2 hl Z1 hR
 cases ru;exact Rm hd I2 (.inl hd2) hR
end L2
namespace L2
open PySem PySem.Spec PyProof.Rows
structure w_ (K:aj) (x qual:Str) (st:Stmt) (f c:Addr) (fd:Ae):Prop where
 ex:∃(oc:Aa) (od:Option Addr) (kV doc pm:Aa) (an:Option Addr) (ct:Aa) (jA:Array (Option Aa)),
  fd=PySem.W.fnOf x qual (gQ st) (f_ st) (aX st) .none kV doc pm an (.ref c) ct/\K.lookup f=some #[oc,od,.func fd,jA]/\PySem.W.codeIn K (.ref c) qual=true
 kp:PySem.W.keepIn K (.ref f)=true
theorem w_.ok{P:Ad}{w:Af}{K:aj}{mg:Str->Option Aa}{base:Heap}{x qual:Str}{st:Stmt}{f c:Addr}{fd:Ae}{N ps:ae}{k:Nat}{sp:Sp}(F:w_ K x qual st f c fd)(S:bG N ps (aX st))(len:∀vs H Q E,sp vs H Q E->vs.length=ps.length)
  (fU:∀(A:Ag) (outer:List Env) (s:Ab) (H:Hp) (vs:ai) (Q:VK) (E:XK),aP k (A.deeper (envOfC qual (aX st) s.heap.objs.size f (.ref c)))->sp vs H Q E->
   ∃t,j9 (iY aZ P w K mg base N qual (aX st) f (.ref c) A outer s H E).xH (f_ st) t/\t { nx:=λ_ H'=>Q .non H',rt:=Q } (start N vs) H):!ao aZ (k+1) f fd ps sp:=by
 let#[oc,od,kV,doc,pm,an,ct,jA,rfl,lk,iw]:=F.ex;apply Q0 lk iw S len λA outer s H vs Q E hr ko=>?_;let#[t,h,q]:=fU A outer s H vs Q E hr ko;exact#[t,h.xH,q]
end L2
namespace Ev
open PySem L2
def NT(H G:Hp):Prop:=∀b o,H b\o->(∀vs,o≠.tbl vs)->G b\o
theorem NT.of{H G:Hp}(s:aa H G):NT H G:=λb o e _=>s b o e
theorem NT.refl(H:Hp):NT H H:=NT.of (aa.refl H)
theorem NT.trans{H G J:Hp}(s:NT H G)(t:NT G J):NT H J:=λb o e n=>t b o (s b o e n) n
theorem a_.nt{T:Addr}{H G:Hp}{vs:Array Aa}(b:a_ T H G)(hT:H T\.tbl vs):NT H G:=λc o e n=>b c o e (λz=>by
 rw[z,hT] at e;exact n _ (cY e).symm)
theorem NT.tup{H G:Hp}(s:NT H G){a:Addr}{xs:ai}(h:H a\.tup xs):G a\.tup xs:=s _ _ h nofun
theorem NT.lst{H G:Hp}(s:NT H G){a:Addr}{xs:ai}(h:H a\.lst xs):G a\.lst xs:=s _ _ h nofun
theorem NT.dK{H G:Hp}(s:NT H G){a:Addr}{xs:List (Key × V)}(h:H a\.dK xs):G a\.dK xs:=s _ _ h nofun
theorem Zy{H:Hp}{T:Addr}{qual q':Str}{a a':Arguments}{b b':Expr}{sc Gq:Scope}{ps:Pos}{cl:List (Str × Addr)}{σ:St}{Q:VK}(h:jT H T qual)(e1:q'=qual)(e2:a'=a)(e3:b'=b)(e4:Gq=sc)(q:∀f c' H1,a_ T H H1->jT H1 T qual->H1 f\jI f qual a b sc cl c'->H1 c'\AK c' qual->Q (.ref f) H1):CI T q' a' b' Gq ps cl σ H Q:=by
 subst e1 e2 e3 e4;let#[es,h,wa]:=h;apply#[_,h,S1 es,?_];rcases UO ps es with e|⟨e,he,q1⟩
 ·apply .inl #[e,λc' f n1 n2 n3=>?_];have X7:T≠c':=bu h n1;have X6:T≠f:=bu h n2
  have B:a_ T H (upd (upd (upd H T (.tbl ((mq es).toArray++(List.toArray [rawInt ps.line,rawInt ps.col,.ref c'])))) c' (AK c' q')) f (jI f q' a' b' Gq cl c')):=λb o e n=>by
   rw[ax (bu e n2),ax (bu e n1),ax n];exact e
  apply q f c' _ B #[es++[(ps,c')],?_,λx hx=>?_] ay ?_
  ·rw[ax X6,ax X7,ay,Ue];simp
  ·rcases d9.mp hx with hx|hx
   ·exact B _ _ (wa x hx) (λz=>by have:=wa x hx;rw[z,h] at this;cases this)
   rw[eV.mp hx];show upd _ f _ c'=_;rw[ax n3,ay]
  rw[ax n3,ay]
 apply .inr #[e.2,q1,λf hf=>?_];let s:=aa.new (o:=jI f q' a' b' Gq cl e.2) hf;exact q f e.2 _ (a_.of s) #[es,s _ _ h,λx hx=>s _ _ (wa x hx)] ay (s _ _ (wa e he))
theorem Zk{H:Hp}{T:Addr}{qual:Str}(h:jT H T qual):∃vs,H T\.tbl vs:=by
 let#[es,e,_]:=h;exact#[_,e]
def vQ:Expr->Scope
 |.Lambda _ _ s _=>s
 |_=>aX e_
def Ln:Expr->Expr
 |.Lambda _ b _ _=>b
 |e=>e
def Lo:Expr->Arguments
 |.Lambda a _ _ _=>a
 |_=>gQ e_
def Yy:Expr->Expr
 |.Call _ _ (k::_) _=>k.value
 |e=>e
def zA(l:List Stmt)(i:Nat):Stmt:=l.getD i (.Pass #[0,0,0,0])
theorem YW{ps:aN}(nd:(ps.map (·.1)).Nodup){a b:Pc}(ha:a∈ps)(hb:b∈ps)(e:a.1=b.1):a=b:=by
 let#[i,hi,rfl]:=hJ ha;let#[j,hj,rfl]:=hJ hb;have:i=j:=(List.getElem?_inj (l:=ps.map (·.1)) (by rw[aq];exact hi) nd).mp (by rw[dk,dk,aQ hi,aQ hj,Option.map_some,Option.map_some,e]);subst this;rfl
theorem YD{ts:Xb}{ps ss qs:aN}(Q:Qs ps qs)(nd:(ps.map (·.1)).Nodup)(p:ss.Perm ps)(e:ss.map (·.1)=h_ (ps.map (·.1)))(dr:∀q∈ps,ki ts q):fq ts ss qs:=by
 have en:qs.map (·.1)=ss.map (·.1):=by rw[Q.vK,e]
 have le:qs.length=ss.length:=by rw[<- aq (as:=qs) (f:=λq:Pc=>q.1),en,aq]
 apply#[?_,λq hq=>dr q (p.mem_iff.mp hq),?_]
 ·apply List.ext_getElem (by rw[aq,le]) ?_;intro j h1 h2;rw[List.getElem_map];have hs:j<ss.length:=by omega
  let#[x,hx,ex]:=Q.mem qs[j] (kK h1);have n1:(qs.map (·.1))[j]? = some qs[j].1:=by rw[dk,aQ h1];rfl
  have n2:(ss.map (·.1))[j]? = some (ss[j]).1:=by rw[dk,aQ hs];rfl
  rw[en,n2] at n1;have n3:(ss[j]).1=qs[j].1:=cY n1;have n4:qs[j].1=x.1:=by rw[ex];rfl
  rw[ex,YW nd hx (p.mem_iff.mp (kK hs)) (n4.symm.trans n3.symm)]
 exact (p.map (·.1)).nodup_iff.mpr nd
theorem eb_{α β:Type}{F:α->β->Prop}{zs ys:List α}(p:zs.Perm ys):∀{ps:List β},Paired F ys ps->∃ss,ss.Perm ps/\Paired F zs ss:=by
 induction p with
 |nil=>exact λ{ps} h=>#[ps,.refl _,h]
 |cons x _ ih=>
  intro ps h;cases h with
  |cons h t=>
   let#[ss,q,r]:=ih t;exact#[_,q.cons _,.cons h r]
 |swap x y l=>
  intro ps h;cases h with
  |cons h t=>
   cases t with
   |cons h2 t=>exact#[_,.swap _ _ _,.cons h2 (.cons h t)]
 |trans _ _ Z9 Z8=>
  intro ps h;let#[ss,q,r]:=Z8 h;let#[s2,q2,r2]:=Z9 r;exact#[s2,q2.trans q,r2]
def K2(H:Hp):V->Str
 |.ref t=>match H t with
  |some (.tup (.str n::_))=>n
  |_=>⟨#[]⟩
 |_=>⟨#[]⟩
theorem M6{K:aj}{H:Hp}:∀{ys:ai} {ps:aN},jo K H ys ps->ys.map (K2 H)=ps.map (·.1)
 |_,_,.nil=>rfl
 |_,_,.cons (b:=p) ⟨t,v,e,ht,_⟩ r=>by
  rw[eI,eI,M6 (K:=K) r,e]
  have:K2 H (.ref t)=p.1:=by
   show (match H t with|some (.tup (.str n::_))=>n|_=>(⟨#[]⟩:Str))=p.1;rw[ht]
  rw[this]
end Ev
namespace Ev
open PySem L2
def E8:Stmt->List Stmt
 |.For _ _ b _ _=>b
 |_=>[]
def Pu:Stmt->Expr
 |.Assign _ e _=>e
 |_=>.Constant .none 0 #[0,0,0,0]
def oW:Expr:=Yy (Pu (zA (E8 (zA (f_ e_) 0)) 5))
abbrev qL:Str:="law.<locals>.<lambda>"
theorem E6:∀y∈(vQ oW).names,y.2=.free->y.1∈([]:ae):=by decide +kernel
theorem zf:I_ [tq] [] (vQ oW):=#[by decide +kernel,Z,Z,Z,by decide +kernel,by decide +kernel,λx h=>E6 (x,.free) (pV h) Z,by decide +kernel]
inductive mU (vs:ai) (gs:ai) (H:Hp) (Q:VK):Prop
 |mk:∀(t:Addr) (n:Str) (r:ai),vs=[.ref t]->gs=[]->H t\.tup (.str n::r)->Q (.str n) H->mU vs gs H Q
def yY:ai->ai->Hp->VK->XK->Prop:=λvs gs H Q _=>mU vs gs H Q
theorem On{L f:Addr}{cd:Aa}:closureFor (vQ oW) (PyProof.Rows.envOfC "law" (aX e_) L f cd)=pure []:=by rfl
section v
theorem _z:!ke 1 qL (Lo oW) (Ln oW) (vQ oW) [tq] [] yY:=by
 apply DO zf (λpm c' kG cl us hl=>?_) (λA outer s H f cd cl vs gs Q E hr h hp=>?_)
 ·match us,hl with
  |[_],_=>rfl
 let#[t,n,r,rfl,rfl,ht,k]:=h;apply#[_,br c_ (pv 0) aC,?_];exact#[_,Z,t,_,0,_,Z,Z,.of ht,L2.dR (j:=0) Z,k]
end
end Ev
namespace L2
open PySem PySem.Spec PyProof.Rows PySem.W mG dM Ev
inductive xB (x:V) (y:V) (H:Hp) (Q:VK):Prop
 |mk:∀(a b:Addr) (ms ns:ae) (f:bo),x=.ref a->y=.ref b->H a\.dK (dZ ms f)->H b\.dK (dZ ns f)->ms.length=ns.length->(∀m∈ms,m∈ns)->Q (.bl false) H->xB x y H Q
theorem Ze{X:Cx}(hu:X.A.units<cLine):dJ X (compareOp .NotEq) xB:=by
 intro pins s σ H x y v u Q I rx ry h;let#[a,b,ms,ns,f,rfl,rfl,ha,hb,le,sub,q]:=h;cases rx;cases ry;let#[za,na,va,ra,da]:=jR I.aA (.inl ha);let#[zb,nb,vb,rb,db]:=jR I.aA (.inl hb);let la:=ra.length;let lb:=rb.length;rw[jV] at la lb;apply PySem.W.keq_ne na nb da db hu (r:=ms.all λn=>decide (f n=f n)) (λ_=>Su rb ms va ra sub) ⟨.bl _,H,I,rfl,?_⟩;rw[<- la,<- lb,le];have al:(ms.all λn=>decide (f n=f n))=true:=by simp
 rw[al];simpa using q
end L2
namespace Ev
open PySem L2
section
variable{K:aj}{CG CW:Addr}
end
theorem K4{σ:St}{H:Hp}{k:ai->Hp->Prop}(h:k [] H):oG σ H k:=h
theorem Fo{te:TE}{t:TA}{σ:St}{H:Hp}{k:ai->Hp->Prop}(h:te σ H λx H1=>t σ H1 λxs H2=>k (x::xs) H2):jv te t σ H k:=h
theorem Nd:∀{LL:List (List ak)},(∀(j:Nat) L,j+1<LL.length->LL[j]? = some L->L≠[])->LL.length<=LL.flatten.length+1
 |[],_=>by simp
 |[L],_=>by simp
 |L::L2::r,h=>by
  let ih:=Nd (LL:=L2::r) λj M hj hM=>h (j+1) M ⇑hj ⇑hM;have h0:L≠[]:=h 0 L Z2 Z;have:=List.length_pos_iff.mpr h0;rw[List.flatten_cons,d_];rw[jt (a:=L)];omega
theorem SE:∀LL:List (List ak),(LL.map λL=>(L.length:Int)).sum=(LL.flatten.length:Int)
 |[]=>rfl
 |L::r=>by
  rw[eI,List.sum_cons,SE r,List.flatten_cons,d_];omega
theorem jT.FM{H G:Hp}{T l:Addr}{q:Str}{xs:ai}(h:jT H T q)(b:a_ l H G)(hl:H l\.lst xs):jT G T q:=by
 let#[es,e,c]:=h;exact#[es,b _ _ e (bK e hl nofun),λx hx=>b _ _ (c x hx) (bK (c x hx) hl nofun)]
theorem Tw{K:aj}{H H':Hp}{G:Pc->Pc}(hG:∀p,(G p).2.2=none):∀{ys:ai} {ps:aN},jo K H ys (ps.map G)->(∀c xs,H c\.tup xs->H' c\.tup xs)->jo K H' ys (ps.map G)
 |_,[],.nil,_=>.nil
 |_,p::_,.cons ⟨t,v,e,ht,w⟩ r,k=>.cons #[t,v,e,k _ _ ht,by rw[hG] at w ⊢;exact w] (Tw hG r k)
structure Dr (K:aj) (H:Hp) (l lh lt lp d:Addr) (hs:Xa) (ts:Xb) (ps:aN) (f:bo):Prop where
 st:dB H l
 hh:∃yh,H lh\.lst yh/\bT K H yh (hs.map kH)
 ht:∃zs,H lt\.lst zs/\bT K H zs (ts.map kT)
 hp:∃yp,H lp\.lst yp/\jo K H yp ps
 hd:H d\.dK (dZ (ps.map (·.1)) f)
 n1:lh≠l
 n2:lt≠l
 n3:lp≠l
theorem Dr.but{K:aj}{H H':Hp}{l lh lt lp d:Addr}{hs:Xa}{ts:Xb}{ps:aN}{f:bo}(h:Dr K H l lh lt lp d hs ts ps f)(b:a_ l H H')(st:dB H' l):Dr K H' l lh lt lp d hs ts ps f:=by
 let#[a0,#[yh,a1,a2],#[zs,b1,b2],#[yp,c1,c2],d1,n1,n2,n3]:=h;let#[xs,e]:=a0.some;exact#[st,#[yh,b _ _ a1 n1,i_ a2 b e],#[zs,b _ _ b1 n2,i_ b2 b e],#[yp,b _ _ c1 n3,Paired.aV c2 λy p q=>q.but b a0],b _ _ d1 (bK d1 e nofun),n1,n2,n3]
theorem Dr.same{K:aj}{H H':Hp}{l lh lt lp d:Addr}{hs:Xa}{ts:Xb}{ps:aN}{f:bo}(h:Dr K H l lh lt lp d hs ts ps f)(s:aa H H'):Dr K H' l lh lt lp d hs ts ps f:=h.but (a_.of s) (h.st.same s)
theorem bT.nt{K:aj}{H G:Hp}{ys:ai}{ks:List av}(h:bT K H ys ks)(s:NT H G):bT K G ys ks:=Paired.aV h λy k ⟨a,z,q⟩=>#[a,z,s.tup q]
theorem bU.nt{K:aj}{H G:Hp}{v:V}{o:Option (Xb)}(h:bU K H v o)(s:NT H G):bU K G v o:=by
 cases o with
 |none=>exact h
 |some ws=>
  let#[a,ys,e,ha,t]:=h;exact#[a,ys,e,s.lst ha,bT.nt t s]
theorem Dr.nt{K:aj}{H H':Hp}{l lh lt lp d:Addr}{hs:Xa}{ts:Xb}{ps:aN}{f:bo}(h:Dr K H l lh lt lp d hs ts ps f)(s:NT H H'):Dr K H' l lh lt lp d hs ts ps f:=by
 let#[a0,#[yh,a1,a2],#[zs,b1,b2],#[yp,c1,c2],d1,n1,n2,n3]:=h;apply#[?_,#[yh,s.lst a1,bT.nt a2 s],#[zs,s.lst b1,bT.nt b2 s],#[yp,s.lst c1,Paired.aV c2 λy p ⟨t,v,e,ht,w⟩=>#[t,v,e,s.tup ht,w.nt s]],s.dK d1,n1,n2,n3];rcases a0 with⟨n,e⟩|⟨n,m,c,e⟩
 ·exact .inl #[n,s.lst e]
 exact .inr #[n,m,c,s.lst e]
theorem hX_{K:aj}{H H':Hp}{a:Addr}{xs:ai}(s:aa H H')(h:dY K H a xs):dY K H' a xs:=by
 rcases h with (h|⟨o,h⟩)|h
 ·exact .inl (.inl (s _ _ h))
 ·exact .inl (.inr #[o,s _ _ h])
 exact .inr h
theorem a_.same{l:Addr}{H H1 H2:Hp}(b:a_ l H1 H2)(n:H l=none)(s:aa H H1):aa H H2:=λc o e=>b c o (s c o e) (bu e n)
section v
theorem bp.imp{k:Nat}{x:Str}{ps:ae}{sp Bq:Sp}(c:!bp k x ps sp)(h:∀vs H Q E,Bq vs H Q E->sp vs H Q E):!bp k x ps Bq:=by
 let#[f,fd,F,m]:=c.ex;exact#[f,fd,F.imp h,m]
end
inductive lC (K:aj) (CG CW:Addr) (vs:ai) (H:Hp) (Q:VK) (E:XK):Prop
 |mk:∀(g p d lt:Addr) (hs:Xa) (ts:Xb) (qs:aN) (fp:au) (s0:ak) (ns:ae) (f:bo) (l:Int × Int) (m:Nat),vs=[.ref g,.ref d,.ref lt,.int m]->Gs K CG CW H g p hs ts qs fp->wK H d hs qs fp s0 ns f->gO H lt l->pO l->1<=m->m<1000000->(∀v H',aa H H'->Q v H')->lC K CG CW vs H Q E
theorem MW{K:aj}{CG CW:Addr}(vs:ai)(H:Hp)(Q:VK)(E:XK)(h:lC K CG CW vs H Q E):FW K CG CW vs H Q E:=by
 let#[g,p,d,lt,hs,ts,qs,fp,s0,ns,f,l,m,e,a,b,c,o,m1,m2,k]:=h;exact⟨g,p,d,lt,hs,ts,qs,fp,s0,ns,f,l,m,e,a,b,c,o,m1,m2,λ_ _ _ _ _ _ s _ _ _ _ _ _ _ _=>k _ _ s,λ_ _ s _ _=>k _ _ s,λ_ _ s _ _=>k _ _ s⟩
def PJ(H H':Hp)(t:Addr)(hs:Xa)(ts:Xb)(qs:aN)(s0:ak)(l:Int × Int):Prop:=PL H' t hs ts qs s0 l/\((∃x ys,H x=none/\H' t\.tup [.str "moves",.ref x]/\H' x\.lst ys/\ys.length<=1000000)∨H' t\.tup [.str "none"])
inductive lu (K:aj) (CG CW:Addr) (vs:ai) (H:Hp) (Q:VK) (E:XK):Prop
 |mk:∀(g p d lt:Addr) (hs:Xa) (ts:Xb) (qs:aN) (fp:au) (s0:ak) (ns:ae) (f:bo) (l:Int × Int) (m:Nat),vs=[.ref g,.ref d,.ref lt,.int m]->Gs K CG CW H g p hs ts qs fp->wK H d hs qs fp s0 ns f->gO H lt l->pO l->1<=m->m<1000000->(∀j z,Ds (Nx hs ts qs) s0 j z->j<1000000)->(∀t H',aa H H'->(PJ H H' t hs ts qs s0 l∨(H' t\.tup [.str "more"]/\More (Nx hs ts qs) s0 m))->Q (.ref t) H')->lu K CG CW vs H Q E
theorem MV{K:aj}{CG CW:Addr}(vs:ai)(H:Hp)(Q:VK)(E:XK)(h:lu K CG CW vs H Q E):FW K CG CW vs H Q E:=by
 let#[g,p,d,lt,hs,ts,qs,fp,s0,ns,f,l,m,e,a,b,c,o,m1,m2,dl,k]:=h;exact⟨g,p,d,lt,hs,ts,qs,fp,s0,ns,f,l,m,e,a,b,c,o,m1,m2,λt x ys ms s H' sm nx h1 h2 h3 h4 h5 h6 h7=>k _ _ sm (.inl ⟨.inl ⟨x,ys,ms,s,h1,h2,h3,h4,h5,h6,h7⟩,.inl ⟨x,ys,nx,h1,h2,by have:=bw h3;have:=dl _ _ h5;omega⟩⟩),λt H' sm h1 h2=>k _ _ sm (.inl ⟨.inr ⟨h1,h2⟩,.inr h1⟩),λt H' sm h1 h2=>k _ _ sm (.inr ⟨h1,h2⟩)⟩
end Ev
namespace Ev
open PySem L2
abbrev lN:ae:=[yc,"_law_cell",gI,jn,uO,"_law_drawn","_law_stand_here",kJ,"_law_spot","_law_goods","_law_layers_here","_law_many","_law_limit_here","_law_handed","_law_parts","_law_due_here","_law_twin","_law_most","_law_told","_law_fewer"]
theorem iJ:bG lN [yc] (aX e_):=bR
structure F8 (P:Ad) (w:Af) (K:aj) (mg:Str->Option Aa) (base:Heap) (CG CW:Addr):Prop where
 cD:!bp 1 uM wA yq
 cH:!bp 3 "_law_hands" [gI,"_law_most"] (UC K)
 cT:!bp 2 "_law_ties" [gI,jn] (Nm K)
 cP:!bp 3 "_law_pieces" ua (OP K)
 cS:!bp 2 "_law_stand" oA (OC K)
 cW:!mK CW 5 "Web" ["self","hands","ties"] (k9 K CW)
 cG:!mK CG 7 "Goods" ["self","web","pieces"] (NL K CG CW)
 cL:!bp 2 "_law_layers" ud (ND K)
 cM:!bp 8 "_law_limit" uc (Oy K CG CW)
 cU:!bp 3 "_law_due" ue (lD K)
 cF:!bp 8 "fewest_moves" j7 (FW K CG CW)
 cR:!bp 4 "_law_right" t_ (OF K)
abbrev fB:List Stmt:=E8 (zA (f_ e_) 0)
section v
theorem IK{fl CG CW:Addr}{cd:Aa}{A:Ag}{outer:List Env}{s:Ab}{Hi:Hp}{E:XK}(hr:aP 9 (A.deeper (PyProof.Rows.envOfC "law" (aX e_) s.heap.objs.size fl cd)))(C:F8 P w K mg base CG CW):∃t,j9 (iY aZ P w K mg base lN "law" (aX e_) fl cd A outer s Hi E).xH (fB.drop 15) t /\
  ∀(D:Ends) (HP:Hp) (w1 w2 w5 iM:V) (vm vk vj:aJ) (l lh lt lz lL d dh g0 g2 pw uv t0 tl lq:Addr) (hs:Xa) (ts Gc:Xb) (ss qs oO:aN) (fp wo:au) (ns:ae) (f:bo) (s0:ak) (lim:Int × Int) (LL:List (List ak)) (many:Nat),
   Gs K CG CW HP g0 pw hs ts qs fp->Gs K CG CW HP g2 uv hs Gc oO wo->wK HP dh hs qs fp s0 ns f->wK HP dh hs oO wo ((oO.map (·.1)).map f) ns f->w6 K HP lh lz lt tl hs ts ss qs lim->HP lq\.tup [.ref lh,.ref lz,.ref lt,.ref t0,.ref tl]->HP t0\.tup (sV s0)->HP d\.dK (dZ ns f)->dB HP l->l∉fp->lh≠l->lz≠l->lt≠l->Vs hs qs s0->Bk (Nx hs ts qs) s0 hs qs lim iM->gn (Nx hs ts qs) s0 LL->many=LL.flatten.length->1<=many->many<=300->
   (∀vm vk P8 H',a_ l HP H'->D.nx [some w1,some w2,some (.ref l),some (.ref lh),some (.ref lt),some w5,some (.ref d),some (.ref lz),some (.ref t0),some (.ref g0),some (.ref lL),some (.int many),some (.ref tl),some (.ref dh),some (.ref lq),some iM,some (.ref g2),vm,vk,P8] H')->
   t D [some w1,some w2,some (.ref l),some (.ref lh),some (.ref lt),some w5,some (.ref d),some (.ref lz),some (.ref t0),some (.ref g0),some (.ref lL),some (.int many),some (.ref tl),some (.ref dh),some (.ref lq),some iM,some (.ref g2),vm,vk,vj] HP:=by
 let hu:=gc hr;let sz:=cJ;have cF1:!bp 8 "fewest_moves" j7 (lC K CG CW):=C.cF.imp MW;have U6:!bp 8 "fewest_moves" j7 (lu K CG CW):=C.cF.imp MV;refine' ⟨_,?O9,?kk⟩
 case' O9=>refine' aw ?Xo ?c16
 case' c16=>refine' aw ?Xn ?c17
 case' c17=>refine' aF ?Xm
 case' Xo=>refine' eW d8 Z (dI (fQ %[11,bN gM (pv 11) aC,11|0])) (cz 17 iJ.nd) (aw ?d1 (aw ?d2 (aw ?d3 (aF ?d4))))
 case d1=>exact mB (bc cF1 hr %[16,13,12,aC|0])
 case d2=>exact bq 18 iJ.nd (bc U6 hr %[9,13,12,17|0])
 case d3=>exact cg (o6 (eX (eP (bc C.cR hr %[18,15,14|0]))) (pT (fI (Ze (Nat.lt_of_succ_lt (oj hr 0))) (pv 13) (pv 6)))).pt (aF (bx i5)) cq
 case d4=>exact cg (fI G_ (br c_ (pv 18) aC) tP) (aF (mB (pM o9 wF wG uW (br c_ (pv 18) aC) %[uS|0]))) cq
 case Xn=>exact bq 19 iJ.nd (bc U6 hr %[9,13,12,bN gM aC (bc C.cD hr %[2,11|0])|0])
 case Xm=>exact cg (Rw (fI (ZM (oj hr 0)) (pv 19) (gf %[tP|0])) (SW (eX (eP (bc C.cR hr %[19,15,14|0]))))).pt (aF (bx i5)) cq
 intro D HP w1 w2 w5 iM vm vk vj l lh lt lz lL d dh g0 g2 pw uv t0 tl lq hs ts Gc ss qs oO fp wo ns f s0 lim LL many GP PZ yC FY B6 GX Gj dP Gn lfp pE zF uy yH dv ok oh many1 sW k;let Yo:=Nd ok.ne;let yg:=yC.hd;let wz:=yC.o4;let AJ:=FY.o4;let HX:=B6.hl;let Bu:=B6.lo;apply#[_,Z,_,Z,_,_,Z,Z,_,Z,zl,λlw XX=>?_];let#[sQ,eQ]:=aD (o:=.lst [.int many,.int ((many:Int)+7),.int many]) XX;generalize upd HP lw (.lst [.int many,.int ((many:Int)+7),.int many])=HQ at sQ eQ ⊢
 have T5:∀j z,Ds (Nx hs ts qs) s0 j z->j<1000000:=λj z dz=>by
  let#[L,hL,_]:=ok.mem dz;have:=(bY.mp hL).1;omega
 have zB:∀m:Nat,many<=m->¬More (Nx hs ts qs) s0 m:=λm hm=>ok.vH Z1
 let Iw:b_:=λi σ H'=>∃(vm vk:aJ),σ=[some w1,some w2,some (.ref l),some (.ref lh),some (.ref lt),some w5,some (.ref d),some (.ref lz),some (.ref t0),some (.ref g0),some (.ref lL),some (.int many),some (.ref tl),some (.ref dh),some (.ref lq),some iM,some (.ref g2),vm,vk,vj]/\aa HQ H'
 apply#[lw,Z,#[_,.of eQ],?_];apply ib (K:=K) (a:=lw) (xs:=[.int many,.int ((many:Int)+7),.int many]) Iw ?_ ?_ ?_ ?_
 ·exact#[_,_,Z,aa.refl _]
 ·rintro i σ H' _ ⟨_,_,_,sm⟩;exact .of (sm _ _ eQ)
 ·rintro i y σ HR hy ⟨vm,vk,rfl,sR⟩
  obtain⟨m,rfl,m1,m2⟩:∃m:Nat,y=.int m/\many<=m/\m<=many+7:=by
   have:=cX hy;simp only[bV,fX,or_false] at this;rcases this with rfl|rfl|rfl
   ·exact#[many,Z,by omega,by omega]
   ·exact#[many+7,by simp,by omega,by omega]
   exact#[many,Z,by omega,by omega]
  let m_:=sQ.trans sR;apply#[_,Z,_,Z,_,Z,g2,uv,dh,tl,hs,Gc,oO,wo,_,ns,f,lim,70,Z,PZ.same m_,#[m_ _ _ yg,AJ,FY.ok,FY.s0],m_ _ _ HX,Bu,by decide,by decide,λvT HS sS=>?_];let Gu:=m_.trans sS;apply#[_,Z,_,Z,_,Z,_,Z,g0,pw,dh,tl,hs,ts,qs,fp,s0,ns,f,lim,m,Z,GP.same Gu,#[Gu _ _ yg,wz,yC.ok,yC.s0],Gu _ _ HX,Bu,by omega,by omega,T5,λt HT sT td=>?_];rcases td with⟨td,tf⟩|⟨_,mo⟩;rotate_left 1
  ·exact absurd mo (zB m m1)
  let Gr:=Gu.trans sT;apply#[_,Z,_,Z,_,Z,t,lq,lh,lz,lt,t0,tl,iM,hs,ts,ss,qs,lim,s0,Z,Gr _ _ GX,B6.same Gr,Gr _ _ Gj,yH,td,dv,λHU sU=>#[_,Z,aM ?_]];let Qm:=Gr.trans sU;apply#[_,Z,_,Z,dh,d,ns,ns,f,Z,Z,Qm _ _ yg,Qm _ _ dP,Z,λ_ h=>h,#[_,Z,aM ?_]];have Ql:aa HQ HU:=sR.trans (sS.trans (sT.trans sU));have sHU:aa HS HU:=sT.trans sU;rcases tf with⟨x,ys,xn,h1,h2,ly⟩|h1
  ·let l9:=sU _ _ h1;let g7:=sU _ _ h2;apply#[_,Z,t,_,0,_,Z,Z,.of l9,L2.dR (j:=0) Z,Z,_,Z,dj ?_];apply#[_,Z,t,_,1,_,Z,Z,.of l9,L2.dR (j:=1) Z,.inl #[Z,_,.of g7],x,_,_,Z,Z,g7,by omega,?_];exact#[_,_,Z,fo Ql (sR.trans sS |>.free xn)]
  let l9:=sU _ _ h1;apply#[_,Z,t,_,0,_,Z,Z,.of l9,L2.dR (j:=0) Z,Z,_,Z,aM ?_];exact#[_,_,Z,Ql]
 rintro σ HR ⟨vm,vk,rfl,sR⟩;let m_:=sQ.trans sR;have Gm:dB HR l:=Gn.same m_;apply#[_,Z,_,Z,_,Z,_,Z,_,Z,l,many,Z,by omega,by omega,Gm,λr HS q0 q1 bS stS=>?_];let#[xsR,Hm]:=Gm.some;have J7:∀{c xs},HR c\.tup xs->HS c\.tup xs:=λe=>bS _ _ e (bK e Hm nofun);let#[j,rfl]:=tX q0;have GS:Gs K CG CW HS g0 pw hs ts qs fp:=#[(GP.same m_).G.but bS Gm lfp,GP.Gd,GP.nd,GP.bX,GP.wp];have dhS:HS dh\.dK (dZ (ns) f):=bS _ _ (m_ _ _ yg) (bK (m_ _ _ yg) Hm nofun);let SL:=J7 (m_ _ _ HX);apply#[_,_,Z,Z,?_];apply#[g0,pw,dh,tl,hs,ts,qs,fp,s0,ns,f,lim,1+j,?_,GS,#[dhS,wz,yC.ok,yC.s0],SL,Bu,by omega,by omega,T5,λt HT sT td=>?_]
 ·simp
 have PtS:w6 K HS lh lz lt tl hs ts ss qs lim:=by
  let#[#[yh,a1,a2],#[yp,b1,b2],#[zs,c1,c2],_,_,g1,g2,g3]:=B6.same m_;exact#[#[yh,bS _ _ a1 pE,i_ a2 bS Hm],#[yp,bS _ _ b1 zF,Paired.aV b2 λy p q=>q.but bS Gm],#[zs,bS _ _ c1 uy,i_ c2 bS Hm],SL,Bu,g1,g2,g3]
 let Yh:=J7 (m_ _ _ GX);let WA:=J7 (m_ _ _ Gj);have fin:∀HU,aa HT HU->a_ l HP HU:=λHU sU=>(a_.of m_).trans (bS.trans (a_.of (sT.trans sU)));apply#[_,Z,zl,λq hq=>?_];let sq:=aa.new (o:=.tup [.str "more"]) hq;let eq:=(ay:upd HT q (.tup [.str "more"]) q\.tup [.str "more"]);generalize upd HT q (.tup [.str "more"])=HV at sq eq ⊢;let Kx:=sT.trans sq;rcases td with⟨td,tf⟩|⟨tm,_⟩
 ·have Wr:PL HV t hs ts qs s0 lim:=by
   rcases td with⟨x,ys,ms,sE,h1,h2,h3,h4⟩|⟨h1,h2⟩
   ·exact .inl #[x,ys,ms,sE,sq _ _ h1,sq _ _ h2,Paired.aV h3 λy m ⟨t,e,ht⟩=>#[t,e,sq _ _ ht],h4]
   exact .inr #[sq _ _ h1,h2]
  have go:∃(ds:ae) (rest:ai),HV t\.tup (ds.map V.str++rest)/\(rest=[]∨(["more"]:ae).length<=ds.length):=by
   rcases tf with⟨x,ys,xn,h1,h2,ly⟩|h1
   ·exact#[["moves"],[.ref x],sq _ _ h1,.inr (bh _)]
   exact#[["none"],[],sq _ _ h1,.inl Z]
  let#[ds,rest,ht,hor]:=go;apply#[t,q,ds,["more"],rest,Z,Z,.of ht,.of eq,hor,#[_,Z,?_]];apply cw (λc=>?_) (λc=>?_)
  ·apply#[_,Z,_,Z,_,Z,t,lq,lh,lz,lt,t0,tl,iM,hs,ts,ss,qs,lim,s0,Z,Kx _ _ Yh,PtS.same Kx,Kx _ _ WA,yH,Wr,dv,λHU sU=>#[_,Z,aM ?_]];exact k _ _ _ _ (fin HU (sq.trans sU))
  exact k _ _ _ _ (fin HV sq)
 apply#[t,q,["more"],["more"],[],Z,Z,.of (sq _ _ tm),.of eq,.inl Z,#[_,Z,?_]];apply cw (λc=>?_) (λc=>?_)
 ·simp at c
 exact k _ _ _ _ (fin HV sq)
end
end Ev
namespace Ev
open PySem L2
def mT(K:aj)(T:Addr):Sp:=λvs H Q _=>∃(a:Addr) (ns:List Int),vs=[.ref a]/\H T\.tbl #[]/\dY K H a (ns.map V.int)/\ns.length<=63/\∀H',Q (.bl true) H'
section v
theorem YX{fl c0 CG CW T:Addr}{fd:Ae}(F:w_ K "law" "law" e_ fl c0 fd)(B:Bi mg)(K9:mg "sum"=none)(hC:PySem.W.CodeHd base c0 T)(xZ:base.BuiltinsAt mg T)(C:F8 P w K mg base CG CW):!ao aZ 10 fl fd [yc] (mT K T):=by
 apply F.ok iJ (λvs H Q E h=>?_) (λA outer s H vs Q E hr h=>?_)
 ·let#[a,ns,rfl,_]:=h;rfl
 let#[ls,ns,rfl,hT,LY,h63,k]:=h;let sz:=cJ;let hu:=gc hr;have Bx:aP 3 _:=hr.mono (by decide);let#[tlt,htl,later]:=IK (Hi:=H) (E:=E) (outer:=outer) hr C;refine' #[_,aw ?s1 (aF (bx i5)),?kk]
 case' s1=>refine' eW d8 Z (dI (bN ZE (fQ %[aC|0]) (A3 Nb (pv 0) Ba (A9 aC)))) (cz 1 iJ.nd) ?b0
 case' b0=>refine' aw ?q0 ?c1
 case' c1=>refine' aw ?q1 ?c2
 case' c2=>refine' aw ?q2 ?c3
 case' c3=>refine' aw ?q3 ?c4
 case' c4=>refine' aw ?q4 ?c5
 case' c5=>refine' aw ?q5 ?c6
 case' c6=>refine' aw ?q6 ?c7
 case' c7=>refine' aw ?q7 ?c8
 case' c8=>refine' aw ?q8 ?c9
 case' c9=>refine' aw ?q9 ?c10
 case' c10=>refine' aw ?KO ?c11
 case' c11=>refine' aw ?KN ?c12
 case' c12=>refine' aw ?Xr ?c13
 case' c13=>refine' aw ?Xq ?c14
 case' c14=>refine' aw ?Xp ?O9
 case O9=>exact htl
 case q0=>exact bq 2 iJ.nd (fQ %[1|0])
 case q1=>exact bq 3 iJ.nd (bc C.cH hr %[2,aC|0])
 case q2=>exact bq 4 iJ.nd (bc C.cT hr %[2,3|0])
 case q3=>exact bq 5 iJ.nd (bc C.cP hr %[2,4,aC|0])
 case q4=>exact bq 6 iJ.nd (bc C.cS hr %[2,3,5|0])
 case q5=>exact bq 7 iJ.nd (g6_ (px:=tq) (cZ:=[]) (cl:=[]) (is:=[]) (k:=1) Z (by rfl) B.sorted %[5|0] (ZL (Zs (P:=T) (c:=c0) Z On Z hC xZ) Zx) _z Bx (λ_ h=>by cases h) (λ_ h=>by cases h) (λ_ h=>by cases h) Z)
 case' q6=>refine' bq 8 iJ.nd (ja Pg (by rfl) B.tuple uV %[iL [tq,"_law_stand_here"] 1 [6] (dI (pv 7)) (λfp s H=>?g6) (λfp s H=>jr) (λfp s H=>?e6)|0])
 case g6=>exact eO (i:=0) (show ([tq,"_law_stand_here"]:ae).Nodup by decide +kernel) Z (Or.inl Z)
 case e6=>exact oq hu (pv 1) (br (uz (K:=K) jz c_) (pv 0) aC)
 case q7=>exact bq 9 iJ.nd (E4 C.cG hr %[E4 C.cW hr %[3,4|0],5|0])
 case q8=>exact bq 10 iJ.nd (bc C.cL hr %[7,4,8,aC|0])
 case' q9=>refine' bq 11 iJ.nd (cO (hk_ Z) (by rfl) K9 PyProof.Rows.Boot.«sum» %[iL ["_law_layer"] 1 [] (dI (pv 10)) (λfp s H=>?g9) (λfp s H=>jr) (λfp s H=>?e9)|0])
 case g9=>exact eO (i:=0) (show (["_law_layer"]:ae).Nodup by decide +kernel) Z (Or.inl Z)
 case e9=>exact cO (yk (K:=K) Jr iC) (by rfl) B.len gJ %[0|0]
 case' KO=>refine' bq 12 iJ.nd (bc C.cM hr %[2,9,iL [tq] 1 [] (dI (pv 7)) (λfp s H=>?g10) (λfp s H=>jr) (λfp s H=>?e10),10|0])
 case g10=>exact eO (i:=0) (show ([tq]:ae).Nodup by decide +kernel) Z (Or.inl Z)
 case e10=>exact br (uz (K:=K) jz c_) (pv 0) aC
 case KN=>exact bq 13 iJ.nd (ja fj_ (by rfl) B.dict tQ %[6|0])
 case Xr=>exact bq 14 iJ.nd (gf %[3,7,4,8,12|0])
 case Xq=>exact bq 15 iJ.nd (bc C.cU hr %[3,7,10,12|0])
 case' Xp=>refine' bq 16 iJ.nd (E4 C.cG hr %[E4 C.cW hr %[3,A3 Nb (pv 4) (A9 aC) Ba|0],iL oy 3 [] (dI (pv 5)) (λfp s H=>?g14) (λfp s H=>jr) (λfp s H=>?e14)|0])
 case g14=>exact Bb (n:=3) (dE (eO (i:=0) (show (oy:ae).Nodup by decide +kernel) Z (Or.inl Z)) (dE (eO (i:=1) (show (oy:ae).Nodup by decide +kernel) Z (Or.inl Z)) (dE (eO (i:=2) (show (oy:ae).Nodup by decide +kernel) Z (Or.inl Z)) jc)))
 case e14=>exact gf %[0,bN gM aC (bN yj (pv 1) aC),uS|0]
 have wq:jT H T qL:=#[[],hT,λe he=>by cases he];apply#[zl,λa1 n1=>?_];let#[s1,k1]:=aD (o:=.lst [.int 0]) n1;generalize upd H a1 (.lst [.int 0])=H1 at s1 k1 ⊢;apply#[_,Z,_,Z,ls,_,Z,hX_ s1 LY,λa2 n2=>?_];let#[s2,k2]:=aD (o:=.lst (dQ (ns.map V.int) none (some 4))) n2;generalize upd H1 a2 (.lst (dQ (ns.map V.int) none (some 4)))=H2 at s2 k2 ⊢;let lc:=Pm (ns.map V.int) none (some 4);rw[aq] at lc;apply#[a1,a2,_,_,Z,Z,s2 _ _ k1,k2,by show 1+(dQ (ns.map V.int) none (some 4)).length<=sizeLine;omega,λa3 n3=>?_];let#[s3,k3]:=aD (o:=.lst ([.int 0]++dQ (ns.map V.int) none (some 4))) n3;generalize upd H2 a3 (.lst ([.int 0]++dQ (ns.map V.int) none (some 4)))=H0 at s3 k3 ⊢;have CA:jT H0 T qL:=wq.same ((s1.trans s2).trans s3)
 have allI:∀y∈[V.int 0]++dQ (ns.map V.int) none (some 4),∃n,y=.int n:=λy hy=>by
  rcases d9.mp hy with hy|hy
  ·exact#[0,eV.mp hy]
  have hy:y∈ns.map V.int:=by
   unfold dQ at hy;exact List.mem_of_mem_drop (List.mem_of_mem_take hy)
  let#[n,_,rfl]:=bC.mp hy;exact#[n,Z]
 let Iv:b_:=λi σ H2=>∃(v1 v2 v3 v4 v5 v6 v7 v8 v9 va vb vc vd ve vf vg vh vi vj:aJ),σ=[some (.ref ls),v1,v2,v3,v4,v5,v6,v7,v8,v9,va,vb,vc,vd,ve,vf,vg,vh,vi,vj]/\NT H0 H2/\jT H2 T qL
 apply#[a3,Z,#[_,.of k3],?_];apply ib (K:=K) (a:=a3) (xs:=[.int 0]++dQ (ns.map V.int) none (some 4)) Iv ?_ ?_ ?_ ?_
 ·exact#[none,none,none,none,none,none,none,none,none,none,none,none,none,none,none,none,none,none,none,Z,NT.refl H0,CA]
 ·rintro i σ H' _ ⟨_,_,_,_,_,_,_,_,_,_,_,_,_,_,_,_,_,_,_,_,nt,_⟩;exact .of (nt.lst k3)
 rotate_left 1
 ·rintro σ H' ⟨_,_,_,_,_,_,_,_,_,_,_,_,_,_,_,_,_,_,_,rfl,_,_⟩;exact k H'
 rintro i y σ H2 hy ⟨v1,v2,v3,v4,v5,v6,v7,v8,v9,va,vb,vc,vd,ve,vf,vg,vh,vi,vj,rfl,XR,Kc⟩;let#[n,rfl]:=allI y (cX hy);clear hy s1 k1 s2 k2 n1 n2 n3 s3 wq CA k;apply#[_,Z,zl,λl nl=>?_];let s3:=aa.new (o:=.lst [.int n]) nl;have iF:dB (upd H2 l (.lst [.int n])) l:=.inl #[n,ay];generalize upd H2 l (.lst [.int n])=H3 at s3 iF ⊢;apply#[_,Z,l,4,Z,by decide,by decide,iF,λlh yh hs H4 b4 ij pI fY tu g nd h1 h8=>?_];let#[VH,Ak]:=iF.some;have pE:lh≠l:=(bu Ak pI).symm;apply#[_,Z,_,Z,l,lh,yh,hs,Z,ij,fY,tu,λx hx=>?_,nd,by omega,pE,λlt yt ts H5 b5 hX oY d5 tt tok Cw xp=>?_]
 ·let#[h,hh,rfl]:=bC.mp hx;exact (g h hh).1
 let#[VG,Es]:=ij.some;have uy:lt≠l:=(bu Es oY).symm;have W:Good hs ts:=#[g,nd,h1,by omega,λt ht=>(tok t ht).1,Cw,xp,λt ht=>(tok t ht).2];apply#[_,Z,_,Z,l,lt,3,yt,ts,Z,by decide,hX,d5,tt,uy,xp,W.tok,Cw,λlp yp ps H6 b6 iO HY kz pc dp rK p3=>?_];let#[xs5,Hn]:=hX.some;have DK:lp≠l:=(bu Hn HY).symm;let uo:=i_ (i_ tu b5 Es) b6 Hn;let Ai:=b6 _ _ (b5 _ _ fY pE) pE;apply#[_,Z,_,Z,_,Z,l,lh,lp,yh,yp,hs,ps,Z,iO,Ai,uo,pE,h1,by omega,kz,pc,DK,rK,by omega,λd f H7 b7 jd E7 hd fm=>?_];have D6:a_ l H6 H7:=b7;let#[P6,Aj]:=iO.some;have D7:Dr K H7 l lh lt lp d hs ts ps f:=#[jd,#[yh,b7 _ _ Ai pE,i_ uo b7 Aj],#[yt,b7 _ _ (b6 _ _ d5 uy) uy,i_ (i_ tt b6 Hn) b7 Aj],#[yp,b7 _ _ kz DK,Paired.aV pc λy p q=>q.but b7 iO],hd,pE,uy,DK];have Qp:aa H2 H7:=(((b4.trans b5).trans b6).trans b7).same nl s3;have Cz:jT H7 T qL:=Kc.same Qp;clear b4 b5 b6 b7 iF ij hX iO jd pI oY HY E7 Ak Es Hn Aj tu uo fY Ai d5 tt kz pc hd s3 D6;apply#[_,Z,K4 (Fo ?_)];apply Zy Cz Z Z Z Z λHZ c' H8 b8 Kb Mh Hu=>?_;let#[tv,hT7]:=Zk Cz;have Df:NT H7 H8:=b8.nt hT7;let D8:=D7.nt Df;let#[VD,LZ,GK]:=D8.hp;let DD:=bw GK;apply#[.ref lp,HZ,c',VD,K2 H8,[],Z,Z,Mh,Hu,.inl #[lp,Z,.of LZ],by omega,Z,λH' x sm hx=>?_,λlz zs H9 s9 XJ XM pz ek=>?_]
 ·let#[j,hj,rfl]:=hJ hx;let#[t,v,e,ht,_]:=dU GK j hj Z1;rw[e];apply#[t,_,_,Z,Z,sm _ _ ht,aa.refl _,?_];show V.str _=V.str (match H8 t with|some (.tup (.str n::_))=>n|_=>(⟨#[]⟩:Str));rw[ht]
 let#[ss,sp,Qy]:=eb_ pz GK
 have esn:ss.map (·.1)=h_ (ps.map (·.1)):=by
  rw[<- M6 Qy,<- M6 GK];exact ek
 have sA:aa H8 (upd H9 lz (.lst zs)):=s9.trans (aa.new XJ);have eA:upd H9 lz (.lst zs) lz\.lst zs:=ay;generalize upd H9 lz (.lst zs)=HA at sA eA ⊢;have KR:jo K HA zs ss:=wL Qy sA;let DA:=D8.same sA;let Ka:=Kb.same sA;have XQ:NT H2 HA:=((NT.of Qp).trans Df).trans (NT.of sA)
 have zF:lz≠l:=by
  let#[xs,e]:=D8.st.some;exact (bu e XM).symm
 have km:(ss.map (·.1)).Nodup:=(sp.map (·.1)).nodup_iff.mpr rK;have Yf:ss.length=ps.length:=sp.length_eq;let QL:=bw KR;apply#[_,Z,lz,Z,#[_,.of eA],λD hD=>?_];apply i9 (own:=1) (fv:=[some (.ref d)]) (xs:=zs) Z fh (λi out H'=>aa HA H'/\H' D\.lst out/\out=((ss.take i).map λp=>f p.1).map V.str) #[aa.new hD,ay,Z] (λi out H' _ ⟨sm,_,_⟩=>.of (sm _ _ eA)) (λout HB ⟨sB,Hx,eo⟩=>?_) (λj y out H' hy ⟨sm,cQ,eo⟩=>?_);rotate_left 1
 ·have hj:j<zs.length:=(bY.mp hy).1
  obtain⟨q,hq,t,v,rfl,ht,_⟩:∃q,ss[j]? = some q/\hW K HA y q:=by
   have:=dU KR j hj Z1;rw[aQ hj] at hy;cases hy;exact#[ss[j]' Z1,aQ Z1,this]
  have qm:q.1∈ps.map (·.1):=bC.mpr #[q,sp.mem_iff.mp (cX hq),Z]
  have dg:eS H' d (.str q.1) (some (.str (f q.1))):=by
   have:=eS.k (k:=.inr q.1) (sm _ _ DA.hd);rw[A8 (g:=λn=>V.str (f n)) qm] at this;exact this
  apply#[_,Z,Z,λNx hN=>ed ?_];apply#[_,Z,_,Z,t,_,0,_,Z,Z,.of (sm _ _ ht),L2.dR (j:=0) Z,d,_,Z,dg,out,cQ,?_,hN _ _ #[fo sm hD,ay,?_]]
  ·rw[eo,aq,aq,dG];omega
  rw[tS _ hq,eU,eo];rfl
 rw[QL,eN] at eo;subst eo;obtain⟨s0,wq⟩:∃s0:ak,s0=ss.map λp=>f p.1:=#[_,Z];rw[<- wq] at Hx;apply#[D,_,Z,.inl #[.of Hx,λt0 XT=>?_]];let#[sC,eC]:=aD (o:=.tup (sV s0)) XT;let GB:=sB.trans sC;generalize upd HB t0 (.tup (sV s0))=HC at sC eC GB ⊢;let DC:=DA.same GB;let#[#[yhC,hhC,Wa],#[ztC,htC,Wj],#[ypC,hpC,Xz]]:=And.intro DC.hh (And.intro DC.ht DC.hp);apply#[_,Z,_,Z,?_];intro pw Nu LM EG Di;have t1:aa HC (upd (upd HC Nu (.own pw)) pw (.ins CW Nu [])):=(aa.new EG).trans (aa.new (by rw[ax Di.symm];exact LM));apply#[pw,Nu,lh,lt,_,_,hs,ts,Z,ay,t1 _ _ hhC,Wa.same t1,t1 _ _ htC,Wj.same t1,W,λdF HD QZ Wb Hy=>#[Z,?_]];have sD:aa HC HD:=λb o e=>QZ b o (t1 _ _ e) (bu e LM)
 have Hy:∀b∈dF,HC b=none:=λb hb=>by
  rcases Hy b hb with rfl|z
  ·exact LM
  exact t1.free z
 clear t1 QZ EG Di;apply#[_,Z,?_];intro g0 NG Hq EI Dk;have t1:aa HD (upd (upd HD NG (.own g0)) g0 (.ins CG NG [])):=(aa.new EI).trans (aa.new (by rw[ax Dk.symm];exact Hq))
 have So:g0∉dF:=λm=>by
  let#[o,e]:=Wb.has m;rw[Hq] at e;cases e
 apply#[g0,NG,pw,lp,_,ps,hs,ts,dF,Z,ay,Wb.same t1,So,W,t1 _ _ (sD _ _ hpC),wL (wL Xz sD) t1,λq hq=>(dp q hq).g,rK,by omega,λqs MU HE QY GA Qq HW=>#[Z,?_]];have sE:aa HD HE:=λb o e=>QY b o (t1 _ _ e) (bu e Hq)
 have HW:∀b∈MU,b∈dF∨HD b=none:=λb hb=>by
  rcases HW b hb with rfl|z|z
  ·exact .inr Hq
  ·exact .inl z
  exact .inr (t1.free z)
 clear t1 QY EI Dk So;let#[fp,GA,has,sub]:=GA.xr;have S:fq ts ss qs:=YD Qq rK sp esn dp;let Yg:=S.len
 have lfp:l∉fp:=λm=>by
  let#[xs,e]:=DC.st.some;rcases HW l (sub l m) with z|z
  ·have:=Hy l z;rw[e] at this;cases this
  rw[sD _ _ e] at z;cases z
 have o4:d∉fp:=λm=>by
  rcases HW d (sub d m) with z|z
  ·have:=Hy d z;rw[DC.hd] at this;cases this
  rw[sD _ _ DC.hd] at z;cases z
 let Gz:=sD.trans sE;let DE:=DC.same Gz;have J_:jT HE T qL:=Ka.same (GB.trans Gz);let KD:=GB.trans Gz;let IE:=KD _ _ eA;let TM:=Gz _ _ eC;let Bs:=wL KR KD;have Gg:Gs K CG CW HE g0 pw hs ts qs fp:=#[GA,W,by rw[S.vK];exact km,by omega,S.wp];have K1:qs.map (·.1)=ss.map (·.1):=S.vK
 have yH:Vs hs qs s0:=by
  apply#[by rw[wq,aq,Yg],λh hh=>?_];rw[wq] at hh;let#[q,hq,rfl]:=bC.mp hh;exact (gL hs).mem_iff.mpr (fm _ (bC.mpr #[q,sp.mem_iff.mp hq,Z]))
 have X1:(aS hs).length<=4:=by rw[W.iS];omega
 have XD:(aS hs).length ^ qs.length<=300:=by
  have a1:(aS hs).length ^ qs.length<=4 ^ qs.length:=Nat.pow_le_pow_left X1 _;have a2:(4:Nat) ^ qs.length<=4 ^ 3:=Nat.pow_le_pow_right (by decide) Z1;omega
 let#[#[yhE,hhE,tuE],#[Vr,htE,Wi],#[ypE,hpE,Xw]]:=And.intro DE.hh (And.intro DE.ht DE.hp);apply#[_,Z,_,Z,_,Z,lz,lt,t0,300,zs,Vr,hs,ts,ss,qs,s0,Z,IE,Bs,htE,Wi,W,S,by omega,TM,yH,XD,by decide,λlL yL LL HF sF X0 eL GV frL ok sW=>?_];let Yo:=Nd ok.ne;have QP:∀L∈LL,L.length<=LL.flatten.length:=λL hL=>(List.sublist_flatten_of_mem hL).length_le;have many1:1<=LL.flatten.length:=List.length_pos_of_mem ((ok.all s0).mpr #[0,.z]);let GY:=bw GV;let DF:=DE.same sF
 have G0:lL≠l:=by
  let#[xs,e]:=DE.st.some;exact (bu e X0).symm
 have SK:∀b,V.ref b∈yL->b≠l:=λb hb=>by
  let#[xs,e]:=DE.st.some;exact (bu e (frL b hb)).symm
 apply#[_,Z,lL,Z,#[_,.of eL],λD2 uG=>?_];apply i9 (own:=1) (fv:=[]) (xs:=yL) Z fh (λi out H'=>aa HF H'/\H' D2\.lst out/\out=((LL.take i).map λL=>(L.length:Int)).map V.int) #[aa.new uG,ay,Z] (λi out H' _ ⟨sm,_,_⟩=>.of (sm _ _ eL)) (λout HG ⟨sG,hDG,eo⟩=>?_) (λj y out H' hy ⟨sm,cQ,eo⟩=>?_);rotate_left 1
 ·have hj:j<yL.length:=(bY.mp hy).1
  obtain⟨L,hL,a,Vu,rfl,ha,WH⟩:∃L,LL[j]? = some L/\∃a zs,y=.ref a/\HF a\.lst zs/\iy HF zs L:=by
   have:=dU GV j hj Z1;rw[aQ hj] at hy;cases hy;exact#[LL[j]' Z1,aQ Z1,this]
  let vN:=bw WH;apply#[_,Z,Z,λNx hN=>ed ?_];apply#[_,Z,a,_,Z,.inl (.of (sm _ _ ha)),out,cQ,?_,hN _ _ #[fo sm uG,ay,?_]]
  ·rw[eo,aq,aq,dG];omega
  rw[tS _ hL,eU,eo,vN];rfl
 rw[GY,eN] at eo;subst eo;apply#[D2,_,Z,.of hDG,?_];rw[SE];obtain⟨many,oh⟩:∃m,m=LL.flatten.length:=#[_,Z];rw[<- oh];rw[<- oh] at sW many1;let CY:=sF.trans sG;dsimp only[List.set];apply#[_,Z,_,Z,_,Z,lz,Z,#[_,.of (CY _ _ IE)],λD3 kD=>?_]
 have D3l:D3≠l:=by
  let#[xs,e]:=(DE.same CY).st.some;exact (bu e kD).symm
 let Xy:=wL Bs CY;apply i9 (own:=1) (fv:=[]) (xs:=zs) Z fh (λi out H'=>aa HG H'/\H' D3\.lst out/\out=((ss.take i).map (·.1)).map V.str) #[aa.new kD,ay,Z] (λi out H' _ ⟨sm,_,_⟩=>.of (sm _ _ (CY _ _ IE))) (λout HH ⟨sH,hDH,eo⟩=>?_) (λj y out H' hy ⟨sm,cQ,eo⟩=>?_);rotate_left 1
 ·have hj:j<zs.length:=(bY.mp hy).1
  obtain⟨q,hq,t,v,rfl,ht,_⟩:∃q,ss[j]? = some q/\hW K HG y q:=by
   have:=dU Xy j hj Z1;rw[aQ hj] at hy;cases hy;exact#[ss[j]' Z1,aQ Z1,this]
  apply#[_,Z,Z,λNx hN=>ed ?_];apply#[_,Z,t,_,0,_,Z,Z,.of (sm _ _ ht),L2.dR (j:=0) Z,out,cQ,?_,hN _ _ #[fo sm kD,ay,?_]]
  ·rw[eo,aq,aq,dG];omega
  rw[tS _ hq,eU,eo];rfl
 rw[QL,eN,<- K1] at eo;subst eo;let vC:=CY.trans sH;let DH:=DE.same vC;have GgH:Gs K CG CW HH g0 pw hs ts qs fp:=#[GA.same vC,W,Gg.nd,Gg.bX,Gg.wp]
 have EO:∀b∈fp,∃o,HH b\o:=λb hb=>by
  let#[o,e]:=has b hb;exact#[o,vC _ _ e]
 let Gy:=sG.trans sH;apply#[_,Z,l,g0,D3,lL,pw,hs,ts,qs,fp,yL,LL,s0,Z,DH.st,GgH,lfp,EO,hDH,D3l,Gy _ _ eL,G0,GV.same Gy,SK,ok,yH,by omega,λL hL=>by have:=QP L hL;omega,λtl lim HI bI stI SM Bu=>?_];let#[xsH,RS]:=DH.st.some;let DI:=DH.but bI stI;have tk:∀{c xs},HH c\.tup xs->HI c\.tup xs:=λe=>bI _ _ e (bK e RS nofun);let Yc:=bI _ _ (vC _ _ IE) zF;have Xx:jo K HI zs ss:=Paired.aV (wL Bs vC) λy p q=>q.but bI DH.st;let WB:=tk (vC _ _ TM);let GaI:=(GA.same vC).but bI DH.st lfp
 have Mt:∀b∈fp,∃o,HI b\o:=λb hb=>by
  let#[o,e]:=EO b hb;exact#[o,bI _ _ e λz=>lfp (by rw[<- z];exact hb)]
 let Yu:=bI _ _ (Gy _ _ eL) G0;have Yd:gq HI yL LL:=(GV.same Gy).keep (λa m xs e=>bI _ _ e (SK a m)) (λc xs e=>tk e);have tabI:jT HI T qL:=jT.FM (J_.same vC) bI RS;have XO:NT H2 HI:=λc o e no=>bI _ _ (vC _ _ (KD _ _ (XQ _ _ e no))) (bu e nl);dsimp only[List.set];apply#[_,Z,d,_,Z,.inl DI.hd,λdh QJ=>?_];let#[sJ,eJ]:=aD (o:=.dK (dZ (ps.map (·.1)) f)) QJ;generalize upd HI dh (.dK (dZ (ps.map (·.1)) f))=HJ at sJ eJ ⊢;dsimp only[List.set];apply#[_,Z,_,Z,_,Z,_,Z,_,Z,zl,λlq XY=>?_];let#[Gw,eK]:=aD (o:=.tup [.ref lh,.ref lz,.ref lt,.ref t0,.ref tl]) XY;generalize upd HJ lq (.tup [.ref lh,.ref lz,.ref lt,.ref t0,.ref tl])=HK at Gw eK ⊢;let Gx:=sJ.trans Gw;have Vl:w6 K HI lh lz lt tl hs ts ss qs lim:=#[DI.hh,#[zs,Yc,Xx],DI.ht,SM,Bu,W,S,by omega];dsimp only[List.set];apply#[_,Z,_,Z,_,Z,_,Z,lh,lz,lt,lL,tl,yL,LL,hs,ts,ss,qs,lim,s0,Z,Vl.same Gx,Gx _ _ Yu,Yd.same Gx,ok,yH,by omega,λL hL=>by have:=QP L hL;omega,λiM HL sL dv=>?_];let Qn:=Gx.trans sL;let DL:=DI.same Qn;let#[#[yhL,hhL,V9],#[JN,htL,Wh],#[P5,RM,QB]]:=And.intro DL.hh (And.intro DL.ht DL.hp);have W2:Good hs (ts.drop 1):=#[W.aA,W.uC,W.h1,W.h8,λt ht=>W.tok t (List.mem_of_mem_drop ht),by rw[List.map_drop];exact W.Cw.sublist (List.drop_sublist _ _),by rw[yz];omega,λt ht=>W.uq t (List.mem_of_mem_drop ht)];dsimp only[List.set];apply#[_,Z,_,Z,_,Z,lt,_,Z,.of htL,λl2 X2=>?_];rw[show (some (1:Int))=some ((1:Nat):Int) from Z,OI];let#[sM,eM]:=aD (o:=.lst (JN.drop 1)) X2;generalize upd HL l2 (.lst (JN.drop 1))=HM at sM eM ⊢
 have Wl:bT K HM (JN.drop 1) ((ts.drop 1).map kT):=by
  rw[List.map_drop];exact UZ 1 (Wh.same sM)
 intro uv AI zV xW xI;have t1:aa HM (upd (upd HM AI (.own uv)) uv (.ins CW AI [])):=(aa.new xW).trans (aa.new (by rw[ax xI.symm];exact zV));apply#[uv,AI,lh,l2,_,_,hs,ts.drop 1,Z,ay,t1 _ _ (sM _ _ hhL),(V9.same sM).same t1,t1 _ _ eM,Wl.same t1,W2,λwm HN QX Vj Ay=>#[Z,?_]];have sN:aa HM HN:=λb o e=>QX b o (t1 _ _ e) (bu e zV)
 have Ay:∀b∈wm,HM b=none:=λb hb=>by
  rcases Ay b hb with rfl|z
  ·exact zV
  exact t1.free z
 clear t1 QX xW xI;let Gv:=sM.trans sN;let Le:=bw QB;dsimp only[List.set];apply#[_,Z,lp,Z,#[_,.of (Gv _ _ RM)],λD4 iW=>?_];apply i9 (own:=3) (fv:=[]) (xs:=P5) Z E2 (λi out H'=>aa HN H'/\H' D4\.lst out/\jo K H' out ((ps.take i).map λp=>((p.1,1+p.2.1 % 7,none):Pc))) #[aa.new iW,ay,.nil] (λi out H' _ ⟨sm,_,_⟩=>.of (sm _ _ (Gv _ _ RM))) (λout JK ⟨sO,hDO,QA⟩=>?_) (λj y out H' hy ⟨sm,cQ,Qz⟩=>?_);rotate_left 1
 ·have hj:j<P5.length:=(bY.mp hy).1
  obtain⟨q,hq,t,v,rfl,ht,_⟩:∃q,ps[j]? = some q/\hW K HL y q:=by
   have:=dU QB j hj Z1;rw[aQ hj] at hy;cases hy;exact#[ps[j]' Z1,aQ Z1,this]
  apply#[_,#[t,_,_,_,Z,.of (sm _ _ (Gv _ _ ht)),Z],Z,λNx hN=>ed ?_];apply#[_,Z,_,Z,_,_,Z,Z,by decide,_,_,Z,Z,zl,λz hz=>?_];let#[s5,e5]:=aD (o:=.tup [.str q.1,.int (1+q.2.1 % 7),.non]) hz;generalize upd H' z (.tup [.str q.1,.int (1+q.2.1 % 7),.non])=H5 at s5 e5 ⊢;let ix:=s5 _ _ cQ;let lo:=bw Qz;rw[aq,dG] at lo
  have tD:∀{c xs},H5 c\.tup xs->upd H5 D4 (.lst (out++[.ref z])) c\.tup xs:=λe=>by
   rw[ax (bK e ix nofun)];exact e
  apply#[out,ix,by omega,hN _ _ #[fo (sm.trans s5) iW,ay,?_]];rw[tS _ hq];apply hU (Tw (λ_=>rfl) Qz λc xs e=>tD (s5 _ _ e)) (.cons #[z,.non,Z,tD e5,Z] .nil)
 rw[Le,eN] at QA;let Ky:=Gv.trans sO
 have Sx:∀q∈ps.map λp=>((p.1,1+p.2.1 % 7,none):Pc),kh (ts.drop 1) q:=λq hq=>by
  let#[x,hx,rfl]:=bC.mp hq;have:=(dp x hx).g;exact#[this.nm,by show (1:Int)<=1+x.2.1 % 7;omega,by show (1:Int)+x.2.1 % 7<=1000000000;omega,λws z=>by cases z]
 intro g2 NF xU EH Dj;have t1:aa JK (upd (upd JK NF (.own g2)) g2 (.ins CG NF [])):=(aa.new EH).trans (aa.new (by rw[ax Dj.symm];exact xU))
 have Sn:g2∉wm:=λm=>by
  let#[o,e]:=(Vj.same sO).has m;rw[xU] at e;cases e
 apply#[g2,NF,uv,D4,_,(ps.map λp=>((p.1,1+p.2.1 % 7,none):Pc)),hs,ts.drop 1,wm,Z,ay,(Vj.same sO).same t1,Sn,W2,t1 _ _ hDO,wL QA t1,Sx,by rw[cj];exact rK,by rw[aq];omega,λoO fp2 HP QW PY Vk Az=>#[Z,?_]];have sP:aa JK HP:=λb o e=>QW b o (t1 _ _ e) (bu e xU)
 have Az:∀b∈fp2,b∈wm∨JK b=none:=λb hb=>by
  rcases Az b hb with rfl|z|z
  ·exact .inr xU
  ·exact .inl z
  exact .inr (t1.free z)
 clear t1 QW EH Dj Sn Sx;let xu:=Qn.trans (Ky.trans sP);let#[wo,PY,ER,Kq]:=PY.xr;let HX:=xu _ _ SM;have yg:HP dh\.dK (dZ (ps.map (·.1)) f):=(Gw.trans (sL.trans (Ky.trans sP))) _ _ eJ;have T8:HM dh\.dK (dZ (ps.map (·.1)) f):=(Gw.trans (sL.trans sM)) _ _ eJ
 have wz:dh∉fp:=λm=>by
  let#[o,e]:=Mt dh m;rw[QJ] at e;cases e
 have AJ:dh∉wo:=λm=>by
  rcases Az dh (Kq dh m) with z|z
  ·have:=Ay dh z;rw[T8] at this;cases this
  rw[sO _ _ (sN _ _ T8)] at z;cases z
 have en2:(ps.map λp=>((p.1,1+p.2.1 % 7,none):Pc)).map (·.1)=ps.map (·.1):=by rw[cj];rfl
 have XW:oO.map (·.1)=h_ (ps.map (·.1)):=by rw[Vk.vK,en2]
 have KQ:(oO.map (·.1)).Perm (ps.map (·.1)):=by rw[XW];exact BY _
 have lq2:oO.length=ps.length:=by
  have:=KQ.length_eq;rw[aq,aq] at this;exact this
 have GP:Gs K CG CW HP g0 pw hs ts qs fp:=#[GaI.same xu,W,Gg.nd,Gg.bX,Gg.wp]
 have PZ:Gs K CG CW HP g2 uv hs (ts.drop 1) oO wo:=by
  apply#[PY,W2,KQ.nodup_iff.mpr rK,by omega,λq hq=>?_];let#[x,hx,rfl]:=Vk.mem q hq;let#[z,hz,rfl]:=bC.mp hx;exact#[by show (0:Int)<=1+z.2.1 % 7;omega,by show (1:Int)+z.2.1 % 7<=1000000000;omega]
 have Xv:(ps.map (·.1)).Perm (qs.map (·.1)):=by rw[K1];exact (sp.map (·.1)).symm
 have M8:s0=(qs.map (·.1)).map f:=by rw[wq,K1,cj];rfl
 have yC:wK HP dh hs qs fp s0 (ps.map (·.1)) f:=#[yg,wz,#[Xv,fm],M8];have FY:wK HP dh hs oO wo ((oO.map (·.1)).map f) (ps.map (·.1)) f:=#[yg,AJ,#[KQ.symm,fm],Z];let B6:=Vl.same xu;let GX:=(sL.trans (Ky.trans sP)) _ _ eK;let Gj:=xu _ _ WB;let dP:=xu _ _ DI.hd;let Gn:=DI.st.same xu;let J9:=tabI.same xu;have XN:NT H2 HP:=XO.trans (NT.of xu);apply later _ HP (.ref ls) (.int n) (.ref lp) iM _ _ _ l lh lt lz lL d dh g0 g2 pw uv t0 tl lq hs ts (ts.drop 1) ss qs oO fp wo (ps.map (·.1)) f s0 lim LL many GP PZ yC FY B6 GX Gj dP Gn lfp pE zF uy yH dv ok oh many1 sW (λvm vk P8 HL bL=>?_);let#[xsP,hlP]:=Gn.some;exact#[_,_,_,_,_,_,_,_,_,_,_,_,_,_,_,_,_,_,_,Z,XR.trans λc o e no=>bL _ _ (XN _ _ e no) (bu e nl),jT.FM J9 bL hlP]
end
end Ev
namespace Ev
open PySem L2
structure Fd (K:aj) (mg:Str->Option Aa) (x:Str) (st:Stmt):Prop where
 ex:∃f fd,bj K x x st f fd/\mg x\.ref f/\PySem.W.keepIn K (.ref f)=true
theorem E9{K:aj}{h:Heap}{mg:Str->Option Aa}{x:Str}{st:Stmt}(X:K.In h)(G:h.Ns mainGlobals mg){f:Addr}{oc:Aa}{od an:Option Addr}{jA:Array (Option Aa)}{kV doc pm aK ct:Aa}(a:PySem.W.nsIn K mainGlobals x\some (.ref f))
  (l:K.lookup f=some #[oc,od,.func (PySem.W.fnOf x x (gQ st) (f_ st) (aX st) .none kV doc pm an aK ct),jA]) (c:PySem.W.codeIn K aK x=true) (k:PySem.W.keepIn K (.ref f)=true):Fd K mg x st:=#[_,_,Ra l c k,PySem.W.mg_of X G a,k]
structure Md (K:aj) (C:Addr) (m qual:Str) (st:Stmt):Prop where
 ex:∃f fd,bj K m qual st f fd/\Meth K C m f
theorem Dw{K:aj}{C:Addr}{m qual:Str}{st:Stmt}{f:Addr}{oc:Aa}{od an:Option Addr}{jA:Array (Option Aa)}{kV doc pm aK ct:Aa}(a:PySem.W.findIn K (.ref C) m\some (.ref f))(i:PySem.W.isFn K (.ref f)=true)
  (l:K.lookup f=some #[oc,od,.func (PySem.W.fnOf m qual (gQ st) (f_ st) (aX st) .none kV doc pm an aK ct),jA]) (c:PySem.W.codeIn K aK qual=true) (k:PySem.W.keepIn K (.ref f)=true):Md K C m qual st:=#[_,_,Ra l c k,a,i,k]
theorem Fs{P:Ad}{w:Af}{K:aj}{mg:Str->Option Aa}{base:Heap}{x:Str}{st:Stmt}{k:Nat}{ps:ae}{sp:Sp}(d:Fd K mg x st)(ok:∀f fd,bj K x x st f fd->!ao aZ k f fd ps sp)
  (h:∀(kV doc pm:Aa) (an:Option Addr) (aK ct:Aa) (us:ag),us.length=ps.length->bindArgs (PySem.W.fnOf x x (gQ st) (f_ st) (aX st) .none kV doc pm an aK ct) #[us,[]]=pure (ps.zip us)):!bp k x ps sp:=by
 let#[f,fd,F,m,kp]:=d.ex;exact#[f,fd,ok f fd F,m,kp,F.binds h]
theorem wD{P:Ad}{w:Af}{K:aj}{mg:Str->Option Aa}{base:Heap}{C:Addr}{m qual:Str}{st:Stmt}{k:Nat}{ps:ae}{sp:Sp}(d:Md K C m qual st)(ok:∀f fd,bj K m qual st f fd->!ao aZ k f fd ps sp)
  (h:∀(kV doc pm:Aa) (an:Option Addr) (aK ct:Aa) (us:ag),us.length=ps.length->bindArgs (PySem.W.fnOf m qual (gQ st) (f_ st) (aX st) .none kV doc pm an aK ct) #[us,[]]=pure (ps.zip us)):!bO C k m ps sp:=by
 let#[f,fd,F,m]:=d.ex;exact#[f,fd,ok f fd F,m,F.binds h]
theorem Oq{P:Ad}{w:Af}{K:aj}{mg:Str->Option Aa}{base:Heap}{C:Addr}{x qual:Str}{st:Stmt}{k:Nat}{ps:ae}{sp:Sp}(d:Md K C "__init__" qual st)(hx:mg x\.ref C)(mk:PySem.W.makesIn K C=true)(kc:PySem.W.keepIn K (.ref C)=true)(ok:∀f fd,bj K "__init__" qual st f fd->!ao aZ k f fd ps sp)
  (h:∀(kV doc pm:Aa) (an:Option Addr) (aK ct:Aa) (us:ag),us.length=ps.length->bindArgs (PySem.W.fnOf "__init__" qual (gQ st) (f_ st) (aX st) .none kV doc pm an aK ct) #[us,[]]=pure (ps.zip us)):!mK C k x ps sp:=by
 let#[f,fd,F,m]:=d.ex;exact#[f,fd,ok f fd F,#[mk,m.1,m.2,kc],hx,F.binds h]
structure Tg (P:Ad) (w:Af) (b:Heap):Prop where
theorem gH{P:Ad}{w:Af}{K:aj}{mg:Str->Option Aa}{base:Heap}{x:Str}{st:Stmt}{k:Nat}{ps:ae}{sp:Sp}(q:Tg P w base)(d:Fd K mg x st)(ok:∀f fd,bj K x x st f fd->!ao aZ k f fd ps sp)(h:∀(kV doc pm:Aa) (an:Option Addr) (aK ct:Aa) (us:ag),us.length=ps.length->bindArgs (PySem.W.fnOf x x (gQ st) (f_ st) (aX st) .none kV doc pm an aK ct) #[us,[]]=pure (ps.zip us):=by exact λ_ _ _ _ _ _ us (hl:us.length=1)=>match us,hl with | [_],_=>rfl):!bp k x ps sp:=Fs d ok h
theorem dH{P:Ad}{w:Af}{K:aj}{mg:Str->Option Aa}{base:Heap}{x:Str}{st:Stmt}{k:Nat}{ps:ae}{sp:Sp}(q:Tg P w base)(d:Fd K mg x st)(ok:∀f fd,bj K x x st f fd->!ao aZ k f fd ps sp)(h:∀(kV doc pm:Aa) (an:Option Addr) (aK ct:Aa) (us:ag),us.length=ps.length->bindArgs (PySem.W.fnOf x x (gQ st) (f_ st) (aX st) .none kV doc pm an aK ct) #[us,[]]=pure (ps.zip us):=by exact λ_ _ _ _ _ _ us (hl:us.length=2)=>match us,hl with | [_,_],_=>rfl):!bp k x ps sp:=Fs d ok h
theorem jQ{P:Ad}{w:Af}{K:aj}{mg:Str->Option Aa}{base:Heap}{x:Str}{st:Stmt}{k:Nat}{ps:ae}{sp:Sp}(q:Tg P w base)(d:Fd K mg x st)(ok:∀f fd,bj K x x st f fd->!ao aZ k f fd ps sp)(h:∀(kV doc pm:Aa) (an:Option Addr) (aK ct:Aa) (us:ag),us.length=ps.length->bindArgs (PySem.W.fnOf x x (gQ st) (f_ st) (aX st) .none kV doc pm an aK ct) #[us,[]]=pure (ps.zip us):=by exact λ_ _ _ _ _ _ us (hl:us.length=3)=>match us,hl with | [_,_,_],_=>rfl):!bp k x ps sp:=Fs d ok h
theorem tE{P:Ad}{w:Af}{K:aj}{mg:Str->Option Aa}{base:Heap}{x:Str}{st:Stmt}{k:Nat}{ps:ae}{sp:Sp}(q:Tg P w base)(d:Fd K mg x st)(ok:∀f fd,bj K x x st f fd->!ao aZ k f fd ps sp)(h:∀(kV doc pm:Aa) (an:Option Addr) (aK ct:Aa) (us:ag),us.length=ps.length->bindArgs (PySem.W.fnOf x x (gQ st) (f_ st) (aX st) .none kV doc pm an aK ct) #[us,[]]=pure (ps.zip us):=by exact λ_ _ _ _ _ _ us (hl:us.length=4)=>match us,hl with | [_,_,_,_],_=>rfl):!bp k x ps sp:=Fs d ok h
theorem Ot{P:Ad}{w:Af}{K:aj}{mg:Str->Option Aa}{base:Heap}{x:Str}{st:Stmt}{k:Nat}{ps:ae}{sp:Sp}(q:Tg P w base)(d:Fd K mg x st)(ok:∀f fd,bj K x x st f fd->!ao aZ k f fd ps sp)(h:∀(kV doc pm:Aa) (an:Option Addr) (aK ct:Aa) (us:ag),us.length=ps.length->bindArgs (PySem.W.fnOf x x (gQ st) (f_ st) (aX st) .none kV doc pm an aK ct) #[us,[]]=pure (ps.zip us):=by exact λ_ _ _ _ _ _ us (hl:us.length=6)=>match us,hl with | [_,_,_,_,_,_],_=>rfl):!bp k x ps sp:=Fs d ok h
theorem Ft{P:Ad}{w:Af}{K:aj}{mg:Str->Option Aa}{base:Heap}{C:Addr}{m qual:Str}{st:Stmt}{k:Nat}{ps:ae}{sp:Sp}(q:Tg P w base)(d:Md K C m qual st)(ok:∀f fd,bj K m qual st f fd->!ao aZ k f fd ps sp)(h:∀(kV doc pm:Aa) (an:Option Addr) (aK ct:Aa) (us:ag),us.length=ps.length->bindArgs (PySem.W.fnOf m qual (gQ st) (f_ st) (aX st) .none kV doc pm an aK ct) #[us,[]]=pure (ps.zip us):=by exact λ_ _ _ _ _ _ us (hl:us.length=1)=>match us,hl with | [_],_=>rfl):!bO C k m ps sp:=wD d ok h
theorem iZ{P:Ad}{w:Af}{K:aj}{mg:Str->Option Aa}{base:Heap}{C:Addr}{m qual:Str}{st:Stmt}{k:Nat}{ps:ae}{sp:Sp}(q:Tg P w base)(d:Md K C m qual st)(ok:∀f fd,bj K m qual st f fd->!ao aZ k f fd ps sp)(h:∀(kV doc pm:Aa) (an:Option Addr) (aK ct:Aa) (us:ag),us.length=ps.length->bindArgs (PySem.W.fnOf m qual (gQ st) (f_ st) (aX st) .none kV doc pm an aK ct) #[us,[]]=pure (ps.zip us):=by exact λ_ _ _ _ _ _ us (hl:us.length=2)=>match us,hl with | [_,_],_=>rfl):!bO C k m ps sp:=wD d ok h
theorem Ov{P:Ad}{w:Af}{K:aj}{mg:Str->Option Aa}{base:Heap}{C:Addr}{m qual:Str}{st:Stmt}{k:Nat}{ps:ae}{sp:Sp}(q:Tg P w base)(d:Md K C m qual st)(ok:∀f fd,bj K m qual st f fd->!ao aZ k f fd ps sp)(h:∀(kV doc pm:Aa) (an:Option Addr) (aK ct:Aa) (us:ag),us.length=ps.length->bindArgs (PySem.W.fnOf m qual (gQ st) (f_ st) (aX st) .none kV doc pm an aK ct) #[us,[]]=pure (ps.zip us):=by exact λ_ _ _ _ _ _ us (hl:us.length=3)=>match us,hl with | [_,_,_],_=>rfl):!bO C k m ps sp:=wD d ok h
theorem Ou{P:Ad}{w:Af}{K:aj}{mg:Str->Option Aa}{base:Heap}{C:Addr}{m qual:Str}{st:Stmt}{k:Nat}{ps:ae}{sp:Sp}(q:Tg P w base)(d:Md K C m qual st)(ok:∀f fd,bj K m qual st f fd->!ao aZ k f fd ps sp)(h:∀(kV doc pm:Aa) (an:Option Addr) (aK ct:Aa) (us:ag),us.length=ps.length->bindArgs (PySem.W.fnOf m qual (gQ st) (f_ st) (aX st) .none kV doc pm an aK ct) #[us,[]]=pure (ps.zip us):=by exact λ_ _ _ _ _ _ us (hl:us.length=4)=>match us,hl with | [_,_,_,_],_=>rfl):!bO C k m ps sp:=wD d ok h
theorem Ow{P:Ad}{w:Af}{K:aj}{mg:Str->Option Aa}{base:Heap}{C:Addr}{x qual:Str}{st:Stmt}{k:Nat}{ps:ae}{sp:Sp}(q:Tg P w base)(d:Md K C "__init__" qual st)(hx:mg x\.ref C)(mk:PySem.W.makesIn K C=true)(kc:PySem.W.keepIn K (.ref C)=true)(ok:∀f fd,bj K "__init__" qual st f fd->!ao aZ k f fd ps sp)(h:∀(kV doc pm:Aa) (an:Option Addr) (aK ct:Aa) (us:ag),us.length=ps.length->bindArgs (PySem.W.fnOf "__init__" qual (gQ st) (f_ st) (aX st) .none kV doc pm an aK ct) #[us,[]]=pure (ps.zip us):=by exact λ_ _ _ _ _ _ us (hl:us.length=3)=>match us,hl with | [_,_,_],_=>rfl):!mK C k x ps sp:=Oq d hx mk kc ok h
theorem all_mk{l:W.OpenLaw}{w:Af}{K:aj}{h:Heap}{mg:Str->Option Aa}{fa CW CG CR fl c T:Addr}(X:K.In h)(G:h.Ns mainGlobals mg)(hfa:mg "law"\.ref fa)
  (f0:Fd K mg "is_whole" zo)
  (f1:Fd K mg "is_whole_from" N3)
  (f2:Fd K mg "is_whole_within" lG)
  (f3:Fd K mg "is_name" qT)
  (f4:Fd K mg "lesser_first" NP)
  (f5:Fd K mg "is_pair_of_names" qR)
  (f6:Fd K mg "sorted_ties" Nl)
  (f7:Fd K mg BH KA)
  (f8:Fd K mg "least_multiple" Kz)
  (f9:Fd K mg "fraction_of" rq)
  (f10:Fd K mg "is_fraction" qZ)
  (f11:Fd K mg "is_less" qX)
  (f12:Fd K mg "is_hand_with_strength" rg)
  (f13:Fd K mg "checked_strengths" zk)
  (f14:Fd K mg "checked_ties" qM)
  (f15:Fd K mg "neighbours_of_all" qS)
  (f16:Fd K mg "checked_ways" lT)
  (f17:Fd K mg "checked_piece" NO)
  (f18:Fd K mg "checked_pieces" NB)
  (f19:Fd K mg "checked_stand" N8)
  (f20:Fd K mg "loads_at" O8)
  (f21:Fd K mg j_ qW)
  (f22:Fd K mg "levels_at" NS)
  (f23:Fd K mg "rise_at" qO)
  (f24:Fd K mg "spread_at" Of)
  (f25:Fd K mg "spread" NU)
  (f26:Fd K mg "check_limit" rC)
  (f27:Fd K mg "exits_of" lR)
  (f28:Fd K mg "placed_by" qQ)
  (f29:Fd K mg "is_even" NZ)
  (f30:Fd K mg "move_between" qU)
  (f31:Fd K mg "moves_along" qV)
  (f32:Fd K mg "fewest_moves" N1)
  (f33:Fd K mg uM lS)
  (f34:Fd K mg "_law_name" lM)
  (f35:Fd K mg "_law_hands" N2)
  (f36:Fd K mg "_law_ties" lK)
  (f37:Fd K mg "_law_pieces" Nz)
  (f38:Fd K mg "_law_stand" N0)
  (f39:Fd K mg "_law_loads" NR)
  (f40:Fd K mg "_law_even" lO)
  (f41:Fd K mg "_law_moves" N_)
  (f42:Fd K mg "_law_layers" N4)
  (f43:Fd K mg "_law_way_right" qK)
  (f44:Fd K mg "_law_due" rA)
  (f45:Fd K mg "_law_right" Od)
  (f46:Fd K mg "_law_limit" Ob)
  (m0:Md K CW "__init__" "Web.__init__" q_)
  (m1:Md K CW "has_hand" "Web.has_hand" vB)
  (m2:Md K CW "hands" "Web.hands" lP)
  (m3:Md K CW "strength" "Web.strength" Og)
  (m4:Md K CW "neighbours" "Web.neighbours" lJ)
  (m5:Md K CW "are_tied" "Web.are_tied" qN)
  (m6:Md K CG "__init__" "Goods.__init__" lQ)
  (m7:Md K CG "has_piece" "Goods.has_piece" rp)
  (m8:Md K CG "names" "Goods.names" NM)
  (m9:Md K CG "weight" "Goods.weight" NI)
  (Yb:Md K CG "may_go" "Goods.may_go" rh)
  (Ya:Md K CR "__init__" "Reach.__init__" lI)
  (X_:Md K CR "one_move_on" "Reach.one_move_on" lH)
  (X9:Md K CR "widen" "Reach.widen" NX)
  (X8:Md K CR "row_to" "Reach.row_to" qP)
  {XI Q5 Ub Qu UN:Aa} {XH Pw:Option Addr} {WL:Array (Option Aa)} {t8 t9 Wz Wy:Tok}
  (al:W.nsIn K mainGlobals "law"\some (.ref fl)) (ll:K.lookup fl=some #[XI,XH,.func (W.fnOf "law" "law" (gQ e_) (f_ e_) (aX e_) .none Q5 Ub Qu Pw (.ref c) UN),WL]) (cl:W.codeIn K (.ref c) "law"=true) (kl:W.keepIn K (.ref fl)=true) (ch:W.codeHdIn K c T=true) (aW:W.nsIn K mainGlobals "Web"\some (.ref CW)) (aG:W.nsIn K mainGlobals "Goods"\some (.ref CG)) (aR:W.nsIn K mainGlobals "Reach"\some (.ref CR)) (c8_:W.nsIn K mainGlobals "MOST_LETTERS"\some (.int 8 t8)) (c9_:W.nsIn K mainGlobals "MOST_HANDS"\some (.int 8 t9)) (Pa:W.nsIn K mainGlobals "MOST_STRENGTH"\some (.int 1000 Wz)) (O_:W.nsIn K mainGlobals "MOST_WEIGHT"\some (.int 1000000000 Wy)) (VR:W.plainGet K CW Str.empty=true) (VZ:W.hasDictIn K CW=true) (VQ:W.plainOver K CW=true) (VP:W.findIn K (.ref CW) "__setattr__"\some (.builtin "object.__setattr__")) (VX:W.makesIn K CW=true) (VY:W.keepIn K (.ref CW)=true) (VW:W.findIn K (.ref CW) uN\none) (VV:W.findIn K (.ref CW) "sorted_pairs"\none) (VU:W.findIn K (.ref CW) BJ\none) (gpg:W.plainGet K CG Str.empty=true) (ghd:W.hasDictIn K CG=true) (gpo:W.plainOver K CG=true) (gsa:W.findIn K (.ref CG) "__setattr__"\some (.builtin "object.__setattr__")) (gmk:W.makesIn K CG=true) (gkc:W.keepIn K (.ref CG)=true) (gn0:W.findIn K (.ref CG) "web"\none) (gn1:W.findIn K (.ref CG) pL\none) (gn2:W.findIn K (.ref CG) AM\none) (WX:W.plainGet K CR Str.empty=true) (W7:W.hasDictIn K CR=true) (WW:W.plainOver K CR=true) (WV:W.findIn K (.ref CR) "__setattr__"\some (.builtin "object.__setattr__")) (W3:W.makesIn K CR=true) (W5:W.keepIn K (.ref CR)=true) (W0:W.findIn K (.ref CR) jS\none) (WZ:W.findIn K (.ref CR) pQ\none) (WY:W.findIn K (.ref CR) "newest"\none) (Z6:W.findIn K (.ref CW) "__class__"\some (.builtin "object.__class__")) (Z5:W.specialIn K (.builtin "object.__class__") "__get__"\some (.builtin "getset_descriptor.__get__")) (ZZ:W.takesIn K (.builtin "object.__class__")\true) (Z4:W.mroIn K CW (.type "object")\true) (Cj:W.nsIn K mainGlobals "sum"\none) (Cm:W.nsIn K mainGlobals "abs"\none) (Ck:W.nsIn K mainGlobals "min"\none) (Ci:W.nsIn K mainGlobals "zip"\none) (z0:W.nsIn K mainGlobals "isinstance"\none) (z1:W.nsIn K mainGlobals "int"\none) (z2:W.nsIn K mainGlobals "bool"\none) (z3:W.nsIn K mainGlobals "str"\none) (z4:W.nsIn K mainGlobals "tuple"\none) (z5:W.nsIn K mainGlobals "list"\none) (z6:W.nsIn K mainGlobals "dict"\none) (z7:W.nsIn K mainGlobals "len"\none) (z8:W.nsIn K mainGlobals "all"\none) (z9:W.nsIn K mainGlobals "sorted"\none) (VA:W.nsIn K mainGlobals "max"\none) (Vz:W.nsIn K mainGlobals "range"\none) (Vy:W.nsIn K mainGlobals "any"\none) (Vx:W.nsIn K mainGlobals "enumerate"\none) :
  ∃fd:Ae,(∀(s:Ab) (v:Aa),BindsTo s fd #[[v],[]] [(yc,v)])/\(∀T'∈[T],isCodeTable h T')/\∀base:Heap,K.In base->base.Ns mainGlobals mg->(∀T'∈[T],base.BuiltinsAt mg T')->ao l.prog w K mg base aZ 10 fa fd [yc] (mT K T):=by
 let e:=hfa.symm.trans (W.mg_of X G al);cases e;have B:Bi mg:=#[jm X G z0,jm X G z1,jm X G z2,jm X G z3,jm X G z4,jm X G z5,jm X G z6,jm X G z7,jm X G z8,jm X G z9,jm X G VA,jm X G Vz,jm X G Vy,jm X G Vx];have TW:Txt K mg CW:=#[#[VR,VZ,VQ,VP],VW,VV,VU];have TG:gm K CG:=#[#[gpg,ghd,gpo,gsa],gn0,gn1,gn2];have TR:pb K CR:=#[#[WX,W7,WW,WV],W0,WZ,WY];have IW:F5 K CW:=#[Z6,Z5,ZZ,Z4];let Do:=jm X G Cj;let Dq:=jm X G Cm;let Dp:=jm X G Ck;let xJ:=jm X G Ci;have FL:w_ K "law" "law" e_ _ c _:=#[#[_,_,_,_,_,_,_,_,Z,ll,cl],kl];apply#[W.fnOf "law" "law" (gQ e_) (f_ e_) (aX e_) .none Q5 Ub Qu Pw (.ref c) UN,λs v=>.of_eq Z,λT' Au=>?_,λbase KB _ xZ=>?_]
 ·obtain rfl:T'=T:=⇑Au
  let#[o,JV,file,tf,flags,tg,inF,text,tt,h1,h2,h3,h4,_]:=W.codeHd_of_K X ch;exact#[c,o,JV,h1,h2,h3,h4]
 have q:Tg l.prog w base:=⟨⟩;let AS:=gH q f0 λ_ _ F=>YH F B;let tG:=jQ q f2 λ_ _ F=>hF_ F AS;let Fu:=dH q f1 λ_ _ F=>gK_ F AS;let tI:=gH q f3 λ_ _ F=>Zf F B (W.mg_of X G c8_);let AR:=dH q f4 λ_ _ F=>gx_ F;let Fy:=gH q f5 λ_ _ F=>ZP F B tI;let yl:=gH q f6 λ_ _ F=>g8_ F B Fy AR;let FF:=gH q f12 λ_ _ F=>Y9 F B tI tG (W.mg_of X G Pa);let cStr:=gH q f13 λ_ _ F=>YS F B FF (W.mg_of X G c9_);let Fv:=dH q f14 λ_ _ F=>ZX F B yl;let FA:=dH q f15 λ_ _ F=>_k F AR;let Oz:=Ow q m0 (W.mg_of X G aW) VX VY λ_ _ F=>Zn F TW B cStr Fv FA;let zE:=iZ (mg:=mg) q m1 λ_ _ F=>ZD F TW B;let Dy:=iZ (mg:=mg) q m1 λ_ _ F=>Y_ F TW B;let lU:=Ft (mg:=mg) q m2 λ_ _ F=>_D F TW B;let Dx:=iZ (mg:=mg) q m3 λ_ _ F=>eo_ F TW zE;let K_:=iZ (mg:=mg) q m4 λ_ _ F=>ht_ F TW B zE;let xK:=Ov (mg:=mg) q m5 λ_ _ F=>hs_ F TW Dy;let OS:=dH q f16 λ_ _ F=>hW_ F TW yl xK;let cCP:=dH q f17 λ_ _ F=>gt_ F B tI tG OS (W.mg_of X G O_);let OT:=dH q f18 λ_ _ F=>fo_ F B cCP;let AV:=Ow q m6 (W.mg_of X G aG) gmk gkc λ_ _ F=>_Q F TG TW IW B (W.mg_of X G aW) OT;let Aw:=iZ (mg:=mg) q m7 λ_ _ F=>Zi (CW:=CW) F TG B;let iX:=Ft (mg:=mg) q m8 λ_ _ F=>fL_ (CW:=CW) F TG B;let wg:=iZ (mg:=mg) q m9 λ_ _ F=>fr_ (CP:=CW) F TG Aw;let MP:=Ou (mg:=mg) q Yb λ_ _ F=>_w (CP:=CW) F TG TW Aw xK AR;let OM:=dH q f7 λ_ _ F=>YF F;let cLM:=gH q f8 λ_ _ F=>Yx F OM;let cFr:=dH q f9 λ_ _ F=>Zd F OM;let cIF:=gH q f10 λ_ _ F=>Zc F B Dq AS Fu OM;let FB:=dH q f11 λ_ _ F=>ZQ F;let U9:=dH q f19 λ_ _ F=>fW_ F B TG TW Aw zE iX;let cLA:=dH q f20 λ_ _ F=>fp_ F B TG TW lU wg;let UY:=gH q f21 λ_ _ F=>ZU F TW cLM lU Dx;let cLv:=dH q f22 λ_ _ F=>gh_ F TG TW cLA UY Dx;let Fx:=dH q f23 λ_ _ F=>_x F B Dp cLv;let Fw:=dH q f24 λ_ _ F=>ed_ F TG Fx UY cFr;let OE:=dH q f25 λ_ _ F=>hc_ F U9 Fw;let cCL:=gH q f26 λ_ _ F=>_t F cIF;let cEx:=gH q f27 λ_ _ F=>hB_ F TG TW iX lU K_ MP;let cPB:=dH q f28 λ_ _ F=>ZW F B xJ TG iX;let cIE:=jQ q f29 λ_ _ F=>gW_ F FB Fw cPB;let cRe:=Ow q Ya (W.mg_of X G aR) W3 W5 λ_ _ F=>_c F TR B cEx;let W_:=iZ (mg:=mg) q X_ λ_ _ F=>hU_ F TR B;let W8:=iZ (mg:=mg) q X9 λ_ _ F=>ga_ F TR B W_;let KL:=iZ (mg:=mg) q X8 λ_ _ F=>ZR F TR;let cMB:=jQ q f30 λ_ _ F=>Zh F xJ TG iX;let cMA:=dH q f31 λ_ _ F=>_A F B cMB;let OO:=tE q f32 λ_ _ F=>g4_ F B TR cCL U9 Fu cRe cIE cMA KL W8;let mi:=dH q f33 λ_ _ F=>hK_ F B;let U1:=gH q f34 λ_ _ F=>hH_ F B mi;let cLH:=dH q f35 λ_ _ F=>gB_ F B mi U1;let cLT:=dH q f36 λ_ _ F=>hT_ F B mi;let cLP:=jQ q f37 λ_ _ F=>fB_ F B mi U1;let cLS:=jQ q f38 λ_ _ F=>gO_ F B mi;let cLL:=jQ q f39 λ_ _ F=>gU_ F B;let U2:=tE q f40 λ_ _ F=>_d F cLL;let FC:=jQ q f41 λ_ _ F=>gH_ F B;let OL:=tE q f42 λ_ _ F=>fQ_ F B FC;let cWR:=Ot q f43 λ_ _ F=>Zo F B FC U2;let OQ:=tE q f44 λ_ _ F=>ZJ F B U2;let cRi:=jQ q f45 λ_ _ F=>gE_ F B cWR;let cLi:=tE q f46 λ_ _ F=>gN_ F B mi OE;exact YX FL B Do (W.codeHd_of_K KB ch) (xZ T Z2) #[mi,cLH,cLT,cLP,cLS,Oz,AV,OL,cLi,OQ,OO,cRi]
theorem walk{l:PySem.W.OpenLaw}{q:Ad}{loose:ae}{XP:(Str->Option Aa)->Heap->Prop}{d:DefRec}{K:Params->aj}{as:au}{T:Addr}{Iq:∀P:Params,as=(K P).map (·.1)}(hn:l.most\63)(EJ:d.params.defaults=[])(LG:([T].all λT=>!as.contains T)=true)
  (F:∀(w:Af) (mg:Str->Option Aa) (fa:Addr) (h:Heap),(K w.params).In h->h.Ns mainGlobals mg->mg d.name\.ref fa->
   ∃fd:Ae,(∀(s:Ab) (u:Aa),BindsTo s fd #[[u],[]] [(yc,u)])/\(∀T'∈[T],isCodeTable h T')/\∀base:Heap,(K w.params).In base->base.Ns mainGlobals mg->(∀T'∈[T],base.BuiltinsAt mg T')->ao l.prog w (K w.params) mg base aZ 10 fa fd [yc] (mT (K w.params) T)) :
  PySem.W.WalkO q loose XP (PySem.W.kmHook K as Iq [T]).says l.row.toRowW d [] (λf vs=>PySem.call f vs):=
 L2.p9 (n:=63) (k:=10) (x:=yc) (CX:=λ_=>aZ) (sp:=λw=>mT (K w.params) T) hn (by decide) EJ #[Z,by decide,by decide] LG F (λ_ _ a ns hl hT hS=>#[a,ns,Z,hT T Z2,hS,hl,λ_=>rfl]) λ_ _ _ _ _ z=>z
end Ev
namespace PySem.W.Fast
universe tw11486668751472382688 tw13891133280083241538 tw8815146417819103203 tw17406886741266580517 tw2325464802976777413 tw14115579729219940358 tw11159999468872694598 tw11745413858055780807 tw4469551526344529575 tw16550673537241412616 tw7954055043150211432 tw12331569705130903722 tw2559140134011326955 tw17838737404893120558 tw6591801489203890414 tw7749246388463946543 tw13234529124355315376 tw14887652889891160912 tw6965859472926270385 tw4000410274986754898 tw10615449565108784467 tw15787023550810497525 tw2328009143657988853 tw2545761505854733654 tw284448292580962328 tw12872679381969399064 tw10774186957451087962 tw3006395820005808346 tw10703127084261467418 tw13055623578727553402 tw14707023067133240890 tw14657481437344853946 tw18256804015747282875 tw884933850355434108 tw18218216239785899165 tw16366248103172186941 tw16818420166777628318 tw14985873286599560415 tw616624270035842591 tw3063737512011504197 tw9515254477510498000 tw16369329330924042895 tw7231762543563958836 tw15683470469957075213 tw11225046041959202585 tw10814741731684448470 tw5734378258944282016 tw3783652373064711121 tw7594507201866150489 tw2065032520704383732 tw14180649908345071589 tw15577400150905768412 tw2823729264802918003 tw5095209597915297866 tw5780368309887063977 tw16705037440778761521 tw906915432947446840 tw5681375563098292313 tw5212077500700526621 tw636604913152887 tw13715252447009041145 tw8614946977406132688 tw8808209243002288944 tw2533516037831692111 tw7290873213107361088 tw10874302578854796215 tw7801555318533644318 tw2723069068637650057 tw18058756783168469185 tw8420876192746766269 tw3431034033410167306 tw3768725010510055140 tw1612883715276361242 tw17584149523271437981 tw15738721097667709953 tw4116674089109771323 tw11725998341966945203 tw151047171736336848 tw9426678308845076021 tw14562408026264295304 tw6480232545070900691 tw9021065141731093252 tw463250486407552486 tw14249550113069145319 tw15895190922387632439 tw16868113743427098327 tw14504147849992306339 tw878404339623003914 tw1122471620296086903 tw4869968870341833262 tw16833075376779628552 tw2619608449818896055 tw5743522679695729141 tw8746395518279574606 tw14013481239947820733 tw15350501051898333039 tw7599661038550573064 tw14075162118875450391 tw6062690300554140029 tw18401929488626990844 tw14038499624363643635 tw4915227082825385642 tw3068570607676691276 tw12689649342246356358 tw16070372943149498697 tw13958382344882342850 tw10308409473604005845 tw5794027920934400329 tw9607387763369981160 tw16313009228242664117 tw9953960576477959738 tw14552625052259663949 tw9464615456291453976 tw6213217533526603280 tw4626305809841232021 tw2643148086615584655 tw12134005388343064277 tw6923669946299687260 tw4755479905102684730 tw18060233986959621014 tw787509839297983538 tw427717033442935899 tw12262150221783348960 tw14879469351274076723 tw17393700380140094779 tw44961371360863047 tw778217538023953503 tw6485866048467490922 tw6457551461534565051 tw6824071981125506076 tw18380121393679149813 tw867030001399258766 tw12602317849847021963 tw11125351292053103419 tw6748344661249438763 tw114041700334219254 tw6970803437550535463 tw1375580948541201572 tw3927970765473015285 tw451011619464555847 tw4511654294333838124 tw11788169420506468722 tw9489492872941254345 tw11421511858629308658 tw10231835725792476239 tw16067247566755199895 tw12587382133054636584 tw1995760242051978349 tw13938686177253521162 tw3032075158084080360 tw15297669390123304971 tw15705536099099943141 tw17945555470872155972 tw15161713945943894191 tw12934314056183428296 tw12080559281757783208 tw9853458877144667404 tw16487681487290775517 tw15471869270628367476 tw10960082175743645781 tw4515382777671873720 tw10632930192568389635 tw5192370779887398300 tw15172992407998004282 tw564947710275589199 tw8588872528936487843 tw8990650517691685277 tw18010605558494204793 tw12093981272072821155 tw7120389012711837565 tw9065692006581440742 tw9643909949954303730 tw10707826581580293290 tw13585943712552824878 tw11511708117623330432 tw7317643822399106351 tw15151187209859687733 tw4930252157287701252 tw9316047897944783936 tw11321079087509682452 tw16796275346379332102 tw14387282503922666926 tw11793346385408385398 tw9014834975721572634 tw2837339152225330181 tw12459116721784743603 tw2723442964323561781 tw12385874644294810242 tw12824782449560624205 tw11018713306976146344 tw16495865294575204795 tw7409002172350974562 tw4398442792243948154 tw8742341959154855587 tw2904939695788133991 tw3495563503568233027 tw8352300538812715052 tw14165974544477327918 tw276891505957656980 tw5712897281201858700 tw14037518256480039231 tw4531824722017495610 tw10210362796077241698 tw5315935023021422492 tw4427265406644433064 tw8574933014565325466 tw18125660968264690241 tw15072158887690551891 tw7875111860646270056 tw1219171047687015711 tw1662336426759245985 tw12136828290372477278 tw12350603418772832968 tw640677709941364401 tw13810758542530168646 tw15362438770892096820 tw508639910083347962 tw13701606179551102851 tw13106267176630282806 tw11523359766902012154 tw12036315656234885256 tw8669088967615139053 tw16754144626013485449 tw16930119301450396863 tw10883431852550413057 tw16549093337137945246 tw5468427507035933547 tw6195423060317809934 tw1658089964295086444 tw13490317070994441549 tw1346181301577028736 tw5322535227620459669 tw9052214972143826669 tw15451389402830926591 tw10789385456367100363 tw15672997084709955736 tw10165257464468539665 tw8442495603490359583 tw14707435795175304963 tw7024616491766393951 tw16937656122149626202 tw15732508100391857473 tw9340764712060417498 tw6993384052994101662 tw1257912119444973805 tw5134700118324373365 tw12079541993143507577 tw9722491272980113046 tw921230335431911735 tw2322375802316879417 tw5735767309332694195 tw1172512350726971312 tw11206334807688655979 tw9421684329364693718 tw11706360111585471439 tw11884482767084063917 tw2374697681694232094 tw2467630798925343012 tw12419891527115731039 tw3191497433973830592 tw15323905511520495539 tw5987255294491454488 tw4594642515405181005 tw908280638856894773 tw7802496379178157643 tw10870616224928026706 tw15504104883491959214 tw10119683775182271130 tw2164157356809938980 tw5230392082470785420 tw12747173173628714135 tw14064267983343953487 tw8892080995864408996 tw1375529505177103608 tw13717273749822336181 tw13188039756415149859 tw12438924757797683663 tw11950239517290791452 tw5615833515570240553 tw4295004456217554930 tw17425388557640017423 tw11634704169885461667 tw6731388225850226052 tw6918714349768571670 tw18046827360976562231 tw2005686482232474939 tw13843388743396893826 tw14516098459365221570 tw15948249683057256645 tw2070349917554292917 tw15053414504094180785 tw15097981014981638635 tw12515444240080074497 tw15182547073142893828 tw4282616123666462706 tw5822069483749785366 tw8957208322171680753 tw1788429429075498139 tw9084649955123255810 tw8571102820604587739 tw15127646937925253434 tw11196689762689893422 tw10096455246175526271 tw9849568014099141805 tw1020055544813050603 tw3298359274361594755 tw9255353002681781066 tw12658172453111146516 tw8075799010585004420 tw14141721483605416027 tw3662386427952155857 tw8846412874683494514 tw7388312361269871284 tw545607374414191011 tw10766870707286144946 tw17472979958501676875 tw2875006929223316697 tw1607751794936044549 tw18156204139181565590 tw476763214205066270 tw14129022084851324232 tw3522875293463430552 tw12421537853469605062 tw788032586015713247 tw603510315238097447 tw6535104170784502166 tw14553391921286919163 tw1750955384147487761 tw15641957927136846754 tw10853924332186787665 tw4506121901315697911 tw7957309298409719528 tw142676329764210177 tw939696147274810275 tw14039617402979254791 tw12280196349626283853 tw16727244636252910131 tw2948359086923130723 tw10637254503968828207 tw12768672838075323174 tw7733513917301666970 tw285821681850651529 tw9044257650720311471 tw421229986345793894 tw9178752620960832314 tw11384244337973720045 tw3600051790301371459 tw16348485569978159980 tw9381527079549054781 tw1585767336142349884 tw5312660762105818368 tw2622227592521171310 tw5668317168018557463 tw810190502604382139 tw15724327757232165525 tw4129208547031718138 tw4407249571402370928 tw13652143976878485887
end PySem.W.Fast
open PySem PySem.W PyProof.Rows
set_option maxRecDepth 100000 in
local macro_rules|`(%[|$k:num])=>let i:=Lean.mkIdent;if k.getNat==1 then`(Ev.E9 $(i `KX) $(i `G) ?_ ?_ ?_ ?_)else`(Ev.Dw ?_ ?_ ?_ ?_ ?_)
theorem PySem.Challenge.cw_evenpieces_k67_fewest_moves_holds : PySem.Challenge.rw_evenpieces_k67_fewest_moves.Holds := by
 w_on;o_law;k_head;(case hw=>w_witness2)
 k_fill
 apply Ev.walk (l:=PySem.Challenge.rw_evenpieces_k67_fewest_moves) rfl rfl (by rfl) ?F
 case F=>
  intro w mg fa h KX G hmg;refine' Ev.all_mk KX G hmg %[|1] %[|1] %[|1] %[|1] %[|1] %[|1] %[|1] %[|1] %[|1] %[|1] %[|1] %[|1] %[|1] %[|1] %[|1] %[|1] %[|1] %[|1] %[|1] %[|1] %[|1] %[|1] %[|1] %[|1] %[|1] %[|1] %[|1] %[|1] %[|1] %[|1] %[|1] %[|1] %[|1] %[|1] %[|1] %[|1] %[|1] %[|1] %[|1] %[|1] %[|1] %[|1] %[|1] %[|1] %[|1] %[|1] %[|1] %[|2] %[|2] %[|2] %[|2] %[|2] %[|2] %[|2] %[|2] %[|2] %[|2] %[|2] %[|2] %[|2] %[|2] %[|2] ?_ ?_ ?_ ?_ ?ch ?aW ?aG ?aR ?_ ?_ ?_ ?_ ?_ ?_ ?_ ?_ ?_ ?_ ?_ ?_ ?_ ?_ ?_ ?_ ?_ ?_ ?_ ?_ ?_ ?_ ?_ ?_ ?_ ?_ ?_ ?_ ?_ ?_ ?_ ?_ ?_ ?_ ?_ ?_ ?_ ?_ ?_ ?_ ?_ ?_ ?_ ?_ ?_ ?_ ?_ ?_ ?_ ?_ ?_ ?_ ?_
  (case aW=>k_is);(case aG=>k_is);(case aR=>k_is)
  any_goals k_is
  (case ch=>kernel_rfl)

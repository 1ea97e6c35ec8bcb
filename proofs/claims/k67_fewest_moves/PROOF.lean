import PyProof.Rows.All
import Wide.All
import OpenK.AllK
import Wide.FinOn
import Lean
import PyProof.EqAt
import PyProof.EqKinds
import PyProof.TupleCall
import PyProof.TupleOfSeq
import PyProof.NeKinds
import KE.KLam
import KE.KSortTup
import PySem.Challenge.RW_evenpieces_k67_fewest_moves
set_option maxHeartbeats 0
set_option Elab.async false
set_option linter.all false
noncomputable section
local macro_rules|`(def $x:declId $s:optDeclSig $v:declVal)=>`(noncomputable def $x:declId $s:optDeclSig $v:declVal)
local macro_rules|`(abbrev $x:declId $s:optDeclSig $v:declVal)=>`(noncomputable abbrev $x:declId $s:optDeclSig $v:declVal)
local macro_rules|`(universe $x*)=>return Lean.mkNullNode (←x.mapM λa=>do return(←`(theorem $a:ident:True:=⟨⟩)).raw)
abbrev Xa:=List (PySem.Str × Int)
abbrev Xb:=List (PySem.Str × PySem.Str)
set_option compiler.extract_closed false
set_option maxRecDepth 100000
theorem ae:type_of% @PySem.wpAny_bind:=@PySem.wpAny_bind
theorem aU:type_of% @PySem.Heap.get?_push_of_some:=@PySem.Heap.get?_push_of_some
abbrev Aa:=PySem.Value
abbrev Ab:=PySem.Shared
theorem aE:type_of% @PySem.wpAny_pure:=@PySem.wpAny_pure
theorem cz:type_of% @PySem.Heap.get?_push_size:=@PySem.Heap.get?_push_size
theorem br:type_of% @PySem.Paired.length:=@PySem.Paired.length
theorem bz:type_of% @PySem.Heap.lt_size:=@PySem.Heap.lt_size
theorem cY:type_of% @Option.some.inj:=@Option.some.inj
abbrev Ad:=PySem.Program
theorem c_:type_of% @decide_eq_true:=@decide_eq_true
theorem d6:type_of% @PySem.PassesOwn.never:=@PySem.PassesOwn.never
theorem aA:type_of% @if_neg:=@if_neg
abbrev Ae:=PySem.FuncData
theorem cX:type_of% @PySem.sizeLine_eq:=@PySem.sizeLine_eq
theorem eF:type_of% @decide_eq_false:=@decide_eq_false
theorem aI:type_of% @if_pos:=@if_pos
abbrev Af:=PySem.Around
abbrev Ag:=PySem.World
theorem gC:type_of% @PySem.boot_len:=@PySem.boot_len
theorem bJ:type_of% @Ne.symm:=@Ne.symm
theorem je:type_of% @PySem.W.mg_none_of:=@PySem.W.mg_none_of
theorem oW:type_of% @PySem.F.plainAttrs_list:=@PySem.F.plainAttrs_list
theorem fE:type_of% @PySem.wpAny_field:=@PySem.wpAny_field
theorem uE:type_of% @PySem.wpAny_callSpecial?_slot:=@PySem.wpAny_callSpecial?_slot
theorem oV:type_of% @PySem.wpAny_loadPart':=@PySem.wpAny_loadPart'
theorem pM:type_of% @PySem.mem_of_lookup:=@PySem.mem_of_lookup
theorem iX:type_of% @PySem.wpAny_holding:=@PySem.wpAny_holding
theorem d5:type_of% @congrArg:=@congrArg
theorem uy:type_of% @PySem.Heap.get?_update_other:=@PySem.Heap.get?_update_other
theorem wb:type_of% @PySem.F.type_list_append:=@PySem.F.type_list_append
theorem wa:type_of% @PySem.F.slot_list_append:=@PySem.F.slot_list_append
theorem pJ:type_of% @PySem.wpAny_setField_rec:=@PySem.wpAny_setField_rec
theorem hJ:type_of% @Sum.inr.inj:=@Sum.inr.inj
theorem pI:type_of% @PySem.wpAny_newObj_type:=@PySem.wpAny_newObj_type
theorem l6:type_of% @PySem.wpAny_seqItems:=@PySem.wpAny_seqItems
theorem l5:type_of% @PySem.Heap.size_push:=@PySem.Heap.size_push
theorem sk:type_of% @of_decide_eq_true:=@of_decide_eq_true
theorem By:type_of% @PyProof.Rows.callWith_type1:=@PyProof.Rows.callWith_type1
theorem sf:type_of% @PySem.wpAny_call_entry:=@PySem.wpAny_call_entry
theorem uw:type_of% @PySem.wpAny_truthy_bool:=@PySem.wpAny_truthy_bool
theorem si:type_of% @PySem.W.kia_one:=@PySem.W.kia_one
theorem Z0{p:Prop}[Decidable p](h:decide p=true:=by decide +kernel):p:=of_decide_eq_true h
theorem Z1{p:Prop}(h:p:=by omega):p:=h
theorem Z2{p:Prop}(h:p:=by simp):p:=h
local macro_rules|`(tactic|let $x:ident:=$e)=>`(tactic|have $x:ident:=$e)
local macro_rules|`($a\$b)=>`($a=some $b)
local macro_rules|`(⇑$h)=>`(by simpa using $h)
local macro_rules|`(tactic|exists $e)=>let i:=Lean.mkIdent;`(tactic|refine $e λ$(i `aN) $(i `A) $(i `outer) $(i `s) $(i `H) $(i `vs) $(i `Q) $(i `E) $(i `hr) $(i `h)=>?_)
local macro_rules|`(section v)=>let i:=Lean.mkIdent;return Lean.mkNullNode #[←`(section),←`(variable{$(i `P):ident:$(i `Ad)}{$(i `w):ident:$(i `Ag)}{$(i `K):ident:$(i `ai)}{$(i `mg):ident:$(i `Str)->$(i `Option) $(i `Aa)}{$(i `base):ident:$(i `Heap)})]
local macro_rules|`(tactic|apply $e)=>`(tactic|refine $e)
local macro_rules|`(#[$x,$xs,*])=>`(⟨$x,$xs,*⟩)
local macro_rules|`(tactic|let $p:term:=$e)=>let g:=λ(x:Lean.Syntax)=>(if x.isIdent then`(rcasesPat|$(⟨x⟩):ident) else if x.isOfKind ``Lean.Parser.Term.hole then`(rcasesPat|_) else pure ⟨x⟩:Lean.MacroM (Lean.TSyntax `rcasesPat));p.raw.rewriteBottomUpM (λn=>if n.isOfKind `«term#[_,]» then n[1].getSepArgs.mapM (λx=>g x>>=λy=>`(Lean.Parser.Tactic.rcasesPatLo|$y:rcasesPat))>>=λs=>`(rcasesPat|⟨$s,*⟩)>>=λt=>pure t.raw else pure n)>>=λq=>`(tactic|obtain $(⟨q⟩):rcasesPat:=$e)
theorem Z{α:Sort _}{a:α}:a=a:=rfl
abbrev ai:=PySem.W.Frag
theorem ak:type_of% @List.length_map:=@List.length_map
theorem aP:type_of% @List.getElem?_eq_getElem:=@List.getElem?_eq_getElem
theorem bY:type_of% @List.getElem?_eq_some_iff:=@List.getElem?_eq_some_iff
theorem cQ:type_of% @List.mem_of_getElem?:=@List.mem_of_getElem?
theorem cj:type_of% @List.size_toArray:=@List.size_toArray
theorem a_:type_of% @Nat.le_refl:=@Nat.le_refl
theorem di:type_of% @List.getElem?_map:=@List.getElem?_map
theorem bC:type_of% @List.mem_map:=@List.mem_map
theorem bU:type_of% @List.mem_cons:=@List.mem_cons
theorem dH:type_of% @List.length_take:=@List.length_take
theorem d9:type_of% @List.length_append:=@List.length_append
theorem fM:type_of% @List.mem_cons_of_mem:=@List.mem_cons_of_mem
theorem eU:type_of% @List.mem_singleton:=@List.mem_singleton
theorem cg:type_of% @List.map_map:=@List.map_map
theorem eI:type_of% @List.take_length:=@List.take_length
theorem d8:type_of% @List.mem_append:=@List.mem_append
theorem fX:type_of% @List.mem_cons_self:=@List.mem_cons_self
theorem eS:type_of% @List.map_append:=@List.map_append
theorem fU:type_of% @List.not_mem_nil:=@List.not_mem_nil
theorem gE:type_of% @Bool.false_ne_true:=@Bool.false_ne_true
theorem gX:type_of% @List.getElem_of_mem:=@List.getElem_of_mem
theorem dR:type_of% @Nat.ne_of_lt:=@Nat.ne_of_lt
theorem eG:type_of% @List.map_cons:=@List.map_cons
theorem jU:type_of% @List.length_singleton:=@List.length_singleton
theorem jn:type_of% @Nat.lt_of_lt_of_le:=@Nat.lt_of_lt_of_le
theorem mq:type_of% @List.mem_append_right:=@List.mem_append_right
theorem tN:type_of% @List.nodup_iff_pairwise_ne:=@List.nodup_iff_pairwise_ne
theorem jm:type_of% @List.length_cons:=@List.length_cons
theorem tM:type_of% @Int.eq_ofNat_of_zero_le:=@Int.eq_ofNat_of_zero_le
theorem jk:type_of% @List.nodup_cons:=@List.nodup_cons
theorem tL:type_of% @List.take_of_length_le:=@List.take_of_length_le
theorem kD:type_of% @List.getElem_mem:=@List.getElem_mem
theorem jS:type_of% @List.mem_filter:=@List.mem_filter
theorem gM:type_of% @Nat.zero_le:=@Nat.zero_le
theorem iz:type_of% @Int.le_of_lt:=@Int.le_of_lt
theorem iH:type_of% @Nat.le_trans:=@Nat.le_trans
theorem pQ:type_of% @Bool.false_eq_true:=@Bool.false_eq_true
theorem tJ:type_of% @Array.length_toList:=@Array.length_toList
theorem xZ:type_of% @List.getElem?_append_left:=@List.getElem?_append_left
theorem i5:type_of% @Nat.ne_of_gt:=@Nat.ne_of_gt
theorem pP:type_of% @List.take_add_one:=@List.take_add_one
theorem AW:type_of% @List.getElem?_append_right:=@List.getElem?_append_right
theorem uL:type_of% @List.map_congr_left:=@List.map_congr_left
theorem pO:type_of% @List.lookup_cons:=@List.lookup_cons
theorem tI:type_of% @Nat.le_add_right:=@Nat.le_add_right
theorem uK:type_of% @List.pairwise_map:=@List.pairwise_map
theorem AV:type_of% @List.length_filter_le:=@List.length_filter_le
theorem xX:type_of% @List.mem_filterMap:=@List.mem_filterMap
theorem BJ:type_of% @Option.map_eq_some_iff:=@Option.map_eq_some_iff
theorem x8:type_of% @Int.toNat_natCast:=@Int.toNat_natCast
theorem tO:type_of% @Nat.lt_irrefl:=@Nat.lt_irrefl
theorem uP:type_of% @List.forIn_nil:=@List.forIn_nil
theorem uO:type_of% @List.take_succ:=@List.take_succ
theorem BK:type_of% @List.length_replicate:=@List.length_replicate
theorem wD:type_of% @List.forIn_cons:=@List.forIn_cons
theorem x6:type_of% @List.length_drop:=@List.length_drop
theorem x5:type_of% @List.find?_cons:=@List.find?_cons
abbrev aj:=List PySem.Value
abbrev bq:=PySem.Str->PySem.Str
abbrev au:=List PySem.Addr
abbrev af:=List PySem.Str
namespace L2
open PySem PySem.Spec PyProof.Rows
abbrev Key:=Sum Int Str
def wd:Key->Aa->Bool
 |.inl k,v=>Value.isInt k v
 |.inr x,v=>Value.isStrOf x v
def K9(w:Ag):Key->Int
 |.inl k=>hashInt k
 |.inr x=>hashStr w x
theorem pR:∀{k:Key} {v:Aa},wd k v=true->(∃i t,k=Sum.inl i/\v=Value.int i t)∨(∃x t,k=Sum.inr x/\v=Value.str x t)
 |.inl i,v,h=>by
  let#[t,e]:=Value.isInt_shape (k:=i) (v:=v) h;exact .inl #[i,t,Z,e]
 |.inr x,v,h=>by
  let#[t,e]:=Value.isStrOf_shape (x:=x) (v:=v) h;exact .inr #[x,t,Z,e]
theorem gw_(i:Int)(t:Tok):wd (.inl i) (.int i t)=true:=by simp[wd,Value.isInt]
theorem h2_(x:Str)(t:Tok):wd (.inr x) (.str x t)=true:=by simp[wd,Value.isStrOf]
theorem Ze(a b:Int):decide ((Sum.inl a:Key)=Sum.inl b)=(a == b):=by
 by_cases e:a=b
 ·subst e;simp
 have h:¬(Sum.inl a:Key)=Sum.inl b:=λq=>e (Sum.inl.inj q);rw[eF h];exact (beq_eq_false_iff_ne.mpr e).symm
theorem Zo(a b:Str):decide ((Sum.inr a:Key)=Sum.inr b)=decide (a=b):=by
 by_cases e:a=b
 ·subst e;simp
 have h:¬(Sum.inr a:Key)=Sum.inr b:=λq=>e (hJ q);rw[eF h,eF e]
theorem Zc(a:Int)(b:Str):decide ((Sum.inl a:Key)=Sum.inr b)=false:=eF (λq=>nomatch q)
theorem YE(a:Str)(b:Int):decide ((Sum.inr a:Key)=Sum.inl b)=false:=eF (λq=>nomatch q)
def fh(prog:Ad)(w:Ag):PySem.KeyKind prog w Key where
 is:=wd
 hash:=K9 w
 inj:=λv a b ha hb=>by
  rcases pR ha with⟨i,t,rfl,rfl⟩|⟨x,t,rfl,rfl⟩
  ·rcases pR hb with⟨j,u,rfl,e⟩|⟨y,u,rfl,e⟩
   ·injection e with e1 _;rw[e1]
   exact nomatch e
  rcases pR hb with⟨j,u,rfl,e⟩|⟨y,u,rfl,e⟩
  ·exact nomatch e
  injection e with e1 _;rw[e1]
 byValue:=λk v h=>by
  rcases pR h with⟨i,t,rfl,rfl⟩|⟨x,t,rfl,rfl⟩<;>rfl
 pyHash:=λhv h=>by
  rcases pR hv with⟨i,t,rfl,rfl⟩|⟨x,t,rfl,rfl⟩
  ·exact wpAny_pyHash_int h
  exact wpAny_pyHash_str h
 eqBool:=λhu hv h=>by
  rcases pR hu with⟨i,t,rfl,rfl⟩|⟨x,t,rfl,rfl⟩
  ·rcases pR hv with⟨j,u,rfl,rfl⟩|⟨y,u,rfl,rfl⟩
   ·rw[Ze] at h;exact wpAny_eqBool_int h
   rw[Zc] at h;exact SeqAt.EqAt.int_str i t y u _ _ _ _ h
  rcases pR hv with⟨j,u,rfl,rfl⟩|⟨y,u,rfl,rfl⟩
  ·rw[YE] at h;exact SeqAt.EqAt.str_int x t j u _ _ _ _ h
  rw[Zo] at h;exact wpAny_eqBool_str h
 «strs»:=λk x t v h=>by
  rcases pR h with⟨i,u,rfl,e⟩|⟨y,u,rfl,e⟩
  ·exact nomatch e
  injection e with e1 _
  subst e1;cases v<;>rfl
theorem ep_(prog:Ad)(w:Ag)(i:Int)(t:Tok):(fh prog w).is (.inl i) (.int i t)=true:=gw_ i t
theorem ef_(prog:Ad)(w:Ag)(x:Str)(t:Tok):(fh prog w).is (.inr x) (.str x t)=true:=h2_ x t
end L2
abbrev aC:=List L2.Key
namespace L2
open PySem PySem.Spec PyProof.Rows
inductive V where
 |non|bl (b:Bool)|int (i:Int)|str (x:Str)|byt (b:Array UInt8)|flt (b:UInt64)|ref (a:Addr)|ty (n:String)
 deriving DecidableEq
def RelV:V->Aa->Prop
 |.non,u=>u=Value.none
 |.bl b,u=>u=Value.bool b
 |.int i,u=>∃t,u=Value.int i t
 |.str x,u=>∃t,u=Value.str x t
 |.byt b,u=>∃t,u=Value.bytes b t
 |.flt b,u=>∃t,u=Value.float b t
 |.ref a,u=>u=Value.ref a
 |.ty n,u=>u=Value.type n
abbrev Vals:List V->aj->Prop:=Paired RelV
theorem Vals.length{xs:List V}{us:aj}(r:Vals xs us):xs.length=us.length:=br r
theorem Vals.get:∀{xs:List V} {us:aj} {i:Nat} {x:V},Vals xs us->xs[i]? = some x->∃u,us[i]? = some u/\RelV x u
 |_,_,_,_,.nil,e=>by simp at e
 |_,_,0,_,.cons r _,e=>by simp at e;subst e;exact#[_,Z,r]
 |_,_,i+1,x,.cons _ t,e=>by
  let#[u,h1,h2]:=Vals.get (i:=i) (x:=x) t ⇑e;exact#[u,by simpa using h1,h2]
theorem Vals.set{x:V}{u:Aa}(r:RelV x u):∀{xs:List V} {us:aj} (i:Nat),Vals xs us->Vals (xs.set i x) (us.set i u)
 |_,_,_,.nil=>.nil
 |_,_,0,.cons _ t=>.cons r t
 |_,_,i+1,.cons q t=>.cons q (Vals.set r i t)
theorem Vals.append:∀{xs ys:List V} {us ws:aj},Vals xs us->Vals ys ws->Vals (xs++ys) (us++ws)
 |_,_,_,_,.nil,s=>s
 |_,_,_,_,.cons r t,s=>.cons r (Vals.append t s)
theorem Vals.take:∀{xs:List V} {us:aj} (n:Nat),Vals xs us->Vals (xs.take n) (us.take n)
 |_,_,0,_=>.nil
 |_,_,_+1,.nil=>.nil
 |_,_,n+1,.cons r t=>.cons r (Vals.take n t)
theorem Vals.drop:∀{xs:List V} {us:aj} (n:Nat),Vals xs us->Vals (xs.drop n) (us.drop n)
 |_,_,0,r=>r
 |_,_,_+1,.nil=>.nil
 |_,_,n+1,.cons _ t=>Vals.drop n t
def eP:Option V->Option Aa->Prop
 |some v,some u=>RelV v u
 |none,none=>True
 |_,_=>False
def KV{κ:Type}:List (κ × V)->List (κ × Aa)->Prop:=Paired λ(p:κ × V) (q:κ × Aa)=>p.1=q.1/\RelV p.2 q.2
def kV:Key->V
 |.inl i=>.int i
 |.inr x=>.str x
inductive HO where
  |lst (xs:List V)
  |tup (xs:List V)
  |dK (kvs:List (Key × V))|dT (kvs:List (aC × V))
  |set (S:Int->Bool) (n:Nat)
  |ins (C dx:Addr) (fs:List (Str × V))
  |own (x:Addr)
  |xd (fs:List (Str × V))
  |met (f x:Addr)
  |rng (lo hi:Int)
  |frz (o:Obj) (u:HO)
  |tbl (ps:Array Aa)
  |ext (φ:Heap->Prop)
abbrev Hp:=Addr->Option HO
def upd(H:Hp)(a:Addr)(o:HO):Hp:=λb=>if b=a then some o else H b
variable{H:Hp}{a:Addr}
theorem ax{o:HO}:upd H a o a\o:=by unfold upd;rw[aI Z]
variable{b:Addr}
theorem aw{o:HO}(h:b≠a):upd H a o b=H b:=by unfold upd;rw[aA h]
variable{u:HO}
theorem Zt{o:HO}:upd (upd H a o) a u=upd H a u:=by
 funext b;unfold upd;split<;>rfl
theorem bK{o:HO}(h:H a\o)(h':H b\u)(d:o≠u):a≠b:=by
 intro e;subst e;rw[h] at h';exact d (cY h')
theorem bp{o:HO}(h:H a\o)(h':H b=none):a≠b:=by
 intro e;subst e;rw[h] at h';cases h'
section
variable(P:Ad)(w:Ag)
def ft(H:Hp)(h:Heap)(a:Addr):HO->Prop
 |.lst xs=>xs.length<=sizeLine/\∃(its:aj) (n:Nat),Vals xs its/\h.get? a=some { cls:=.type "list",data:=.seq its.toArray n }
 |.tup xs=>xs.length<=sizeLine/\∃its:aj,Vals xs its/\IsTup h a its.toArray/\∃o,h.get? a\o/\o.dict=none
 |.dK kvs=>kvs.length<=sizeLine/\(a == sysModules)=false/\∃vs,KV kvs vs/\h.DictOf (fh P w) a vs
 |.dT kvs=>kvs.length<=sizeLine/\(a == sysModules)=false/\∃xs:List (aC × Addr × Aa),
   Paired (λ(p:aC × V) (q:aC × Addr × Aa)=>p.1=q.1/\H q.2.1\.tup (p.1.map kV)/\RelV p.2 q.2.2) kvs xs /\
   ∃o es ep,h.get? a\o/\o.ExactDict/\o.data=.dict es ep/\es.toList=xs.map (entryOfKey (tupleKind (fh P w)))/\(xs.map (·.1)).Nodup
 |.set S n=>h.SetOf (intKind P w) a S n
 |.ins C dx fs=>H dx\.own a/\fs.length<=1000/\dx≠a/\h.get? a\PySem.W.instObj C dx /\
   ∃mA,h.Ns1 dx mA/\(∀f,eP (fs.lookup f) (mA f))/\PySem.Within mA (fs.map (·.1))
 |.own _=>∃o,h.get? a\o
 |.xd fs=>∃mA,h.Ns1 a mA/\∀f,eP (fs.lookup f) (mA f)
 |.rng lo hi=>∃t u v,h.get? a=some { cls:=.type "range",data:=.fields (List.toArray [.int lo t,.int hi u,.int 1 v]) }
 |.frz o u=>h.get? a\o/\ft H h a u
 |.tbl ps=>h.get? a=some { cls:=.none,data:=.fields ps }
 |.met f x=>h.get? a\PySem.W.methodObj (.ref f) (.ref x)
 |.ext φ=>φ h/\(∃o,h.get? a\o)/\∀h1 h2:Heap,φ h1->(∀o,h1.get? a\o->h2.get? a\o)->φ h2
def fO(H:Hp)(h:Heap):Prop:=∀a o,H a\o->ft P w H h a o
end
section
variable{P:Ad}{w:Ag}{H H':Hp}{h h':Heap}{a:Addr}{o:HO}
theorem ft.lt(x:ft P w H h a o):a<h.objs.size:=by
 cases o with
 |lst xs=>let#[_,_,_,_,e]:=x;exact bz e
 |tup xs=>let#[_,_,_,p,_]:=x;exact p.lt
 |dK kvs=>let#[_,_,_,_,o,_,_,e,_]:=x;exact bz e
 |dT kvs=>let#[_,_,_,_,o,_,_,e,_]:=x;exact bz e
 |set S n=>let#[o,_,_,_,e,_]:=x;exact bz e
 |ins C dx fs=>let#[_,_,_,e,_]:=x;exact bz e
 |own y=>let#[_,e]:=x;exact bz e
 |xd fs=>let#[_,#[_,_,_,e,_],_]:=x;exact bz e
 |rng lo hi=>let#[_,_,_,e]:=x;exact bz e
 |frz ob u=>let#[e,_]:=x;exact bz e
 |tbl ps=>exact bz (show h.get? a\_ from x)
 |met f y=>exact bz (show h.get? a\_ from x)
 |ext φ=>let#[_,#[_,e],_]:=x;exact bz e
theorem Paired.aV{α β:Type}{F G:α->β->Prop}:∀{Da:List α} {C_:List β},Paired F Da C_->(∀a b,F a b->G a b)->Paired G Da C_
 |_,_,.nil,_=>.nil
 |_,_,.cons r t,f=>.cons (f _ _ r) (Paired.aV t f)
theorem ft.eg(x:ft P w H h a o)(k:∀b u,(b=a∨H b\.own a)->h.get? b\u->h'.get? b\u)
  (ho:∀b,H b\.own a->H' b\.own a) (ht:∀b xs,H b\.tup xs->H' b\.tup xs):ft P w H' h' a o:=by
 induction o with
 |lst xs=>let#[z,its,n,r,e]:=x;exact#[z,its,n,r,k _ _ (.inl Z) e]
 |tup xs=>let#[z,its,r,#[ob,e,c],o2,e2,c2]:=x;exact#[z,its,r,#[ob,k _ _ (.inl Z) e,c],o2,k _ _ (.inl Z) e2,c2]
 |dK kvs=>let#[z,y,vs,r,ob,es,ep,e,c]:=x;exact#[z,y,vs,r,ob,es,ep,k _ _ (.inl Z) e,c]
 |dT kvs=>
  let#[z,y,xs,r,ob,es,ep,e,c]:=x;exact#[z,y,xs,Paired.aV r λp q z=>#[z.1,ht _ _ z.2.1,z.2.2],ob,es,ep,k _ _ (.inl Z) e,c]
 |set S n=>let#[ob,es,ep,t,e,c]:=x;exact#[ob,es,ep,t,k _ _ (.inl Z) e,c]
 |ins C dx fs=>
  let#[d,z,ne,e,mA,#[od,es,ep,e2,c],r]:=x;exact#[ho _ d,z,ne,k _ _ (.inl Z) e,mA,#[od,es,ep,k _ _ (.inr d) e2,c],r]
 |own y=>let#[ob,e]:=x;exact#[ob,k _ _ (.inl Z) e]
 |xd fs=>let#[mA,#[od,es,ep,e,c],r]:=x;exact#[mA,#[od,es,ep,k _ _ (.inl Z) e,c],r]
 |rng lo hi=>let#[t,u,v,e]:=x;exact#[t,u,v,k _ _ (.inl Z) e]
 |frz ob u ih=>let#[e,q]:=x;exact#[k _ _ (.inl Z) e,ih q]
 |tbl ps=>
  have e:h.get? a=some { cls:=.none,data:=.fields ps }:=x;show h'.get? a=some { cls:=.none,data:=.fields ps };exact k a _ (.inl Z) e
 |met f y=>
  have e:h.get? a\PySem.W.methodObj (.ref f) (.ref y):=x;show h'.get? a\PySem.W.methodObj (.ref f) (.ref y);exact k a _ (.inl Z) e
 |ext φ=>let#[p,#[o,e],st]:=x;exact#[st _ _ p λo q=>k _ _ (.inl Z) q,#[o,k _ _ (.inl Z) e],st]
theorem fO.lt(x:fO P w H h)(e:H a\o):a<h.objs.size:=(x a o e).lt
theorem fO.fresh(x:fO P w H h)(e:h.objs.size<=a):H a=none:=by
 cases q:H a with
 |none=>rfl
 |some u=>exact absurd (jn (x.lt q) e) (tO _)
theorem fO.kept(x:fO P w H h)(k:∀b u,h.get? b\u->h'.get? b\u):fO P w H h':=λa o e=>
 (x a o e).eg (λb u _ q=>k b u q) (λ_ q=>q) λ_ _ q=>q
theorem fO.laid(x:fO P w H h)(k:∀b u,h.get? b\u->h'.get? b\u)(hp:h.objs.size<=a)(new:ft P w (upd H a o) h' a o):fO P w (upd H a o) h':=λb u e=>by
 let hn:=x.fresh hp;by_cases hb:b=a
 ·subst hb;rw[ax] at e;cases e;exact new
 rw[aw hb] at e;exact (x b u e).eg (λc v _ q=>k c v q) (λc q=>by rw[aw (bp q hn)];exact q) λc xs q=>by rw[aw (bp q hn)];exact q
end
def Rd(H:Hp)(a:Addr)(u:HO):Prop:=H a=some u∨∃o,H a\.frz o u
theorem Rd.of(h:H a\u):Rd H a u:=.inl h
variable{P:Ad}{w:Ag}{h:Heap}
theorem Rd.ok(r:Rd H a u)(x:fO P w H h):ft P w H h a u:=by
 rcases r with r|⟨o,r⟩
 ·exact x a u r
 let#[_,q]:=x a _ r;exact q
def FO:Option HO->Prop
 |some (.lst _)=>True
 |some (.dK _)=>True
 |some (.dT _)=>True
 |some (.set _ _)=>True
 |some (.ins _ _ _)=>True
 |some (.ext _)=>True
 |_=>False
variable{h':Heap}{e x:Addr}{o':HO}
theorem fO.write(ok:fO P w H h)(mu:FO (H x))(he:e=x∨H e\.own x)(k:∀b u,b≠e->h.get? b\u->h'.get? b\u)(Bg:∃u,h'.get? e\u)
  (new:ft P w (upd H x o') h' x o'):fO P w (upd H x o') h':=λb u q=>by
 have CS:∀c y,H c\.own y->c≠x:=λc y r z=>by subst z;rw[r] at mu;exact mu
 have Kz:∀c xs,H c\.tup xs->c≠x:=λc xs r z=>by subst z;rw[r] at mu;exact mu
 by_cases hb:b=x
 ·subst hb;rw[ax] at q;cases q;exact new
 rw[aw hb] at q;by_cases zM:b=e
 ·have q':H b\.own x:=by
   rcases he with z|z
   ·exact absurd (zM.trans z) hb
   rw[zM];exact z
  rw[q] at q';cases q';let#[v,hv]:=Bg;exact#[v,by rw[zM];exact hv]
 apply (ok b u q).eg (λc v hc r=>k c v ?_ r) (λc r=>by rw[aw (CS c b r)];exact r) λc xs r=>by rw[aw (Kz c xs r)];exact r
 rcases hc with rfl|hc
 ·exact zM
 rintro rfl;rcases he with z|z
 ·exact CS c b hc z
 rw[hc] at z;cases z;exact hb Z
structure Un (fs ex:au) (H H':Hp) (h h':Heap):Prop where
 keep:∀b o,h.get? b\o->H b=none->b∉fs->b∉ex->h'.get? b\o
 slot:∀b o,h.get? b\o->H b=none->b∈fs->b∉ex->∃sl,h'.get? b=some { o with slots:=sl }
 free:∀b o,h.get? b\o->H b=none->b∉ex->H' b=none
 there:∀b o,h.get? b\o->b∉ex->∃o',h'.get? b\o'
 gN:∀b xs,H b\.tup xs->H' b\.tup xs
 gU:∀b o u,H b\.frz o u->H' b\.frz o u
 ia:∀b ps,H b\.tbl ps->∃more,H' b\.tbl (ps++more)
variable{ex fs:au}{H1:Hp}{h1:Heap}
theorem Un.any(u:Un fs ex H H1 h h1){ob:Obj}(q:h.get? b\ob)(n:H b=none)(hx:b∉ex):∃sl,h1.get? b=some { ob with slots:=sl }:=by
 by_cases hb:b∈fs
 ·exact u.slot b ob q n hb hx
 exact#[ob.slots,u.keep b ob q n hb hx]
theorem Un.kept(k:∀b u,h.get? b\u->h'.get? b\u):Un fs ex H H h h':=
 #[λb ob q _ _ _=>k b ob q,λb ob q _ _ _=>#[ob.slots,k b ob q],λ_ _ _ n _=>n,λb ob q _=>#[ob,k b ob q],λ_ _ q=>q,λ_ _ _ q=>q,λ_ ps q=>#[#[],by rw[q];simp]]
theorem Un.refl:Un fs ex H H h h:=Un.kept λ_ _ q=>q
variable{o:HO}
theorem Un.laid(k:∀b u,h.get? b\u->h'.get? b\u)(hp:h.objs.size<=a)(hn:H a=none):Un fs ex H (upd H a o) h h' where
 keep:=λb u q _ _ _=>k b u q
 slot:=λb u q _ _ _=>#[u.slots,k b u q]
 free:=λb u q n _=>by rw[aw (dR (jn (bz q) hp))];exact n
 there:=λb u q _=>#[u,k b u q]
 gN:=λb xs q=>by rw[aw (bp q hn)];exact q
 gU:=λb u xs q=>by rw[aw (bp q hn)];exact q
 ia:=λb ps q=>#[#[],by rw[aw (bp q hn),q];simp]
theorem Un.write(mu:FO (H x))(he:e=x∨H e\.own x)(k:∀b u,b≠e->h.get? b\u->h'.get? b\u)(Bg:∃u,h'.get? e\u):Un fs ex H (upd H x o) h h':=by
 have hx:∀b,H b=none->b≠x:=λb n z=>by subst z;rw[n] at mu;exact mu
 have hb:∀b,H b=none->b≠e:=λb n z=>by
  subst z;rcases he with r|r
  ·exact hx b n r
  rw[n] at r;cases r
 have hm:∀b u,H b\u->¬FO (some u)->b≠x:=λb u q nm z=>by subst z;rw[q] at mu;exact nm mu
 apply#[λb u q n _ _=>k b u (hb b n) q,λb u q n _ _=>#[u.slots,k b u (hb b n) q],λb u q n _=>by rw[aw (hx b n)];exact n,λb u q _=>?_,
  λb xs q=>by rw[aw (hm b _ q λz=>z)];exact q,λb u xs q=>by rw[aw (hm b _ q λz=>z)];exact q,λb ps q=>#[#[],by rw[aw (hm b _ q λz=>z),q];simp]]
 by_cases zM:b=e
 ·subst zM;exact Bg
 exact#[u,k b u zM q]
def FY(h:Heap)(H:Hp):au:=(List.range h.objs.size).filter λa=>(H a).isSome
def ij(h:Heap)(H:Hp):Heap:=PySem.W.hideAll h (FY h H)
theorem h3_(h:Heap)(H:Hp):(ij h H).objs.size=h.objs.size:=PySem.W.hideAll_size _ _
variable{o:Obj}
theorem ho_(e:h.get? b\o)(n:H b=none):(ij h H).get? b\o:=
 PySem.W.hideAll_get _ e λhm=>by
  have q:(H b).isSome=true:=(jS.mp hm).2;rw[n] at q;simp at q
theorem ZA(e:(ij h H).get? b\o):h.get? b\o/\H b=none:=by
 have e':h.get? b\o:=PySem.W.of_hideAll (FY h H) e;apply#[e',?_];cases q:H b with
 |none=>rfl
 |some x=>
  have hm:b∈FY h H:=jS.mpr #[List.mem_range.mpr (bz e'),by simp[q]];have z:(ij h H).get? b=none:=PySem.W.hideAll_none (FY h H) hm;rw[z] at e;cases e
end L2
abbrev ag:=List L2.V
abbrev aL:=Option L2.V
namespace L2
open PySem PySem.Spec PyProof.Rows
structure Mod (K:ai) (mg:Str->Option Aa) (base:Heap):Prop where
 Dp:K.In base
 glob:base.Ns mainGlobals mg
 blt:∃mb,base.Ns builtinsNs mb/\∀x:Str,x≠"__name__"->mb x=bootBuiltins x
 nolimit:base.NoLimit
structure Cx where
 prog:Ad
 w:Ag
 K:ai
 mg:Str->Option Aa
 base:Heap
 A:Af
 N:af
 dc:Ab
 j7:Hp
 env:Env
 outer:List Env
 stack:List Env
 ex:au
 fn:Str->Bool
 calm:Bool
 pn:List (Addr × Obj)
 xe:Aa->Ab->Prop
def oO(l:List Env):au:=l.filterMap (·.frame)
abbrev Cx.fs(X:Cx):au:=oO X.outer
def Pb(sc:Scope)(x:Str):Prop:=sc.names.lookup x=some .local∨sc.names.lookup x\.cell∨sc.names.lookup x\.free
def Loc(sc:Scope)(x:Str):Prop:=sc.names.lookup x=some .local∨sc.names.lookup x\.cell
def Look(env:Env)(h:Heap)(m:Str->Option Aa)(x:Str)(u:Aa):Prop:=
 (env.kindOf x\.local/\m x\u)∨((env.kindOf x\.cell∨env.kindOf x\.free)/\∃c,env.cells.lookup x\c/\h.IsCell c (some u))
structure Cx.Ok (X:Cx):Prop where
 mod:Mod X.K X.mg X.base
 kind:X.env.scope.kind=.function
 glob:X.env.globals=mainGlobals
 blt:X.env.builtins=builtinsNs
 above:X.dc.heap.objs.size<=X.env.locals
 inj:∀x y c,X.env.cells.lookup x\c->X.env.cells.lookup y\c->x=y
 has:∀x,(X.env.kindOf x\.cell∨X.env.kindOf x\.free)->∃c,X.env.cells.lookup x\c
 Bx:∀x c,X.fn x=true->X.env.cells.lookup x\c->X.dc.heap.objs.size<=c
 hd:X.calm=true->X.A.handled=none
 frames:X.A.frames\X.stack
 F2:X.stack=X.outer∨(X.stack=X.env::X.outer/\X.env.frame\X.env.locals)
 Hl:∀b∈X.ex,b≠X.env.locals/\∀x c,X.env.cells.lookup x\c->c≠b
 bs:∀b o,X.base.get? b\o->X.dc.heap.get? b\o/\X.j7 b=none
 tq:X.base.objs.size<=X.dc.heap.objs.size
 rE:∀b o,X.base.get? b\o->b∉X.ex
 rZ:∀b∈X.ex,b∉X.fs
 fR:X.dc.heap.FunFrames X.base X.outer
 vU:∀b∈X.fs,X.j7 b=none
structure Inv (X:Cx) (pins:List (Addr × Obj)) (σ:List aL) (H:Hp) (s:Ab):Prop where
 ok:X.Ok
 os:s.os=X.dc.os
 bare:AllBare s.gens
 base:Un X.fs X.ex X.j7 H X.dc.heap s.heap
 loc:∃m,s.heap.Ns X.env.locals m/\∀(i:Nat) (x:Str) (v:V),X.N[i]? = some x->σ[i]? = some (some v)->Pb X.env.scope x->∃u,RelV v u/\Look X.env s.heap m x u
 cell:∀x c,X.env.cells.lookup x\c->∃v,s.heap.IsCell c v
 free:H X.env.locals=none
 d0:∀x c,X.env.cells.lookup x\c->H c=none
 pin:∀p∈X.pn++pins,s.heap.get? p.1\p.2/\H p.1=none/\p.1≠X.env.locals/\p.1∉X.fs/\∀v,p.2.data≠.cell v
 az:fO X.prog X.w H s.heap
 len:σ.length=X.N.length
variable{X:Cx}
theorem Cx.Ok.KC(ok:X.Ok){b:Addr}{o:Obj}(e:X.base.get? b\o):b∉X.fs:=λhb=>by
 have:=(ok.fR.mem hb).1;rw[e] at this;cases this
variable{pins:List (Addr × Obj)}{σ:List aL}{H:Hp}{s:Ab}
theorem Inv.bs(I:Inv X pins σ H s):∀b o,X.base.get? b\o->s.heap.get? b\o/\H b=none:=λb o e=>
 #[I.base.keep b o (I.ok.bs b o e).1 (I.ok.bs b o e).2 (I.ok.KC e) (I.ok.rE b o e),I.base.free b o (I.ok.bs b o e).1 (I.ok.bs b o e).2 (I.ok.rE b o e)]
theorem Inv.bk(I:Inv X pins σ H s):∀b o,X.base.get? b\o->s.heap.get? b\o:=λb o e=>(I.bs b o e).1
theorem Inv.mod(I:Inv X pins σ H s):Mod X.K X.mg X.base:=I.ok.mod
theorem Inv.gz(I:Inv X pins σ H s):X.K.In s.heap:=I.ok.mod.Dp.keeps I.bk
theorem Inv.lt(I:Inv X pins σ H s):X.env.locals<s.heap.objs.size:=let #[_,hn,_]:=I.loc;hn.lt
theorem Inv.sz(I:Inv X pins σ H s):X.dc.heap.objs.size<=s.heap.objs.size:=iH I.ok.above (Nat.le_of_lt I.lt)
variable{a:Addr}
theorem Inv.KA(I:Inv X pins σ H s)(h:s.heap.objs.size<=a):a∉X.fs:=λhb=>by
 let#[_,o,ho,_]:=I.ok.fR.mem hb;exact absurd (jn (bz ho) (iH I.sz h)) (tO _)
theorem Inv.ux(I:Inv X pins σ H s):∀x c,X.env.cells.lookup x\c->c≠X.env.locals:=λx c e z=>by
 let#[v,o,ho,hd]:=I.cell x c e;let#[m,#[o',es,ep,nE,iR,_],_]:=I.loc;rw[z,nE] at ho;cases ho;rw[iR] at hd;cases hd
theorem Inv.fR(I:Inv X pins σ H s):s.heap.FunFrames X.base X.outer:=by
 have all:∀(l:List Env),(∀b∈oO l,b∈X.fs)->X.dc.heap.FunFrames X.base l->s.heap.FunFrames X.base l:=by
  intro l
  induction l with
  |nil=>intro _ _;trivial
  |cons env r ih=>
   intro hs hl;let#[hk,#[L,o,hf,hn,ho,hd],hr]:=hl;have hL:L∈X.fs:=hs L (by unfold oO;rw[List.filterMap_cons,hf];exact fX);let#[sl,e]:=I.base.slot L o ho (I.ok.vU L hL) hL λz=>I.ok.rZ L z hL;exact#[hk,#[L,_,hf,hn,e,hd],ih (λb hb=>hs b (by unfold oO;rw[List.filterMap_cons,hf];exact fM _ hb)) hr]
 exact all X.outer (λ_ hb=>hb) I.ok.fR
theorem Inv.stack(I:Inv X pins σ H s):s.heap.FunFrames X.base X.stack:=by
 rcases I.ok.F2 with e|⟨e,hf⟩
 ·rw[e];exact I.fR
 rw[e];let#[m,hn,_]:=I.loc;apply .cons (by rw[I.ok.kind];decide) hf hn ?_ I.fR;exact Heap.get?_none_of_le (iH I.ok.tq I.ok.above)
theorem Inv.kI(I:Inv X pins σ H s):∀b∈oO X.stack,b∈X.env.locals::X.fs:=λb hb=>by
 rcases I.ok.F2 with e|⟨e,hf⟩
 ·rw[e] at hb;exact fM _ hb
 rw[e] at hb;unfold oO at hb;rw[List.filterMap_cons,hf] at hb;exact hb
theorem Inv.mL(I:Inv X pins σ H s):∀b∈oO X.stack,H b=none:=λb hb=>by
 rcases bU.mp (I.kI b hb) with e|hb
 ·rw[e];exact I.free
 let#[_,o,ho,_]:=I.ok.fR.mem hb;exact I.base.free b o ho (I.ok.vU b hb) λz=>I.ok.rZ b z hb
variable{g':Array GenState}{t':Nat}{d':Drawn}{ch:au}{H':Hp}{h':Heap}
theorem Inv.step(I:Inv X pins σ H s)(uo:∀b∈ch,(b∈X.ex∨X.dc.heap.objs.size<=b)/\b≠X.env.locals/\(∀x c,X.env.cells.lookup x\c->c≠b)/\∀p∈X.pn++pins,p.1≠b)(keep:∀b o,b≠X.env.locals->b∉X.fs->b∉ch->s.heap.get? b\o->H b=none->h'.get? b\o)(slot:∀b o,b≠X.env.locals->b∈X.fs->b∉ch->s.heap.get? b\o->H b=none->∃sl,h'.get? b=some { o with slots:=sl })(free:∀b o,b∉ch->s.heap.get? b\o->H b=none->H' b=none)(there:∀b o,b∉ch->s.heap.get? b\o->∃o',h'.get? b\o')(gN:∀b xs,H b\.tup xs->H' b\.tup xs)(gU:∀b o u,H b\.frz o u->H' b\.frz o u)(ia:∀b ps,H b\.tbl ps->∃more,H' b\.tbl (ps++more))(ns:∀m,s.heap.Ns X.env.locals m->h'.Ns X.env.locals m)(az:fO X.prog X.w H' h')(hg:AllBare g') :
  Inv X pins σ H' { s with heap:=h',gens:=g',drawn:=d',toks:=t' }:=by
 have Qm:∀b o,X.dc.heap.get? b\o->b≠X.env.locals:=λb o e=>dR (jn (bz e) I.ok.above)
 have Gu:∀b o,X.dc.heap.get? b\o->b∉X.ex->b∉ch:=λb o e hx hb=>by
  rcases (uo b hb).1 with z|z
  ·exact hx z
  exact absurd (jn (bz e) z) (tO _)
 have cellK:∀x c,X.env.cells.lookup x\c->∀v,s.heap.IsCell c v->h'.IsCell c v:=λx c e v ⟨o,ho,hd⟩=>by
  have CZ:c∉ch:=λz=>(uo c z).2.2.1 x c e Z;by_cases hc:c∈X.fs
  ·let#[sl,q]:=slot c o (I.ux x c e) hc CZ ho (I.d0 x c e);exact#[_,q,hd]
  exact#[o,keep c o (I.ux x c e) hc CZ ho (I.d0 x c e),hd]
 apply#[I.ok,I.os,hg,#[λb o e n hb hx=>?_,λb o e n hb hx=>?_,λb o e n hx=>?_,λb o e hx=>?_,λb xs e=>gN b xs (I.base.gN b xs e),λb o xs e=>gU b o xs (I.base.gU b o xs e),λb ps e=>?_],?_,λx c e=>?_,?_,λx c e=>?_,λp hp=>?_,az,I.len]
 ·exact keep b o (Qm b o e) hb (Gu b o e hx) (I.base.keep b o e n hb hx) (I.base.free b o e n hx)
 ·let#[sl,e1]:=I.base.slot b o e n hb hx;let#[Wz,e2]:=slot b _ (Qm b o e) hb (Gu b o e hx) e1 (I.base.free b o e n hx);exact#[Wz,e2]
 ·let#[o',e1]:=I.base.there b o e hx;exact free b o' (Gu b o e hx) e1 (I.base.free b o e n hx)
 ·let#[o',e1]:=I.base.there b o e hx;exact there b o' (Gu b o e hx) e1
 ·let#[m1,e1]:=I.base.ia b ps e;let#[m2,e2]:=ia b _ e1;exact#[m1++m2,by rw[e2,Array.append_assoc]]
 ·let#[m,hn,hl]:=I.loc;apply#[m,ns m hn,λi x v e1 e2 e3=>?_];let#[u,r,l]:=hl i x v e1 e2 e3;apply#[u,r,?_];rcases l with l|⟨k,c,e,z⟩
  ·exact .inl l
  exact .inr #[k,c,e,cellK x c e _ z]
 ·let#[v,z]:=I.cell x c e;exact#[v,cellK x c e v z]
 ·let#[m,#[o,_,_,ho,_],_]:=I.loc;exact free _ o (λz=>(uo _ z).2.1 Z) ho I.free
 ·let#[v,o,ho,hd]:=I.cell x c e;exact free c o (λz=>(uo c z).2.2.1 x c e Z) ho (I.d0 x c e)
 let#[e,n,ne,nf,d]:=I.pin p hp;have CZ:p.1∉ch:=λz=>(uo p.1 z).2.2.2 p hp Z;exact#[keep p.1 p.2 ne nf CZ e n,free p.1 p.2 CZ e n,ne,nf,d]
theorem Inv.un(I:Inv X pins σ H s)(u:Un X.fs [] H H' s.heap h')(az:fO X.prog X.w H' h'):Inv X pins σ H' { s with heap:=h',toks:=t' }:=by
 let#[m,#[o,es,ep,ho,r],_]:=id I.loc;let#[sl,hL]:=u.any ho I.free Z2
 exact I.step (g':=s.gens) (d':=s.drawn) (ch:=[]) (λ_ z=>nomatch z) (λb o _ hb _ e n=>u.keep b o e n hb Z2) (λb o _ hb _ e n=>u.slot b o e n hb Z2) (λb o _ e n=>u.free b o e n Z2) (λb o _ e=>u.there b o e Z2) u.gN u.gU u.ia (λm' hm=>by
  let#[o',Hm,Hn,nE,r']:=hm;rw[ho] at nE;cases nE;exact#[_,Hm,Hn,hL,r']) az I.bare
theorem Inv.call(I:Inv X pins σ H s)(u:Un (oO X.stack) ch H H' s.heap h')(az:fO X.prog X.w H' h')(hg:AllBare g')(uo:∀b∈ch,(b∈X.ex∨X.dc.heap.objs.size<=b)/\b≠X.env.locals/\(∀x c,X.env.cells.lookup x\c->c≠b)/\∀p∈X.pn++pins,p.1≠b) :
  Inv X pins σ H' { s with heap:=h',gens:=g',drawn:=d',toks:=t' }:=by
 let#[m,#[o,es,ep,ho,r],_]:=id I.loc;let#[sl,hL]:=u.any ho I.free λz=>(uo _ z).2.1 Z
 exact I.step (ch:=ch) uo (λb o hL hb hc e n=>u.keep b o e n (λz=>(bU.mp (I.kI b z)).elim hL hb) hc) (λb o _ _ hc e n=>u.any e n hc) (λb o hc e n=>u.free b o e n hc) (λb o hc e=>u.there b o e hc) u.gN u.gU u.ia (λm' hm=>by
  let#[o',Hm,Hn,nE,r']:=hm;rw[ho] at nE;cases nE;exact#[_,Hm,Hn,hL,r']) az hg
theorem Inv.turned{it:Addr}(I:Inv X pins σ H s)(k:∀b o,b≠it->s.heap.get? b\o->h'.get? b\o)(hn:H it=none)(hL:it≠X.env.locals)(h1:it∈X.ex∨X.dc.heap.objs.size<=it)(h2:∀x c,X.env.cells.lookup x\c->c≠it)(h3:∀p∈X.pn++pins,p.1≠it):Inv X pins σ H { s with heap:=h',toks:=t' }:=by
 have Ql:∀b u,H b\u->b≠it:=λb u e z=>by rw[z,hn] at e;cases e
 apply I.step (g':=s.gens) (d':=s.drawn) (ch:=[it]) (λb hb=>?_) (λb o _ _ hc e _=>k b o (λz=>hc (by simp[z])) e) (λb o _ _ hc e _=>#[o.slots,k b o (λz=>hc (by simp[z])) e]) (λ_ _ _ _ n=>n)
  (λb o hc e=>#[o,k b o (λz=>hc (by simp[z])) e]) (λ_ _ e=>e) (λ_ _ _ e=>e) (λb ps e=>#[#[],by rw[e];simp]) (λm hm=>?_) (λb u e=>?_) I.bare
 ·have e:b=it:=⇑hb
  subst e;exact#[h1,hL,h2,h3]
 ·let#[o,es,ep,ho,r]:=hm;exact#[o,es,ep,k _ o (bJ hL) ho,r]
 apply (I.az b u e).eg (λc v hc q=>k c v ?_ q) (λ_ q=>q) λ_ _ q=>q;rcases hc with z|z
 ·rw[z];exact Ql b u e
 exact Ql c _ z
theorem Inv.tok(I:Inv X pins σ H s)(t:Nat):Inv X pins σ H { s with toks:=t }:=I.un (h':=s.heap) (t':=t) Un.refl I.az
theorem Inv.kept(I:Inv X pins σ H s)(k:∀b u,s.heap.get? b\u->h'.get? b\u):Inv X pins σ H { s with heap:=h',toks:=t' }:=I.un (Un.kept k) (I.az.kept k)
variable{o:HO}
theorem Inv.laid(I:Inv X pins σ H s)(k:∀b u,s.heap.get? b\u->h'.get? b\u)(hp:s.heap.objs.size<=a)(new:ft X.prog X.w (upd H a o) h' a o) :
  Inv X pins σ (upd H a o) { s with heap:=h',toks:=t' }:=I.un (Un.laid k hp (I.az.fresh hp)) (I.az.laid k hp new)
theorem Inv.write{x e:Addr}(I:Inv X pins σ H s)(mu:FO (H x))(he:e=x∨H e\.own x)(k:∀b u,b≠e->s.heap.get? b\u->h'.get? b\u)(Bg:∃u,h'.get? e\u)(new:ft X.prog X.w (upd H x o) h' x o):Inv X pins σ (upd H x o) { s with heap:=h',toks:=t' }:=I.un (Un.write mu he k Bg) (I.az.write mu he k Bg new)
theorem Inv.nh{xj:List (Addr × Obj)}(I:Inv X pins σ H s)(h:∀p∈xj,s.heap.get? p.1\p.2/\H p.1=none/\p.1≠X.env.locals/\p.1∉X.fs/\∀v,p.2.data≠.cell v):Inv X xj σ H s:=
 #[I.ok,I.os,I.bare,I.base,I.loc,I.cell,I.free,I.d0,λp hp=>(d8.mp hp).elim (λz=>I.pin p (List.mem_append_left _ z)) (h p),I.az,I.len]
variable{x:Str}{i:Nat}
theorem SK{N:af}(hN:N.Nodup){j:Nat}(a:N[i]? = some x)(b:N[j]? = some x):i=j:=by
 let#[h1,e1]:=bY.mp a;let#[h2,e2]:=bY.mp b;exact (List.getElem_inj hN).mp (e1.trans e2.symm)
variable{M:Model}{A:Af}{E:Aa->Ab->Prop}{v:V}{u:Aa}{Q:Unit->Ab->Prop}
theorem Tx(I:Inv X pins σ H s)(hN:X.N.Nodup)(hi:X.N[i]? = some x)(hx:Loc X.env.scope x)(r:RelV v u)(h:∀s',Inv X pins (σ.set i (some v)) H s'->(∃a,Heap.SameBut a s.heap s'.heap/\(a=X.env.locals∨X.env.cells.lookup x\a))->Q () s')(hf:X.fn x=true∨X.env.scope.names.lookup x\.local:=by first|exact .inl Z|exact .inr Z|assumption):wpAny M A (storeName X.env x u) Q E s:=by
 let#[m,hn,hl]:=id I.loc;have L_:(X.env.scope.kind == .class || (X.env.scope.kind == .module&&X.env.locals != X.env.globals))=false:=by rw[I.ok.kind];rfl
 have Ek:i<σ.length:=by rw[I.len];exact (bY.mp hi).1
 let ux:=I.ux
 have tracked:∀{a:Addr} {h':Heap},(∃o,s.heap.get? a\o/\H a=none)->Heap.SameBut a s.heap h'->fO X.prog X.w H h':=λ{a h'} ha hs b ob e=>by
  let#[_,_,xA]:=ha;apply (I.az b ob e).eg (λc w' hc q=>(hs.2 c ?_).trans q) (λ_ q=>q) λ_ _ q=>q;rintro rfl;rcases hc with rfl|hc
  ·rw[xA] at e;cases e
  rw[xA] at hc;cases hc
 rcases hx with hk|hk
 ·apply wpAny_storeName_local hk hn (λh' D9 hs=>?_) L_;let#[oL,_,_,GR,_]:=id hn;apply h _ #[I.ok,I.os,I.bare,#[λb o e n hb hx=>?_,λb o e n hb hx=>?_,I.base.free,λb o e hx=>?_,I.base.gN,I.base.gU,I.base.ia],#[_,D9,λj y v' e1 e2 e3=>?_],λy c e=>?_,I.free,I.d0,λp hp=>?_,tracked #[oL,GR,I.free] hs,by simpa using I.len] #[_,hs,.inl Z]
  ·exact (hs.2 b (dR (jn (bz e) I.ok.above))).trans (I.base.keep b o e n hb hx)
  ·let#[sl,e1]:=I.base.slot b o e n hb hx;exact#[sl,(hs.2 b (dR (jn (bz e) I.ok.above))).trans e1]
  ·let#[o',e1]:=I.base.there b o e hx;exact#[o',(hs.2 b (dR (jn (bz e) I.ok.above))).trans e1]
  ·by_cases hj:j=i
   ·subst hj;rw[hi] at e1;cases e1;rw[List.getElem?_set_self Ek] at e2;cases e2;exact#[u,r,.inl #[hk,by simp]]
   rw[List.getElem?_set_ne (bJ hj)] at e2;let#[u',r',q]:=hl j y v' e1 e2 e3;apply#[u',r',?_];rcases q with⟨k,e⟩|⟨k,c,e,z⟩
   ·apply .inl #[k,?_];have:y≠x:=λe=>hj (SK hN e1 (e▸hi));simp[this,e]
   exact .inr #[k,c,e,z.sameBut hs (ux y c e)]
  ·let#[w',z]:=I.cell y c e;exact#[w',z.sameBut hs (ux y c e)]
  let#[e,n,ne,nf,d]:=I.pin p hp;exact#[(hs.2 p.1 ne).trans e,n,ne,nf,d]
 have LW:X.fn x=true:=by
  rcases hf with z|z
  ·exact z
  rw[z] at hk;cases hk
 let#[c,hc]:=I.ok.has x (.inl hk);let#[w',z]:=I.cell x c hc;apply wpAny_storeName_cell I.ok.kind hk hc z (λh' G5 hs=>?_);let#[oc,D5,Ly]:=id z;apply h { s with heap:=h' } #[I.ok,I.os,I.bare,#[λb o e n hb hx=>?_,λb o e n hb hx=>?_,I.base.free,λb o e hx=>?_,I.base.gN,I.base.gU,I.base.ia],#[m,hn.sameBut hs (bJ (ux x c hc)),λj y v' e1 e2 e3=>?_],λy c' e=>?_,I.free,I.d0,λp hp=>?_,tracked #[oc,D5,I.d0 x c hc] hs,by simpa using I.len] #[c,hs,.inr hc]
 ·exact (hs.2 b (dR (jn (bz e) (I.ok.Bx x c LW hc)))).trans (I.base.keep b o e n hb hx)
 ·let#[sl,e1]:=I.base.slot b o e n hb hx;exact#[sl,(hs.2 b (dR (jn (bz e) (I.ok.Bx x c LW hc)))).trans e1]
 ·let#[o',e1]:=I.base.there b o e hx;exact#[o',(hs.2 b (dR (jn (bz e) (I.ok.Bx x c LW hc)))).trans e1]
 ·by_cases hj:j=i
  ·subst hj;rw[hi] at e1;cases e1;rw[List.getElem?_set_self Ek] at e2;cases e2;exact#[u,r,.inr #[.inl hk,c,hc,G5]]
  rw[List.getElem?_set_ne (bJ hj)] at e2;let#[u',r',q]:=hl j y v' e1 e2 e3;apply#[u',r',?_];rcases q with q|⟨k,c',e,z'⟩
  ·exact .inl q
  apply .inr #[k,c',e,z'.sameBut hs ?_];rintro rfl;exact hj (SK hN e1 (I.ok.inj _ _ _ e hc▸hi))
 ·by_cases RN:c'=c
  ·subst RN;exact#[_,G5]
  let#[w2,z2]:=I.cell y c' e;exact#[w2,z2.sameBut hs RN]
 let#[e,n,ne,nf,d]:=I.pin p hp;apply#[(hs.2 p.1 ?_).trans e,n,ne,nf,d];intro q;rw[q,D5] at e;have q':oc=p.2:=cY e;exact d w' (by rw[<- q'];exact Ly)
theorem SR(I:Inv X pins σ H s)(hN:X.N.Nodup)(hi:X.N[i]? = some x)(hx:Loc X.env.scope x)(r:RelV v u)(h:∀s',Inv X pins (σ.set i (some v)) H s'->Q () s')(hf:X.fn x=true∨X.env.scope.names.lookup x\.local:=by first|exact .inl Z|exact .inr Z|assumption):wpAny M A (storeName X.env x u) Q E s:=
 Tx I hN hi hx r (λs' I' _=>h s' I') hf
theorem Inv.Fb{s':Ab}(I:Inv X pins σ H s)(ho:s'.os=s.os)(u:Un (oO X.stack) ch H H' s.heap s'.heap)(az:fO X.prog X.w H' s'.heap)(hg:AllBare s'.gens)(uo:∀b∈ch,(b∈X.ex∨X.dc.heap.objs.size<=b)/\b≠X.env.locals/\(∀x c,X.env.cells.lookup x\c->c≠b)/\∀p∈X.pn++pins,p.1≠b):Inv X pins σ H' s':=by
 let#[h',g',d',t',o']:=s';have e:o'=s.os:=ho;subst e;exact I.call (g':=g') (t':=t') (d':=d') u az hg uo
abbrev XK:=Aa->Option Addr->Hp->Prop
abbrev St:=List aL
abbrev VK:=V->Hp->Prop
abbrev TE:=St->Hp->VK->Prop
abbrev TT:=St->Hp->(Bool->Hp->Prop)->Prop
abbrev TA:=St->Hp->(ag->Hp->Prop)->Prop
structure Ends where
 nx:St->Hp->Prop
 rt:VK
 bk:St->Hp->Prop:=λ_ _=>False
 ct:St->Hp->Prop:=λ_ _=>False
abbrev TS:=Ends->St->Hp->Prop
def EP(X:Cx)(pins:List (Addr × Obj))(σ:St)(Q:VK)(u:Aa)(s':Ab):Prop:=∃v H',Inv X pins σ H' s'/\RelV v u/\Q v H'
def TP(X:Cx)(pins:List (Addr × Obj))(σ:St)(Q:Bool->Hp->Prop)(b:Bool)(s':Ab):Prop:=∃H',Inv X pins σ H' s'/\Q b H'
def AP(X:Cx)(pins:List (Addr × Obj))(σ:St)(Q:ag->Hp->Prop)(us:aj)(s':Ab):Prop:=∃vs H',Inv X pins σ H' s'/\Vals vs us/\Q vs H'
def SP(X:Cx)(pins:List (Addr × Obj))(D:Ends)(f:Flow)(s':Ab):Prop:=
 match f with
 |.next=>∃aX H',Inv X pins aX H' s'/\D.nx aX H'
 |.brk=>∃aX H',Inv X pins aX H' s'/\D.bk aX H'
 |.cont=>∃aX H',Inv X pins aX H' s'/\D.ct aX H'
 |.ret u=>∃v aX H',Inv X pins aX H' s'/\RelV v u/\D.rt v H'
def PE(X:Cx)(e:Expr)(t:TE):Prop:=
 ∀(pins:List (Addr × Obj)) (s:Ab) (σ:St) (H:Hp) (Q:VK),Inv X pins σ H s->t σ H Q->wpAny (model X.prog X.w) X.A (eval e X.env) (EP X pins σ Q) X.xe s
def PT(X:Cx)(e:Expr)(t:TT):Prop:=
 ∀(pins:List (Addr × Obj)) (s:Ab) (σ:St) (H:Hp) (Q:Bool->Hp->Prop),Inv X pins σ H s->t σ H Q->wpAny (model X.prog X.w) X.A (isTrue e X.env (eval e X.env)) (TP X pins σ Q) X.xe s
def PW(X:Cx)(e:Expr)(t:TT):Prop:=
 ∀(whole:Sem Aa) (pins:List (Addr × Obj)) (s:Ab) (σ:St) (H:Hp) (Q:Bool->Hp->Prop),Inv X pins σ H s->t σ H Q->wpAny (model X.prog X.w) X.A (isTrue e X.env whole) (TP X pins σ Q) X.xe s
theorem PW.pt{e:Expr}{t:TT}(h:PW X e t):PT X e t:=h _
def PA(X:Cx)(es:List Expr)(t:TA):Prop:=
 ∀(pos:Pos) (pins:List (Addr × Obj)) (s:Ab) (σ:St) (H:Hp) (Q:ag->Hp->Prop),Inv X pins σ H s->t σ H Q->wpAny (model X.prog X.w) X.A (spliced (backTo pos (starEach es X.env))) (AP X pins σ Q) X.xe s
def PS(X:Cx)(st:Stmt)(t:TS):Prop:=
 ∀(pins:List (Addr × Obj)) (s:Ab) (σ:St) (H:Hp) (D:Ends),Inv X pins σ H s->t D σ H->wpAny (model X.prog X.w) X.A (exec st X.env) (SP X pins D) X.xe s
def kE(X:Cx)(st:List Stmt)(t:TS):Prop:=
 ∀(pins:List (Addr × Obj)) (s:Ab) (σ:St) (H:Hp) (D:Ends),Inv X pins σ H s->t D σ H->wpAny (model X.prog X.w) X.A (execs st X.env) (SP X pins D) X.xe s
theorem aO{α:Type}{t:Sem α}{Q Q':α->Ab->Prop}(h:wpAny M A t Q E s)(hQ:∀a s,Q a s->Q' a s):wpAny M A t Q' E s:=wpAny_mono h hQ λ_ _ x=>x
end L2
abbrev oZ:=L2.St->L2.Hp->Prop
abbrev bZ:=Nat->L2.St->L2.Hp->Prop
namespace L2
open PySem PySem.Spec PyProof.Rows
variable{pos:Pos}
variable{σ:St}
variable{op:CmpOp}
variable{c:Expr}
section
variable{X:Cx}
inductive oq (i:Nat) (σ:St) (H:Hp) (Q:VK):Prop
 |mk:∀v,σ[i]? = some (some v)->Q v H->oq i σ H Q
def tC(v:V):TE:=λ_ H Q=>Q v H
theorem YA{i:Nat}{x:Str}(hN:X.N[i]? = some x)(hv:Pb X.env.scope x)(hd:(x == ("__debug__":Str))=false:=by decide)(ik:(x == ("__classdict__":Str))=false:=by decide):PE X (.Name x pos) (oq i):=by
 intro pins s σ H Q I h;let#[v,e,h]:=h;let#[m,hn,hl]:=I.loc;let#[u,r,l]:=hl i x v hN e hv;have fin:EP X pins σ Q u s:=#[v,H,I,r,h];rcases l with⟨hk,hm⟩|⟨hk,c,hc,nJ⟩
 ·exact wpAny_Name (wpAny_loadName_local I.ok.kind hk hn hm fin) hd
 rcases hk with hk|hk
 ·exact wpAny_Name (wpAny_loadName_cell I.ok.kind hk hc nJ fin) hd
 exact wpAny_Name (wpAny_loadName_free I.ok.kind hk hc nJ fin ik) hd
theorem aB{i j pos}:PE X (.Constant (.int i) j pos) (tC (.int i)):=λ_ _ _ H _ I h=>wpAny_Constant_int #[.int i,H,I.tok _,#[_,Z],h]
theorem iV{b j pos}:PE X (.Constant (.bool b) j pos) (tC (.bl b)):=λ_ _ _ H _ I h=>Constant_bool #[.bl b,H,I,Z,h]
theorem uG{j pos}:PE X (.Constant .none j pos) (tC .non):=λ_ _ _ H _ I h=>Constant_none #[.non,H,I,Z,h]
theorem sZ{x j pos}:PE X (.Constant (.str x) j pos) (tC (.str x)):=λ_ _ _ H _ I h=>Calls.Constant_str #[.str x,H,I.tok _,#[_,Z],h]
def Gl(X:Cx)(x:Str):Prop:=X.env.kindOf x=some .globalImplicit
theorem MV{E:Aa->Ab->Prop}{pins:List (Addr × Obj)}{s:Ab}{H:Hp}{x:Str}{u:Aa}{Q:Aa->Ab->Prop}(I:Inv X pins σ H s)(hg:Gl X x)(hm:X.mg x\u)(h:Q u s)(hd:(x == ("__debug__":Str))=false:=by decide):wpAny (model X.prog X.w) X.A (eval (.Name x pos) X.env) Q E s:=
 Calls.Name_function_global I.ok.kind hg (Calls.loadGlobal_global (by rw[I.ok.glob];exact I.mod.glob.keeps I.bk) hm h) hd
theorem wm{E:Aa->Ab->Prop}{pins:List (Addr × Obj)}{s:Ab}{H:Hp}{x:Str}{u:Aa}{Q:Aa->Ab->Prop}(I:Inv X pins σ H s)(hg:Gl X x)(hm:X.mg x=none)(hv:bootBuiltins x\u)(h:Q u s)(hn:x≠"__name__":=by decide)(hd:(x == ("__debug__":Str))=false:=by decide):wpAny (model X.prog X.w) X.A (eval (.Name x pos) X.env) Q E s:=by
 let#[mb,h1,h2]:=I.mod.blt;exact Calls.Name_function_global I.ok.kind hg (Calls.loadGlobal_builtin (by rw[I.ok.glob];exact I.mod.glob.keeps I.bk) hm (by rw[I.ok.blt];exact h1.keeps I.bk) ((h2 x hn).trans hv) h) hd
theorem Fo{x:Str}{v:V}{u:Aa}(hg:Gl X x)(hm:X.mg x\u)(r:RelV v u)(hd:(x == ("__debug__":Str))=false:=by decide):PE X (.Name x pos) (tC v):=
 λ_ _ _ H _ I h=>MV I hg hm #[v,H,I,r,h] hd
theorem jP{x:Str}{v:V}{u:Aa}(hg:Gl X x)(hm:X.mg x=none)(hv:bootBuiltins x\u)(r:RelV v u)(hn:x≠"__name__":=by decide)(hd:(x == ("__debug__":Str))=false:=by decide):PE X (.Name x pos) (tC v):=
 λ_ _ _ H _ I h=>wm I hg hm hv #[v,H,I,r,h] hn hd
variable{a b:Expr}{ta tb:TE}{pos:Pos}
def PC(X:Cx)(op:CmpOp)(a b:Expr)(t:TE):Prop:=
 ∀(pins:List (Addr × Obj)) (s:Ab) (σ:St) (H:Hp) (Q:VK),Inv X pins σ H s->t σ H Q->
  wpAny (model X.prog X.w) X.A (eval a X.env) (λv aJ=>wpAny (model X.prog X.w) X.A (eval b X.env) (λu jq=>wpAny (model X.prog X.w) X.A (compareOp op v u) (EP X pins σ Q) X.xe jq) X.xe aJ) X.xe s
theorem jw(b:Expr)(h:op≠.In)(h2:op≠.NotIn):behindInMarks op b=false:=by
 have e1:(op == CmpOp.In)=false:=by cases op<;>first|rfl|exact absurd Z h
 have e2:(op == CmpOp.NotIn)=false:=by cases op<;>first|rfl|exact absurd Z h2
 cases b<;>simp[behindInMarks,e1,e2]
def JY(ta:TE):TE:=λσ H Q=>ta σ H λx H1=>Q (.bl (decide (x=.non))) H1
def Cf(ta:TE):TE:=λσ H Q=>ta σ H λx H1=>Q (.bl (!decide (x=.non))) H1
theorem RelV.jv{x:V}{v:Aa}(r:RelV x v):(v == Value.none)=decide (x=.non):=by
 cases x with
 |non=>cases r;rfl
 |bl _=>cases r;rfl
 |int _=>let#[t,rfl]:=r;rfl
 |str _=>let#[t,rfl]:=r;rfl
 |byt _=>let#[t,rfl]:=r;rfl
 |flt _=>let#[t,rfl]:=r;rfl
 |ref _=>cases r;rfl
 |ty _=>cases r;rfl
theorem HX{j pos'}(ha:PE X a ta):PC X .Is a (.Constant .none j pos') (JY ta):=by
 intro pins s σ H Q I h;apply aO (ha pins s σ H _ I h) λv s1 ⟨x,H1,I1,r1,q1⟩=>?_;exact Constant_none (is_none_gen #[.bl _,H1,I1,by rw[r1.jv];rfl,q1])
theorem YS{j pos'}(ha:PE X a ta):PC X .IsNot a (.Constant .none j pos') (Cf ta):=by
 intro pins s σ H Q I h;apply aO (ha pins s σ H _ I h) λv s1 ⟨x,H1,I1,r1,q1⟩=>?_;exact Constant_none (isnot_none_gen #[.bl _,H1,I1,by rw[r1.jv];rfl,q1])
inductive PR (Q:Bool->Hp->Prop) (x:V) (H1:Hp):Prop
 |mk:∀c,x=.bl c->Q c H1->PR Q x H1
def tB(t:TE):TT:=λσ H Q=>t σ H λx H1=>PR Q x H1
theorem Hh{t:TE}(h:PC X op a b t)(h1:behindInMarks op b=false:=by first|exact jw _ (by decide) (by decide)|rfl):PE X (.Compare a [op] [b] pos) t:=λpins s σ H Q I hw=>wpAny_Compare1 (h pins s σ H Q I hw) h1
theorem tE{t:TE}(h:PC X op a b t)(h1:behindInMarks op b=false:=by first|exact jw _ (by decide) (by decide)|rfl):PT X (.Compare a [op] [b] pos) (tB t):=by
 intro pins s σ H Q I hw;apply wpAny_isTrue_Compare1 (aO (h pins s σ H _ I hw) λv s1 h1=>aO h1 λu s2 h2=>aO h2 λc s3 ⟨x,H1,I1,r1,q1⟩=>?_) h1;let#[d,rfl,q]:=q1;cases r1;exact uw #[H1,I1,q]
theorem eO{e:Expr}{t:TE}(h:PE X e t)(he:∀whole,isTrue e X.env whole=(do let v <- whole;standAt e.pos;holding [v] (truthy v)):=by intro _;rfl):PT X e (tB t):=by
 intro pins s σ H Q I hw;apply isTrue_plain (aO (h pins s σ H _ I hw) λv s1 ⟨x,H1,I1,r1,q1⟩=>?_) (he _);let#[d,rfl,q]:=q1;cases r1;exact uw #[H1,I1,q]
variable{tA F1:TT}{rest:List Expr}
def J5(t u:TT):TT:=λσ H Q=>t σ H λc H1=>if c=true then u σ H1 Q else Q false H1
def Wf(t u:TT):TT:=λσ H Q=>t σ H λc H1=>if c=true then Q true H1 else u σ H1 Q
def JW(t:TT):TT:=λσ H Q=>t σ H λc H1=>Q (!c) H1
theorem R9(ha:PT X a tA):PW X (.BoolOp .And [a] pos) tA:=by
 intro wh pins s σ H Q I h;apply isTrue_and (aO (ha pins s σ H Q I h) λc s1 e=>?_);cases c with
 |true=>exact isTrue_and_nil e
 |false=>exact e
theorem pK(ha:PT X a tA):PW X (.BoolOp .Or [a] pos) tA:=by
 intro wh pins s σ H Q I h;apply isTrue_or (aO (ha pins s σ H Q I h) λc s1 e=>?_);cases c with
 |false=>exact isTrue_or_nil e
 |true=>exact e
theorem QU(ha:PT X a tA)(hb:PW X (.BoolOp .And (b::rest) pos) F1):PW X (.BoolOp .And (a::b::rest) pos) (J5 tA F1):=by
 intro wh pins s σ H Q I h;apply isTrue_and (aO (ha pins s σ H _ I h) λc s1 ⟨H1,I1,q1⟩=>?_);cases c with
 |true=>exact hb wh pins s1 σ H1 Q I1 q1
 |false=>exact#[H1,I1,q1]
theorem oT(ha:PT X a tA)(hb:PW X (.BoolOp .Or (b::rest) pos) F1):PW X (.BoolOp .Or (a::b::rest) pos) (Wf tA F1):=by
 intro wh pins s σ H Q I h;apply isTrue_or (aO (ha pins s σ H _ I h) λc s1 ⟨H1,I1,q1⟩=>?_);cases c with
 |true=>exact#[H1,I1,q1]
 |false=>exact hb wh pins s1 σ H1 Q I1 q1
theorem eV(ha:PT X a tA):PT X (.UnaryOp .Not a pos) (JW tA):=by
 intro pins s σ H Q I h;exact isTrue_not (ha pins s σ H (λc H1=>Q (!c) H1) I h)
inductive qc (tb:TE) (σ:St) (Q:VK) (x:V) (H1:Hp):Prop
 |mk:∀c,x=.bl c->(if c=true then tb σ H1 Q else Q (.bl false) H1)->qc tb σ Q x H1
def Co(ta tb:TE):TE:=λσ H Q=>ta σ H λx H1=>qc tb σ Q x H1
inductive wM (tb:TE) (σ:St) (Q:VK) (x:V) (H1:Hp):Prop
 |mk:∀c,x=.bl c->(if c=true then Q (.bl true) H1 else tb σ H1 Q)->wM tb σ Q x H1
def JV(ta tb:TE):TE:=λσ H Q=>ta σ H λx H1=>wM tb σ Q x H1
inductive p7 (Q:VK) (x:V) (H1:Hp):Prop
 |mk:∀c,x=.bl c->Q (.bl (!c)) H1->p7 Q x H1
def Ce(ta:TE):TE:=λσ H Q=>ta σ H λx H1=>p7 Q x H1
theorem uF{op}{t:TE}(h:PE X a t):PE X (.BoolOp op [a] pos) t:=λpins s σ H Q I hw=>BoolOp_one (h pins s σ H Q I hw)
theorem s_(ha:PE X a ta)(hb:PE X (.BoolOp .And (b::rest) pos) tb):PE X (.BoolOp .And (a::b::rest) pos) (Co ta tb):=by
 intro pins s σ H Q I h;apply BoolOp_and (aO (ha pins s σ H _ I h) λv s1 ⟨x,H1,I1,r1,q1⟩=>?_);let#[c,rfl,q1]:=q1;cases r1;apply uw ?_;cases c with
 |true=>exact hb pins s1 σ H1 Q I1 q1
 |false=>exact#[.bl false,H1,I1,Z,q1]
theorem Yn(ha:PE X a ta)(hb:PE X (.BoolOp .Or (b::rest) pos) tb):PE X (.BoolOp .Or (a::b::rest) pos) (JV ta tb):=by
 intro pins s σ H Q I h;apply BoolOp_or (aO (ha pins s σ H _ I h) λv s1 ⟨x,H1,I1,r1,q1⟩=>?_);let#[c,rfl,q1]:=q1;cases r1;apply uw ?_;cases c with
 |false=>exact hb pins s1 σ H1 Q I1 q1
 |true=>exact#[.bl true,H1,I1,Z,q1]
theorem Ra(ha:PE X a ta):PE X (.UnaryOp .Not a pos) (Ce ta):=by
 intro pins s σ H Q I h;apply UnaryOp_ (aO (ha pins s σ H _ I h) λv s1 ⟨x,H1,I1,r1,q1⟩=>?_);let#[c,rfl,q1]:=q1;cases r1;exact not_of (uw #[.bl (!c),H1,I1,Z,q1])
def Wg(t:TT)(ta tb:TE):TE:=λσ H Q=>t σ H λc H1=>if c=true then ta σ H1 Q else tb σ H1 Q
theorem _s(hc:PT X c tA)(ha:PE X a ta)(hb:PE X b tb):PE X (.IfExp c a b pos) (Wg tA ta tb):=by
 intro pins s σ H Q I h;apply wpAny_IfExp (aO (hc pins s σ H _ I h) λd s1 ⟨H1,I1,q1⟩=>?_);cases d with
 |true=>exact ha pins s1 σ H1 Q I1 q1
 |false=>exact hb pins s1 σ H1 Q I1 q1
end
def dX(K:ai)(H:Hp)(a:Addr)(xs:ag):Prop:=
 Rd H a (.lst xs) ∨
  ∃(o:Obj) (its:Array Aa) (n:Nat),K.lookup a\o/\o.cls=.type "list"/\o.dict=none/\o.data=.seq its n/\its.size<=sizeLine/\Vals xs its.toList
def fo(K:ai)(H:Hp)(a:Addr)(xs:ag):Prop:=
 Rd H a (.tup xs) ∨
  ∃(o:Obj) (its:Array Aa) (n:Nat),K.lookup a\o/\o.cls=.type "tuple"/\o.data=.seq its n/\its.size<=sizeLine/\Vals xs its.toList
def Pa:Aa->aL
 |.none=>some .non
 |.bool b=>some (.bl b)
 |.int i _=>some (.int i)
 |.str x _=>some (.str x)
 |.bytes b _=>some (.byt b)
 |.float b _=>some (.flt b)
 |.ref a=>some (.ref a)
 |.type n=>some (.ty n)
 |_=>none
theorem RelV.abs{x:V}{u:Aa}(r:RelV x u):Pa u\x:=by
 cases x with
 |non=>cases r;rfl
 |bl _=>cases r;rfl
 |int _=>let#[t,rfl]:=r;rfl
 |str _=>let#[t,rfl]:=r;rfl
 |byt _=>let#[t,rfl]:=r;rfl
 |flt _=>let#[t,rfl]:=r;rfl
 |ref _=>cases r;rfl
 |ty _=>cases r;rfl
theorem RelV.inj{x y:V}{u:Aa}(r:RelV x u)(q:RelV y u):x=y:=cY (r.abs.symm.trans q.abs)
theorem Vals.inj:∀{xs ys:ag} {us:aj},Vals xs us->Vals ys us->xs=ys
 |_,_,_,.nil,.nil=>rfl
 |_,_,_,.cons r t,.cons r' t'=>by rw[r.inj r',Vals.inj t t']
section
variable{X:Cx}{pins:List (Addr × Obj)}{σ:St}{H:Hp}{s:Ab}{a:Addr}{xs ys:ag}
theorem dX.of{K:ai}(h:H a\.lst xs):dX K H a xs:=.inl (.inl h)
theorem fo.of{K:ai}(h:H a\.tup xs):fo K H a xs:=.inl (.inl h)
theorem Inv.list(I:Inv X pins σ H s)(h:dX X.K H a xs):∃its:aj,Vals xs its/\PlainL s.heap a its.toArray/\xs.length<=sizeLine:=by
 rcases h with h|⟨o,its,n,hk,hc,hd,hs,hz,r⟩
 ·let#[z,its,n,r,e]:=h.ok I.az;exact#[its,r,#[_,n,e,Z,Z,Z],z]
 apply#[its.toList,r,#[o,n,I.gz a o hk,hc,hd,by simpa using hs],?_];let e:=r.length;simp only[tJ] at e;omega
theorem Inv.tuple(I:Inv X pins σ H s)(h:fo X.K H a xs):∃its:aj,Vals xs its/\IsTup s.heap a its.toArray/\xs.length<=sizeLine:=by
 rcases h with h|⟨o,its,n,hk,hc,hs,hz,r⟩
 ·let#[z,its,r,p,_]:=h.ok I.az;exact#[its,r,p,z]
 apply#[its.toList,r,#[o,I.gz a o hk,hc,n,by simpa using hs],?_];let e:=r.length;simp only[tJ] at e;omega
theorem Inv.jz(I:Inv X pins σ H s)(h:dX X.K H a xs)(h':dX X.K H a ys):xs=ys:=by
 let#[its,r,#[o,n,e,_,_,d],_]:=I.list h;let#[its',r',#[o',n',e',_,_,d'],_]:=I.list h';rw[e] at e';cases e';rw[d] at d'
 injection d' with d1 _
 have:its=its':=⇑(d5 Array.toList d1)
 subst this;exact r.inj r'
theorem Inv.dM(I:Inv X pins σ H s)(h:fo X.K H a xs)(h':fo X.K H a ys):xs=ys:=by
 let#[its,r,#[o,e,_,n,d],_]:=I.tuple h;let#[its',r',#[o',e',_,n',d'],_]:=I.tuple h';rw[e] at e';cases e';rw[d] at d'
 injection d' with d1 _
 have:its=its':=⇑(d5 Array.toList d1)
 subst this;exact r.inj r'
end
abbrev Cx.hZ(X:Cx)(E:Aa->Ab->Prop):Cx:={ X with xe:=E }
abbrev Cx.y6(X:Cx):Cx:=X.hZ λ_ _=>False
theorem Cx.Ok.hZ{X:Cx}(ok:X.Ok)(E:Aa->Ab->Prop):(X.hZ E).Ok:=
 #[ok.mod,ok.kind,ok.glob,ok.blt,ok.above,ok.inj,ok.has,ok.Bx,ok.hd,ok.frames,ok.F2,ok.Hl,ok.bs,ok.tq,ok.rE,ok.rZ,ok.fR,ok.vU]
theorem Cx.Ok.ed{X:Cx}{E:Aa->Ab->Prop}(ok:(X.hZ E).Ok):X.Ok:=
 #[ok.mod,ok.kind,ok.glob,ok.blt,ok.above,ok.inj,ok.has,ok.Bx,ok.hd,ok.frames,ok.F2,ok.Hl,ok.bs,ok.tq,ok.rE,ok.rZ,ok.fR,ok.vU]
section
variable{X:Cx}{pins:List (Addr × Obj)}{σ:St}{H:Hp}{s:Ab}{E:Aa->Ab->Prop}
theorem Inv.hZ(I:Inv X pins σ H s)(E:Aa->Ab->Prop):Inv (X.hZ E) pins σ H s:=#[I.ok.hZ E,I.os,I.bare,I.base,I.loc,I.cell,I.free,I.d0,I.pin,I.az,I.len]
theorem Inv.ed(I:Inv (X.hZ E) pins σ H s):Inv X pins σ H s:=#[I.ok.ed,I.os,I.bare,I.base,I.loc,I.cell,I.free,I.d0,I.pin,I.az,I.len]
theorem SP.ed{D:Ends}{f:Flow}{s':Ab}(h:SP (X.hZ E) pins D f s'):SP X pins D f s':=by
 cases f with
 |next=>let#[aX,H',I,q]:=h;exact#[aX,H',I.ed,q]
 |brk=>let#[aX,H',I,q]:=h;exact#[aX,H',I.ed,q]
 |cont=>let#[aX,H',I,q]:=h;exact#[aX,H',I.ed,q]
 |ret u=>let#[v,aX,H',I,r,q]:=h;exact#[v,aX,H',I.ed,r,q]
theorem kE.y6{st:List Stmt}{t:TS}(h:kE X.y6 st t):kE X st t:=λpins s σ H D I hw=>
 wpAny_mono (h pins s σ H D (I.hZ _) hw) (λ_ _ q=>q.ed) λ_ _ z=>False.elim z
end
section
variable{X:Cx}{st:Stmt}{rest:List Stmt}{t u:TS}{e:Expr}{te:TE}{pos:Pos}
def Cg:TS:=λD σ H=>D.nx σ H
def yl(t u:TS):TS:=λD σ H=>t { D with nx:=u D } σ H
theorem cm:kE X [] Cg:=λ_ _ σ H _ I h=>wpAny_execs_nil #[σ,H,I,h]
theorem av(h1:PS X st t)(h2:kE X rest u):kE X (st::rest) (yl t u):=by
 intro pins s σ H D I h;apply wpAny_execs_cons (aO (h1 pins s σ H { D with nx:=u D } I h) λf s1 q=>?_);cases f with
 |next=>
  let#[aX,H',I',q]:=q;exact h2 pins s1 aX H' D I' q
 |ret v=>exact q
 |brk=>exact q
 |cont=>exact q
theorem aF(h1:PS X st t):kE X [st] t:=by
 intro pins s σ H D I h;apply wpAny_execs_cons (aO (h1 pins s σ H D I h) λf s1 q=>?_);cases f with
 |next=>exact wpAny_execs_nil q
 |ret v=>exact q
 |brk=>exact q
 |cont=>exact q
theorem Inv.quiet{pins:List (Addr × Obj)}{H:Hp}{s:Ab}(I:Inv X pins σ H s):interactive X.env=false:=by simp[interactive,I.ok.kind]
def Cj(te:TE):TS:=λD σ H=>te σ H λ_ H1=>D.nx σ H1
theorem ml(he:PE X e te)(hs:swapsWith e none pos.line X.env=pure false:=by rfl):PS X (.Expr e pos) (Cj te):=by
 intro pins s σ H D I h;exact wpAny_Expr_any (aO (he pins s σ H _ I h) λv s1 ⟨x,H1,I1,r1,q1⟩=>#[σ,H1,I1,q1]) I.quiet hs
def JU(te:TE):TS:=λD σ H=>te σ H D.rt
theorem bu(he:PE X e te):PS X (.Return (some e) pos) (JU te):=by
 intro pins s σ H D I h;exact wpAny_Return_some (aO (he pins s σ H _ I h) λv s1 ⟨x,H1,I1,r1,q1⟩=>#[x,σ,H1,I1,r1,q1])
def JZ(c:TT)(t u:TS):TS:=λD σ H=>c σ H λb H1=>if b=true then t D σ H1 else u D σ H1
theorem b_{a b:List Stmt}{tc:TT}(hc:PT X c tc)(ha:kE X a t)(hb:kE X b u):PS X (.If c a b pos) (JZ tc t u):=by
 intro pins s σ H D I h;apply wpAny_If (aO (hc pins s σ H _ I h) λd s1 ⟨H1,I1,q1⟩=>?_);cases d with
 |true=>exact ha pins s1 σ H1 D I1 q1
 |false=>exact hb pins s1 σ H1 D I1 q1
def yo:TS:=λ_ _ _=>False
theorem gr{Wp:List Stmt}:kE X Wp yo:=λ_ _ _ _ _ _ h=>h.elim
end
abbrev TG:=V->St->Hp->(St->Hp->Prop)->Prop
abbrev AY:=ag->St->Hp->(St->Hp->Prop)->Prop
def PG(X:Cx)(target:Expr)(t:TG):Prop:=
 ∀(pins:List (Addr × Obj)) (s:Ab) (σ:St) (H:Hp) (v:V) (u:Aa) (Q:oZ),Inv X pins σ H s->RelV v u->t v σ H Q->
  wpAny (model X.prog X.w) X.A (assign target X.env u) (λ_ s'=>∃aX H',Inv X pins aX H' s'/\Q aX H') X.xe s
def FM(X:Cx)(ts:List Expr)(t:AY):Prop:=
 ∀(pins:List (Addr × Obj)) (s:Ab) (σ:St) (H:Hp) (vs:ag) (us:aj) (Q:oZ),Inv X pins σ H s->Vals vs us->t vs σ H Q->
  wpAny (model X.prog X.w) X.A (assignInOrder ((assignEach ts X.env).map (·.2)) us) (λ_ s'=>∃aX H',Inv X pins aX H' s'/\Q aX H') X.xe s
abbrev AX:=V->V->V->Hp->(Hp->Prop)->Prop
def FK(X:Cx)(t:AX):Prop:=
 ∀(pins:List (Addr × Obj)) (s:Ab) (σ:St) (H:Hp) (o i v:V) (ov iv u:Aa) (Q:Hp->Prop),Inv X pins σ H s->RelV o ov->RelV i iv->RelV v u->t o i v H Q->
  wpAny (model X.prog X.w) X.A (setItem ov iv u) (λ_ s'=>∃H',Inv X pins σ H' s'/\Q H') X.xe s
variable{es:List Expr}
variable{k n:Nat}
variable{tg:Expr}{te:TE}
variable{pos':Pos}
section
variable{X:Cx}{pos:Pos}
def kz(i:Nat):TG:=λv σ H Q=>Q (σ.set i (some v)) H
theorem eN{i:Nat}{x:Str}(hN:X.N.Nodup)(hi:X.N[i]? = some x)(hx:Loc X.env.scope x)(hf:X.fn x=true∨X.env.scope.names.lookup x\.local:=by first|exact .inl Z|exact .inr Z|assumption):PG X (.Name x pos) (kz i):=by
 intro pins s σ H v u Q I r h;exact wpAny_assign_Name (SR I hN hi hx r (λs' I'=>#[_,H,I',h]) hf)
theorem jh:type_of% PyProof.Rows.Boot.«isinstance»:=PyProof.Rows.Boot.«isinstance»
theorem Mu:type_of% PyProof.Rows.Boot.«int»:=PyProof.Rows.Boot.«int»
theorem Hi:type_of% PyProof.Rows.Boot.«str»:=PyProof.Rows.Boot.«str»
theorem uI:type_of% PyProof.Rows.Boot.«tuple»:=PyProof.Rows.Boot.«tuple»
theorem xV:type_of% PyProof.Rows.Boot.«list»:=PyProof.Rows.Boot.«list»
theorem Jc:type_of% PyProof.Rows.Boot.«sorted»:=PyProof.Rows.Boot.«sorted»
theorem tw:type_of% PyProof.Rows.Boot.«dict»:=PyProof.Rows.Boot.«dict»
theorem P_(i:Nat){x:Str}(hN:X.N.Nodup:=by first|(show ([_]:List Str).Nodup;decide +kernel)|(show ([_,_]:List Str).Nodup;decide +kernel)|(show ([_,_,_]:List Str).Nodup;decide +kernel)|(show ([_,_,_,_]:List Str).Nodup;decide +kernel))(hi:X.N[i]? = some x:=by rfl)(hx:Loc X.env.scope x:=by first|exact Or.inl Z|exact Or.inr Z)(hf:X.fn x=true∨X.env.scope.names.lookup x\.local:=by first|exact .inl Z|exact .inr Z|assumption):PG X (.Name x pos) (kz i):=eN hN hi hx hf
theorem cy(i:Nat){x:Str}(hN:X.N.Nodup)(hi:X.N[i]? = some x:=by rfl)(hx:Loc X.env.scope x:=by first|exact Or.inl Z|exact Or.inr Z)(hf:X.fn x=true∨X.env.scope.names.lookup x\.local:=by first|exact .inl Z|exact .inr Z|assumption):PG X (.Name x pos) (kz i):=eN hN hi hx hf
def rX:AY:=λvs σ H Q=>vs=[]/\Q σ H
inductive pE (t:TG) (u:AY) (vs:ag) (σ:St) (H:Hp) (Q:oZ):Prop
 |mk:∀v r,vs=v::r->(t v σ H λaX H'=>u r aX H' Q)->pE t u vs σ H Q
theorem i6:FM X [] rX:=by
 intro pins s σ H vs us Q I r h;let#[e,h]:=h;subst e;cases r;exact assignInOrder_nil ⟨σ,H,I,h⟩
theorem dC{e:Expr}{t:TG}{u:AY}(h1:PG X e t)(h2:FM X es u)(hs:(assignEach (e::es) X.env).map (·.2)=assign e X.env::(assignEach es X.env).map (·.2):=by rfl):FM X (e::es) (pE t u):=by
 intro pins s σ H vs us Q I r h;let#[v,vr,e1,h]:=h;subst e1;cases r with
 |cons r rr=>
  rw[hs];apply assignInOrder_cons (aO (h1 pins s σ H _ _ _ I r h) λ_ s1 ⟨mE,H1,I1,q1⟩=>?_);exact h2 pins s1 mE H1 _ _ Q I1 rr q1
inductive gA (K:ai) (n:Nat) (t:AY) (v:V) (σ:St) (H:Hp) (Q:oZ):Prop
 |mk:∀a xs,v=.ref a->fo K H a xs->xs.length=n->t xs σ H Q->gA K n t v σ H Q
theorem oU{t:AY}(hc:X.calm=true)(h:FM X es t)(hn:(assignEach es X.env).length=n:=by rfl)(zx:(assignEach es X.env).findIdx? (·.1)=none:=by rfl):PG X (.Tuple es k pos) (gA X.K n t):=by
 intro pins s σ H v u Q I r hw;let#[a,xs,e1,hq,hl,hw]:=hw;subst e1;cases r;let#[its,rv,ht,hz]:=I.tuple hq;apply assign_Tuple_tuple (I.ok.hd hc) ht (by simp[hn,<- hl,rv.length]) zx λh' hx=>?_;have I1:Inv X pins σ H { s with heap:=h' }:=I.kept (t':=s.toks) λb o e=>hx b o (dR (bz e)) e;exact h pins _ σ H xs _ Q I1 ⇑rv hw
def Mx(to ti:TE)(t:AX):TG:=λv σ H Q=>to σ H λo H1=>ti σ H1 λi H2=>t o i v H2 λH3=>Q σ H3
theorem Q5{o i:Expr}{to ti:TE}{t:AX}(ho:PE X o to)(hi:PE X i ti)(hs:FK X t)
  (ha:∀v,assign (.Subscript o i pos) X.env v=(do
   let ov <- holding [v] (eval o X.env)
   let iv <- holding [v,ov] (eval i X.env)
   standAt pos
   holding [v,ov,iv] (setItem ov iv v)
   release [v,ov,iv] []):=by intro _;rfl):PG X (.Subscript o i pos) (Mx to ti t):=by
 intro pins s σ H v u Q I r h;rw[ha];apply ae (iX (aO (ho pins s σ H _ I h) λov s1 ⟨x,H1,I1,r1,q1⟩=>?_));apply ae (iX (aO (hi pins s1 σ H1 _ I1 q1) λiv s2 ⟨y,H2,I2,r2,q2⟩=>?_));apply ae (wpAny_standAt (ae (iX (aO (hs pins s2 σ H2 x y v ov iv u _ I2 r1 r2 r q2) λ_ s3 ⟨H3,I3,q3⟩=>?_))));exact wpAny_release #[σ,H3,I3,q3]
def yw(te:TE)(g:TG):TS:=λD σ H=>te σ H λx H1=>g x σ H1 D.nx
theorem HY{e:Expr}{g:TG}(he:PE X e te)(hg:PG X tg g)(hs:swapsWithSole [tg] e pos.line X.env=pure false:=by rfl)(hw:swappedStores [tg] e X.env=pure none:=by rfl)(h1:(assignEach [tg] X.env).map (·.2)=[assign tg X.env]:=by rfl):PS X (.Assign [tg] e pos) (yw te g):=by
 intro pins s σ H D I h;apply wpAny_Assign_stores (aO (he pins s σ H _ I h) λv s1 ⟨x,H1,I1,r1,q1⟩=>?_) hs hw;rw[h1];exact aO (hg pins s1 σ H1 x v _ I1 r1 q1) λ_ s2 q=>q
theorem Yu{i:Nat}{x:Str}{e:Expr}(hN:X.N.Nodup)(hi:X.N[i]? = some x)(hx:Loc X.env.scope x)(he:PE X e te)(hs:swapsWith e (some (.Name x pos')) pos.line X.env=pure false:=by rfl)(hf:X.fn x=true∨X.env.scope.names.lookup x\.local:=by first|exact .inl Z|exact .inr Z|assumption) :
  PS X (.Assign [.Name x pos'] e pos) (yw te (kz i)):=by
 intro pins s σ H D I h;apply wpAny_Assign_Name (aO (he pins s σ H _ I h) λv s1 ⟨y,H1,I1,r1,q1⟩=>?_) hs;exact SR I1 hN hi hx r1 (λs2 I2=>#[_,H1,I2,q1]) hf
theorem bj(i:Nat){x:Str}{e:Expr}(hN:X.N.Nodup)(he:PE X e te)(hi:X.N[i]? = some x:=by rfl)(hx:Loc X.env.scope x:=by first|exact Or.inl Z|exact Or.inr Z)(hs:swapsWith e (some (.Name x pos')) pos.line X.env=pure false:=by rfl)(hf:X.fn x=true∨X.env.scope.names.lookup x\.local:=by first|exact .inl Z|exact .inr Z|assumption):PS X (.Assign [.Name x pos'] e pos) (yw te (kz i)):=Yu hN hi hx he hs hf
end
variable{body:List Stmt}{tb:TS}
section
variable{X:Cx}{pos:Pos}
def pW(c:TT)(tb:TS):TS:=λD σ H=>∃W:Nat->St->Hp->Prop,(∃m,W m σ H)/\∀m σ H,W m σ H->
 c σ H λb H1=>if b=true then ∃N:St->Hp->Prop,(∀aX H',N aX H'->∃m',m'<m/\W m' aX H')/\tb { D with nx:=N,ct:=N,bk:=D.nx } σ H1 else D.nx σ H1
theorem IF{tc:TT}(hp:PassesOwn (model X.prog X.w) X.A X.env X.xe)(hc:PT X c tc)(hb:kE X body tb):PS X (.While c body [] pos) (pW tc tb):=by
 intro pins s σ H D I h;let#[W,#[m0,w0],turn]:=h;apply wpAny_While (codeAny_whileLoop (λn s'=>∃aX H',Inv X pins aX H' s'/\W n aX H') ?_ m0 #[σ,H,I,w0]);rintro n s1 ⟨mE,H1,I1,w1⟩;apply wpAny_passesOwn hp (aO (hc pins s1 mE H1 _ I1 (turn n mE H1 w1)) λb s2 ⟨H2,I2,q2⟩=>?_);cases b with
 |true=>
  let#[N,hN,q2]:=q2;rw[aI Z];apply wpAny_passesOwn hp (aO (hb pins s2 mE H2 _ I2 q2) λf s3 q3=>?_);cases f with
  |next=>
   let#[j_,H3,I3,n3]:=q3;let#[m',hm,w3]:=hN j_ H3 n3;exact#[m',hm,j_,H3,I3,w3]
  |cont=>
   let#[j_,H3,I3,n3]:=q3;let#[m',hm,w3]:=hN j_ H3 n3;exact#[m',hm,j_,H3,I3,w3]
  |brk=>exact q3
  |ret v=>exact q3
 |false=>
  rw[aA gE];exact wpAny_execs_nil #[mE,H2,I2,q2]
end
structure It where
 go:Nat->Hp->Prop
 uT:Nat->Hp->V->Hp->Prop
 stop:Nat->Hp->Prop
def dj(X:Cx)(pins:List (Addr × Obj))(H:Hp)(b:Addr):Prop:=
 H b=none/\b≠X.env.locals/\b∉X.fs/\(b∈X.ex∨X.dc.heap.objs.size<=b)/\(∀x c,X.env.cells.lookup x\c->c≠b)/\∀p∈X.pn++pins,p.1≠b
variable{b:Addr}
theorem Inv.jH{X:Cx}{pins:List (Addr × Obj)}{H H':Hp}{s:Ab}(I:Inv X pins σ H s)(hb:s.heap.objs.size<=b)(hn:H' b=none):dj X pins H' b:=by
 apply#[hn,i5 (jn I.lt hb),I.KA hb,.inr (iH I.sz hb),λx c e z=>?_,λp hp z=>?_]
 ·let#[v,q]:=I.cell x c e;exact absurd (jn q.lt (by rw[z];exact hb)) (tO _)
 exact absurd (jn (bz (I.pin p hp).1) (by rw[z];exact hb)) (tO _)
structure Turn (P:Ad) (w:Ag) (K:ai) (tg:Expr) (J:It) (fp:au) (it:Addr) (tn:Nat->Heap->Prop):Prop where
 mem:it∈fp
 obj:∀i h,tn i h->∀b∈fp,∃o,h.get? b\o/\∀v,o.data≠.cell v
 keep:∀i h h',tn i h->(∀b∈fp,∀o,h.get? b\o->h'.get? b\o)->tn i h'
 item:∀(X:Cx),X.prog=P->X.w=w->X.K=K->X.calm=true->∀(i:Nat) (pins:List (Addr × Obj)) (s:Ab) (σ:St) (H:Hp) (E:Aa->Ab->Prop),Inv X pins σ H s->(∀b∈fp,dj X pins H b)->tn i s.heap->J.go i H->
  wpAny (model P w) X.A (pyNext (.ref it)) (λr s1=>∃u,r\u /\
   wpAny (model P w) X.A (letOwnedTupleGo tg (.ref it) u) (λ_ s2=>∃x H',Inv X pins σ H' s2/\RelV x u/\J.uT i H x H'/\tn (i+1) s2.heap/\∀b∈fp,H' b=none) E s1) E s
 done:∀(X:Cx),X.prog=P->X.w=w->X.K=K->X.calm=true->∀(i:Nat) (pins:List (Addr × Obj)) (s:Ab) (σ:St) (H:Hp) (E:Aa->Ab->Prop),Inv X pins σ H s->(∀b∈fp,dj X pins H b)->tn i s.heap->J.stop i H->
  wpAny (model P w) X.A (pyNext (.ref it)) (λr s1=>r=none/\Inv X pins σ H s1) E s
 self:∀(A:Af) (i:Nat) (s:Ab) (Q:Aa->Ab->Prop) (E:Aa->Ab->Prop),tn i s.heap->Q (.ref it) s->wpAny (model P w) A (pyIter (.ref it)) Q E s
abbrev TI:=St->Hp->(It->Hp->Prop)->Prop
def U_(X:Cx)(pins:List (Addr × Obj))(σ:St)(tg:Expr)(R:It->Hp->Prop)(GI:Aa)(s2:Ab):Prop:=
 ∃(it:Addr) (fp:au) (tn:Nat->Heap->Prop) (J:It) (H':Hp),GI=.ref it/\Inv X pins σ H' s2/\Turn X.prog X.w X.K tg J fp it tn/\tn 0 s2.heap/\(∀b∈fp,dj X pins H' b)/\R J H'
def PI(X:Cx)(tg iter:Expr)(wi:TI):Prop:=
 ∀(pins:List (Addr × Obj)) (s:Ab) (σ:St) (H:Hp) (R:It->Hp->Prop),Inv X pins σ H s->wi σ H R->
  wpAny (model X.prog X.w) X.A (eval iter X.env) (λv s1=>wpAny (model X.prog X.w) X.A (pyIter v) (U_ X pins σ tg R) X.xe s1) X.xe s
variable{u:Aa}{o:Obj}
theorem GJ{M:Model}{A:Af}{E:Aa->Ab->Prop}{s:Ab}{it:Addr}{n:String}{vs:Array Aa}{Q:Unit->Ab->Prop}(ho:s.heap.get? it\o)(hc:o.cls=.type n)(hd:o.data=.fields vs)(hn:["enumerate","zip","dict_itemiterator","dict_reverseitemiterator","odict_iterator","itertools.zip_longest","itertools.pairwise"].contains n=false)(hQ:Q () s):wpAny M A (letOwnedTupleGo tg (.ref it) u) Q E s:=by
 unfold letOwnedTupleGo
 cases tg<;>first
  |exact aE hQ
  |(cases u<;>first
    |exact aE hQ
    |(apply ae (wpAny_load ho ?_)
      rw[hc,hd];show wpAny M A (if (["enumerate","zip","dict_itemiterator","dict_reverseitemiterator","odict_iterator","itertools.zip_longest","itertools.pairwise"].contains n&&vs[0]? == some (rawInt _))=true then _ else _) Q E s;rw[aA (by intro h;rw[hn,Bool.false_and] at h;cases h)];exact aE hQ))
def yb(K:ai)(a:Addr):It:=
 ⟨λi H=>∃xs x,dX K H a xs/\xs[i]? = some x,λi H x H'=>H'=H/\∀xs,dX K H a xs->xs[i]? = some x,λi H=>∃xs,dX K H a xs/\xs.length<=i⟩
def BM(lo:Int)(n:Nat):It:=⟨λi _=>i<n,λi H x H'=>H'=H/\x=.int (lo+i),λi _=>n<=i⟩
variable{P:Ad}{w:Ag}
theorem gl_{K:ai}(a it:Addr):Turn P w K tg (yb K a) [it] it (λi h=>h.IsListIter it a i) where
 mem:=by simp
 obj:=λi h st b hb=>by
  have e:b=it:=⇑hb
  subst e;let#[o,e,c,d]:=st;exact#[o,e,λv z=>by rw[d] at z;cases z]
 keep:=λi h h' st k=>st.at λo e=>k it Z2 o e
 item:=by
  intro X hP hw hK hc i pins s σ H E I hf st hg;subst hP hw hK;let#[xs,x,hq,hx]:=hg;let#[its,rv,p,hz]:=I.list hq;let#[u,hu,ru]:=rv.get hx;let#[f0,f1,f2,f3,f4,f5]:=hf it Z2;apply wpAny_pyNext_list_item st p.isList (x:=u) ⇑hu λh' fw sb=>?_;have I1:Inv X pins σ H { s with heap:=h' }:=I.turned (t':=s.toks) (λb o hb e=>(sb.2 b hb).trans e) f0 f1 f3 f4 f5;let#[o,e,c,d]:=id fw;exact#[u,Z,GJ (s:={ s with heap:=h' }) e c d (by decide) #[x,H,I1,ru,#[Z,λys hy=>by rw[I.jz hy hq];exact hx],fw,λb hb=>(hf b hb).1]]
 done:=by
  intro X hP hw hK hc i pins s σ H E I hf st hg;subst hP hw hK;let#[xs,hq,hx]:=hg;let#[its,rv,p,hz]:=I.list hq;let#[f0,f1,f2,f3,f4,f5]:=hf it Z2;let hl:=rv.length;exact wpAny_pyNext_list_end (I.ok.hd hc) st p.isList (by simp;omega) λh' eb=>#[Z,I.turned (t':=s.toks) (λb o hb e=>eb b o hb e) f0 f1 f3 f4 f5]
 self:=λ_ _ _ _ _ st h=>wpAny_pyIter_listiter st h
theorem fj_{K:ai}(it:Addr)(lo:Int)(n:Nat):Turn P w K tg (BM lo n) [it] it (λi h=>IsRangeIter h it (lo+(i:Nat) * 1) ((n:Int) - (i:Nat)) 1) where
 mem:=by simp
 obj:=λi h st b hb=>by
  have e:b=it:=⇑hb
  subst e
  exact#[_,st,λv z=>by
   have z':Data.fields _=Data.cell v:=z;cases z']
 keep:=λi h h' st k=>k it Z2 _ st
 item:=by
  intro X hP hw hK hc i pins s σ H E I hf st hg;subst hP hw hK;let#[f0,f1,f2,f3,f4,f5]:=hf it Z2;let W:=Walks.range (prog:=X.prog) (w:=X.w) (I.ok.hd hc) it lo 1 n;apply W.item i s _ _ hg st λv h' tk hv fw kk=>?_;let#[t,rfl]:=hv;have I1:Inv X pins σ H { s with heap:=h',toks:=tk }:=I.turned (λb o hb e=>kk b o ⇑hb e) f0 f1 f3 f4 f5;apply#[_,Z,GJ (s:={ s with heap:=h',toks:=tk }) (n:="range_iterator") fw Z Z (by decide) #[.int (lo+i),H,I1,#[t,?_],#[Z,Z],fw,λb hb=>(hf b hb).1]];rw[Int.mul_one]
 done:=by
  intro X hP hw hK hc i pins s σ H E I hf st hg;subst hP hw hK;let#[f0,f1,f2,f3,f4,f5]:=hf it Z2;exact wpAny_pyNext_range_end (I.ok.hd hc) st (by have:n<=i:=hg;omega) λh' eb=>#[Z,I.turned (t':=s.toks) (λb o hb e=>eb b o hb e) f0 f1 f3 f4 f5]
 self:=λ_ _ _ _ _ st h=>wpAny_pyIter_rangeiter st h
inductive rP (K:ai) (R:It->Hp->Prop) (x:V) (H1:Hp):Prop
 |mk:∀a,x=.ref a->(∃xs,dX K H1 a xs)->R (yb K a) H1->rP K R x H1
def Dx(K:ai)(tl:TE):TI:=λσ H R=>tl σ H λx H1=>rP K R x H1
variable{X:Cx}
theorem dI{l:Expr}{tl:TE}(hl:PE X l tl):PI X tg l (Dx X.K tl):=by
 intro pins s σ H R I h;apply aO (hl pins s σ H _ I h) λv s1 ⟨x,H1,I1,r1,q1⟩=>?_;let#[a,e,#[xs,hq],q]:=q1;subst e;cases r1;let#[its,rv,p,hz]:=I1.list hq;apply wpAny_pyIter_list p.isList ?_;apply#[s1.heap.objs.size,[s1.heap.objs.size],_,_,H1,Z,I1.kept (t':=s1.toks) λb o e=>aU _ e,gl_ a _,#[_,cz _ Z,Z,Z],λb hb=>?_,q];have e:b=s1.heap.objs.size:=⇑hb
 subst e;exact I1.jH (a_ _) (I1.az.fresh (a_ _))
variable{pins:List (Addr × Obj)}{lo:Int}
theorem ZS{H:Hp}{s:Ab}{R:It->Hp->Prop}{E:Aa->Ab->Prop}{hi:Int}{t u v:Tok}{tk:Nat}(I:Inv X pins σ H s)(h1:-(2 ^ 62)<=lo)(h2:lo<2 ^ 62)(h3:-(2 ^ 62)<=hi)(h4:hi<2 ^ 62)(q:R (BM lo (hi - lo).toNat) H):wpAny (model X.prog X.w) X.A (pyIter (.ref s.heap.objs.size)) (U_ X pins σ tg R) E { s with heap:=s.heap.push { cls:=.type "range",data:=.fields (List.toArray [.int lo t,.int hi u,.int 1 v]) },toks:=tk }:=by
 apply wpAny_pyIter_range (IsRange.new ..) (small_one h1 h2 h3 h4) ?_;have I1:Inv X pins σ H { s with heap:=s.heap.push { cls:=.type "range",data:=.fields (List.toArray [.int lo t,.int hi u,.int 1 v]) },toks:=tk }:=I.kept λb o e=>aU _ e
 apply#[(s.heap.push { cls:=.type "range",data:=.fields (List.toArray [.int lo t,.int hi u,.int 1 v]) }).objs.size,[(s.heap.push { cls:=.type "range",data:=.fields (List.toArray [.int lo t,.int hi u,.int 1 v]) }).objs.size],_,_,H,Z,
  I1.kept (t':=tk) λb o e=>aU _ e,fj_ _ lo (hi - lo).toNat,?_,λb hb=>?_,q]
 ·have e1:lo+((0:Nat):Int) * 1=lo:=by simp
  have e2:(((hi - lo).toNat:Nat):Int) - ((0:Nat):Int)=Builtin.Range.rangeSize lo hi 1:=by rw[rangeSize_one];split<;>omega
  show IsRangeIter _ _ (lo+((0:Nat):Int) * 1) ((((hi - lo).toNat:Nat):Int) - ((0:Nat):Int)) 1;rw[e1,e2];exact cz _ Z
 have e:b=(s.heap.push { cls:=.type "range",data:=.fields (List.toArray [.int lo t,.int hi u,.int 1 v]) }).objs.size:=⇑hb
 subst e;exact I1.jH (a_ _) (I1.az.fresh (a_ _))
inductive rO (R:It->Hp->Prop) (vs:ag) (H1:Hp):Prop
 |mk:∀j:Int,vs=[.int j]->-(2 ^ 62)<=j->j<2 ^ 62->R (BM 0 j.toNat) H1->rO R vs H1
def Dw(ta:TA):TI:=λσ H R=>ta σ H λvs H1=>rO R vs H1
variable{p:Pos}
theorem wB{a:Expr}{ta:TA}(hg:Gl X "range")(hm:X.mg "range"=none)(ha:PA X [a] ta)(hs:starEach [a] X.env=[(false,eval a X.env)]:=by rfl):PI X tg (.Call (.Name "range" p) [a] [] pos) (Dw ta):=by
 intro pins s σ H R I h;apply Call_ (wm I hg hm boot_range (By (aO (ha pos pins s σ H _ I h) λus s1 ⟨vs,H1,I1,r1,q1⟩=>?_) hs Z));let#[j,e,q1,q2,q]:=q1;subst e;cases r1 with
 |cons r rr=>
  cases rr;let#[t,rfl]:=r;exact call_range_1 (ZS I1 Z1 Z1 q1 q2 ⇑q)
def J1(wi:TI)(g:TG)(tb:TS):TS:=λD σ H=>wi σ H λJ H1=>∃W:Nat->Nat->St->Hp->Prop,(∃m,W 0 m σ H1)/\∀i m σ H,W i m σ H->
 (J.stop i H/\D.nx σ H)∨(J.go i H/\∃N:St->Hp->Prop,(∀aX H',N aX H'->∃m',m'<m/\W (i+1) m' aX H')/\∀x H',J.uT i H x H'->g x σ H' λfZ H2=>tb { D with nx:=N,ct:=N,bk:=D.nx } fZ H2)
def wA(fp:au)(h:Heap):List (Addr × Obj):=fp.filterMap λb=>(h.get? b).map λo=>(b,o)
variable{fp:au}{h:Heap}
theorem Jh(hb:b∈fp)(e:h.get? b\o):(b,o)∈wA fp h:=xX.mpr #[b,hb,by rw[e];rfl]
theorem gE_{p:Addr × Obj}(hp:p∈wA fp h):p.1∈fp/\h.get? p.1\p.2:=by
 let#[b,hb,e]:=xX.mp hp;cases q:h.get? b with
 |none=>rw[q] at e;cases e
 |some o=>
  rw[q] at e;have e':(b,o)=p:=cY e;subst e';exact#[hb,q]
theorem Inv.pinned{H:Hp}{s:Ab}(I:Inv X pins σ H s)(hf:∀b∈fp,dj X pins H b)(ho:∀b∈fp,∃o,s.heap.get? b\o/\∀v,o.data≠.cell v):Inv X (pins++wA fp s.heap) σ H s:=
 I.nh λp hp=>(d8.mp hp).elim (λz=>I.pin p (mq _ z)) λz=>by
  let#[hb,e]:=gE_ z;let#[f0,f1,f2,_]:=hf p.1 hb;let#[o,e',d]:=ho p.1 hb;rw[e] at e';cases e';exact#[e,f0,f1,f2,d]
theorem Inv.ee{pl:List (Addr × Obj)}{H:Hp}{s:Ab}(I:Inv X (pins++pl) σ H s):Inv X pins σ H s:=I.nh λp hp=>I.pin p (mq _ (List.mem_append_left _ hp))
theorem eW{iter:Expr}{wi:TI}{g:TG}(hp:PassesOwn (model X.prog X.w) X.A X.env X.xe)(hc:X.calm=true)(hi:PI X tg iter wi)(hg:PG X tg g)(hb:kE X body tb)(hs:∀x,foldedSetIterable iter X.env x=pure x:=by intro _;rfl):PS X (.For tg iter body [] pos) (J1 wi g tb):=by
 intro pins s σ H D I h;apply wpAny_For (aO (hi pins s σ H _ I h) λv s1 h1=>aO h1 λGI s2 h2=>?_) hs;let#[it,fp,tn,J,H2,e,I2,T,fI,f2,W,#[m0,w0],turn]:=h2;subst e;have yx:∀{H':Hp},(∀b∈fp,H' b=none)->∀b∈fp,dj X pins H' b:=λhn b hb=>#[hn b hb,(f2 b hb).2];apply codeAny_forLoop_any (λn s'=>∃i aX H',Inv X pins aX H' s'/\tn i s'.heap/\(∀b∈fp,H' b=none)/\W i n aX H') ?_ m0 #[0,σ,H2,I2,fI,λb hb=>(f2 b hb).1,w0];rintro n s3 ⟨i,j_,H3,I3,iB,Sv,w3⟩;rcases turn i n j_ H3 w3 with⟨stop,qn⟩|⟨go,N,hN,step⟩
 ·apply wpAny_passesOwn hp (aO (T.done X Z Z Z hc i pins s3 j_ H3 X.xe I3 (yx Sv) iB stop) λr s4 ⟨hr,I4⟩=>?_);subst hr;exact wpAny_execs_nil #[j_,H3,I4,qn]
 apply wpAny_passesOwn hp (aO (T.item X Z Z Z hc i pins s3 j_ H3 X.xe I3 (yx Sv) iB go) λr s4 ⟨u,hr,h4⟩=>?_);subst hr;apply wpAny_passesOwn hp (aO h4 λ_ s5 ⟨x,H5,I5,r5,y5,g8,oP⟩=>?_);let I5':=I5.pinned (yx oP) (T.obj _ _ g8);apply wpAny_passesOwn hp (aO (hg _ s5 j_ H5 x u _ I5' r5 (step x H5 y5)) λ_ s6 ⟨Vd,H6,I6,q6⟩=>?_);apply wpAny_passesOwn hp (aO (hb _ s6 Vd H6 _ I6 q6) λf s7 q7=>?_)
 have again:∀{pS:St} {H7:Hp},Inv X (pins++wA fp s5.heap) pS H7 s7->N pS H7->∃m,m<n/\∃i aX H',Inv X pins aX H' s7/\tn i s7.heap/\(∀b∈fp,H' b=none)/\W i m aX H':=λ{pS H7} I7 n7=>by
  let#[m',hm,w7]:=hN pS H7 n7;apply#[m',hm,i+1,pS,H7,I7.ee,T.keep _ _ _ g8 λb hb o e=>(I7.pin (b,o) (mq _ (mq _ (Jh hb e)))).1,λb hb=>?_,w7];let#[o,e,d]:=T.obj _ _ g8 b hb;exact (I7.pin (b,o) (mq _ (mq _ (Jh hb e)))).2.1
 cases f with
 |next=>let#[pS,H7,I7,n7]:=q7;exact again I7 n7
 |cont=>let#[pS,H7,I7,n7]:=q7;exact again I7 n7
 |brk=>let#[pS,H7,I7,q7]:=q7;exact#[pS,H7,I7.ee,q7]
 |ret v=>let#[x7,pS,H7,I7,r7,q7]:=q7;exact#[x7,pS,H7,I7.ee,r7,q7]
theorem hX{K:ai}{a:Addr}{xs:ag}{g:TG}{D:Ends}{H:Hp}(Pv:bZ)(h0:Pv 0 σ H)(hl:∀i σ H,i<=xs.length->Pv i σ H->dX K H a xs)(hs:∀i x σ H,xs[i]? = some x->Pv i σ H->g x σ H λfZ H2=>tb { D with nx:=Pv (i+1),ct:=Pv (i+1),bk:=D.nx } fZ H2)(hd:∀σ H,Pv xs.length σ H->D.nx σ H) :
  ∃W:Nat->Nat->St->Hp->Prop,(∃m,W 0 m σ H)/\∀i m σ H,W i m σ H->
   ((yb K a).stop i H/\D.nx σ H)∨((yb K a).go i H/\∃N:St->Hp->Prop,(∀aX H',N aX H'->∃m',m'<m/\W (i+1) m' aX H')/\∀x H',(yb K a).uT i H x H'->g x σ H' λfZ H2=>tb { D with nx:=N,ct:=N,bk:=D.nx } fZ H2):=by
 apply#[λi m σ H=>m=xs.length - i/\i<=xs.length/\Pv i σ H,#[xs.length,by simp,gM _,h0],?_];rintro i m σ H ⟨rfl,hi,p⟩;let q:=hl i σ H hi p;by_cases dZ:i<xs.length
 ·apply .inr #[#[xs,xs[i],q,by simp[dZ]],Pv (i+1),λaX H' p'=>#[xs.length - (i+1),by omega,Z,dZ,p'],λx H' y=>?_];let#[e,y]:=y;subst e;exact hs i x σ _ (y xs q) p
 have e:i=xs.length:=by omega
 subst e;exact .inl #[#[xs,q,a_ _],hd σ H p]
theorem AI{g:TG}{D:Ends}{H:Hp}(Pv:bZ)(h0:Pv 0 σ H)(hs:∀i σ H,i<n->Pv i σ H->g (.int (lo+i)) σ H λfZ H2=>tb { D with nx:=Pv (i+1),ct:=Pv (i+1),bk:=D.nx } fZ H2)(hd:∀σ H,Pv n σ H->D.nx σ H) :
  ∃W:Nat->Nat->St->Hp->Prop,(∃m,W 0 m σ H)/\∀i m σ H,W i m σ H->
   ((BM lo n).stop i H/\D.nx σ H)∨((BM lo n).go i H/\∃N:St->Hp->Prop,(∀aX H',N aX H'->∃m',m'<m/\W (i+1) m' aX H')/\∀x H',(BM lo n).uT i H x H'->g x σ H' λfZ H2=>tb { D with nx:=N,ct:=N,bk:=D.nx } fZ H2):=by
 apply#[λi m σ H=>m=n - i/\i<=n/\Pv i σ H,#[n,by simp,gM _,h0],?_];rintro i m σ H ⟨rfl,hi,p⟩;by_cases dZ:i<n
 ·apply .inr #[dZ,Pv (i+1),λaX H' p'=>#[n - (i+1),by omega,Z,dZ,p'],λx H' y=>?_];let#[e,y]:=y;subst e y;exact hs i σ _ dZ p
 have e:i=n:=by omega
 subst e;exact .inl #[a_ _,hd σ H p]
theorem hK_{c:TT}{D:Ends}{H:Hp}(Pv:oZ)(μ:St->Hp->Nat)(h0:Pv σ H)(hs:∀σ H,Pv σ H->c σ H λb H1=>if b=true then tb { D with nx:=λaX H'=>Pv aX H'/\μ aX H'<μ σ H,ct:=λaX H'=>Pv aX H'/\μ aX H'<μ σ H,bk:=D.nx } σ H1 else D.nx σ H1)(mono:∀σ H Q Q',(∀b H1,Q b H1->Q' b H1)->c σ H Q->c σ H Q'):pW c tb D σ H:=by
 apply#[λm σ H=>m=μ σ H/\Pv σ H,#[_,Z,h0],?_];rintro m σ H ⟨rfl,p⟩;apply mono σ H _ _ (λb H1 q=>?_) (hs σ H p);cases b with
 |true=>exact#[_,λaX H' ⟨p',l⟩=>#[_,l,Z,p'],q]
 |false=>exact q
abbrev R2:=V->V->Hp->VK->Prop
def dJ(X:Cx)(f:Aa->Aa->Sem Aa)(r:R2):Prop:=
 ∀(pins:List (Addr × Obj)) (s:Ab) (σ:St) (H:Hp) (x y:V) (v u:Aa) (Q:VK),Inv X pins σ H s->RelV x v->RelV y u->r x y H Q->
  wpAny (model X.prog X.w) X.A (f v u) (EP X pins σ Q) X.xe s
def Pd(X:Cx)(f:Aa->Sem Aa)(r:V->Hp->VK->Prop):Prop:=
 ∀(pins:List (Addr × Obj)) (s:Ab) (σ:St) (H:Hp) (x:V) (v:Aa) (Q:VK),Inv X pins σ H s->RelV x v->r x H Q->
  wpAny (model X.prog X.w) X.A (f v) (EP X pins σ Q) X.xe s
def gn(X:Cx)(f:Aa)(r:ag->Hp->VK->Prop):Prop:=
 ∀(pins:List (Addr × Obj)) (s:Ab) (σ:St) (H:Hp) (xs:ag) (us:aj) (Q:VK),Inv X pins σ H s->Vals xs us->r xs H Q->
  wpAny (model X.prog X.w) X.A (call f us) (EP X pins σ Q) X.xe s
def F0(r:R2)(ta tb:TE):TE:=λσ H Q=>ta σ H λx H1=>tb σ H1 λy H2=>r x y H2 Q
def Wc(r:V->Hp->VK->Prop)(ta:TE):TE:=λσ H Q=>ta σ H λx H1=>r x H1 Q
inductive rI (C:Int->Int->Prop) (g:Int->Int->V) (x:V) (y:V) (H:Hp) (Q:VK):Prop
 |mk:∀i j,x=.int i->y=.int j->C i j->Q (g i j) H->rI C g x y H Q
inductive vm (g:Int->Int->V) (x:V) (y:V) (H:Hp) (Q:VK):Prop
 |mk:∀i j,x=.int i->y=.int j->Q (g i j) H->vm g x y H Q
inductive rU (g:Int->V) (x:V) (H:Hp) (Q:VK):Prop
 |mk:∀i,x=.int i->Q (g i) H->rU g x H Q
variable{r:R2}
variable{g:Int->Int->Int}
variable{j:Int}
section
variable{X:Cx}{a b c:Expr}{ta tb tc:TE}{pos:Pos}
theorem AG(ha:PE X a ta)(hb:PE X b tb){s:Ab}{H:Hp}{R:V->V->Hp->Prop}(I:Inv X pins σ H s)(h:ta σ H λx H1=>tb σ H1 λy H2=>R x y H2){Q:Aa->Ab->Prop}{f:Aa->Aa->Sem Aa}(hf:∀v u s2 x y H2,Inv X pins σ H2 s2->RelV x v->RelV y u->R x y H2->wpAny (model X.prog X.w) X.A (f v u) Q X.xe s2) :
  wpAny (model X.prog X.w) X.A (eval a X.env) (λv aJ=>wpAny (model X.prog X.w) X.A (eval b X.env) (λu jq=>wpAny (model X.prog X.w) X.A (f v u) Q X.xe jq) X.xe aJ) X.xe s:=by
 apply aO (ha pins s σ H _ I h) λv s1 ⟨x,H1,I1,r1,q1⟩=>?_;apply aO (hb pins s1 σ H1 _ I1 q1) λu s2 ⟨y,H2,I2,r2,q2⟩=>?_;exact hf v u s2 x y H2 I2 r1 r2 q2
theorem bN{op:Operator}(ho:dJ X (binaryOp op) r)(ha:PE X a ta)(hb:PE X b tb):PE X (.BinOp a op b pos) (F0 r ta tb):=by
 intro pins s σ H Q I h;exact wpAny_BinOp (AG ha hb I h λv u s2 x y H2 I2 rx ry q=>ho pins s2 σ H2 x y v u Q I2 rx ry q)
theorem K_{op:UnaryOp}{r:V->Hp->VK->Prop}(ho:Pd X (unaryOp op) r)(ha:PE X a ta):PE X (.UnaryOp op a pos) (Wc r ta):=by
 intro pins s σ H Q I h;exact UnaryOp_ (aO (ha pins s σ H _ I h) λv s1 ⟨x,H1,I1,r1,q1⟩=>ho pins s1 σ H1 x v Q I1 r1 q1)
theorem A8{f:Aa->Aa->Sem Aa}{C:Int->Int->Prop}(rule:∀(i j:Int) (t u:Tok) (s:Ab) (Q:Aa->Ab->Prop) (E:Aa->Ab->Prop),C i j->Q (.int (g i j) s.toks) { s with toks:=s.toks+1 }->wpAny (model X.prog X.w) X.A (f (.int i t) (.int j u)) Q E s) :
  dJ X f (rI C λi j=>.int (g i j)):=by
 intro pins s σ H x y v u Q I rx ry h;let#[i,j,rfl,rfl,hc,q]:=h;let#[t,rfl]:=rx;let#[t',rfl]:=ry;exact rule i j t t' s _ _ hc #[.int (g i j),H,I.tok _,#[_,Z],q]
theorem CM{f:Aa->Aa->Sem Aa}(rule:∀(i j:Int) (t u:Tok) (s:Ab) (Q:Aa->Ab->Prop) (E:Aa->Ab->Prop),Q (.int (g i j) s.toks) { s with toks:=s.toks+1 }->wpAny (model X.prog X.w) X.A (f (.int i t) (.int j u)) Q E s) :
  dJ X f (vm λi j=>.int (g i j)):=by
 intro pins s σ H x y v u Q I rx ry h;let#[i,j,rfl,rfl,q]:=h;let#[t,rfl]:=rx;let#[t',rfl]:=ry;exact rule i j t t' s _ _ #[.int (g i j),H,I.tok _,#[_,Z],q]
theorem vo{f:Aa->Aa->Sem Aa}{g:Int->Int->Bool}
  (rule:∀(i j:Int) (t u:Tok) (s:Ab) (Q:Aa->Ab->Prop) (E:Aa->Ab->Prop),Q (.bool (g i j)) s->wpAny (model X.prog X.w) X.A (f (.int i t) (.int j u)) Q E s) :
  dJ X f (vm λi j=>.bl (g i j)):=by
 intro pins s σ H x y v u Q I rx ry h;let#[i,j,rfl,rfl,q]:=h;let#[t,rfl]:=rx;let#[t',rfl]:=ry;exact rule i j t t' s _ _ #[.bl (g i j),H,I,Z,q]
def Px(i j:Int):Prop:=0<j/\j<1073741824
def Pw(i j:Int):Prop:=0<=j/\j<=1000000/\i.natAbs<2 ^ 64
def AZ(i j:Int):Prop:=(-(2 ^ 64)<i/\i<2 ^ 64)∨(-(2 ^ 64)<j/\j<2 ^ 64)
theorem AZ.ok{i:Int}(h:AZ i j):IntMulOk i j:=by
 rcases h with⟨h1,h2⟩|⟨h1,h2⟩
 ·exact .of_left (intBits_le_64 h1 h2)
 exact .of_right (intBits_le_64 h1 h2)
theorem gH:dJ X (binaryOp .Add) (vm λi j=>.int (i+j)):=CM λ_ _ _ _ _ _ _ q=>add_int q
theorem Hg:dJ X (binaryOp .Sub) (vm λi j=>.int (i - j)):=CM λ_ _ _ _ _ _ _ q=>sub_int q
theorem pL:dJ X (binaryOp .Mult) (rI AZ λi j=>.int (i * j)):=A8 λ_ _ _ _ _ _ _ hc q=>mul_int q hc.ok
theorem Fl:dJ X (binaryOp .FloorDiv) (rI Px λi j=>.int (i / j)):=A8 λi j _ _ _ _ _ hc q=>by
 have h1:(0:Int)<j:=hc.1;have h2:j<1073741824:=hc.2;exact floordiv_int Z1 (by rw[Int.fdiv_eq_ediv_of_nonneg i Z1];exact q) (.inl (PyProof.noPylong_small Z1))
theorem xR:dJ X (binaryOp .Mod) (rI (λ_ j=>0<j) λi j=>.int (i % j)):=A8 λi j _ _ _ _ _ hc q=>by
 have h1:(0:Int)<j:=hc;exact mod_int' Z1 (by rw[Int.fmod_eq_emod_of_nonneg i Z1];exact q)
theorem Zf:dJ X (binaryOp .Pow) (rI Pw λi j=>.int (i ^ j.toNat)):=A8 λ_ _ _ _ _ _ _ hc q=>pow_int_small hc.1 hc.2.1 hc.2.2 q
theorem VU{f:Aa->Sem Aa}{g:Int->Int}
  (rule:∀(i:Int) (t:Tok) (s:Ab) (Q:Aa->Ab->Prop) (E:Aa->Ab->Prop),Q (.int (g i) s.toks) { s with toks:=s.toks+1 }->wpAny (model X.prog X.w) X.A (f (.int i t)) Q E s) :
  Pd X f (rU λi=>.int (g i)):=by
 intro pins s σ H x v Q I rx h;let#[i,rfl,q]:=h;let#[t,rfl]:=rx;exact rule i t s _ _ #[.int (g i),H,I.tok _,#[_,Z],q]
theorem MA:Pd X (unaryOp .USub) (rU λi=>.int (-i)):=VU λ_ _ _ _ _ q=>neg_int q
end
def Cu:V->V->Bool
 |.non,.non=>true | .non,.int _=>true | .int _,.non=>true | .non,.bl _=>true | .bl _,.non=>true | .non,.str _=>true | .str _,.non=>true
 |.int _,.int _=>true | .bl _,.bl _=>true | .str _,.str _=>true | .byt _,.byt _=>true
 |.int _,.str _=>true | .str _,.int _=>true | .bl _,.str _=>true | .str _,.bl _=>true
 |_,_=>false
def WV:R2:=λx y H Q=>Cu x y=true/\Q (.bl (decide (x=y))) H
def WT:R2:=λx y H Q=>Cu x y=true/\Q (.bl (!decide (x=y))) H
theorem Sk{i:Int}:decide (V.int i=V.int j)=(i == j):=by
 rw[Bool.eq_iff_iff];simp
theorem QV{i j:Bool}:decide (V.bl i=V.bl j)=(i == j):=by
 rw[Bool.eq_iff_iff];simp
theorem RJ{i j:Str}:decide (V.str i=V.str j)=(i == j):=by
 rw[Bool.eq_iff_iff];simp
theorem RO{i j:Array UInt8}:decide (V.byt i=V.byt j)=(i.toList == j.toList):=by
 rw[Bool.eq_iff_iff];cases i;cases j;simp
variable{A9:CmpOp}{r':R2}
section
variable{X:Cx}{a b c:Expr}{ta tb tc:TE}{pos:Pos}
theorem fu{H:Hp}{s:Ab}{Q:VK}{k k':Bool}(I:Inv X pins σ H s)(q:Q (.bl k) H)(e:k=k'):EP X pins σ Q (.bool k') s:=by
 subst e;exact#[.bl k,H,I,Z,q]
theorem G7:dJ X (compareOp .Eq) WV:=by
 intro pins s σ H x y v u Q I rx ry h;let#[hs,q]:=h;cases x with
 |non=>
  cases rx;cases y with
  |non=>cases ry;exact PySem.EqNone.eq_none_none (fu I q Z2)
  |bl j=>cases ry;exact PySem.EqNone.eq_none_bool (fu I q Z2)
  |int j=>let#[t',rfl]:=ry;exact PySem.EqNone.eq_none_int (fu I q Z2)
  |str j=>let#[t',rfl]:=ry;exact PySem.EqNone.eq_none_str (fu I q Z2)
  |_=>exact absurd (show false=true from hs) gE
 |bl i=>
  cases rx;cases y with
  |non=>cases ry;exact PySem.EqNone.eq_bool_none (fu I q Z2)
  |bl j=>cases ry;exact eq_bool (fu I q QV)
  |str j=>let#[t',rfl]:=ry;exact PySem.EqMixed.eq_bool_str (fu I q Z2)
  |_=>exact absurd (show false=true from hs) gE
 |int i=>
  let#[t,rfl]:=rx;cases y with
  |non=>cases ry;exact PySem.EqNone.eq_int_none (fu I q Z2)
  |int j=>let#[t',rfl]:=ry;exact eq_int (fu I q Sk)
  |str j=>let#[t',rfl]:=ry;exact PySem.EqMixed.eq_int_str (fu I q Z2)
  |_=>exact absurd (show false=true from hs) gE
 |str i=>
  let#[t,rfl]:=rx;cases y with
  |non=>cases ry;exact PySem.EqNone.eq_str_none (fu I q Z2)
  |bl j=>cases ry;exact PySem.EqMixed.eq_str_bool (fu I q Z2)
  |int j=>let#[t',rfl]:=ry;exact PySem.EqMixed.eq_str_int (fu I q Z2)
  |str j=>let#[t',rfl]:=ry;exact eq_str (fu I q RJ)
  |_=>exact absurd (show false=true from hs) gE
 |byt i=>
  let#[t,rfl]:=rx;cases y with
  |byt j=>let#[t',rfl]:=ry;exact PySem.W.eq_bytes (fu I q RO)
  |_=>exact absurd (show false=true from hs) gE
 |_=>cases y<;>exact absurd (show false=true from hs) gE
theorem sW:dJ X (compareOp .NotEq) WT:=by
 intro pins s σ H x y v u Q I rx ry h;let#[hs,q]:=h;cases x with
 |non=>
  cases rx;cases y with
  |non=>cases ry;exact PySem.EqNone.ne_none_none (fu I q Z2)
  |bl j=>cases ry;exact PySem.EqNone.ne_none_bool (fu I q Z2)
  |int j=>let#[t',rfl]:=ry;exact PySem.EqNone.ne_none_int (fu I q Z2)
  |str j=>let#[t',rfl]:=ry;exact PySem.EqNone.ne_none_str (fu I q Z2)
  |_=>exact absurd (show false=true from hs) gE
 |bl i=>
  cases rx;cases y with
  |non=>cases ry;exact PySem.EqNone.ne_bool_none (fu I q Z2)
  |bl j=>cases ry;exact ne_bool (fu I q (d5 not QV))
  |str j=>let#[t',rfl]:=ry;exact PySem.EqMixed.ne_bool_str (fu I q Z2)
  |_=>exact absurd (show false=true from hs) gE
 |int i=>
  let#[t,rfl]:=rx;cases y with
  |non=>cases ry;exact PySem.EqNone.ne_int_none (fu I q Z2)
  |int j=>let#[t',rfl]:=ry;exact ne_int (fu I q (d5 not Sk))
  |str j=>let#[t',rfl]:=ry;exact PySem.EqMixed.ne_int_str (fu I q Z2)
  |_=>exact absurd (show false=true from hs) gE
 |str i=>
  let#[t,rfl]:=rx;cases y with
  |non=>cases ry;exact PySem.EqNone.ne_str_none (fu I q Z2)
  |bl j=>cases ry;exact PySem.EqMixed.ne_str_bool (fu I q Z2)
  |int j=>let#[t',rfl]:=ry;exact PySem.EqMixed.ne_str_int (fu I q Z2)
  |str j=>let#[t',rfl]:=ry;exact ne_str (fu I q (d5 not RJ))
  |_=>exact absurd (show false=true from hs) gE
 |byt i=>
  let#[t,rfl]:=rx;cases y with
  |byt j=>let#[t',rfl]:=ry;exact PySem.W.ne_bytes (fu I q (d5 not RO))
  |_=>exact absurd (show false=true from hs) gE
 |_=>cases y<;>exact absurd (show false=true from hs) gE
theorem QR:dJ X (compareOp .Lt) (vm λi j=>.bl (decide (i<j))):=vo λ_ _ _ _ _ _ _ q=>lt_int q
theorem xJ:dJ X (compareOp .LtE) (vm λi j=>.bl (decide (i<=j))):=vo λ_ _ _ _ _ _ _ q=>le_int q
theorem Lc:dJ X (compareOp .Gt) (vm λi j=>.bl (decide (j<i))):=vo λ_ _ _ _ _ _ _ q=>gt_int q
theorem Yi:dJ X (compareOp .GtE) (vm λi j=>.bl (decide (j<=i))):=vo λ_ _ _ _ _ _ _ q=>ge_int q
inductive UN (x:V) (y:V) (H:Hp) (Q:VK):Prop
 |mk:∀i j,x=.str i->y=.str j->Q (.bl (decide (i.cps.toList<j.cps.toList))) H->UN x y H Q
theorem h4_:dJ X (compareOp .Lt) UN:=by
 intro pins s σ H x y v u Q I rx ry h;let#[i,j,rfl,rfl,q]:=h;let#[t,rfl]:=rx;let#[t',rfl]:=ry;exact lt_str (fu I q rfl)
theorem Q9:dJ X (compareOp .Is) (λx y H Q=>y=.non/\Q (.bl (decide (x=.non))) H):=by
 intro pins s σ H x y v u Q I rx ry h;let#[rfl,q]:=h;cases ry;apply is_none_gen (fu I q ?_)
 cases x<;>first
  |(cases rx;rfl)
  |(let#[t,rfl]:=rx;rfl)
theorem rD(b:Expr)(h:op≠.In:=by decide)(h2:op≠.NotIn:=by decide):behindInMarks op b=false:=by
 have e1:(op == CmpOp.In)=false:=by cases op<;>first|rfl|exact absurd rfl h
 have e2:(op == CmpOp.NotIn)=false:=by cases op<;>first|rfl|exact absurd rfl h2
 cases b<;>simp[behindInMarks,e1,e2]
theorem wk(ho:dJ X (compareOp op) r)(ha:PE X a ta)(hb:PE X b tb)(hm:behindInMarks op b=false:=by exact rD _):PE X (.Compare a [op] [b] pos) (F0 r ta tb):=by
 intro pins s σ H Q I h;exact wpAny_Compare1 (AG ha hb I h λv u s2 x y H2 I2 rx ry q=>ho pins s2 σ H2 x y v u Q I2 rx ry q) hm
inductive pZ (Q:Bool->Hp->Prop) (x:V) (H':Hp):Prop
 |mk:∀k,x=.bl k->Q k H'->pZ Q x H'
def wL(t:TE):TT:=λσ H Q=>t σ H λx H'=>pZ Q x H'
theorem fF(ho:dJ X (compareOp op) r)(ha:PE X a ta)(hb:PE X b tb)(hm:behindInMarks op b=false:=by exact rD _):PT X (.Compare a [op] [b] pos) (wL (F0 r ta tb)):=by
 intro pins s σ H Q I h
 apply wpAny_isTrue_Compare1 (aO (ha pins s σ H _ I h) λv s1 ⟨x,H1,I1,r1,q1⟩=>aO (hb pins s1 σ H1 _ I1 q1) λu s2 ⟨y,H2,I2,r2,q2⟩=>
  aO (ho pins s2 σ H2 x y v u _ I2 r1 r2 q2) λc s3 ⟨z,H3,I3,r3,k,e,q3⟩=>?_) hm
 subst e;cases r3;exact uw #[H3,I3,q3]
inductive mK (r':R2) (tc:TE) (σ:St) (Q:VK) (y:V) (z:V) (H3:Hp):Prop
 |mk:∀k,z=.bl k->(if k=true then tc σ H3 λw' H4=>r' y w' H4 Q else Q (.bl false) H3)->mK r' tc σ Q y z H3
def qb(r r':R2)(ta tb tc:TE):TE:=λσ H Q=>ta σ H λx H1=>tb σ H1 λy H2=>r x y H2 λz H3=>mK r' tc σ Q y z H3
theorem S9(ho:dJ X (compareOp op) r)(nE:dJ X (compareOp A9) r')(ha:PE X a ta)(hb:PE X b tb)(hc:PE X c tc)(hm:lastMarks [op,A9] [b,c]=false:=by with_unfolding_all rfl):PE X (.Compare a [op,A9] [b,c] pos) (qb r r' ta tb tc):=by
 intro pins s σ H Q I h
 apply Compare_chain (aO (ha pins s σ H _ I h) λv s1 ⟨x,H1,I1,r1,q1⟩=>chain_link (aO (hb pins s1 σ H1 _ I1 q1) λu s2 ⟨y,H2,I2,r2,q2⟩=>
  aO (ho pins s2 σ H2 x y v u _ I2 r1 r2 q2) λd s3 ⟨z,H3,I3,r3,k,e,q3⟩=>?_)) hm
 subst e;cases r3;apply uw ?_;cases k with
 |false=>exact ite_ff #[.bl false,H3,I3,Z,q3]
 |true=>exact ite_tt (chain_last (aO (hc pins s3 σ H3 _ I3 q3) λw' s4 ⟨z',H4,I4,r4,q4⟩=>nE pins s4 σ H4 y z' u w' Q I4 r2 r4 q4))
theorem SN(ho:dJ X (compareOp op) r)(nE:dJ X (compareOp A9) r')(ha:PE X a ta)(hb:PE X b tb)(hc:PE X c tc)(hm:lastMarks [op,A9] [b,c]=false:=by with_unfolding_all rfl):PT X (.Compare a [op,A9] [b,c] pos) (wL (qb r r' ta tb tc)):=by
 intro pins s σ H Q I h
 apply isTrue_chain (aO (ha pins s σ H _ I h) λv s1 ⟨x,H1,I1,r1,q1⟩=>test_link (aO (hb pins s1 σ H1 _ I1 q1) λu s2 ⟨y,H2,I2,r2,q2⟩=>
  aO (ho pins s2 σ H2 x y v u _ I2 r1 r2 q2) λd s3 ⟨z,H3,I3,r3,k,e,q3⟩=>?_)) hm
 subst e;cases r3;apply uw ?_;cases k with
 |false=>
  let#[k',e',q']:=q3;cases e';exact ite_ff #[H3,I3,q']
 |true=>
  apply ite_tt (test_last (aO (hc pins s3 σ H3 _ I3 q3) λw' s4 ⟨z',H4,I4,r4,q4⟩=>aO (nE pins s4 σ H4 y z' u w' _ I4 r2 r4 q4) λd' s5 ⟨z2,H5,I5,r5,k2,e2,q5⟩=>?_));subst e2;cases r5;exact uw #[H5,I5,q5]
theorem gc:(sizeLine:Nat)<2 ^ 63:=by rw[cX];decide
inductive UU (x:V) (y:V) (H:Hp) (Q:VK):Prop
 |mk:∀i j,x=.str i->y=.str j->i.length+j.length<=sizeLine->Q (.str (i++j)) H->UU x y H Q
theorem fc_:dJ X (binaryOp .Add) UU:=by
 intro pins s σ H x y v u Q I rx ry h;let#[i,j,rfl,rfl,hz,q]:=h;let#[t,rfl]:=rx;let#[t',rfl]:=ry;exact add_str (λt' tk=>⟨.str (i++j),H,I.tok _,⟨_,rfl⟩,q⟩) hz
theorem vals1{x:V}{us:aj}(r:Vals [x] us):∃u,us=[u]/\RelV x u:=by
 cases r with
 |cons r1 r2=>cases r2;exact#[_,Z,r1]
theorem vals2{x y:V}{us:aj}(r:Vals [x,y] us):∃u w',us=[u,w']/\RelV x u/\RelV y w':=by
 cases r with
 |cons r1 r2=>
  cases r2 with
  |cons r3 r4=>cases r4;exact#[_,_,Z,r1,r3]
inductive TJ (xs:ag) (H:Hp) (Q:VK):Prop
 |mk:∀i,xs=[.int i]->Q (.int (if i<0 then -i else i)) H->TJ xs H Q
theorem hI_:gn X (.builtin "abs") TJ:=by
 intro pins s σ H xs us Q I r h;let#[i,rfl,q]:=h;let#[u,rfl,t,rfl]:=vals1 r;exact call_abs_int λu tk=>#[.int (if i<0 then -i else i),H,I.tok _,#[_,Z],q]
inductive UO (xs:ag) (H:Hp) (Q:VK):Prop
 |mk:∀i j,xs=[.int i,.int j]->Q (.int (if j > i then j else i)) H->UO xs H Q
theorem fO_(hc:X.calm=true):gn X (.builtin "max") UO:=by
 intro pins s σ H xs us Q I r h;let#[i,j,rfl,q]:=h;let#[u,w',rfl,#[t,rfl],#[t',rfl]]:=vals2 r;apply max_two_ints (I.ok.hd hc) λh' tk k=>#[_,H,I.kept k,?_,q];by_cases hj:j > i
 ·rw[aI hj,aI hj];exact#[_,Z]
 rw[aA hj,aA hj];exact#[_,Z]
theorem T3:gn X (.type "int") (λxs H Q=>(∃i,xs=[.int i]/\Q (.int i) H)∨∃k,xs=[.bl k]/\Q (.int (if k then 1 else 0)) H):=by
 intro pins s σ H xs us Q I r h;rcases h with⟨i,rfl,q⟩|⟨k,rfl,q⟩
 ·let#[u,rfl,t,rfl]:=vals1 r;exact call_int_int #[.int i,H,I,#[_,Z],q]
 let#[u,rfl,r1]:=vals1 r;cases r1;exact call_int_bool #[.int (if k then 1 else 0),H,I.tok _,#[_,Z],q]
end
structure mw (h:Heap) (x dx C:Addr) (mA:Str->Option Aa):Prop where
 obj:h.get? x\PySem.W.instObj C dx
 ns:h.Ns1 dx mA
 ne:dx≠x
variable{mA:Str->Option Aa}
theorem gV_{dx:Addr}(n:h.Ns1 dx mA):∃od,h.get? dx\od/\∀name,PySem.W.lookIn name od\mA name:=by
 let#[o,es,ep,ho,hd,hk,_,hm]:=n;apply#[o,ho,λname=>?_];let e:=hm name;unfold nsFind findBy at e;rw[<- Array.find?_toList] at e;unfold PySem.W.lookIn;rw[hd];dsimp only;split
 ·rename_i y q
  rw[q] at e;exact d5 some e
 rename_i q
 rw[q] at e
 have a:es.toList.any (·.refKey)=false:=by
  rw[List.any_eq_false];intro y hy;let#[z,t,LI]:=hk y (Array.mem_toList_iff.mp hy);simp[DictEntry.refKey,LI]
 have a':¬es.toList.any (·.refKey)=true:=by rw[a];exact gE
 rw[aA a'];exact d5 some e
theorem mw.look{x dx C:Addr}(I:mw h x dx C mA):∃od,PySem.W.InstAt h x (PySem.W.instObj C dx) C (some od)/\∀name,PySem.W.lookIn name od\mA name:=
 let #[od,ho,hl]:=gV_ I.ns
 #[od,#[I.obj,Z,Z,ho],hl]
variable{pl:Sem Bool}
variable{kw:List (Str × Aa)}
section
variable{prog:Ad}{w:Ag}{A:Af}{E:Aa->Ab->Prop}{s:Ab}{K:ai}{x dx C f:Addr}{mA:Str->Option Aa}{name:Str}{v:Aa}
theorem _c{expr:Bool}{Q:Aa->Ab->Prop}(X:K.In s.heap)(I:mw s.heap x dx C mA)(hg:PySem.W.plainGet K C name=true)(hh:PySem.W.hasDictIn K C=true)
  (ha:PySem.W.findIn K (.ref C) name\none) (hv:mA name\v) (DB:PySem.W.handedIn v=true) (h:Q v { s with toks:=s.toks+1 }) :
  wpAny (model prog w) A (getAttr (.ref x) name expr) Q E s:=by
 let#[od,J,hl]:=I.look;exact PySem.W.get_value X J (PySem.W.plainGet_of hg).1 (PySem.W.findObj_own hh ha Z (by rw[hl,hv])) DB h
theorem hA_{Q:Aa × aj->Ab->Prop}(X:K.In s.heap)(I:mw s.heap x dx C mA)(hg:PySem.W.plainGet K C name=true)(hf:PySem.W.findIn K (.ref C) name\some (.ref f))(ht:PySem.W.isFn K (.ref f)=true)(hv:mA name=none)(h:Q (.ref f,[.ref x]) s) :
  wpAny (model prog w) A (getMethod (.ref x) name pl) Q E s:=by
 let#[od,J,hl]:=I.look;exact PySem.W.method_fn X J (PySem.W.plainGet_of hg).1 (PySem.W.plainGet_of hg).2 hf (beq_iff_eq.mp ht) (by show (PySem.W.lookIn name od).map (·.isSome)=some false;rw[hl,hv];rfl) h
theorem Z9{ns:af}{Q:Unit->Ab->Prop}(X:K.In s.heap)(I:mw s.heap x dx C mA)
  (hs:PySem.W.findIn K (.ref C) "__setattr__"\some (.builtin "object.__setattr__")) (hp:PySem.W.plainOver K C=true) (ht:PySem.W.takerIn K C name\none) (hh:PySem.W.hasDictIn K C=true)
  (hw:PySem.Within mA ns) (hsz:ns.length<=sizeLine)
  (h:∀h',mw h' x dx C (λy=>if y=name then some v else mA y)->Heap.SameBut dx s.heap h'->Q () { s with heap:=h',toks:=s.toks+2 }) :
  wpAny (model prog w) A (setAttr (.ref x) name v) Q E s:=by
 let#[od,J,hl]:=I.look;apply PySem.W.set_plain X J hs (PySem.W.osa_open (s:={ s with toks:=s.toks+1 }) (r:=none) X J hp ht λb=>?_);let#[cd,hc,iR]:=PySem.W.any_some hh;have hx:s.heap.get? x=some #[.ref C,some dx,.plain,#[]]:=I.obj;apply ae (aE (ae (ae (wpAny_loadPart hx (ae (PySem.W.Looks.here (s:={ s with toks:=s.toks+1 }) (PySem.W.looks_clsIn X hc) ?_))))));rw[iR];apply aE (a:=some dx) (ae (aE (ae ?_)));apply wpAny_nsSet1 (s:={ s with toks:=s.toks+1 }) I.ns λh' xw vK=>?_;let#[oD,esD,epD,hoD,hdD,hcD]:=xw.count (PySem.Within.cons name v hw);apply ae (wpAny_lookBehind hoD (by rw[hdD];exact pastItsLine_dict (iH hcD (by rw[jm];omega))) ?_);exact aE (h _ #[(vK.2 _ (bJ I.ne)).trans I.obj,xw,I.ne] vK)
theorem hN_{R:Result->Ab->Prop}{vs:aj}(X:K.In s.heap)(hm:PySem.W.makesIn K C=true)(hi:PySem.W.findIn K (.ref C) "__init__"\some (.ref f))(hf:PySem.W.typeIn K (.ref f)\.type "function")(h:codeAny (model prog w) (A.under (.builtin "type.__call__" #[.ref C::vs,kw])) (.call (.ref f) #[.ref (s.heap.objs.size+1)::vs,kw]) (PySem.W.InitBack (s.heap.objs.size+1) R)
   { s with heap:=(s.heap.push PySem.W.emptyDict).push (PySem.W.instObj C s.heap.objs.size) }) :
  codeAny (model prog w) A (.call (.ref C) #[vs,kw]) R s:=by
 let#[hh,g,d,t,os]:=s;exact PySem.W.make_core (PySem.W.makes_of X hm) (PySem.W.looks_findIn X hi) (λself=>PySem.W.bind_fn X self hf) (.inl Z) h
end
def ay(f:Str)(v:V):List (Str × V)->List (Str × V)
 |[]=>[(f,v)]
 |(g,x)::r=>if g=f then (g,v)::r else (g,x)::ay f v r
theorem gg(f g:Str)(v:V):∀fs:List (Str × V),(ay f v fs).lookup g=if g=f then some v else fs.lookup g
 |[]=>by
  show List.lookup g [(f,v)]=_;by_cases h:g=f
  ·have hb:(g == f)=true:=beq_iff_eq.mpr h;simp only[List.lookup,hb,aI h]
  ·have hb:(g == f)=false:=beq_eq_false_iff_ne.mpr h;simp only[List.lookup,hb,aA h]
 |(k,x)::r=>by
  let ih:=gg f g v r;rw[show ay f v ((k,x)::r)=(if k=f then (k,v)::r else (k,x)::ay f v r) from Z];by_cases hk:k=f
  ·rw[aI hk];by_cases h:g=k
   ·have hb:(g == k)=true:=beq_iff_eq.mpr h;simp only[List.lookup,hb,aI (h.trans hk)]
   have hb:(g == k)=false:=beq_eq_false_iff_ne.mpr h;simp only[List.lookup,hb,aA (λe:g=f=>h (e.trans hk.symm))]
  rw[aA hk];by_cases h:g=k
  ·have hb:(g == k)=true:=beq_iff_eq.mpr h;simp only[List.lookup,hb,aA (λe:g=f=>hk (h.symm.trans e))]
  have hb:(g == k)=false:=beq_eq_false_iff_ne.mpr h;simp only[List.lookup,hb];exact ih
theorem N2(f:Str)(v:V):∀fs:List (Str × V),f∈(ay f v fs).map (·.1)/\∀g,g∈fs.map (·.1)->g∈(ay f v fs).map (·.1)
 |[]=>#[by simp[ay],λg h=>by simp at h]
 |(k,x)::r=>by
  let#[i1,i2]:=N2 f v r;rw[show ay f v ((k,x)::r)=(if k=f then (k,v)::r else (k,x)::ay f v r) from Z];by_cases hk:k=f
  ·rw[aI hk];subst hk;exact#[by simp,λg h=>by simpa using h]
  rw[aA hk];apply#[?_,λg h=>?_]
  ·rw[eG];exact fM _ i1
  rw[eG] at h ⊢;rcases bU.mp h with e|e
  ·exact bU.mpr (.inl e)
  exact fM _ (i2 g e)
theorem UR(f:Str)(v:V):∀fs:List (Str × V),(ay f v fs).length<=fs.length+1
 |[]=>by simp[ay]
 |(k,x)::r=>by
  let ih:=UR f v r;rw[show ay f v ((k,x)::r)=(if k=f then (k,v)::r else (k,x)::ay f v r) from Z];by_cases hk:k=f
  ·rw[aI hk,jm,jm];omega
  rw[aA hk,jm,jm];omega
variable{v:V}{o:Option Aa}
theorem eP.some_of(r:eP (some v) o):∃u,o\u/\RelV v u:=by
 cases o with
 |none=>exact (show False from r).elim
 |some u=>exact#[u,Z,r]
theorem eP.none_of(r:eP none o):o=none:=by
 cases o with
 |none=>rfl
 |some u=>exact (show False from r).elim
theorem g6_(r:RelV v u):PySem.W.handedIn u=true:=by
 cases v with
 |non=>cases (show u=Value.none from r);rfl
 |bl b=>cases (show u=Value.bool b from r);rfl
 |int i=>let#[t,e]:=(show ∃t,u=Value.int i t from r);cases e;rfl
 |str x=>let#[t,e]:=(show ∃t,u=Value.str x t from r);cases e;rfl
 |byt b=>let#[t,e]:=(show ∃t,u=Value.bytes b t from r);cases e;rfl
 |flt b=>let#[t,e]:=(show ∃t,u=Value.float b t from r);cases e;rfl
 |ref a=>cases (show u=Value.ref a from r);rfl
 |ty n=>cases (show u=Value.type n from r);rfl
section
variable{P:Ad}{w:Ag}{H H':Hp}{h h':Heap}{a C dx:Addr}{fs fs':List (Str × V)}
theorem Ic(az:fO P w H h)(e:H a\.ins C dx fs):∃mA,mw h a dx C mA/\(∀f,eP (fs.lookup f) (mA f))/\PySem.Within mA (fs.map (·.1))/\fs.length<=1000/\H dx\.own a:=by
 let#[d,z,ne,ob,mA,n,r,q]:=(show ft P w H h a (.ins C dx fs) from az a _ e);exact#[mA,#[ob,n,ne],r,q,z,d]
end
structure mB (K:ai) (C:Addr):Prop where
 pg:PySem.W.plainGet K C Str.empty=true
 hd:PySem.W.hasDictIn K C=true
 po:PySem.W.plainOver K C=true
 sa:PySem.W.findIn K (.ref C) "__setattr__"\some (.builtin "object.__setattr__")
theorem mB.get{K:ai}{C:Addr}(c:mB K C)(f:Str):PySem.W.plainGet K C f=true:=c.pg
def l9(K:ai)(C:Addr)(f:Str):Prop:=PySem.W.findIn K (.ref C) f=some none
theorem l9.B_{K:ai}{C:Addr}{f:Str}(n:l9 K C f):PySem.W.takerIn K C f\none:=by
 unfold PySem.W.takerIn;rw[show PySem.W.findIn K (.ref C) f\none from n];rfl
structure Con (K:ai) (C:Addr) (f:Str) (v:V) (u:Aa):Prop where
 at_:PySem.W.findIn K (.ref C) f\some u
 rel:RelV v u
 get:PySem.W.specialIn K u "__get__"\none
 cp:PySem.W.copiedNames.contains f=false
structure Meth (K:ai) (C:Addr) (m:Str) (f:Addr):Prop where
 at_:PySem.W.findIn K (.ref C) m\some (.ref f)
 fn:PySem.W.isFn K (.ref f)=true
 kp:PySem.W.keepIn K (.ref f)=true
section
variable{X:Cx}{pins:List (Addr × Obj)}{σ:St}{H:Hp}{s:Ab}{a C dx:Addr}{fs:List (Str × V)}{f:Str}{v:V}{A:Af}{E:Aa->Ab->Prop}
theorem fp_{b:Bool}{Q:Aa->Ab->Prop}(I:Inv X pins σ H s)(e:H a\.ins C dx fs)(c:mB X.K C)(n:l9 X.K C f)(l:fs.lookup f\v)
  (h:∀u s',Inv X pins σ H s'->RelV v u->Q u s'):wpAny (model X.prog X.w) A (getAttr (.ref a) f b) Q E s:=by
 let#[mA,O,r,_,_,_]:=Ic I.az e;let#[u,hu,ru]:=eP.some_of (v:=v) (o:=mA f) (by rw[<- l];exact r f);exact _c I.gz O (c.get f) c.hd n hu (g6_ ru) (h u _ (I.tok _) ru)
theorem Uu{m:Str}{g:Addr}{Q:Aa × aj->Ab->Prop}(I:Inv X pins σ H s)(e:H a\.ins C dx fs)(c:mB X.K C)(k:Meth X.K C m g)(l:fs.lookup m=none)(h:Q (.ref g,[.ref a]) s):wpAny (model X.prog X.w) A (getMethod (.ref a) m pl) Q E s:=by
 let#[mA,O,r,_,_,_]:=Ic I.az e;have hn:mA m=none:=eP.none_of (by rw[<- l];exact r m);exact hA_ I.gz O (c.get m) k.at_ k.fn hn h
theorem fi_{y:V}{Q:Unit->Ab->Prop}(I:Inv X pins σ H s)(e:H a\.ins C dx fs)(c:mB X.K C)(n:l9 X.K C f)(hl:fs.length<1000)(ry:RelV y u)(h:∀s',Inv X pins σ (upd H a (.ins C dx (ay f y fs))) s'->Q () s'):wpAny (model X.prog X.w) A (setAttr (.ref a) f u) Q E s:=by
 let#[mA,O,r,wi,_,ho]:=Ic I.az e;have hz:(fs.map (·.1)).length<=sizeLine:=by rw[ak,cX];omega
 apply Z9 I.gz O c.sa c.po n.B_ c.hd wi hz λh' O' sb=>h _ ?_;have hd:∃o,h'.get? dx\o:=let #[o,_,_,e',_]:=O'.ns;#[o,e'];apply I.write (x:=a) (e:=dx) (by rw[e];exact True.intro) (.inr ho) (λb q hb z=>(sb.2 b hb).trans z) hd ?_;apply#[by rw[aw O.ne];exact ho,?_,O.ne,O'.obj,_,O'.ns,λg=>?_,λg hg=>?_]
 ·have:=UR f y fs;omega
 ·show eP ((ay f y fs).lookup g) (if g=f then some u else mA g);rw[gg];by_cases q:g=f
  ·rw[aI q,aI q];exact ry
  rw[aA q,aA q];exact r g
 by_cases q:g=f
 ·rw[q];exact (N2 f y fs).1
 apply (N2 f y fs).2 g (wi g λz=>hg ?_);show (if g=f then some u else mA g)=none;rw[aA q];exact z
theorem Inv.made(I:Inv X pins σ H s):Inv X pins σ (upd (upd H s.heap.objs.size (.own (s.heap.objs.size+1))) (s.heap.objs.size+1) (.ins C s.heap.objs.size []))
  { s with heap:=(s.heap.push PySem.W.emptyDict).push (PySem.W.instObj C s.heap.objs.size) }:=by
 have e1:(s.heap.push PySem.W.emptyDict).get? s.heap.objs.size\PySem.W.emptyDict:=cz s.heap Z
 have e2:((s.heap.push PySem.W.emptyDict).push (PySem.W.instObj C s.heap.objs.size)).get? (s.heap.objs.size+1)\PySem.W.instObj C s.heap.objs.size:=by
  have:=cz (s.heap.push PySem.W.emptyDict) (o:=PySem.W.instObj C s.heap.objs.size) Z;rwa [l5] at this
 have e3:(s.heap.push PySem.W.emptyDict).Ns s.heap.objs.size (λ_=>none):=#[PySem.W.emptyDict,#[],_,e1,Z,(λe he=>absurd he Z2),λ_=>rfl];let I1:=I.laid (a:=s.heap.objs.size) (o:=.own (s.heap.objs.size+1)) (h':=s.heap.push PySem.W.emptyDict) (t':=s.toks) (λb u q=>aU _ q) (a_ _) #[_,e1];apply I1.laid (a:=s.heap.objs.size+1) (o:=.ins C s.heap.objs.size []) (t':=s.toks) (λb u q=>aU _ q) (Nat.le_of_eq (l5 _ _)) ?_;have ne:s.heap.objs.size≠s.heap.objs.size+1:=dR (Nat.lt_succ_self _);apply#[by rw[aw ne,ax],gM _,ne,e2,λ_=>none,(Heap.Ns1.of_empty e3).at λo q=>aU _ q,λ_=>True.intro,λy hy=>absurd Z hy]
theorem Z6{prog:Ad}{env:Env}{e:Expr}{f:Str}{s:Ab}{Q:Aa->Ab->Prop}(hb:attributeBase e f env (eval e env)=eval e env)(h:wpAny (model prog w) A (eval e env) (λo aJ=>wpAny (model prog w) A (getAttr o f true) Q E aJ) E s):wpAny (model prog w) A (eval (.Attribute e f pos) env) Q E s:=
 Attribute_any_ h (by rw[arm_eval_Attribute,hb])
end
inductive wQ (K:ai) (f:Str) (Q:VK) (x:V) (H1:Hp):Prop
 |mk:∀a C dx fs v,x=.ref a->H1 a\.ins C dx fs->mB K C->l9 K C f->fs.lookup f\v->Q v H1->wQ K f Q x H1
def J2(K:ai)(ta:TE)(f:Str):TE:=λσ H Q=>ta σ H λx H1=>wQ K f Q x H1
inductive w6 (K:ai) (f:Str) (D:Ends) (σ:St) (y:V) (x:V) (H2:Hp):Prop
 |mk:∀a C dx fs,x=.ref a->H2 a\.ins C dx fs->mB K C->l9 K C f->fs.length<1000->D.nx σ (upd H2 a (.ins C dx (ay f y fs)))->w6 K f D σ y x H2
def Ki(K:ai)(ta tv:TE)(f:Str):TS:=λD σ H=>tv σ H λy H1=>ta σ H1 λx H2=>w6 K f D σ y x H2
section
variable{X:Cx}{o e value:Expr}{f:Str}{pos pos' JM:Pos}{ta tv:TE}
theorem gG(he:PE X e ta)(hb:attributeBase e f X.env (eval e X.env)=eval e X.env):PE X (.Attribute e f pos) (J2 X.K ta f):=by
 intro pins s σ H Q I h;apply Z6 hb (aO (he pins s σ H _ I h) λu s1 ⟨x,H1,I1,rx,a,C,dx,fs,v,ex,ea,c,n,l,q⟩=>?_);subst ex;obtain rfl:u=Value.ref a:=rx;exact fp_ I1 ea c n l λu' s2 I2 ru=>#[v,H1,I2,ru,q]
theorem uH(ha:PE X o ta)(hv:PE X value tv)(hs:swapsWith value (some (.Attribute o f pos')) pos.line X.env=pure false):PS X (.Assign [.Attribute o f pos'] value pos) (Ki X.K ta tv f):=by
 intro pins s σ H D I h;apply plainObj_wpAny_Assign_Attribute (aO (hv pins s σ H _ I h) λu s1 ⟨y,H1,I1,ry,q⟩=>aO (ha pins s1 σ H1 _ I1 q) λov s2 ⟨x,H2,I2,rx,a,C,dx,fs,ex,ea,c,n,l,q2⟩=>?_) hs;subst ex;obtain rfl:ov=Value.ref a:=rx;exact fi_ I2 ea c n l ry λs3 I3=>#[σ,_,I3,q2]
end
section
variable{X:Cx}{pins:List (Addr × Obj)}{σ:St}{H:Hp}{s:Ab}{A:Af}{E:Aa->Ab->Prop}{Q:Aa->Ab->Prop}{c:Aa}{b:Bool}
inductive fG (K:ai) (H:Hp):V->Aa->Prop where
 |non:fG K H .non (.type "NoneType")
 |bl (x:Bool):fG K H (.bl x) (.type "bool")
 |int (i:Int):fG K H (.int i) (.type "int")
 |str (x:Str):fG K H (.str x) (.type "str")
 |flt (x:UInt64):fG K H (.flt x) (.type "float")
 |lst {a:Addr} {xs:ag} (e:H a\.lst xs):fG K H (.ref a) (.type "list")
 |frz {a:Addr} {o:Obj} {xs:ag} (e:H a\.frz o (.lst xs)):fG K H (.ref a) (.type "list")
 |tup {a:Addr} {xs:ag} (e:H a\.tup xs):fG K H (.ref a) (.type "tuple")
 |dK {a:Addr} {kvs:List (Key × V)} (e:H a\.dK kvs):fG K H (.ref a) (.type "dict")
 |dT {a:Addr} {kvs:List (aC × V)} (e:H a\.dT kvs):fG K H (.ref a) (.type "dict")
 |ins {a C dx:Addr} {fs:List (Str × V)} (e:H a\.ins C dx fs) (cl:mB K C) (ha:PySem.W.findIn K (.ref C) "__class__"\some (.builtin "object.__class__"))
   (hn:PySem.W.specialIn K (.builtin "object.__class__") "__get__"\some (.builtin "getset_descriptor.__get__")) (GM:PySem.W.takesIn K (.builtin "object.__class__")\true)
   (hm:PySem.W.mroIn K C (.type "object")\true):fG K H (.ref a) (.ref C)
theorem Ub{x:V}{t:Aa}(I:Inv X pins σ H s)(rx:RelV x u)(ty:fG X.K H x t)(e:PySem.W.kitOne X.K t c\b)(h:∀tk,Q (.bool b) { s with toks:=tk }) :
  wpAny (model X.prog X.w) A (call (.builtin "isinstance") [u,c]) Q E s:=by
 cases ty with
 |non=>cases (show u=Value.none from rx);exact si PySem.W.kitx_none I.gz True.intro e nofun h
 |bl y=>cases (show u=Value.bool y from rx);exact si PySem.W.kitx_bool I.gz True.intro e nofun h
 |int i=>let#[t,q]:=(show ∃t,u=Value.int i t from rx);cases q;exact si PySem.W.kitx_int I.gz True.intro e nofun h
 |str y=>let#[t,q]:=(show ∃t,u=Value.str y t from rx);cases q;exact si PySem.W.kitx_str I.gz True.intro e nofun h
 |flt y=>let#[t,q]:=(show ∃t,u=Value.float y t from rx);cases q;exact si PySem.W.kitx_float I.gz True.intro e nofun h
 |@lst a xs ea=>
  cases (show u=Value.ref a from rx);let#[_,_,n,_,h1]:=(show ft X.prog X.w H s.heap a (.lst xs) from I.az a _ ea);exact si PySem.W.kitx_list I.gz #[_,h1,Z] e nofun h
 |@frz a ob xs ea=>
  cases (show u=Value.ref a from rx);let#[_,_,_,n,_,h1]:=(show ft X.prog X.w H s.heap a (.frz ob (.lst xs)) from I.az a _ ea);exact si PySem.W.kitx_list I.gz #[_,h1,Z] e nofun h
 |@tup a xs ea=>
  cases (show u=Value.ref a from rx);let#[_,_,_,p,_]:=(show ft X.prog X.w H s.heap a (.tup xs) from I.az a _ ea);let#[o,h1,h2,_]:=p;exact si PySem.W.kitx_tuple I.gz #[o,h1,h2] e nofun h
 |@dK a kvs ea=>
  cases (show u=Value.ref a from rx);let#[_,_,vs,_,p]:=(show ft X.prog X.w H s.heap a (.dK kvs) from I.az a _ ea);let#[o,es,ep,h1,h2,_]:=p;exact si PySem.W.kitx_dict I.gz #[o,h1,h2.1] e nofun h
 |@dT a kvs ea=>
  cases (show u=Value.ref a from rx);let#[_,_,xs,_,o,es,ep,h1,h2,_]:=(show ft X.prog X.w H s.heap a (.dT kvs) from I.az a _ ea);exact si PySem.W.kitx_dict I.gz #[o,h1,h2.1] e nofun h
 |@ins a C dx fs ea cl ha hn GM hm=>
  cases (show u=Value.ref a from rx);let#[mA,O,_]:=Ic I.az ea;let#[od,J,_]:=O.look;exact si (PySem.W.kitx_own (cl.get _) cl.hd ha hn GM hm) I.gz J e nofun h
end
structure aQ (k:Nat) (A:Af):Prop where
 hd:A.handled=none
 dp:A.depth+3 * k+5<recursionLimit
 un:A.units+16 * k+200<cLine
theorem aQ.mono{j:Nat}{A:Af}(r:aQ k A)(h:j<=k):aQ j A:=#[r.hd,by have:=r.dp;omega,by have:=r.un;omega]
theorem aQ.deeper{A:Af}(r:aQ (k+1) A)(env:Env):aQ k (A.deeper env):=
 #[r.hd,by have:=r.dp;show A.depth+1+3 * k+5<_;omega,by have:=r.un;show A.units+3+16 * k+200<_;omega]
theorem aQ.in1{A:Af}(r:aQ (k+1) A):aQ k A.in1:=
 #[r.hd,by have:=r.dp;show A.depth+3 * k+5<_;omega,by have:=r.un;show A.units+1+16 * k+200<_;omega]
theorem fb_{A:Af}{C:Addr}{us:aj}:(A.under (.builtin "type.__call__" #[.ref C::us,kw])).depth=A.depth+1:=by
 first|rfl|simp[Around.under,Code.weight,Code.isCreation,Code.isGuard,Code.isCaller,Code.frames,Code.isFrame,guardIds]
theorem fg_{A:Af}{C:Addr}{us:aj}:(A.under (.builtin "type.__call__" #[.ref C::us,kw])).units=A.units+1:=by
 first|rfl|simp[Around.under,Code.cUnits,Code.frames,Code.isFrame]
theorem aQ.make{A:Af}(r:aQ (k+1) A)(C:Addr)(us:aj)(kw:List (Str × Aa)):aQ k (A.under (.builtin "type.__call__" #[.ref C::us,kw])):=
 #[r.hd,by have:=r.dp;rw[fb_];omega,by have:=r.un;rw[fg_];omega]
theorem aQ.depth{A:Af}(r:aQ k A):A.depth<recursionLimit:=by have:=r.dp;omega
theorem aQ.units{A:Af}(r:aQ k A):A.units+64<cLine:=by have:=r.un;omega
def ou:TA:=λ_ H Q=>Q [] H
def jo(ta:TE)(tr:TA):TA:=λσ H Q=>ta σ H λx H1=>tr σ H1 λxs H2=>Q (x::xs) H2
section
variable{X:Cx}{e:Expr}{es:List Expr}{te:TE}{t:TA}{pos:Pos}
theorem bO:PA X [] ou:=λ_ _ _ _ H Q I h=>Calls.spliced_nil #[[],H,I,.nil,h]
theorem iM(ha:PE X e te)(hr:PA X es t)(hs:starEach (e::es) X.env=(false,eval e X.env)::starEach es X.env:=by rfl):PA X (e::es) (jo te t):=by
 intro pos pins s σ H Q I h;rw[hs];show wpAny _ _ (spliced ((false,eval e X.env)::backTo pos (starEach es X.env))) _ _ s;apply Calls.spliced_cons (aO (ha pins s σ H _ I h) λu s1 ⟨x,H1,I1,r1,q1⟩=>?_);exact aO (hr pos pins s1 σ H1 _ I1 q1) λus s2 ⟨xs,H2,I2,r2,q2⟩=>#[x::xs,H2,I2,.cons r1 r2,q2]
def Cc(t:TA):TE:=λσ H Q=>t σ H λxs H1=>xs.length<=sizeLine/\∀p,H1 p=none->Q (.ref p) (upd H1 p (.tup xs))
def JX(t:TA):TE:=λσ H Q=>t σ H λxs H1=>xs.length<=sizeLine/\∀p,H1 p=none->Q (.ref p) (upd H1 p (.lst xs))
theorem fY{x1}(h:PA X es t):PE X (.Tuple es x1 pos) (Cc t):=by
 intro pins s σ H Q I hq;apply wpAny_Tuple_spliced (aO (h pos pins s σ H _ I hq) λus s1 ⟨xs,H1,I1,r,z,q⟩=>#[by rw[<- r.length];exact z,?_]);have hf:H1 s1.heap.objs.size=none:=I1.az.fresh (a_ _);apply#[.ref s1.heap.objs.size,upd H1 s1.heap.objs.size (.tup xs),I1.laid (t':=s1.toks) (λb u e=>aU _ e) (a_ _) ?_,Z,q _ hf];exact#[z,us,r,#[_,cz _ Z,Z,_,Z],_,cz _ Z,Z]
theorem fN(h:PA X es t):PE X (.List es pos) (JX t):=by
 intro pins s σ H Q I hq;apply wpAny_List_spliced (aO (h pos pins s σ H _ I hq) λus s1 ⟨xs,H1,I1,r,z,q⟩=>#[by rw[<- r.length];exact z,?_]);have hf:H1 s1.heap.objs.size=none:=I1.az.fresh (a_ _);apply#[.ref s1.heap.objs.size,upd H1 s1.heap.objs.size (.lst xs),I1.laid (t':=s1.toks) (λb u e=>aU _ e) (a_ _) ?_,Z,q _ hf];exact#[z,us,0,r,cz _ Z]
end
abbrev Sp:=ag->Hp->VK->XK->Prop
abbrev uR:=List Env->Hp->Ab->XK->Aa->Ab->Prop
structure iA (P:Ad) (w:Ag) (K:ai) (mg:Str->Option Aa) (base:Heap) (A:Af) (outer:List Env) (s:Ab) (H:Hp):Prop where
 frames:A.frames\outer
 mod:Mod K mg base
 bs:∀b o,base.get? b\o->s.heap.get? b\o/\H b=none
 tq:base.objs.size<=s.heap.objs.size
 fR:s.heap.FunFrames base outer
 vU:∀b∈oO outer,H b=none
 az:fO P w H s.heap
 bare:AllBare s.gens
def CE(outer:List Env)(P:Ad)(w:Ag)(H:Hp)(s:Ab)(Q:VK)(u:Aa)(s':Ab):Prop:=
 ∃v H',s'.os=s.os/\AllBare s'.gens/\Un (oO outer) [] H H' s.heap s'.heap/\fO P w H' s'.heap/\RelV v u/\Q v H'
def CR(CX:uR)(outer:List Env)(P:Ad)(w:Ag)(H:Hp)(s:Ab)(Q:VK)(E:XK)(r:Result)(s':Ab):Prop:=
 match r with
 |.ok (.ret u)=>CE outer P w H s Q u s'
 |.ok _=>False
 |.error e=>CX outer H s E e s'
structure aq (P:Ad) (w:Ag) (K:ai) (mg:Str->Option Aa) (base:Heap) (CX:uR) (k:Nat) (f:Addr) (fd:Ae) (ps:af) (sp:Sp):Prop where
 len:∀vs H Q E,sp vs H Q E->vs.length=ps.length
 run:∀(A:Af) (outer:List Env) (s:Ab) (H:Hp) (args:Args) (us:aj) (vs:ag) (Q:VK) (E:XK),aQ k A->iA P w K mg base A outer s H->BindsTo s fd args (ps.zip us)->Vals vs us->sp vs H Q E->
  codeAny (model P w) A (.call (.ref f) args) (CR CX outer P w H s Q E) s
variable{K:ai}{f:Addr}{mg:Str->Option Aa}{base:Heap}{CX:uR}{fd:Ae}{ps:af}
theorem aq.imp{sp A4:Sp}(F:aq P w K mg base CX k f fd ps sp)(h:∀vs H Q E,A4 vs H Q E->sp vs H Q E):aq P w K mg base CX k f fd ps A4:=
 #[λvs H Q E q=>F.len vs H Q E (h _ _ _ _ q),λA outer s H args us vs Q E hr he hb hv hs=>F.run A outer s H args us vs Q E hr he hb hv (h _ _ _ _ hs)]
variable{H:Hp}{A:Af}{outer:List Env}
theorem iA.make{s:Ab}(e:iA P w K mg base A outer s H)(C:Addr)(us:aj)(kw:List (Str × Aa)) :
  iA P w K mg base (A.under (.builtin "type.__call__" #[.ref C::us,kw])) outer s H:=#[by first|exact e.frames|(simpa [Around.under,Code.envs,Code.isFrame,pushEnvs] using e.frames),e.mod,e.bs,e.tq,e.fR,e.vU,e.az,e.bare]
section
variable{X:Cx}{pins:List (Addr × Obj)}{σ:St}{H:Hp}{s s':Ab}
theorem Inv.Ah(I:Inv X pins σ H s):iA X.prog X.w X.K X.mg X.base X.A X.stack s H:=
 #[I.ok.frames,I.ok.mod,I.bs,iH I.ok.tq I.sz,I.stack,I.mL,I.az,I.bare]
theorem Inv.after{Q:VK}(I:Inv X pins σ H s)(h:CE X.stack X.prog X.w H s Q u s'):EP X pins σ Q u s':=by
 let#[v,H',os,bare,un,az,r,q]:=h;let#[hh,g,d,t,Xs]:=s';obtain rfl:Xs=s.os:=os;exact#[v,H',I.call (h':=hh) (g':=g) (d':=d) (t':=t) (ch:=[]) un az bare (λb z=>absurd z Z2),r,q]
end
def wV(sp:Sp)(gL:ag)(E:XK)(t:TA):TE:=λσ H Q=>t σ H λvs H1=>sp (vs++gL) H1 Q E
inductive p9 (C:Addr) (m:Str) (sp:Sp) (gL:ag) (E:XK) (t:TA) (σ:St) (Q:VK) (x:V) (H1:Hp):Prop
 |mk:∀a dx fs,x=.ref a->H1 a\.ins C dx fs->fs.lookup m=none->(t σ H1 λvs H2=>sp (x::(vs++gL)) H2 Q E)->p9 C m sp gL E t σ Q x H1
def mJ(C:Addr)(m:Str)(sp:Sp)(gL:ag)(E:XK)(ta:TE)(t:TA):TE:=λσ H Q=>ta σ H λx H1=>p9 C m sp gL E t σ Q x H1
def wN(C:Addr)(sp:Sp)(gL:ag)(E:XK)(t:TA):TE:=λσ H Q=>t σ H λvs H1=>∀x dx,H1 x=none->H1 dx=none->dx≠x->
 sp (.ref x::(vs++gL)) (upd (upd H1 dx (.own x)) x (.ins C dx [])) (λv H2=>v=.non/\Q (.ref x) H2) E
def ph(K:ai)(fd:Ae)(ps:af)(ds:aj):Prop:=
 ∀(s:Ab) (us:aj),K.In s.heap->(us++ds).length=ps.length->BindsTo s fd #[us,[]] (ps.zip (us++ds))
theorem ph.all(h:∀us:aj,us.length=ps.length->bindArgs fd #[us,[]]=pure (ps.zip us)):ph K fd ps []:=λs us _ hl=>by
 rw[List.append_nil] at hl ⊢;exact .of_eq (h us hl)
def wx(CX:uR)(X:Cx)(E:XK):Prop:=∀(pins:List (Addr × Obj)) (σ:St) (H:Hp) (s:Ab) (e:Aa) (s':Ab),Inv X pins σ H s->CX X.stack H s E e s'->X.xe e s'
variable{E:XK}{Q:VK}{gL vs:ag}{sp:Sp}{ds:aj}
theorem Mr{s:Ab}{us:aj}(F:aq X.prog X.w X.K X.mg X.base CX k f fd ps sp)(hr:aQ k X.A)(hb:ph X.K fd ps ds)(hd:Vals gL ds)(hx:wx CX X E)(I:Inv X pins σ H s)(r:Vals vs us)(h:sp (vs++gL) H Q E):wpAny (model X.prog X.w) X.A (call (.ref f) us) (EP X pins σ Q) X.xe s:=by
 have r2:Vals (vs++gL) (us++ds):=r.append hd;have hl:(us++ds).length=ps.length:=by rw[<- r2.length];exact F.len _ _ _ _ h
 apply wpAny_call (codeAny_mono (F.run X.A X.stack s H #[us,[]] (us++ds) (vs++gL) Q E hr I.Ah (hb s us I.gz hl) r2 h) λr s' hq=>?_);cases r with
 |error e=>exact hx pins σ H s e s' I hq
 |ok fl=>
  cases fl with
  |ret u=>exact I.after hq
  |next=>exact False.elim hq
  |brk=>exact False.elim hq
  |cont=>exact False.elim hq
variable{x:Str}{t:TA}{e:Expr}
theorem _d(F:aq X.prog X.w X.K X.mg X.base CX k f fd ps sp)(hr:aQ k X.A)(hg:Gl X x)(hm:X.mg x\.ref f)(hk:PySem.W.keepIn X.K (.ref f)=true)(hb:ph X.K fd ps ds)(hd:Vals gL ds)(hx:wx CX X E)
  (ha:PA X (e::es) t) (rT:(x == ("__debug__":Str))=false:=by decide) (he:starEach (e::es) X.env=(false,eval e X.env)::starEach es X.env:=by rfl) (ig:(backTo pos (starEach es X.env)).any (·.1)=false:=by rfl) :
  PE X (.Call (.Name x p) (e::es) [] pos) (wV sp gL E t):=by
 intro pins s σ H Q I h;apply wpAny_Call_Name_kw (MV I hg hm ?_ rT);apply PySem.W.callWith_K (h₀:=X.base) I.ok.mod.Dp hk (aO (ha pos pins s σ H _ I h) λus s1 ⟨vs,H1,I1,r,q⟩=>#[I1.gz,?_]) he ig;exact Mr F hr hb hd hx I1 r q
variable{o:Expr}{ta:TE}{C:Addr}{m:Str}{apos:Pos}
theorem _a(he:PE X o ta)(c:mB X.K C)(hm:Meth X.K C m f)(F:aq X.prog X.w X.K X.mg X.base CX k f fd ps sp)(hr:aQ k X.A)(hb:ph X.K fd ps ds)(hd:Vals gL ds)(hx:wx CX X E)(ha:PA X (e::es) t)(zx:starEach (e::es) X.env=(false,eval e X.env)::starEach es X.env:=by rfl)(ig:(backTo pos (starEach es X.env)).any (·.1)=false:=by rfl)(ht:eval (.Call (.Attribute o m apos) (e::es) [] pos) X.env=(do
   let ov <- eval o X.env
   standAt apos.atName
   let (f,first) <- holding [ov] (getMethod ov m pl)
   callWith pos f first (backTo pos (starEach (e::es) X.env)) (backToKw pos (keywordEach [] X.env))):=by rfl) :
  PE X (.Call (.Attribute o m apos) (e::es) [] pos) (mJ C m sp gL E ta t):=by
 intro pins s σ H Q I h;apply PySem.W.methodCall_KW (pl:=pl) (aO (he pins s σ H _ I h) λu s1 ⟨x,H1,I1,rx,a,dx,fs,ex,ea,l,q⟩=>?_) ht;subst ex;obtain rfl:u=Value.ref a:=rx;apply Uu I1 ea c hm l ?_;apply PySem.W.callWith_K (first:=[.ref a]) (h₀:=X.base) I.ok.mod.Dp hm.kp (aO (ha pos pins s1 σ H1 _ I1 q) λus s2 ⟨vs,H2,I2,r,q2⟩=>#[I2.gz,?_]) zx ig;exact Mr (us:=.ref a::us) (vs:=.ref a::vs) F hr hb hd hx I2 (.cons Z r) q2
theorem hE_(he:PE X o ta)(c:mB X.K C)(hm:Meth X.K C m f)(F:aq X.prog X.w X.K X.mg X.base CX k f fd ps sp)(hr:aQ k X.A)(hb:ph X.K fd ps ds)(hd:Vals gL ds)(hx:wx CX X E)(ht:eval (.Call (.Attribute o m apos) [] [] pos) X.env=(do
   let ov <- eval o X.env
   standAt apos.atName
   let (f,first) <- holding [ov] (getMethod ov m pl)
   callWith pos f first (backTo pos (starEach [] X.env)) (backToKw pos (keywordEach [] X.env))):=by rfl) :
  PE X (.Call (.Attribute o m apos) [] [] pos) (mJ C m sp gL E ta ou):=by
 intro pins s σ H Q I h;apply PySem.W.methodCall_KW (pl:=pl) (aO (he pins s σ H _ I h) λu s1 ⟨x,H1,I1,rx,a,dx,fs,ex,ea,l,q⟩=>?_) ht;subst ex;obtain rfl:u=Value.ref a:=rx;apply Uu I1 ea c hm l ?_;exact PySem.W.callWith_K0 (first:=[.ref a]) I1.gz hm.kp (Mr (us:=[.ref a]) (vs:=[.ref a]) F hr hb hd hx I1 (.cons Z .nil) q)
structure Mk (K:ai) (C f:Addr):Prop where
 makes:PySem.W.makesIn K C=true
 init:PySem.W.findIn K (.ref C) "__init__"\some (.ref f)
 fn:PySem.W.isFn K (.ref f)=true
 kp:PySem.W.keepIn K (.ref C)=true
theorem hG_{s:Ab}{us:aj}(M:Mk X.K C f)(F:aq X.prog X.w X.K X.mg X.base CX k f fd ps sp)(hr:aQ (k+1) X.A)(hb:ph X.K fd ps ds)(hd:Vals gL ds)(hx:wx CX X E)(I:Inv X pins σ H s)(r:Vals vs us)(h:∀x dx,H x=none->H dx=none->dx≠x->sp (.ref x::(vs++gL)) (upd (upd H dx (.own x)) x (.ins C dx [])) (λv H2=>v=.non/\Q (.ref x) H2) E) :
  wpAny (model X.prog X.w) X.A (call (.ref C) us) (EP X pins σ Q) X.xe s:=by
 let hq:=h (s.heap.objs.size+1) s.heap.objs.size (I.az.fresh (Nat.le_succ _)) (I.az.fresh (a_ _)) (dR (Nat.lt_succ_self _));let I2:=Inv.made (C:=C) I;have r2:Vals (V.ref (s.heap.objs.size+1)::(vs++gL)) (Value.ref (s.heap.objs.size+1)::(us++ds)):=.cons Z (r.append hd)
 have hl:(Value.ref (s.heap.objs.size+1)::us++ds).length=ps.length:=by
  let e:=r2.length;rw[F.len _ _ _ _ hq] at e;exact e.symm
 apply wpAny_call (hN_ (f:=f) I.gz M.makes M.init (beq_iff_eq.mp M.fn) (codeAny_mono (F.run _ X.stack _ _ #[Value.ref (s.heap.objs.size+1)::us,[]] (Value.ref (s.heap.objs.size+1)::(us++ds)) _ _ E (hr.make C us [])
  (I2.Ah.make C us []) (hb _ (Value.ref (s.heap.objs.size+1)::us) I2.gz hl) r2 hq) λr s' hq'=>?_))
 cases r with
 |error e=>exact hx pins σ _ _ e s' I2 hq'
 |ok fl=>
  cases fl with
  |ret u=>
   let#[v,H',I3,rv,ev,q3]:=I2.after hq';subst ev;exact#[rv,#[V.ref (s.heap.objs.size+1),H',I3,Z,q3]]
  |next=>exact False.elim hq'
  |brk=>exact False.elim hq'
  |cont=>exact False.elim hq'
theorem YW(M:Mk X.K C f)(F:aq X.prog X.w X.K X.mg X.base CX k f fd ps sp)(hr:aQ (k+1) X.A)(hg:Gl X x)(hm:X.mg x\.ref C)(hb:ph X.K fd ps ds)(hd:Vals gL ds)(hx:wx CX X E)
  (ha:PA X (e::es) t) (rT:(x == ("__debug__":Str))=false:=by decide) (he:starEach (e::es) X.env=(false,eval e X.env)::starEach es X.env:=by rfl) (ig:(backTo pos (starEach es X.env)).any (·.1)=false:=by rfl) :
  PE X (.Call (.Name x p) (e::es) [] pos) (wN C sp gL E t):=by
 intro pins s σ H Q I h;apply wpAny_Call_Name_kw (MV I hg hm ?_ rT);apply PySem.W.callWith_K (h₀:=X.base) I.ok.mod.Dp M.kp (aO (ha pos pins s σ H _ I h) λus s1 ⟨vs,H1,I1,r,q⟩=>#[I1.gz,?_]) he ig;exact hG_ M F hr hb hd hx I1 r q
def PK(X:Cx)(Ba:List Keyword)(t:TA):Prop:=
 ∀(pos:Pos) (pins:List (Addr × Obj)) (s:Ab) (σ:St) (H:Hp) (Q:ag->Hp->Prop),Inv X pins σ H s->t σ H Q->wpAny (model X.prog X.w) X.A (evalAll ((backToKw pos (keywordEach Ba X.env)).map (·.2))) (AP X pins σ Q) X.xe s
theorem Yw:PK X [] ou:=λ_ _ _ _ H Q I h=>wpAny_evalAll_nil #[[],H,I,.nil,h]
variable{K6:Pos}{Ba:List Keyword}{nm:Option Str}
theorem YL(ha:PE X e te)(hr:PK X Ba t):PK X (#[nm,e,K6]::Ba) (jo te t):=by
 intro pos pins s σ H Q I h;show wpAny _ _ (evalAll ((do let v <- eval e X.env;standAt pos;pure v)::(backToKw pos (keywordEach Ba X.env)).map (·.2))) _ _ s;apply wpAny_evalAll_cons (ae (aO (ha pins s σ H _ I h) λu s1 ⟨x,H1,I1,r1,q1⟩=>ae (wpAny_standAt (aE ?_))));exact aO (hr pos pins s1 σ H1 _ I1 q1) λus s2 ⟨xs,H2,I2,r2,q2⟩=>#[x::xs,H2,I2,.cons r1 r2,q2]
structure Pm (K:ai) (fd:Ae) (ps ks:af) (g:aj->aj->aj) (gV:ag->ag->ag):Prop where
 to:∀(s:Ab) (us ws:aj),K.In s.heap->(g us ws).length=ps.length->BindsTo s fd #[us,ks.zip ws] (ps.zip (g us ws))
 rel:∀{vs:ag} {us:aj} {zs:ag} {ws:aj},Vals vs us->Vals zs ws->Vals (gV vs zs) (g us ws)
structure bG (N P:af) (sc:Scope):Prop where
 kind:sc.kind=.function
 co:sc.isCoroutine=false
 gen:sc.isGenerator=false
 nd:N.Nodup
 pre:N.take P.length=P
 par:∀x∈P,sc.names.lookup x\.local∨sc.names.lookup x\.cell
 y9:∀y∈sc.names,y.2≠.free
theorem Ua{kindOf:Str->Option NameKind}{x:Str}:∀{binds:List (Str × Aa)} {m:Str->Option Aa},(∀v,(x,v)∉binds)->bindL kindOf binds m x=m x
 |[],_,_=>rfl
 |(n,v)::r,m,h=>by
  unfold bindL;rw[Ua λw hw=>h w (fM _ hw)];split
  ·have:x≠n:=by rintro rfl;exact h v fX
   simp[this]
  rfl
theorem Ud{kindOf:Str->Option NameKind}{x:Str}:∀{binds:List (Str × Aa)} {m:Str->Option Aa},(∀v,(x,v)∉binds)->bindC kindOf binds m x=m x
 |[],_,_=>rfl
 |(n,v)::r,m,h=>by
  unfold bindC;rw[Ud λw hw=>h w (fM _ hw)];split
  ·rfl
  have:x≠n:=by rintro rfl;exact h v fX
  simp[this]
theorem TZ{kindOf:Str->Option NameKind}{x:Str}{v:Aa}:∀{P:af} {vs:aj} {i:Nat} {m:Str->Option Aa},P.Nodup->P[i]? = some x->vs[i]? = some v->kindOf x\.local->
  bindL kindOf (P.zip vs) m x\v
 |[],_,_,_,_,h,_,_=>by simp at h
 |_::_,[],_,_,_,_,h,_=>by simp at h
 |p::P,w::vs,0,m,nd,h1,h2,hk=>by
  simp at h1 h2;subst h1;subst h2;show bindL kindOf ((p,w)::P.zip vs) m p=_;unfold bindL;rw[Ua λv hv=>(jk.mp nd).1 (List.of_mem_zip hv).1,aI hk];simp
 |p::P,w::vs,i+1,m,nd,h1,h2,hk=>by
  show bindL kindOf ((p,w)::P.zip vs) m x=_;unfold bindL;exact TZ (i:=i) (jk.mp nd).2 ⇑h1 ⇑h2 hk
theorem T5{kindOf:Str->Option NameKind}{x:Str}{v:Aa}:∀{P:af} {vs:aj} {i:Nat} {m:Str->Option Aa},P.Nodup->P[i]? = some x->vs[i]? = some v->kindOf x≠some .local->
  bindC kindOf (P.zip vs) m x\v
 |[],_,_,_,_,h,_,_=>by simp at h
 |_::_,[],_,_,_,_,h,_=>by simp at h
 |p::P,w::vs,0,m,nd,h1,h2,hk=>by
  simp at h1 h2;subst h1;subst h2;show bindC kindOf ((p,w)::P.zip vs) m p=_;unfold bindC;rw[Ud λv hv=>(jk.mp nd).1 (List.of_mem_zip hv).1,aA hk];simp
 |p::P,w::vs,i+1,m,nd,h1,h2,hk=>by
  show bindC kindOf ((p,w)::P.zip vs) m x=_;unfold bindC;exact T5 (i:=i) (jk.mp nd).2 ⇑h1 ⇑h2 hk
def start(N:af)(vs:ag):St:=vs.map some++List.replicate (N.length - vs.length) none
def jI(CX:uR)(P:Ad)(w:Ag)(K:ai)(mg:Str->Option Aa)(base:Heap)(N:af)(qual:Str)(scope:Scope)(f:Addr)(cd:Aa)(A:Af)(outer:List Env)(s:Ab)(H:Hp)(E:XK):Cx where
 prog:=P
 w:=w
 K:=K
 mg:=mg
 base:=base
 A:=A.deeper (envOfC qual scope s.heap.objs.size f cd)
 N:=N
 dc:=s
 j7:=H
 env:=envOfC qual scope s.heap.objs.size f cd
 outer:=outer
 stack:=envOfC qual scope s.heap.objs.size f cd::outer
 ex:=[]
 calm:=true
 fn:=λ_=>true
 pn:=[]
 xe:=λe s'=>wpAny (model P w) (A.deeper (envOfC qual scope s.heap.objs.size f cd)) (leaving (envOfC qual scope s.heap.objs.size f cd) e) (λ_ o8=>CX outer H s E e o8) (λe' o8=>CX outer H s E e' o8) s'
theorem SL{sc:Scope}(h:sc.names.lookup x\.cell):∃c,(cellsFrom n sc.names []).lookup x\c:=by
 let q:=PySem.W.cellsFrom_some sc.names n [] (.inl h);exact Option.isSome_iff_exists.mp q
variable{N:af}{qual:Str}{scope:Scope}
theorem fG_{cd:Aa}{s s1:Ab}{us:aj}(S:bG N ps scope)(hd:A.handled=none)(e0:iA P w K mg base A outer s H)(hl:vs.length=ps.length)(r:Vals vs us)(x:InCallC s s.heap.objs.size (bindL (envOfC qual scope s.heap.objs.size f cd).kindOf (ps.zip us) λ_=>none) (cellsFrom (s.heap.objs.size+1) scope.names []) (bindC (envOfC qual scope s.heap.objs.size f cd).kindOf (ps.zip us) λ_=>none) s1) :
  Inv (jI CX P w K mg base N qual scope f cd A outer s H E) [] (start N vs) H s1:=by
 have ig:ps.length<=N.length:=by have:=d5 List.length S.pre;rw[dH] at this;omega
 let#[h1,tk,rfl,hk]:=x.done;have vt:∀b:Addr,b∉(jI CX P w K mg base N qual scope f cd A outer s H E).ex:=λb z=>absurd (show b∈([]:au) from z) Z2
 apply#[#[e0.mod,S.kind,Z,Z,a_ _,λy z c h1 h2=>?_,λy hy=>?_,λy c _ h=>?_,λ_=>hd,Around.frames_deeper e0.frames,.inr #[Z,Z],λb z=>absurd z (vt b),e0.bs,e0.tq,λb _ _=>vt b,λb z=>absurd z (vt b),e0.fR,e0.vU],
  rfl,e0.bare,Un.kept hk,#[_,x.toInCall.ns,λi y v h1 h2 h3=>?_],λy c h=>#[_,x.cell y c h],e0.az.fresh (a_ _),λy c h=>?_,λp hp=>absurd (show p∈([]:List (Addr × Obj)) from hp) Z2,e0.az.kept hk,?_]
 ·exact name_of_addr x.apart (pM h1) (pM h2)
 ·have hy:scope.names.lookup y\.cell∨scope.names.lookup y\.free:=hy;rcases hy with hy|hy
  ·exact SL hy
  exact absurd Z (S.y9 _ (pM hy))
 ·exact Nat.le_of_lt (x.above y c (pM h))
 ·have hi:i<vs.length:=by
   unfold start at h2;by_cases hi:i<vs.length
   ·exact hi
   rw[AW ⇑hi] at h2;rw[List.getElem?_replicate] at h2;split at h2<;>cases h2
  have ha:vs[i]? = some v:=by
   unfold start at h2;rw[xZ ⇑hi,di] at h2;cases e:vs[i]? with
   |none=>rw[e] at h2;cases h2
   |some a=>rw[e] at h2;cases h2;rfl
  let#[u,hu,rv]:=r.get ha
  have hp:ps[i]? = some y:=by
   rw[<- S.pre,List.getElem?_take_of_lt Z1];exact h1
  have Gv:ps.Nodup:=by rw[<- S.pre];exact S.nd.sublist (List.take_sublist _ _)
  apply#[u,rv,?_];rcases S.par y (cQ hp) with k|k
  ·exact .inl #[k,TZ Gv hp hu k]
  let#[c,e]:=SL (n:=s.heap.objs.size+1) k;apply .inr #[.inl k,c,e,?_];let q:=x.cell y c e;rw[T5 Gv hp hu (by show scope.names.lookup y≠_;rw[k];decide)] at q;exact q
 ·exact e0.az.fresh (Nat.le_of_lt (x.above y c (pM h)))
 unfold start;show _=N.length;rw[d9,ak,BK];omega
theorem QQ{name:Str}{params:Arguments}{dV kV doc pm aN ct oc:Aa}{an od:Option Addr}{ka:Array (Option Aa)}(lk:K.lookup f=some #[oc,od,.func (PySem.W.fnOf name qual params body scope dV kV doc pm an aN ct),ka])(ik:PySem.W.codeIn K aN qual=true)(S:bG N ps scope)(len:∀vs H Q E,sp vs H Q E->vs.length=ps.length)(fP:∀(A:Af) (outer:List Env) (s:Ab) (H:Hp) (vs:ag) (Q:VK) (E:XK),aQ k (A.deeper (envOfC qual scope s.heap.objs.size f aN))->sp vs H Q E->
   ∃t,kE (jI CX P w K mg base N qual scope f aN A outer s H E) body t/\t { nx:=λ_ H'=>Q .non H',rt:=Q } (start N vs) H) :
  aq P w K mg base CX (k+1) f (PySem.W.fnOf name qual params body scope dV kV doc pm an aN ct) ps sp:=by
 apply#[len,λA outer s H args us vs Q E hr e0 hb r kg=>?_];let hl:=len _ _ _ _ kg;have KX:K.In s.heap:=e0.mod.Dp.keeps λb o e=>(e0.bs b o e).1;have lim:s.heap.NoLimit:=e0.mod.nolimit.keeps λb o e=>(e0.bs b o e).1
 have Eh:∀y∈ps.zip us,scope.names.lookup y.1\.local∨(scope.names.lookup y.1\.cell/\((cellsFrom (s.heap.objs.size+1) scope.names []).lookup y.1).isSome=true):=λ⟨n,v⟩ hy=>by
  rcases S.par n (List.of_mem_zip hy).1 with q|q
  ·exact .inl q
  exact .inr #[q,PySem.W.cellsFrom_some _ _ _ (.inl q)]
 apply codeAny_call_function hr.depth (KX _ _ lk) Z S.co S.gen Z (PySem.W.codeRec_of KX ik) (hb _ _ _ _ ?_);apply wpAny_newFunctionEnv_cells S.kind Eh λenv he s1 x=>?_;subst he;apply#[lim.keeps x.toInCall.keep,codeAny_func ?_];let#[t,ht,hq]:=fP A outer s H vs Q E (hr.deeper _) kg;have I:Inv (jI CX P w K mg base N qual scope f aN A outer s H E) [] (start N vs) H s1:=fG_ S hr.hd e0 hl r x;apply wpAny_mono (ht [] s1 (start N vs) H _ I hq) (λfl s' hs=>?_) λe s' hs=>hs
 have fin:∀{aX:St} {H':Hp} {v:V} {u:Aa},Inv (jI CX P w K mg base N qual scope f aN A outer s H E) [] aX H' s'->RelV v u->Q v H'->CE outer P w H s Q u s':=
  λ{aX H' v u} J rv q=>#[v,H',J.os,J.bare,J.base,J.az,rv,q]
 cases fl with
 |ret u=>
  let#[v,aX,H',J,rv,q]:=hs;exact fin J rv q
 |next=>
  let#[aX,H',J,q]:=hs;exact fin (v:=V.non) (u:=Value.none) J Z q
 |brk=>
  let#[_,_,_,q]:=hs;exact False.elim q
 |cont=>
  let#[_,_,_,q]:=hs;exact False.elim q
def PQ(r:ag->Hp->VK->Prop)(t:TA):TE:=λσ H Q=>t σ H λvs H1=>r vs H1 Q
variable{r:ag->Hp->VK->Prop}{id:String}
theorem cJ(hc:gn X (.builtin id) r)(hg:Gl X x)(hm:X.mg x=none)(hv:bootBuiltins x\.builtin id)(ha:PA X (e::es) t)(hn:x≠"__name__":=by decide)(rT:(x == ("__debug__":Str))=false:=by decide)
  (he:starEach (e::es) X.env=(false,eval e X.env)::starEach es X.env:=by rfl) (ig:(backTo pos (starEach es X.env)).any (·.1)=false:=by rfl):PE X (.Call (.Name x p) (e::es) [] pos) (PQ r t):=by
 intro pins s σ H Q I h;apply wpAny_Call_Name_kw (wm I hg hm hv ?_ hn rT);exact PyProof.Rows.callWith_builtin1 (aO (ha pos pins s σ H _ I h) λus s1 ⟨vs,H1,I1,r1,q1⟩=>hc pins s1 σ H1 vs us Q I1 r1 q1) he ig
variable{T:String}
theorem i0(hc:gn X (.type T) r)(hg:Gl X x)(hm:X.mg x=none)(hv:bootBuiltins x\.type T)(ha:PA X (e::es) t)(hn:x≠"__name__":=by decide)(rT:(x == ("__debug__":Str))=false:=by decide)
  (he:starEach (e::es) X.env=(false,eval e X.env)::starEach es X.env:=by rfl) (ig:(backTo pos (starEach es X.env)).any (·.1)=false:=by rfl):PE X (.Call (.Name x p) (e::es) [] pos) (PQ r t):=by
 intro pins s σ H Q I h;apply wpAny_Call_Name_kw (wm I hg hm hv ?_ hn rT);exact By (aO (ha pos pins s σ H _ I h) λus s1 ⟨vs,H1,I1,r1,q1⟩=>hc pins s1 σ H1 vs us Q I1 r1 q1) he ig
end L2
local macro_rules|`(!$f:ident $a*)=>if [`bw,`mC,`bW,`aq,`j1].contains f.getId then let i:=Lean.mkIdent;`($f $(i `P) $(i `w) $(i `K) $(i `mg) $(i `base) $a*)else Lean.Macro.throwUnsupported
namespace HT
open PySem PyProof.Rows
section
open PySem.SeqAt
open PySem.AutoSeq1 (wpAny_loadPart')
open PySem.MeetsSeq PySem.MeetsSeq2 PySem.MeetsSeq3
end
variable{t:Addr}{E Q:Aa->Ab->Prop}{prog:Ad}{w:Ag}{A:Af}{s:Ab}
theorem v_{b:Addr}{vs ws:aj}(ht:IsTup s.heap t vs.toArray)(hb:IsTup s.heap b ws.toArray)(hv:vs≠[])(h1:ws=[]->Q (.ref t) s)(h2:ws≠[]->Q (.ref s.heap.objs.size) { s with heap:=s.heap.push { cls:=.type "tuple",data:=.seq (vs++ws).toArray } })(hsz:vs.length+ws.length<=sizeLine):wpAny (model prog w) A (binaryOp .Add (.ref t) (.ref b)) Q E s:=by
 let#[#[cls,dd,data,sl],ho,hc,n,hd]:=id ht;let#[#[N7,Ij,data2,F3],fq,ko,n2,hd2]:=id hb;simp only at hc hd ko hd2;subst hc hd ko hd2;have e:vs.toArray++ws.toArray=(vs++ws).toArray:=by simp
 by_cases hw:ws=[]
 ·exact concat_meets #[_,ho,Z] #[_,fq,Z] noFill_tuple_add seq_tuple_add PySem.F.slot_tuple_add PySem.F.entry_tuple_add (PySem.F.args_tuple_add_2 _ _)
   (tuple_addW1 t b vs.toArray ws.toArray n n2 dd Ij sl F3 ⇑hv (by simp[hw])) #[ho,fq,h1 hw]
 apply concat_meets #[_,ho,Z] #[_,fq,Z] noFill_tuple_add seq_tuple_add PySem.F.slot_tuple_add PySem.F.entry_tuple_add (PySem.F.args_tuple_add_2 _ _)
  (tuple_addW2 t b vs.toArray ws.toArray n n2 dd Ij sl F3 ⇑hv ⇑hw (by rw[cj,cj];exact hsz)) #[ho,fq,?_]
 rw[e];exact h2 hw
def cq(n d:Nat):Option Int->Nat
 |none=>d
 |some v=>if v<0 then (v+(n:Int)).toNat else min v.toNat n
theorem er(n d:Nat):cq n d none=d:=rfl
theorem dU(n d k:Nat):cq n d (some (k:Int))=min k n:=by
 show (if (k:Int)<0 then ((k:Int)+(n:Int)).toNat else min (k:Int).toNat n)=min k n;rw[aA Z1,x8]
theorem Zk(n d:Nat)(hd:d<=n)(o:Option Int):cq n d o<=n:=by
 cases o with
 |none=>exact hd
 |some v=>
  show (if v<0 then (v+(n:Int)).toNat else min v.toNat n)<=n;by_cases hv:v<0
  ·rw[aI hv];omega
  rw[aA hv];exact Nat.min_le_right _ _
theorem SE(v:Int)(n d:Nat):(if v<0 then max (v+(n:Int)) 0 else min v (n:Int))=((cq n d (some v):Nat):Int):=by
 show (if v<0 then max (v+(n:Int)) 0 else min v (n:Int))=(((if v<0 then (v+(n:Int)).toNat else min v.toNat n):Nat):Int);by_cases hv:v<0
 ·simp only[aI hv];omega
 simp only[aA hv];omega
theorem f8_(lo hi:Option Int)(n:Nat):Builtin.Slice.sliceAdjust lo hi 1 (n:Int)=(((cq n 0 lo:Nat):Int),((cq n n hi:Nat):Int)):=by
 have h1:¬((1:Int)<0):=by omega
 unfold Builtin.Slice.sliceAdjust;simp only[h1,if_false];apply Prod.ext ?_ ?_
 ·cases lo with
  |none=>rfl
  |some v=>exact SE v n 0
 cases hi with
 |none=>rfl
 |some v=>exact SE v n n
theorem fv_(i j:Nat):Builtin.Slice.slicePlaces (i:Int) (j:Int) 1=j - i:=by
 unfold Builtin.Slice.slicePlaces;have h1:(1:Int) > 0:=by omega
 simp only[h1,if_true,Int.ediv_one];split<;>omega
theorem TL{v:Aa}{o:Option Int}{Q:Option Int->Ab->Prop}(p:IsPart v o)(h:Q o s):wpAny (model prog w) A (Builtin.Slice.slicePartIndex v) Q E s:=by
 cases p with
 |none=>exact slicePart_none h
 |int i t=>exact slicePart_int h
variable{sl:Addr}{vl vu:Aa}{hi lo:Option Int}
theorem ci_{n:Nat}{Q:Int × Int × Nat->Ab->Prop}(hs:s.heap.IsSliceOf sl vl vu .none)(pl:IsPart vl lo)(pu:IsPart vu hi)(h:Q (((cq n 0 lo:Nat):Int),1,cq n n hi - cq n 0 lo) s):wpAny (model prog w) A (Builtin.Slice.sliceApplied (.ref sl) (pure (n:Int))) Q E s:=by
 let#[os,DY,RL,rR]:=id hs;unfold Builtin.Slice.sliceApplied Builtin.Slice.sliceFields;apply ae (ae (fE DY rR (x:=vl) Z (ae (fE DY rR (x:=vu) Z (ae (fE DY rR (x:=.none) Z (aE ?_)))))));apply ae (slicePart_none ?_);show wpAny _ _ (if ((1:Int) == 0)=true then _ else _) _ _ s;rw[aA (by decide)];apply ae (TL pl (ae (TL pu (ae (aE ?_)))));show wpAny _ _ (match Builtin.Slice.sliceAdjust lo hi 1 (n:Int) with|(lo,hi)=>pure (lo,(1:Int),Builtin.Slice.slicePlaces lo hi 1)) _ _ s;rw[f8_ lo hi n];show wpAny _ _ (pure (((cq n 0 lo:Nat):Int),(1:Int),Builtin.Slice.slicePlaces ((cq n 0 lo:Nat):Int) ((cq n n hi:Nat):Int) 1)) _ _ s;rw[fv_];exact aE h
theorem hC_(xs:Array Aa)(i k:Nat):((List.range k).filterMap λ(m:Nat)=>xs[((i:Int)+(m:Int) * 1).toNat]?).toArray=((xs.toList.drop i).take k).toArray:=by
 have e:(λ(m:Nat)=>xs[((i:Int)+(m:Int) * 1).toNat]?)=λm=>xs[i+m]?:=by
  funext m
  have:((i:Int)+(m:Int) * 1).toNat=i+m:=by omega
  rw[this]
 rw[e];have:=pick_run xs i k;rw[List.filterMap_map] at this;have e2:((λx=>xs[x]?) ∘ λx=>i+x)=λm=>xs[i+m]?:=rfl;rw[e2] at this;rw[this]
theorem fQ{items:Array Aa}(ht:IsTup s.heap t items)(hs:s.heap.IsSliceOf sl vl vu .none)(pl:IsPart vl lo)(pu:IsPart vu hi)(hw:¬(cq items.size 0 lo=0/\cq items.size items.size hi=items.size))(h:Q (.ref s.heap.objs.size) { s with heap:=s.heap.push { cls:=.type "tuple",data:=.seq ((items.toList.drop (cq items.size 0 lo)).take (cq items.size items.size hi - cq items.size 0 lo)).toArray } })(hsz:items.size<=sizeLine):wpAny (model prog w) A (getItem (.ref t) (.ref sl)) Q E s:=by
 have nC:sizeOk (.seq ((items.toList.drop (cq items.size 0 lo)).take (cq items.size items.size hi - cq items.size 0 lo)).toArray):=by
  show ((items.toList.drop (cq items.size 0 lo)).take (cq items.size items.size hi - cq items.size 0 lo)).toArray.size<=sizeLine;rw[cj,dH,x6,tJ];omega
 have hj:cq items.size items.size hi<=items.size:=Zk _ _ (a_ _) hi;let#[os,DY,RL,rR]:=id hs;have Mg:s.TypeIs (.ref sl) "slice":=#[os,DY,RL];unfold getItem
 try with_reducible apply iX ?_
 first|refine ae (aE ?_)|skip
 apply ae (wpAny_sequenceKey ht.typeIs (by decide) ?_)
 apply ae (uE (name:=Str.ofString "__getitem__") ht.typeIs PyProof.Rows.slot_tuple_getitem
  (sf PyProof.Rows.slot_tuple_getitem ht.typeIs entry_tuple_getitem ?_ (args_tuple_getitem _ _)))
 show wpAny _ _ (Builtin.Tuple.tupleItemsOf (.ref t) >>= _) _ _ s;apply ae (tupleItemsOf_ ht ?_);apply ae (wpAny_typeOf Mg ?_);rw[aI (by decide)];apply ae (ci_ hs pl pu ?_)
 have ki:¬((((cq items.size 0 lo:Nat):Int) == 0&&(1:Int) == 1&&(cq items.size items.size hi - cq items.size 0 lo) == items.size)=true):=by
  intro q;rw[Bool.and_eq_true,Bool.and_eq_true] at q;have q1:((cq items.size 0 lo:Nat):Int)=0:=eq_of_beq q.1.1;have q2:cq items.size items.size hi - cq items.size 0 lo=items.size:=eq_of_beq q.2;exact hw #[by omega,by omega]
 show wpAny _ _ (if (((cq items.size 0 lo:Nat):Int) == 0&&(1:Int) == 1&&(cq items.size items.size hi - cq items.size 0 lo) == items.size)=true then _ else _) _ _ s;rw[aA ki,hC_]
 first
  |exact ae (m:=Builtin.Tuple.tupleExact _) (pI (aE ⟨_,rfl,aE h⟩) nC)
  |exact ae (m:=Builtin.Tuple.tupleExact _) (pI (ae (aE (aE ⟨_,rfl,aE h⟩))) nC)
  |exact ae (ae (m:=Builtin.Tuple.tupleExact _) (pI (aE (aE ⟨_,rfl,aE h⟩)) nC))
  |exact ae (ae (m:=Builtin.Tuple.tupleExact _) (pI (aE ⟨_,rfl,aE h⟩) nC))
end HT
namespace L2
open PySem PySem.Spec PyProof.Rows
abbrev TO:=St->Hp->(Option Int->Hp->Prop)->Prop
def PO(X:Cx)(e:Option Expr)(t:TO):Prop:=
 ∀(pins:List (Addr × Obj)) (s:Ab) (σ:St) (H:Hp) (Q:Option Int->Hp->Prop),Inv X pins σ H s->t σ H Q->
  wpAny (model X.prog X.w) X.A (evalPart e X.env) (λu s'=>∃o H',Inv X pins σ H' s'/\IsPart u o/\Q o H') X.xe s
def uX:TO:=λ_ H Q=>Q none H
inductive p0 (Q:Option Int->Hp->Prop) (x:V) (H1:Hp):Prop
 |mk:∀i,x=.int i->Q (some i) H1->p0 Q x H1
def Cd(t:TE):TO:=λσ H Q=>t σ H λx H1=>p0 Q x H1
variable{us:aj}
section
variable{X:Cx}{e:Expr}{te:TE}{lo hi:Option Expr}{tl th:TO}{pos p2:Pos}
theorem AR:PO X none uX:=by
 intro pins s σ H Q I h;rw[evalPart_none];exact aE #[none,H,I,.none,h]
theorem AN(h:PE X e te):PO X (some e) (Cd te):=by
 intro pins s σ H Q I hw;rw[evalPart_some];apply aO (h pins s σ H _ I hw) λu s1 ⟨x,H1,I1,r1,q1⟩=>?_;let#[i,rfl,q]:=q1;let#[t,rfl]:=r1;exact#[some i,H1,I1,.int i t,q]
def Pi(X:Cx)(r:V->Option Int->Option Int->Hp->VK->Prop):Prop:=
 ∀(pins:List (Addr × Obj)) (s:Ab) (σ:St) (H:Hp) (x:V) (v vl vu:Aa) (lo hi:Option Int) (sl:Addr) (Q:VK),Inv X pins σ H s->RelV x v->s.heap.IsSliceOf sl vl vu .none->IsPart vl lo->IsPart vu hi->r x lo hi H Q->
  ∃T id,typeLookup (.type T) "__getitem__"=pure (some (.builtin id))/\s.TypeIs v T/\wpAny (model X.prog X.w) X.A (getItem v (.ref sl)) (EP X pins σ Q) X.xe s
def We(r:V->Option Int->Option Int->Hp->VK->Prop)(te:TE)(tl th:TO):TE:=λσ H Q=>te σ H λx H1=>tl σ H1 λl H2=>th σ H2 λu H3=>r x l u H3 Q
theorem AD{r:V->Option Int->Option Int->Hp->VK->Prop}(hr:Pi X r)(he:PE X e te)(hl:PO X lo tl)(hu:PO X hi th):PE X (.Subscript e (.Slice lo hi none p2) pos) (We r te tl th):=by
 intro pins s σ H Q I h;apply Subscript_ (aO (he pins s σ H _ I h) λv s1 ⟨x,H1,I1,r1,q1⟩=>?_);apply wpAny_Slice (aO (hl pins s1 σ H1 _ I1 q1) λvl s2 ⟨l,H2,I2,pl,q2⟩=>aO (hu pins s2 σ H2 _ I2 q2) λvu s3 ⟨u,H3,I3,pu,q3⟩=>?_);rw[evalPart_none];apply aE ?_;have I4:Inv X pins σ H3 { s3 with heap:=s3.heap.push { cls:=.type "slice",data:=.fields (List.toArray [vl,vu,.none]) } }:=I3.kept (t':=s3.toks) λb ob q=>aU _ q;let#[T,id,hT,ht,hg]:=hr pins { s3 with heap:=s3.heap.push { cls:=.type "slice",data:=.fields (List.toArray [vl,vu,.none]) } } σ H3 x v vl vu l u s3.heap.objs.size Q I4 r1 (Heap.IsSliceOf.new ..) pl pu q3;show wpAny (model X.prog X.w) X.A (subscriptTail e (.Slice lo hi none p2) v (.ref s3.heap.objs.size)) (EP X pins σ Q) X.xe { s3 with heap:=s3.heap.push { cls:=.type "slice",data:=.fields (List.toArray [vl,vu,.none]) } };exact tail_any (ops:=[.ref s3.heap.objs.size,v]) ht hT hg (by with_unfolding_all rfl)
def dO(xs:ag)(lo hi:Option Int):ag:=(xs.drop (HT.cq xs.length 0 lo)).take (HT.cq xs.length xs.length hi - HT.cq xs.length 0 lo)
theorem OW(xs:ag)(lo hi:Option Int):(dO xs lo hi).length<=xs.length:=by
 unfold dO;rw[dH,x6];omega
inductive CB (K:ai) (x:V) (lo:Option Int) (hi:Option Int) (H:Hp) (Q:VK):Prop
 |mk:∀a xs,x=.ref a->fo K H a xs->¬(HT.cq xs.length 0 lo=0/\HT.cq xs.length xs.length hi=xs.length)->(∀p,H p=none->Q (.ref p) (upd H p (.tup (dO xs lo hi))))->CB K x lo hi H Q
theorem Hy:Pi X (CB X.K):=by
 intro pins s σ H x v vl vu lo hi sl Q I rx hs pl pu h;let#[a,xs,rfl,hx,hw,q]:=h;cases rx;let#[its,r,ht,hz]:=I.tuple hx;have hlen:its.toArray.size=xs.length:=by rw[cj];exact r.length.symm
 apply⟨"tuple",_,PyProof.Rows.slot_tuple_getitem.lookup,ht.typeIs,?_⟩;apply HT.fQ ht hs pl pu (by rw[hlen];exact hw) ?_ (by rw[hlen];exact hz);rw[hlen];apply⟨.ref s.heap.objs.size,_,I.laid (t':=s.toks) (o:=.tup (dO xs lo hi)) (λb ob q=>aU _ q) (a_ _) ?_,rfl,q _ (I.az.fresh (a_ _))⟩;exact⟨iH (OW xs lo hi) hz,_,(r.drop (HT.cq xs.length 0 lo)).take (HT.cq xs.length xs.length hi - HT.cq xs.length 0 lo),IsTup.new _ _,_,cz _ rfl,rfl⟩
theorem Vals.nv{xs:ag}(r:Vals xs us):us=[] ↔ xs=[]:=by
 cases r with
 |nil=>simp
 |cons _ _=>simp
end
def vE(n:Nat)(i:Int):Option Nat:=if 0<=i then (if i<n then some i.toNat else none) else if -(n:Int)<=i then some (i+n).toNat else none
def ix{α:Type}(xs:List α)(i:Int):Option α:=(vE xs.length i).bind λj=>xs[j]?
variable{j n:Nat}
theorem SD{i:Int}(h:vE n i\j):seqIndex? i n\j/\j<n/\-(n:Int)<=i/\i<n:=by
 unfold vE at h;by_cases h0:0<=i
 ·rw[aI h0] at h;by_cases h1:i<n
  ·rw[aI h1] at h;have e:i.toNat=j:=cY h;exact#[by rw[seqIndex_of h0 h1,e],by omega,by omega,h1]
  rw[aA h1] at h;cases h
 rw[aA h0] at h;by_cases h1:-(n:Int)<=i
 ·rw[aI h1] at h;have e:(i+n).toNat=j:=cY h;exact#[by rw[seqIndex_neg Z1 h1,e],by omega,h1,by omega]
 rw[aA h1] at h;cases h
theorem MN{α:Type}{xs:List α}{i:Int}{v:α}(h:ix xs i\v):∃j,seqIndex? i xs.length\j/\xs[j]? = some v/\j<xs.length/\-(xs.length:Int)<=i/\i<xs.length:=by
 unfold ix at h;cases e:vE xs.length i with
 |none=>rw[e] at h;cases h
 |some j=>
  rw[e] at h;let#[h1,h2,h3,h4]:=SD e;exact#[j,h1,h,h2,h3,h4]
theorem dQ{α:Type}{xs:List α}{v:α}(h:xs[j]? = some v):ix xs (j:Int)\v:=by
 have hj:j<xs.length:=(bY.mp h).1
 have e:vE xs.length (j:Int)\j:=by
  unfold vE;rw[aI Z1,aI Z1];simp
 unfold ix;rw[e];exact h
def wG(b:Expr):Prop:=∀o i,subscripted b false o i=operate [o,i] (getItem o i)
def BL(X:Cx)(r:R2):Prop:=
 ∀(value slice:Expr) (pins:List (Addr × Obj)) (s:Ab) (σ:St) (H:Hp) (x y:V) (v u:Aa) (Q:VK),Inv X pins σ H s->RelV x v->RelV y u->r x y H Q->
  subscripted slice false v u=operate [v,u] (getItem v u)->wpAny (model X.prog X.w) X.A (subscriptTail value slice v u) (EP X pins σ Q) X.xe s
def Va(X:Cx)(id:String)(r:V->ag->Hp->VK->Prop):Prop:=
 ∀(pins:List (Addr × Obj)) (s:Ab) (σ:St) (H:Hp) (x:V) (xs:ag) (v:Aa) (us:aj) (Q:VK),Inv X pins σ H s->RelV x v->Vals xs us->r x xs H Q->
  wpAny (model X.prog X.w) X.A (call (.builtin id) (v::us)) (EP X pins σ Q) X.xe s
variable{pins:List (Addr × Obj)}{σ:St}{s:Ab}{its its':aj}
variable{A:Af}{u:Aa}
variable{T:String}
section
variable{X:Cx}{a b:Expr}{ta tb:TE}{pos:Pos}
theorem bo{r:R2}(hr:BL X r)(ha:PE X a ta)(hb:PE X b tb)(hs:wG b:=by exact λ_ _=>rfl):PE X (.Subscript a b pos) (F0 r ta tb):=by
 intro pins s σ H Q I h;exact Subscript_ (AG ha hb I h λv u s2 x y H2 I2 rx ry q=>hr a b pins s2 σ H2 x y v u Q I2 rx ry q (hs _ _))
inductive oE (K:ai) (x:V) (y:V) (H:Hp) (Q:VK):Prop
 |mk:∀p xs i v,x=.ref p->y=.int i->dX K H p xs->ix xs i\v->Q v H->oE K x y H Q
inductive ju (K:ai) (x:V) (y:V) (H:Hp) (Q:VK):Prop
 |mk:∀p xs i v,x=.ref p->y=.int i->fo K H p xs->ix xs i\v->Q v H->ju K x y H Q
inductive CD (x:V) (y:V) (H:Hp) (Q:VK):Prop
 |mk:∀z i c,x=.str z->y=.int i->z.length<=sizeLine->ix z.cps.toList i\c->Q (.str ⟨(List.toArray [c])⟩) H->CD x y H Q
theorem fL:BL X (oE X.K):=by
 intro value slice pins s σ H x y v u Q I rx ry h hs;let#[p,xs,i,z,rfl,rfl,hq,he,q]:=h;cases rx;let#[t,rfl]:=ry;let#[its,r,pl,hz]:=I.list hq;let#[j,h1,h2,h3,h4,h5]:=MN he;let#[w,ew,i9]:=r.get h2;let hl:=r.length;let hn:=gc;have fin:EP X pins σ Q w s:=⟨z,H,I,i9,q⟩;by_cases h0:0<=i
 ·have hj:i.toNat=j:=by
   rw[seqIndex_of h0 h5] at h1;exact cY h1
  exact item_listR pl.isList h0 Z1 (by rw[hj];simpa using ew) fin hs
 have hj:(i+(its.toArray.size:Int)).toNat=j:=by
  rw[seqIndex_neg Z1 h4] at h1;rw[cj,<- hl];exact cY h1
 exact subscriptTail_builtinR (x:=w) pl.isList.typeIs slot_list_getitem.lookup
  (wpAny_getItem_list_neg (Q:=λr s'=>r=w/\EP X pins σ Q r s') pl.isList Z1 (by rw[cj]<;>omega) Z1 (by rw[hj];simpa using ew) ⟨rfl,fin⟩) hs
theorem cZ:BL X (ju X.K):=by
 intro value slice pins s σ H x y v u Q I rx ry h hs;let#[p,xs,i,z,rfl,rfl,hq,he,q]:=h;cases rx;let#[t,rfl]:=ry;let#[its,r,pl,hz]:=I.tuple hq;let#[j,h1,h2,h3,h4,h5]:=MN he;let#[w,ew,i9]:=r.get h2;let hl:=r.length;let hn:=gc;have fin:EP X pins σ Q w s:=⟨z,H,I,i9,q⟩
 exact subscriptTail_builtinR (x:=w) pl.typeIs slot_tuple_getitem.lookup
  (getItem_tuple (j:=j) (Q:=λr s'=>r=w/\EP X pins σ Q r s') pl Z1 Z1 (by rw[cj,<- hl];exact h1) ⇑ew ⟨rfl,fin⟩) hs
theorem YH:BL X CD:=by
 intro value slice pins s σ H x y v u Q I rx ry h hs;let#[z,i,c,rfl,rfl,hz,he,q]:=h;let#[t,rfl]:=rx;let#[t',rfl]:=ry;let#[j,h1,h2,h3,h4,h5]:=MN he;have hl:z.cps.toList.length=z.length:=by simp[Str.length]
 rw[hl] at h1 h4 h5;let hn:=gc
 exact tail_any (typeIs_str s z t) slot_str_getitem.lookup (getItem_str (c:=c) (by
  have e1:decide (i < -(2 ^ 63:Int))=false:=eF Z1;have e2:decide (i ≥ 2 ^ 63)=false:=eF Z1;rw[e1,e2,Bool.or_false]) (by rw[h1];simpa using h2) ⟨.str ⟨(List.toArray [c])⟩,H,I.tok _,⟨_,rfl⟩,q⟩) hs
theorem fl_(its:aj)(n j:Nat)(u:Aa):Obj.mapSeq (·.setIfInBounds j u) { cls:=.type "list",data:=.seq its.toArray n }={ cls:=.type "list",data:=.seq (its.set j u).toArray n }:=by
 simp[Obj.mapSeq]
theorem Inv.lst{pins:List (Addr × Obj)}{σ:St}{H:Hp}{s:Ab}{p:Addr}{xs:ag}(I:Inv X pins σ H s)(h:H p\.lst xs) :
  ∃(its:aj) (n:Nat),Vals xs its/\s.heap.get? p=some { cls:=.type "list",data:=.seq its.toArray n }/\xs.length<=sizeLine:=by
 let#[z,its,n,r,e]:=I.az p _ h;exact⟨its,n,r,e,z⟩
theorem Inv.zh{H:Hp}{p:Addr}{xs ys:ag}{n':Nat}{f:Obj->Obj}(I:Inv X pins σ H s)(h:H p\.lst xs)(ho:s.heap.get? p=some { cls:=.type "list",data:=.seq its.toArray n })(hf:f { cls:=.type "list",data:=.seq its.toArray n }={ cls:=.type "list",data:=.seq its'.toArray n' })(r:Vals ys its')(hz:ys.length<=sizeLine)(t:Nat) :
  Inv X pins σ (upd H p (.lst ys)) { s with heap:=s.heap.update p f,toks:=t }:=by
 have e:(s.heap.update p f).get? p=some { cls:=.type "list",data:=.seq its'.toArray n' }:=by
  rw[Heap.get?_update_self f ho (by rw[hf]<;>rfl),hf]
 apply I.write (x:=p) (e:=p) (by rw[h];trivial) (.inl rfl) (λb u hb q=>(uy _ _ (bJ hb)).trans q) ⟨_,e⟩ ?_;exact⟨hz,its',n',r,e⟩
inductive xb (o:V) (i:V) (v:V) (H:Hp) (Q:Hp->Prop):Prop
 |mk:∀p xs k j,o=.ref p->i=.int k->H p\.lst xs->vE xs.length k\j->Q (upd H p (.lst (xs.set j v)))->xb o i v H Q
theorem Tp:FK X xb:=by
 intro pins s σ H o i v ov iv u Q I ro ri rv h;let#[p,xs,k,j,rfl,rfl,hp,hj,q]:=h;cases ro;let#[t,rfl]:=ri;let#[its,n,r,ho,hz]:=I.lst hp;let#[h1,h2,h3,h4]:=SD hj;let hl:=r.length;let hn:=gc
 have I':Inv X pins σ (upd H p (.lst (xs.set j v))) { s with heap:=s.heap.update p (Obj.mapSeq (·.setIfInBounds j u)) }:=
  I.zh hp ho (fl_ its n j u) (r.set rv j) (by rw[List.length_set];exact hz) s.toks
 by_cases h0:0<=k
 ·have hk:k.toNat=j:=by
   rw[seqIndex_of h0 h4] at h1;exact cY h1
  exact PySem.W.ki_setAt ho h0 Z1 (by rw[cj,<- hl];exact h4) (by rw[hk];exact⟨_,I',q⟩)
 have hk:(k+(its.toArray.size:Int)).toNat=j:=by
  rw[seqIndex_neg Z1 h3] at h1;rw[cj,<- hl];exact cY h1
 exact PySem.W.ki_setBack ho Z1 (by rw[cj,<- hl];exact h3) Z1 (by rw[hk];exact⟨_,I',q⟩)
theorem dM_(lo hi:Option Int)(n:Nat):(sliceBounds lo hi none n).1=((HT.cq n 0 lo:Nat):Int)/\(sliceBounds lo hi none n).2.1=((HT.cq n n hi:Nat):Int)/\(sliceBounds lo hi none n).2.2=1:=by
 apply⟨?_,?_,rfl⟩
 ·cases lo with
  |none=>simp[sliceBounds,HT.cq]
  |some i=>
   simp only[sliceBounds,HT.cq,Option.getD_none,show (1:Int) > 0 by decide,if_true];by_cases h:i<0
   ·simp only[h,if_true]<;>omega
   simp only[h,if_false]<;>omega
 cases hi with
 |none=>simp[sliceBounds,HT.cq]
 |some i=>
  simp only[sliceBounds,HT.cq,Option.getD_none,show (1:Int) > 0 by decide,if_true];by_cases h:i<0
  ·simp only[h,if_true]<;>omega
  simp only[h,if_false]<;>omega
theorem dk_(its:aj)(lo hi:Option Int):slicePick its.toArray lo hi none=((its.drop (HT.cq its.length 0 lo)).take (HT.cq its.length its.length hi - HT.cq its.length 0 lo)).toArray:=by
 let#[h1,h2,h3]:=dM_ lo hi its.toArray.size;unfold slicePick;rw[h1,h2,h3];simp only[sliceRange_one,pick_run,cj]<;>rfl
inductive CC (K:ai) (x:V) (lo:Option Int) (hi:Option Int) (H:Hp) (Q:VK):Prop
 |mk:∀a xs,x=.ref a->dX K H a xs->(∀p,H p=none->Q (.ref p) (upd H p (.lst (dO xs lo hi))))->CC K x lo hi H Q
theorem MW:Pi X (CC X.K):=by
 intro pins s σ H x v vl vu lo hi sl Q I rx hs pl pu h;let#[a,xs,rfl,hx,q]:=h;cases rx;let#[its,r,ht,hz]:=I.list hx;let hlen:=r.length;apply⟨"list",_,slot_list_getitem.lookup,ht.isList.typeIs,?_⟩;apply wpAny_getItem_list_slice ht.isList hs pl pu .none Z2 ?_ (by rw[cj]<;>omega)
 rw[dk_,<- hlen];apply⟨.ref s.heap.objs.size,_,I.laid (t':=s.toks) (o:=.lst (dO xs lo hi)) (λb ob q=>aU _ q) (a_ _) ?_,rfl,q _ (I.az.fresh (a_ _))⟩;exact⟨iH (OW xs lo hi) hz,_,0,(r.drop (HT.cq xs.length 0 lo)).take (HT.cq xs.length xs.length hi - HT.cq xs.length 0 lo),cz _ rfl⟩
def rY:V->Bool
 |.non=>true
 |.bl _=>true
 |.int _=>true
 |.str _=>true
 |_=>false
def MO:V->V->Bool
 |.non,.non=>true
 |.bl a,.bl b=>a == b
 |.bl a,.int b=>(if a then 1 else 0) == b
 |.int a,.bl b=>a == (if b then 1 else 0)
 |.int a,.int b=>a == b
 |.str a,.str b=>a == b
 |_,_=>false
theorem Q4{y x:V}{v:Aa}(ry:RelV y u)(rx:RelV x v)(fy:rY y=true)(fx:rY x=true):SeqAt.EqAt A s u v (MO y x):=by
 cases y with
 |non=>
  cases ry;cases x with
  |non=>cases rx;exact SeqAt.EqAt.same _
  |bl b=>cases rx;exact SeqAt.EqAt.none_bool b
  |int b=>let#[t,rfl]:=rx;exact SeqAt.EqAt.none_int b t
  |str b=>let#[t,rfl]:=rx;exact SeqAt.EqAt.none_str b t
  |_=>exact absurd (show false=true from fx) gE
 |bl a=>
  cases ry;cases x with
  |non=>cases rx;exact SeqAt.EqAt.bool_none a
  |bl b=>cases rx;exact SeqAt.EqAt.bool_bool a b
  |int b=>let#[t,rfl]:=rx;exact SeqAt.EqAt.bool_int a b t
  |str b=>let#[t,rfl]:=rx;exact SeqAt.EqAt.bool_str a b t
  |_=>exact absurd (show false=true from fx) gE
 |int a=>
  let#[t',rfl]:=ry;cases x with
  |non=>cases rx;exact SeqAt.EqAt.int_none a t'
  |bl b=>cases rx;exact SeqAt.EqAt.int_bool a t' b
  |int b=>let#[t,rfl]:=rx;exact SeqAt.EqAt.int_int a t' b t
  |str b=>let#[t,rfl]:=rx;exact SeqAt.EqAt.int_str a t' b t
  |_=>exact absurd (show false=true from fx) gE
 |str a=>
  let#[t',rfl]:=ry;cases x with
  |non=>cases rx;exact SeqAt.EqAt.str_none a t'
  |bl b=>cases rx;exact SeqAt.EqAt.str_bool a t' b
  |int b=>let#[t,rfl]:=rx;exact SeqAt.EqAt.str_int a t' b t
  |str b=>let#[t,rfl]:=rx;exact SeqAt.EqAt.str_str a t' b t
  |_=>exact absurd (show false=true from fx) gE
 |_=>exact absurd (show false=true from fy) gE
inductive IZ (K:ai) (xs:ag) (H:Hp) (Q:VK):Prop
 |mk:∀p ys,xs=[.ref p]->(dX K H p ys∨fo K H p ys)->Q (.int ys.length) H->IZ K xs H Q
theorem iy:gn X (.builtin "len") (IZ X.K):=by
 intro pins s σ H xs us Q I r h;let#[p,ys,rfl,hq,q]:=h;let#[u,rfl,rx]:=vals1 r;cases rx;let hn:=gc;rcases hq with hq|hq
 ·let#[its,r',pl,hz]:=I.list hq;let hlen:=r'.length;exact Calls.call_len_list pl.isList (by simp only[cj]<;>omega) ⟨.int ys.length,H,I.tok _,⟨s.toks+1,by rw[cj,hlen]⟩,q⟩
 let#[its,r',pl,hz]:=I.tuple hq;let hlen:=r'.length;exact len_tuple pl (by simp only[cj]<;>omega) ⟨.int ys.length,H,I.tok _,⟨s.toks+1,by rw[cj,hlen]⟩,q⟩
inductive U2 (xs:ag) (H:Hp) (Q:VK):Prop
 |mk:∀z,xs=[.str z]->z.length<=sizeLine->Q (.int z.length) H->U2 xs H Q
theorem e2_:gn X (.builtin "len") U2:=by
 intro pins s σ H xs us Q I r h;let#[z,rfl,hz,q]:=h;let#[u,rfl,t,rfl]:=vals1 r;let hn:=gc;exact len_str Z1 ⟨.int z.length,H,I.tok _,⟨_,rfl⟩,q⟩
inductive U1 (K:ai) (xs:ag) (H:Hp) (Q:VK):Prop
 |mk:∀p ys,xs=[.ref p]->(dX K H p ys∨fo K H p ys)->(∀l,H l=none->Q (.ref l) (upd H l (.lst ys)))->U1 K xs H Q
theorem e3_:gn X (.type "list") (U1 X.K):=by
 intro pins s σ H xs us Q I r h;let#[p,ys,rfl,hq,q]:=h;let#[u,rfl,rx]:=vals1 r;cases rx
 have fin:∀(its:aj),Vals ys its->ys.length<=sizeLine->∀(h':Heap) (c':Nat),(∀b o',s.heap.get? b\o'->h'.get? b\o')->
   h'.get? s.heap.objs.size=some { cls:=.type "list",dict:=none,data:=.seq its.toArray c',slots:=#[] }->EP X pins σ Q (.ref s.heap.objs.size) { s with heap:=h' }:=λits r' hz h' c' kp e=>
  #[.ref s.heap.objs.size,_,I.laid (t':=s.toks) kp (a_ _) (show ft X.prog X.w _ h' _ (.lst ys) from #[hz,its,c',r',e]),Z,q _ (I.az.fresh (a_ _))]
 rcases hq with hq|hq
 ·let#[its,r',pl,hz]:=I.list hq;let hlen:=r'.length;let#[o,ho,hc,n,hd]:=pl.isList;exact call_list_seq p (.inl Z) ho hc hd (λh' c' kp e=>fin its r' hz h' c' kp e) (by simp only[cj]<;>omega)
 let#[its,r',pl,hz]:=I.tuple hq;let hlen:=r'.length;let#[o,ho,hc,n,hd]:=pl;exact call_list_seq p (.inr Z) ho hc hd (λh' c' kp e=>fin its r' hz h' c' kp e) (by simp only[cj]<;>omega)
inductive U0 (K:ai) (xs:ag) (H:Hp) (Q:VK):Prop
 |mk:∀p ys,xs=[.ref p]->((dX K H p ys/\∀l,H l=none->Q (.ref l) (upd H l (.tup ys)))∨(fo K H p ys/\Q (.ref p) H))->U0 K xs H Q
theorem OT:gn X (.type "tuple") (U0 X.K):=by
 intro pins s σ H xs us Q I r h;let#[p,ys,rfl,h]:=h;let#[u,rfl,rx]:=vals1 r;cases rx;rcases h with⟨hq,q⟩|⟨hq,q⟩
 ·let#[its,r',pl,hz]:=I.list hq;let hlen:=r'.length;apply call_tuple_list pl.isList (λh' kp=>?_) (by simp only[cj]<;>omega)
  have I1:Inv X pins σ H { s with heap:=h' }:=I.kept (t':=s.toks) kp
  have I2:Inv X pins σ (upd H h'.objs.size (.tup ys)) { s with heap:=h'.push { cls:=.type "tuple",data:=.seq its.toArray } }:=
   I1.laid (t':=s.toks) (λb o e=>aU _ e) (a_ _) (show ft X.prog X.w _ _ _ (.tup ys) from ⟨hz,its,r',IsTup.new _ _,_,cz _ rfl,rfl⟩)
  exact⟨.ref h'.objs.size,_,I2,rfl,q _ (I1.az.fresh (a_ _))⟩
 let#[its,r',pl,hz]:=I.tuple hq;exact call_tuple_same pl ⟨.ref p,H,I,rfl,q⟩
def JI(K:ai)(T:String)(x:V)(H:Hp):Prop:=match x with
 |.str _=>T="str"
 |.int _=>T="int"
 |.ref p=>(T="list"/\∃xs,dX K H p xs)∨(T="tuple"/\∃o,K.lookup p\o/\o.cls=.type "tuple"/\o.dict=none) ∨
   (T="dict"/\((∃kvs,H p\.dK kvs)∨∃kvs,H p\.dT kvs))∨(T="set"/\∃S n,H p\.set S n)
 |_=>False
theorem QW{H:Hp}{x:V}{v:Aa}(I:Inv X pins σ H s)(r:RelV x v)(ty:JI X.K T x H) :
  s.TypeIs v T/\∀a,v=.ref a->∃ob,s.heap.get? a\ob/\ob.dict=none:=by
 cases x with
 |str z=>
  let#[t,rfl]:=r;cases (show T="str" from ty);exact#[typeIs_str s z t,λ_ e=>nomatch e]
 |int i=>
  let#[t,rfl]:=r;cases (show T="int" from ty);exact#[typeIs_int s i t,λ_ e=>nomatch e]
 |ref p=>
  cases r;rcases ty with⟨rfl,xs,hq⟩|⟨rfl,o,hk,hc,hd⟩|⟨rfl,hk⟩|⟨rfl,S,n,hk⟩
  ·let#[its,_,pl,_]:=I.list hq;apply#[pl.isList.typeIs,λa e=>?_];cases e;let#[o,n,e,c,hd,_]:=pl;exact#[o,e,hd]
  ·apply#[#[o,I.gz p o hk,hc],λa e=>?_];cases e;exact#[o,I.gz _ o hk,hd]
  ·have z:∃o,s.heap.get? p\o/\o.ExactDict:=by
    rcases hk with⟨kvs,hk⟩|⟨kvs,hk⟩
    ·let#[_,_,_,_,o,_,_,e,ex,_]:=I.az p _ hk;exact#[o,e,ex]
    let#[_,_,_,_,o,_,_,e,ex,_]:=I.az p _ hk;exact#[o,e,ex]
   let#[o,e,ex]:=z;apply#[#[o,e,ex.1],λa e2=>?_];cases e2;exact#[o,e,ex.2.1]
  ·let#[o,_,_,_,e,ex,_]:=I.az p _ hk;apply#[#[o,e,ex.1],λa e2=>?_];cases e2;exact#[o,e,ex.2.1]
 |_=>exact False.elim ty
def J4(K:ai)(T:String)(r:V->ag->Hp->VK->Prop)(to:TE):TE:=λσ H Q=>to σ H λx H1=>JI K T x H1/\r x [] H1 Q
def Wh(K:ai)(T:String)(r:V->ag->Hp->VK->Prop)(to:TE)(t:TA):TE:=λσ H Q=>to σ H λx H1=>JI K T x H1/\t σ H1 λxs H2=>r x xs H2 Q
variable{o e:Expr}{es:List Expr}{to:TE}{t:TA}{name:Str}{apos cO:Pos}{T id:String}{r:V->ag->Hp->VK->Prop}
theorem Zq(pa:PlainAttrs T)(slot:Slot T name id)(Lk:typeOf (.builtin id)=pure (.type "method_descriptor"))(hm:Va X id r)(ho:PE X o to)
  (gS:attributeBase o name X.env (eval o X.env)=eval o X.env:=by rfl) (gR:(apos.endLine == cO.line)=true:=by rfl):PE X (.Call (.Attribute o name apos) [] [] cO) (J4 X.K T r to):=by
 intro pins s σ H Q I h;apply wpAny_Call_method0_late gS gR (aO (ho pins s σ H _ I h) λv s1 ⟨x,H1,I1,r1,ty,q1⟩=>?_);let#[h1,h2]:=QW I1 r1 ty;exact#[T,id,pa,slot,Lk,h1,h2,Calls.callWith_builtin Z (PySem.evalArgs_none (hm pins s1 σ H1 x [] v [] Q I1 r1 .nil q1))]
theorem pA(pa:PlainAttrs T)(slot:Slot T name id)(Lk:typeOf (.builtin id)=pure (.type "method_descriptor"))(hm:Va X id r)(ho:PE X o to)(ha:PA X (e::es) t)
  (gS:attributeBase o name X.env (eval o X.env)=eval o X.env:=by rfl)
  (LY:((backTo cO (starEach (e::es) X.env)).all (λx=>!x.1)&&(backToKw cO (keywordEach [] X.env)).all (λx=>x.1.isSome)
   && decide ((e::es).length+([]:List Keyword).length+(if ([]:List Keyword).isEmpty then 0 else 1)<30))=true:=by rfl)
  (gR:(apos.endLine == cO.line)=true:=by rfl) (hs:starEach (e::es) X.env=(false,eval e X.env)::starEach es X.env:=by rfl) (zA:(backTo cO (starEach es X.env)).any (·.1)=false:=by rfl) :
  PE X (.Call (.Attribute o name apos) (e::es) [] cO) (Wh X.K T r to t):=by
 intro pins s σ H Q I h;apply wpAny_Call_method_late gS LY gR Z (aO (ho pins s σ H _ I h) λv s1 ⟨x,H1,I1,r1,ty,q1⟩=>?_);let#[h1,h2]:=QW I1 r1 ty;apply#[T,id,pa,slot,Lk,h1,h2,?_];let hA:=ha cO pins s1 σ H1 _ I1 q1;rw[hs] at hA ⊢;apply Calls.callWith_builtin (by show (false || (backTo cO (starEach es X.env)).any (·.1))=false;rw[zA]<;>rfl) (Calls.evalArgs_plain ?_)
 exact aO hA λus s2 ⟨vs,H2,I2,r2,q2⟩=>hm pins s2 σ H2 x vs v us Q I2 r1 r2 q2
end
def Jn(X:Cx)(id:String)(r:V->ag->Hp->VK->Prop):Prop:=
 ∀(pins:List (Addr × Obj)) (s:Ab) (σ:St) (H:Hp) (x:V) (xs:ag) (v:Aa) (us:aj) (Q:VK),Inv X pins σ H s->RelV x v->Vals xs us->r x xs H Q->
  wpAny (model X.prog X.w) X.A (call (.builtin id) (v::us)) (EP X pins σ Q) X.xe s
theorem Vals.one:∀{x:V} {us:aj},Vals [x] us->∃u,us=[u]/\RelV x u
 |_,_,.cons r .nil=>#[_,Z,r]
theorem Vals.two:∀{x y:V} {us:aj},Vals [x,y] us->∃u v,us=[u,v]/\RelV x u/\RelV y v
 |_,_,_,.cons r (.cons q .nil)=>#[_,_,Z,r,q]
theorem Vals.zero:∀{us:aj},Vals [] us->us=[]
 |_,.nil=>rfl
theorem Vals.reverse{xs:ag}(h:Vals xs us):Vals xs.reverse us.reverse:=by
 induction h with
 |nil=>exact .nil
 |cons r t ih=>rw[List.reverse_cons,List.reverse_cons];exact Vals.append ih (.cons r .nil)
variable{t':Nat}
section
variable{X:Cx}{pins:List (Addr × Obj)}{σ:St}{H:Hp}{s:Ab}{l b:Addr}{xs ys zs:ag}
theorem Inv.vA{f:Array Aa->Array Aa}(I:Inv X pins σ H s)(hH:H l\.lst xs)(e:s.heap.get? l=some { cls:=.type "list",data:=.seq its.toArray n })(hf:f its.toArray=its'.toArray)(hv:Vals ys its')(hz:ys.length<=sizeLine) :
  Inv X pins σ (upd H l (.lst ys)) { s with heap:=s.heap.update l (Obj.mapSeq f),toks:=t' }:=by
 let q:=PySem.IsL.update e f;rw[hf] at q;apply I.write (x:=l) (e:=l) (by rw[hH];exact trivial) (.inl Z) (λb' u hb hu=>(uy s.heap (Obj.mapSeq f) (bJ hb)).trans hu) #[_,q] ?_;exact#[hz,its',_,hv,q]
theorem Inv.zi(I:Inv X pins σ H s)(hv:Vals ys its)(hz:ys.length<=sizeLine) :
  Inv X pins σ (upd H s.heap.objs.size (.lst ys)) { s with heap:=s.heap.push { cls:=.type "list",data:=.seq its.toArray },toks:=t' }:=
 I.laid (λ_ _ q=>aU _ q) (a_ _) #[hz,its,0,hv,cz _ Z]
theorem Inv.fresh(I:Inv X pins σ H s):H s.heap.objs.size=none:=I.az.fresh (a_ _)
theorem Inv.jy(I:Inv X pins σ H s)(hH:H l\.lst xs):xs.length<=sizeLine/\∃(its:aj) (n:Nat),Vals xs its/\xs.length=its.length/\s.heap.get? l=some { cls:=.type "list",data:=.seq its.toArray n }:=by
 let#[z,its,n,r,e]:=I.az l _ hH;exact#[z,its,n,r,r.length,e]
theorem rC(h:n<=sizeLine):Builtin.List.listTooLong n=false:=by
 unfold Builtin.List.listTooLong;exact eF Z1
end
inductive ng (x:V) (vs:ag) (H:Hp) (Q:VK):Prop
 |mk:∀l xs y,x=.ref l->vs=[y]->H l\.lst xs->xs.length<sizeLine->Q .non (upd H l (.lst (xs++[y])))->ng x vs H Q
variable{X:Cx}
theorem uJ:Jn X "list.append" ng:=by
 intro pins s σ H x vs v us Q I rx rv h;let#[l,xs,y,rfl,rfl,hH,hz,q]:=h;cases rx;let#[u,rfl,ru]:=rv.one;let#[z,its,n,r,hl,e]:=I.jy hH;apply call_meets F.slot_list_append ⟨_,e,rfl⟩ F.entry_list_append (F.args_list_append_2 _ _) (PySem.list_append l its.toArray n u (by rw[cj];omega)) ⟨e,?_⟩;apply⟨.non,_,I.vA (its':=its++[u]) hH e Z2 (r.append (.cons ru .nil)) ?_,rfl,q⟩;rw[d9,jU];omega
inductive mX (x:V) (vs:ag) (H:Hp) (Q:VK):Prop
 |mk:∀l b xs zs,x=.ref l->vs=[.ref b]->H l\.lst xs->H b\.lst zs->xs.length+zs.length<=sizeLine->Q .non (upd H l (.lst (xs++zs)))->mX x vs H Q
theorem hc_:Jn X "list.extend" mX:=by
 intro pins s σ H x vs v us Q I rx rv h;let#[l,b,xs,zs,rfl,rfl,hH,hB,hz,q]:=h;cases rx;let#[u,rfl,ru]:=rv.one;cases ru;let#[z,its,n,r,hl,e]:=I.jy hH;let#[z2,ie,n2,r2,lS,e2]:=I.jy hB;have hsz:its.toArray.size+ie.toArray.size<=sizeLine:=by rw[cj,cj];omega
 have Eb:¬(!its.toArray.isEmpty&&Builtin.List.listTooLong (its.toArray.size+ie.toArray.size))=true:=by
  rw[rC hsz,Bool.and_false];exact gE
 apply call_meets F.slot_list_extend ⟨_,e,rfl⟩ F.entry_list_extend (F.args_list_extend_2 _ _)
  (AutoSeq1.list_extend_list_list_0 l its.toArray n b ie.toArray n2 Eb (by rw[cj];omega) Z1) ⟨e,e2,?_⟩
 apply⟨.non,_,I.vA (its':=its++ie) hH e Z2 (r.append r2) ?_,rfl,q⟩;rw[d9];omega
inductive S2 (x:V) (vs:ag) (H:Hp) (Q:VK):Prop
 |mk:∀l xs,x=.ref l->vs=[]->H l\.lst xs->Q .non (upd H l (.lst xs.reverse))->S2 x vs H Q
theorem ft_:Jn X "list.reverse" S2:=by
 intro pins s σ H x vs v us Q I rx rv h;let#[l,xs,rfl,rfl,hH,q]:=h;cases rx;let _J:=rv.zero;subst _J;let#[z,its,n,r,hl,e]:=I.jy hH;apply call_meets F.slot_list_reverse ⟨_,e,rfl⟩ F.entry_list_reverse (F.args_list_reverse_1 _) (AutoSeq1.list_reverse_list_0 l its.toArray n (by rw[cj];omega)) ⟨e,?_⟩;apply⟨.non,_,I.vA (its':=its.reverse) hH e Z2 r.reverse ?_,rfl,q⟩;rw[List.length_reverse];omega
inductive CI (x:V) (y:V) (H:Hp) (Q:VK):Prop
 |mk:∀l b xs zs,x=.ref l->y=.ref b->H l\.lst xs->H b\.lst zs->xs.length+zs.length<=sizeLine->(∀p,H p=none->Q (.ref p) (upd H p (.lst (xs++zs))))->CI x y H Q
theorem YC:dJ X (binaryOp .Add) CI:=by
 intro pins s σ H x y v u Q I rx ry h;let#[l,b,xs,zs,rfl,rfl,hH,hB,hz,q]:=h;cases rx;cases ry;let#[z,its,n,r,hl,e]:=I.jy hH;let#[z2,ie,n2,r2,lS,e2]:=I.jy hB;apply PySem.P.add_list e e2 ?_ (by rw[cj,cj];omega);have ea:its.toArray++ie.toArray=(its++ie).toArray:=by simp
 rw[ea];exact⟨.ref _,_,I.zi (t':=s.toks) (r.append r2) (by rw[d9];omega),rfl,q _ I.fresh⟩
variable{o:aL}
section
variable{κ:Type}[DecidableEq κ]
def aY(kvs:List (κ × V))(k:κ):aL:=(kvs.find? λkv=>decide (kv.1=k)).map (·.2)
def putK(kvs:List (κ × V))(k:κ)(v:V):List (κ × V):=
 if (kvs.any λkv=>decide (kv.1=k))=true then kvs.map (λkv=>if kv.1=k then (kv.1,v) else kv) else kvs++[(k,v)]
theorem AH{p:κ × V}{r:List (κ × V)}{k:κ}(e:p.1=k):aY (p::r) k\p.2:=by simp[aY,x5,e]
theorem AE{p:κ × V}{r:List (κ × V)}{k:κ}(e:¬p.1=k):aY (p::r) k=aY r k:=by simp[aY,x5,e]
theorem BC(k:κ):∀kvs:List (κ × V),(kvs.any λkv=>decide (kv.1=k))=(aY kvs k).isSome
 |[]=>rfl
 |p::r=>by
  rw[List.any_cons];by_cases e:p.1=k
  ·simp only[AH e,c_ e,Bool.true_or,Option.isSome_some]
  rw[AE e,eF e,Bool.false_or];exact BC k r
theorem OV(kvs:List (κ × V))(k:κ)(v:V):(putK kvs k v).length<=kvs.length+1:=by
 unfold putK;split
 ·rw[ak];omega
 rw[d9,jm,List.length_nil];omega
theorem wq{kvs:List (κ × V)}{k:κ}(v:V)(h:aY kvs k=none):putK kvs k v=kvs++[(k,v)]:=by
 unfold putK;rw[BC,h];exact aA (by decide)
theorem eP.dN{u:Option Aa}(r:eP o u):o.isSome=u.isSome:=by
 cases o with
 |none=>cases u with
  |none=>rfl
  |some _=>exact (show False from r).elim
 |some _=>cases u with
  |none=>exact (show False from r).elim
  |some _=>rfl
theorem KV.val{kvs:List (κ × V)}{vs:List (κ × Aa)}(r:KV kvs vs)(k:κ):eP (aY kvs k) (valueAt vs k):=by
 unfold KV at r
 induction r with
 |nil=>exact True.intro
 |@cons p q ps qs h t ih=>
  let#[h1,h2]:=h;by_cases e:p.1=k
  ·have e':q.1=k:=h1.symm.trans e;have b:valueAt (q::qs) k\q.2:=by simp[valueAt,x5,e']
   rw[AH e,b];exact h2
  have e':¬q.1=k:=λz=>e (h1.trans z);have b:valueAt (q::qs) k=valueAt qs k:=by simp[valueAt,x5,e']
  rw[AE e,b];exact ih
theorem KV.any{kvs:List (κ × V)}{vs:List (κ × Aa)}(r:KV kvs vs)(k:κ):(kvs.any λkv=>decide (kv.1=k))=vs.any λkv=>decide (kv.1=k):=by
 unfold KV at r
 induction r with
 |nil=>rfl
 |cons h t ih=>rw[List.any_cons,List.any_cons,ih,h.1]
theorem KV.yX{kvs:List (κ × V)}{vs:List (κ × Aa)}(r:KV kvs vs)(k:κ){y:V}(ry:RelV y u) :
  KV (kvs.map λkv=>if kv.1=k then (kv.1,y) else kv) (vs.map λkv=>if kv.1=k then (kv.1,u) else kv):=by
 unfold KV at r ⊢
 induction r with
 |nil=>exact .nil
 |@cons p q ps qs h t ih=>
  rw[eG,eG];apply .cons ?_ ih;let#[h1,h2]:=h;by_cases e:p.1=k
  ·rw[aI e,aI (h1.symm.trans e)];exact#[h1,ry]
  rw[aA e,aA (λz=>e (h1.trans z))];exact#[h1,h2]
theorem KV.put{kvs:List (κ × V)}{vs:List (κ × Aa)}(r:KV kvs vs)(k:κ){y:V}(ry:RelV y u):KV (putK kvs k y) (stored vs k u):=by
 unfold putK stored;rw[r.any k];by_cases e:(vs.any λkv=>decide (kv.1=k))=true
 ·rw[aI e,aI e];exact r.yX k ry
 rw[aA e,aA e];exact Paired.snoc r #[Z,ry]
theorem KV.keys{kvs:List (κ × V)}{vs:List (κ × Aa)}(r:KV kvs vs):kvs.map (·.1)=vs.map (·.1):=by
 unfold KV at r
 induction r with
 |nil=>rfl
 |cons h t ih=>rw[eG,eG,ih,h.1]
theorem KV.length{kvs:List (κ × V)}{vs:List (κ × Aa)}(r:KV kvs vs):kvs.length=vs.length:=br r
end
variable{P:Ad}{w:Ag}
theorem Ai{k:Key}(r:RelV (kV k) u):(fh P w).is k u=true:=by
 cases k with
 |inl i=>let#[t,e]:=(show ∃t,u=Value.int i t from r);subst e;exact ep_ P w i t
 |inr x=>let#[t,e]:=(show ∃t,u=Value.str x t from r);subst e;exact ef_ P w x t
theorem T_{P:Ad}{w:Ag}:∀{ks:aC} {us:aj},Vals (ks.map kV) us->ItemsAre (fh P w) ks us
 |[],_,r=>by rw[List.map_nil] at r;cases r;exact .nil
 |k::ks,_,r=>by
  rw[eG] at r;cases r with
  |cons h t=>exact .cons (Ai h) (T_ t)
abbrev KT(H:Hp):List (aC × V)->List (aC × Addr × Aa)->Prop:=Paired λp q=>p.1=q.1/\H q.2.1\.tup (p.1.map kV)/\RelV p.2 q.2.2
variable{xs:List (aC × Addr × Aa)}{H:Hp}{kvs:List (aC × V)}
theorem KT.val(r:KT H kvs xs)(k:aC):eP (aY kvs k) ((atKey xs k).map (·.2)):=by
 induction r with
 |nil=>exact True.intro
 |@cons p q ps qs h t ih=>
  let#[h1,_,h2]:=h;by_cases e:p.1=k
  ·have e':q.1=k:=h1.symm.trans e;have b:atKey (q::qs) k\q.2:=by simp[atKey,x5,e']
   rw[AH e,b];exact h2
  have e':¬q.1=k:=λz=>e (h1.trans z);have b:atKey (q::qs) k=atKey qs k:=by simp[atKey,x5,e']
  rw[AE e,b];exact ih
theorem KT.yX(r:KT H kvs xs)(k:aC){y:V}(ry:RelV y u) :
  KT H (kvs.map λkv=>if kv.1=k then (kv.1,y) else kv) (xs.map (putAt k u)):=by
 induction r with
 |nil=>exact .nil
 |@cons p q ps qs h t ih=>
  rw[eG,eG];apply .cons ?_ ih;let#[h1,h2,h3]:=h;unfold putAt;by_cases e:p.1=k
  ·rw[aI e,aI (h1.symm.trans e)];exact#[h1,h2,ry]
  rw[aA e,aA (λz=>e (h1.trans z))];exact#[h1,h2,h3]
variable{b:Addr}
theorem KT.put(r:KT H kvs xs)(k:aC){y:V}(hb:H b\.tup (k.map kV))(ry:RelV y u) :
  KT H (putK kvs k y) (storedH xs k b u):=by
 have e:(kvs.any λkv=>decide (kv.1=k))=(atKey xs k).isSome:=by
  rw[BC,(r.val k).dN,Option.isSome_map]
 unfold putK storedH;rw[e];by_cases q:(atKey xs k).isSome=true
 ·rw[aI q,aI q];exact r.yX k ry
 rw[aA q,aA q];exact Paired.snoc r #[Z,hb,ry]
variable{H':Hp}
theorem KT.keeps(r:KT H kvs xs)(ht:∀b ys,H b\.tup ys->H' b\.tup ys):KT H' kvs xs:=
 Paired.aV r λ_ _ z=>#[z.1,ht _ _ z.2.1,z.2.2]
variable{h:Heap}{a:Addr}
theorem QJ{u:HO}(ok:fO P w H h)(e:Rd H a u):ft P w H h a u:=e.ok ok
theorem jN{kvs:List (Key × V)}(ok:fO P w H h)(e:Rd H a (.dK kvs)):kvs.length<=sizeLine/\(a == sysModules)=false/\∃vs,KV kvs vs/\h.DictOf (fh P w) a vs:=
 show ft P w H h a (.dK kvs) from QJ ok e
theorem EN{kvs:List (Key × V)}(ok:fO P w H h)(e:H a\.dK kvs):kvs.length<=sizeLine/\(a == sysModules)=false/\∃vs,KV kvs vs/\h.DictOf (fh P w) a vs:=jN ok (.inl e)
theorem Bt{ks:aC}(ok:fO P w H h)(e:H a\.tup (ks.map kV)):(tupleKind (fh P w)).is h ks a:=by
 let#[_,its,r,#[o,h1,h2,n,h3],_]:=(show ft P w H h a (.tup (ks.map kV)) from ok a _ e);exact#[o,its.toArray,n,h1,h2,h3,by simpa using T_ r]
theorem Bk(ok:fO P w H h)(e:Rd H a (.dT kvs)):kvs.length<=sizeLine/\(a == sysModules)=false /\
  ∃xs,KT H kvs xs/\h.DictOfH (tupleKind (fh P w)) a xs:=by
 let#[z,y,xs,r,o,es,ep,h1,h2,h3,h4,h5]:=(show ft P w H h a (.dT kvs) from QJ ok e);apply#[z,y,xs,r,o,es,ep,h1,h2,h3,h4,λx hx=>?_,h5]
 have all:∀{l:List (aC × V)} {m:List (aC × Addr × Aa)},KT H l m->∀x∈m,(tupleKind (fh P w)).is h x.1 x.2.1:=by
  intro l m q
  induction q with
  |nil=>intro x hx;exact nomatch hx
  |@cons p q ps qs hq t ih=>
   intro x hx;rcases bU.mp hx with e|hx
   ·subst e;exact Bt ok (by rw[<- hq.1];exact hq.2.1)
   exact ih x hx
 exact all r x hx
theorem QP(ok:fO P w H h)(e:H a\.dT kvs):kvs.length<=sizeLine/\(a == sysModules)=false /\
  ∃xs,KT H kvs xs/\h.DictOfH (tupleKind (fh P w)) a xs:=Bk ok (.inl e)
def eR(H:Hp)(a:Addr)(y:V)(r:aL):Prop:=
 (∃kvs k,Rd H a (.dK kvs)/\y=kV k/\r=aY kvs k)∨∃kvs k b,Rd H a (.dT kvs)/\y=.ref b/\H b\.tup (k.map kV)/\r=aY kvs k
def o5(H:Hp)(a:Addr)(y v:V)(H':Hp):Prop:=
 (∃kvs k,H a\.dK kvs/\y=kV k/\kvs.length<sizeLine/\H'=upd H a (.dK (putK kvs k v))) ∨
 ∃kvs k b,H a\.dT kvs/\y=.ref b/\H b\.tup (k.map kV)/\kvs.length<sizeLine/\H'=upd H a (.dT (putK kvs k v))
theorem eR.k{kvs:List (Key × V)}{k:Key}(e:H a\.dK kvs):eR H a (kV k) (aY kvs k):=.inl #[kvs,k,.inl e,Z,Z]
theorem eR.t{k:aC}(e:H a\.dT kvs)(eb:H b\.tup (k.map kV)):eR H a (.ref b) (aY kvs k):=.inr #[kvs,k,b,.inl e,Z,eb,Z]
theorem o5.k{kvs:List (Key × V)}{k:Key}{v:V}(e:H a\.dK kvs)(hl:kvs.length<sizeLine):o5 H a (kV k) v (upd H a (.dK (putK kvs k v))):=.inl #[kvs,k,e,Z,hl,Z]
theorem o5.t{k:aC}{v:V}(e:H a\.dT kvs)(eb:H b\.tup (k.map kV))(hl:kvs.length<sizeLine) :
  o5 H a (.ref b) v (upd H a (.dT (putK kvs k v))):=.inr #[kvs,k,b,e,Z,eb,hl,Z]
variable{h':Heap}
variable{kvs:List (Key × V)}
section
variable{X:Cx}{pins:List (Addr × Obj)}{σ:St}{H:Hp}{s:Ab}{a:Addr}{y v:V}{u r:Aa}{o:aL}{A:Af}{E:Aa->Ab->Prop}
theorem Inv.big(I:Inv X pins σ H s):sysModules<s.heap.objs.size:=by
 have h:mainGlobals<s.heap.objs.size:=(I.mod.glob.keeps I.bk).lt;exact Nat.lt_trans (by decide) h
theorem gB_{Q:Aa->Ab->Prop}(hu:A.units+1<cLine)(I:Inv X pins σ H s)(g:eR H a y (some v))(ry:RelV y u)(h:∀w' s',Inv X pins σ H s'->RelV v w'->Q w' s') :
  wpAny (model X.prog X.w) A (getItem (.ref a) u) Q E s:=by
 rcases g with⟨kvs,k,e,ey,l⟩|⟨kvs,k,b,e,ey,eb,l⟩
 ·subst ey;let#[z,hd,vs,rel,dd]:=jN I.az e;let#[w',hw,i9]:=eP.some_of (v:=v) (o:=valueAt vs k) (by rw[l];exact rel.val k);exact wpAny_getItem_of (Ai ry) dd.mapOf hw (h w' _ (I.tok _) i9)
 subst ey;cases (show u=Value.ref b from ry);let#[z,hd,xs,rel,dd]:=Bk I.az e;let#[w',hw,i9]:=eP.some_of (v:=v) (o:=(atKey xs k).map (·.2)) (by rw[l];exact rel.val k);let#[p,hp,kh]:=BJ.mp hw;apply wpAny_getItem_heap (tupleKind_room_in1 hu) (Bt I.az eb) dd hp ?_;rw[kh];exact h w' _ (I.tok _) i9
theorem Nt{Q:Aa->Ab->Prop}(hu:A.units+1<cLine)(I:Inv X pins σ H s)(g:eR H a y o)(ry:RelV y u)(h:∀s',Inv X pins σ H s'->Q (.bool o.isSome) s') :
  wpAny (model X.prog X.w) A (compareOp .In u (.ref a)) Q E s:=by
 rcases g with⟨kvs,k,e,ey,l⟩|⟨kvs,k,b,e,ey,eb,l⟩
 ·subst ey;let#[z,hd,vs,rel,dd]:=jN I.az e;apply wpAny_in_of (Ai ry) hd dd.mapOf ?_;rw[<- (rel.val k).dN,<- l];exact h _ (I.tok _)
 subst ey;cases (show u=Value.ref b from ry);let#[z,hd,xs,rel,dd]:=Bk I.az e;apply wpAny_in_heap (tupleKind_room_in1 hu) (Bt I.az eb) hd dd ?_;let q:=(rel.val k).dN;rw[Option.isSome_map] at q;rw[<- q,<- l];exact h _ (I.tok _)
theorem YV{Q:Aa->Ab->Prop}(hu:A.units+1<cLine)(I:Inv X pins σ H s)(g:eR H a y o)(ry:RelV y u)(h:∀s',Inv X pins σ H s'->Q (.bool (!o.isSome)) s') :
  wpAny (model X.prog X.w) A (compareOp .NotIn u (.ref a)) Q E s:=by
 rcases g with⟨kvs,k,e,ey,l⟩|⟨kvs,k,b,e,ey,eb,l⟩
 ·subst ey;let#[z,hd,vs,rel,dd]:=jN I.az e;apply wpAny_notIn_of (Ai ry) hd dd.mapOf ?_;rw[<- (rel.val k).dN,<- l];exact h _ (I.tok _)
 subst ey;cases (show u=Value.ref b from ry);let#[z,hd,xs,rel,dd]:=Bk I.az e;apply wpAny_notIn_heap (tupleKind_room_in1 hu) (Bt I.az eb) hd dd ?_;let q:=(rel.val k).dN;rw[Option.isSome_map] at q;rw[<- q,<- l];exact h _ (I.tok _)
theorem MZ{ob:HO}(I:Inv X pins σ H s)(mu:FO (H a))(hs:Heap.SameBut a s.heap h')(he:∃q,h'.get? a\q)(new:ft X.prog X.w (upd H a ob) h' a ob) :
  Inv X pins σ (upd H a ob) { s with heap:=h',toks:=t' }:=
 I.write (x:=a) (e:=a) mu (.inl Z) (λb q hb z=>(hs.2 b hb).trans z) he new
theorem Hx{vs:List (Key × Aa)}(z:kvs.length<=sizeLine)(hd:(a == sysModules)=false)(rel:KV kvs vs)(dd:h'.DictOf (fh P w) a vs) :
  ft P w H' h' a (.dK kvs):=#[z,hd,vs,rel,dd]
theorem h0_{Q:Unit->Ab->Prop}(hu:A.units+1<cLine)(I:Inv X pins σ H s)(g:o5 H a y v H')(ry:RelV y u)(rv:RelV v r)(h:∀s',Inv X pins σ H' s'->Q () s') :
  wpAny (model X.prog X.w) A (setItem (.ref a) u r) Q E s:=by
 rcases g with⟨kvs,k,e,ey,l,eH⟩|⟨kvs,k,b,e,ey,eb,l,eH⟩
 ·subst ey eH;let#[z,hd,vs,rel,dd]:=EN I.az e;have hz:vs.length<=sizeLine:=by rw[<- rel.length];exact z
  have hl:(putK kvs k v).length<=sizeLine:=by have:=OV kvs k v;omega
  apply wpAny_setItem_pairs (hsz:=hz) (Ai ry) dd λh' xQ hs=>h _ ?_;have he:∃q,h'.get? a\q:=let #[q,_,_,hq,_]:=xQ;#[q,hq];exact MZ I (by rw[e];exact True.intro) hs he (Hx hl hd (rel.put k rv) xQ)
 subst ey eH;cases (show u=Value.ref b from ry);let#[z,hd,xs,rel,dd]:=QP I.az e;have hz:xs.length<=sizeLine:=by rw[<- br rel];exact z
 have hl:(putK kvs k v).length<=sizeLine:=by have:=OV kvs k v;omega
 apply wpAny_setItem_heap (hsz:=hz) (tupleKind_room_in1 hu) (Bt I.az eb) dd λh' xQ hs=>h _ ?_;let#[q,es,ep,hq,h2,h3,h4,_,h5]:=xQ;apply MZ I (by rw[e];exact True.intro) hs #[q,hq] #[hl,hd,_,(rel.put k eb rv).keeps λc ys ec=>?_,q,es,ep,hq,h2,h3,h4,h5];rw[aw (bK ec e nofun)];exact ec
end
variable{E:Aa->Ab->Prop}
theorem Yr{Q:Aa->Ab->Prop}(I:Inv X pins σ H s)(e:Rd H a (.dK kvs))(h:∀t s',Inv X pins σ H s'->Q (.int kvs.length t) s'):wpAny (model X.prog X.w) A (call (.builtin "len") [.ref a]) Q E s:=by
 let#[z,hd,vs,rel,dd]:=jN I.az e;apply call_len_dict hd dd (by rw[<- rel.length];rw[cX] at z;omega) ?_;rw[<- rel.length];exact h _ _ (I.tok _)
def FN(i:Expr):Prop:=∀ov iv,subscripted i false ov iv=operate [ov,iv] (getItem ov iv)
variable{value:Expr}{pos:Pos}
theorem Za{prog:Ad}{env:Env}{slice:Expr}{id:String}{Q:Aa->Ab->Prop}(hl:typeLookup (.type T) "__getitem__"=pure (some (.builtin id)))(hs:FN slice)(h:wpAny (model prog w) A (eval value env) (λo aJ=>wpAny (model prog w) A (eval slice env) (λi jq=>jq.TypeIs o T/\wpAny (model prog w) A (getItem o i) Q E jq) E aJ) E s) :
  wpAny (model prog w) A (eval (.Subscript value slice pos) env) Q E s:=by
 apply Subscript_ (wpAny_mono h (λo aJ Lg=>wpAny_mono Lg (λi jq zp=>?_) λ_ _ x=>x) λ_ _ x=>x);let#[hT,zp]:=zp;unfold subscriptTail;apply ae ?_;rw[getitemInPython_of_ne hT.not_modules];apply ae (wpAny_specialOf hT hl ?_)
 have fin:wpAny (model prog w) A (subscripted slice false o i) (λr Cp=>wpAny (model prog w) A (letTemporaryGo value o r >>= λ_=>pure r) Q E Cp) E jq:=by
  rw[hs o i];exact wpAny_operating (wpAny_mono zp (λr Cp Lf=>ae (wpAny_letTemporaryGo (aE Lf))) λ_ _ x=>x)
 first
  |exact aE (ae fin)
  |exact ae (aE (ae fin))
  |exact ae fin
theorem ek_{y:V}(I:Inv X pins σ H s)(g:eR H a y o):s.TypeIs (.ref a) "dict":=by
 rcases g with⟨kvs,k,e,_,_⟩|⟨kvs,k,b,e,_,_,_⟩
 ·let#[_,_,vs,_,dd]:=jN I.az e;exact dd.typeIs
 let#[_,_,xs,_,dd]:=Bk I.az e;exact dd.typeIs
inductive qa (Q:VK) (x:V) (y:V) (H2:Hp):Prop
 |mk:∀a v,x=.ref a->eR H2 a y (some v)->Q v H2->qa Q x y H2
def Ck(td ty:TE):TE:=λσ H Q=>td σ H λx H1=>ty σ H1 λy H2=>qa Q x y H2
inductive wR (Q:VK) (y:V) (x:V) (H2:Hp):Prop
 |mk:∀a o,x=.ref a->eR H2 a y o->Q (.bl o.isSome) H2->wR Q y x H2
def J3(ty td:TE):TE:=λσ H Q=>ty σ H λy H1=>td σ H1 λx H2=>wR Q y x H2
inductive S6 (Q:VK) (y:V) (x:V) (H2:Hp):Prop
 |mk:∀a o,x=.ref a->eR H2 a y o->Q (.bl (!o.isSome)) H2->S6 Q y x H2
def uY(ty td:TE):TE:=λσ H Q=>ty σ H λy H1=>td σ H1 λx H2=>S6 Q y x H2
inductive qW (D:Ends) (σ:St) (v:V) (x:V) (y:V) (H3:Hp):Prop
 |mk:∀a H4,x=.ref a->o5 H3 a y v H4->D.nx σ H4->qW D σ v x y H3
def Cy(td ty tv:TE):TS:=λD σ H=>tv σ H λv H1=>td σ H1 λx H2=>ty σ H2 λy H3=>qW D σ v x y H3
variable{i o:Expr}{td ty:TE}
theorem n5(hu:X.A.units+1<cLine)(ho:PE X o td)(hi:PE X i ty)(hs:FN i:=by exact λ_ _=>rfl):PE X (.Subscript o i pos) (Ck td ty):=by
 intro pins s σ H Q I h;apply Za PySem.F.slot_dict_getitem.lookup hs (aO (ho pins s σ H _ I h) λu s1 ⟨x,H1,I1,rx,q1⟩=>aO (hi pins s1 σ H1 _ I1 q1) λiv s2 ⟨y,H2,I2,ry,a,v,ex,g,q2⟩=>?_);subst ex;obtain rfl:u=Value.ref a:=rx;exact#[ek_ I2 g,gB_ hu I2 g ry λw' s3 I3 i9=>#[v,H2,I3,i9,q2]]
theorem Bs(hu:X.A.units+1<cLine)(hi:PE X i ty)(ho:PE X o td):PC X .In i o (J3 ty td):=by
 intro pins s σ H Q I h;apply aO (hi pins s σ H _ I h) λiv s1 ⟨y,H1,I1,ry,q1⟩=>aO (ho pins s1 σ H1 _ I1 q1) λu s2 ⟨x,H2,I2,rx,a,ov,ex,g,q2⟩=>?_;subst ex;obtain rfl:u=Value.ref a:=rx;exact Nt hu I2 g ry λs3 I3=>#[.bl ov.isSome,H2,I3,Z,q2]
theorem IX(hu:X.A.units+1<cLine)(hi:PE X i ty)(ho:PE X o td):PC X .NotIn i o (uY ty td):=by
 intro pins s σ H Q I h;apply aO (hi pins s σ H _ I h) λiv s1 ⟨y,H1,I1,ry,q1⟩=>aO (ho pins s1 σ H1 _ I1 q1) λu s2 ⟨x,H2,I2,rx,a,ov,ex,g,q2⟩=>?_;subst ex;obtain rfl:u=Value.ref a:=rx;exact YV hu I2 g ry λs3 I3=>#[.bl (!ov.isSome),H2,I3,Z,q2]
variable{pos':Pos}{tv:TE}
theorem uD(hu:X.A.units+1<cLine)(ho:PE X o td)(hi:PE X i ty)(hv:PE X value tv)(hs:swapsWith value (some (.Subscript o i pos')) pos.line X.env=pure false) :
  PS X (.Assign [.Subscript o i pos'] value pos) (Cy td ty tv):=by
 intro pins s σ H D I h;apply wpAny_Assign_Subscript (aO (hv pins s σ H _ I h) λr s1 ⟨v,H1,I1,rv,q1⟩=>aO (ho pins s1 σ H1 _ I1 q1) λu s2 ⟨x,H2,I2,rx,q2⟩=>aO (hi pins s2 σ H2 _ I2 q2) λiv s3 ⟨y,H3,I3,ry,a,H4,ex,g,q3⟩=>?_) hs;subst ex;obtain rfl:u=Value.ref a:=rx;exact h0_ hu I3 g ry rv λs4 I4=>#[σ,H4,I4,q3]
theorem hl_(h:Heap)(hb:sysModules<h.objs.size):ft P w H (h.push { cls:=.type "dict",data:=.dict #[] }) h.objs.size (.dK []):=
 #[gM _,beq_eq_false_iff_ne.mpr (bJ (dR hb)),[],.nil,Heap.DictOf.new h]
theorem SQ(h:Heap)(hb:sysModules<h.objs.size):ft P w H (h.push { cls:=.type "dict",data:=.dict #[] }) h.objs.size (.dT []):=
 #[gM _,beq_eq_false_iff_ne.mpr (bJ (dR hb)),[],.nil,_,#[],0,cz _ Z,#[Z,Z,Z],Z,Z,List.nodup_nil]
def yu:TE:=λ_ H Q=>∀p,H p=none->Q (.ref p) (upd H p (.dK []))
def yr:TE:=λ_ H Q=>∀p,H p=none->Q (.ref p) (upd H p (.dT []))
theorem FC:PE X (.Dict [] [] pos) yu:=λpins s σ H Q I h=>
 wpAny_Dict_empty #[.ref s.heap.objs.size,_,I.laid (a:=s.heap.objs.size) (o:=.dK []) (t':=s.toks) (λ_ _ q=>aU _ q) (a_ _) (hl_ s.heap I.big),Z,h _ (I.az.fresh (a_ _))]
theorem hn_:PE X (.Dict [] [] pos) yr:=λpins s σ H Q I h=>
 wpAny_Dict_empty #[.ref s.heap.objs.size,_,I.laid (a:=s.heap.objs.size) (o:=.dT []) (t':=s.toks) (λ_ _ q=>aU _ q) (a_ _) (SQ s.heap I.big),Z,h _ (I.az.fresh (a_ _))]
def wo(kvs more:List (Key × V)):List (Key × V):=more.foldl (λacc kv=>putK acc kv.1 kv.2) kvs
theorem OU:∀(more kvs:List (Key × V)),(wo kvs more).length<=kvs.length+more.length
 |[],kvs=>by show kvs.length<=kvs.length+0;omega
 |p::r,kvs=>by
  let h1:=OU r (putK kvs p.1 p.2);let h2:=OV kvs p.1 p.2;show (wo (putK kvs p.1 p.2) r).length<=_;rw[jm];omega
structure M1 (X:Cx) (o:Expr) (m:Str) (apos:Pos) (e:Expr) (cO:Pos):Prop where
 base:attributeBase o m X.env (eval o X.env)=eval o X.env
 few:((backTo cO (starEach [e] X.env)).all (λx=>!x.1)&&(backToKw cO (keywordEach [] X.env)).all (λx=>x.1.isSome)
  && decide (([e]:List Expr).length+([]:List Keyword).length+(if ([]:List Keyword).isEmpty then 0 else 1)<30))=true
 line:(apos.endLine == cO.line)=true
 trees:backTo cO (starEach [e] X.env)=[(false,eval e X.env)]
structure M2 (X:Cx) (o:Expr) (m:Str) (apos:Pos) (e f:Expr) (cO:Pos):Prop where
 base:attributeBase o m X.env (eval o X.env)=eval o X.env
 few:((backTo cO (starEach [e,f] X.env)).all (λx=>!x.1)&&(backToKw cO (keywordEach [] X.env)).all (λx=>x.1.isSome)
  && decide (([e,f]:List Expr).length+([]:List Keyword).length+(if ([]:List Keyword).isEmpty then 0 else 1)<30))=true
 line:(apos.endLine == cO.line)=true
 trees:backTo cO (starEach [e,f] X.env)=[(false,eval e X.env),(false,eval f X.env)]
def IsD(H:Hp)(a:Addr):Prop:=(∃kvs,Rd H a (.dK kvs))∨∃kvs,Rd H a (.dT kvs)
theorem Re(I:Inv X pins σ H s)(d:IsD H a) :
  s.TypeIs (.ref a) "dict"/\(∀b,Value.ref a=.ref b->∃ob,s.heap.get? b\ob/\ob.dict=none)/\(a == sysModules)=false:=by
 rcases d with⟨kvs,e⟩|⟨kvs,e⟩
 ·let#[_,hd,vs,_,dd]:=jN I.az e;apply#[dd.typeIs,λb q=>?_,hd];cases q;let#[ob,_,_,h1,h2,_]:=dd;exact#[ob,h1,h2.2.1]
 let#[_,hd,xs,_,dd]:=Bk I.az e;apply#[dd.typeIs,λb q=>?_,hd];cases q;let#[ob,_,_,h1,h2,_]:=dd;exact#[ob,h1,h2.2.1]
theorem _C{Q:Aa->Ab->Prop}(I:Inv X pins σ H s)(e:Rd H a (.dK kvs))(h:∀p s',H p=none->Inv X pins σ (upd H p (.dK kvs)) s'->Q (.ref p) s'):wpAny (model X.prog X.w) A (call (.type "dict") [.ref a]) Q E s:=by
 let#[z,hd,vs,rel,dd]:=jN I.az e;apply kt_call_dict hd dd (by rw[<- rel.length];exact z) λh' xQ hs=>?_;apply h _ _ (I.az.fresh (a_ _)) (I.laid (a:=s.heap.objs.size) (o:=.dK kvs) (t':=s.toks) (λb q hq=>?_) (a_ _) (Hx z (beq_eq_false_iff_ne.mpr (bJ (dR I.big))) rel xQ));exact (hs.2 b (dR (bz hq))).trans (aU _ hq)
end L2
namespace Vc
open PySem PySem.W PySem.Calls PyProof.Rows
variable{P:Params}{h:Heap}
theorem cB_:∀(ns:List Int) (vs:aj),WellAll P h vs (ns.map WData.int)->IntsAre vs ns:=by
 intro ns
 induction ns with
 |nil=>
  intro vs w;rw[List.map_nil] at w;cases w;exact .nil
 |cons n ns ih=>
  intro vs w;rw[eG] at w;cases w with
  |cons a b=>
   cases a;exact .cons _ _ (ih _ b)
variable{l:OpenLaw}{n:Nat}
theorem gi_(hn:l.most\n){args:List WData}{vals:aj}(vM:l.row.toRowW.claim.pre args=true)(Lj:WellAll P h vals args) :
  ∃a vs ns,vals=[Value.ref a]/\args=[WData.list (ns.map WData.int)]/\h.get? a=some { cls:=.type "list",data:=.seq vs.toArray }/\IntsAre vs ns/\ns.length<=n:=by
 have _T:WShape.hasAll [] args [.list .int]=true:=(pre_splitW vM).1;have hc:l.pre.holds [] { args:=args }=true:=(pre_splitW vM).2;let#[d,r,rfl,h1,h2]:=hasAllW_cons _T;obtain rfl:=hasAllW_nil h2;let#[xs,rfl,h3]:=hasW_list h1;let#[ns,rfl]:=items_int h3
 have hlen:ns.length<=n:=by
  unfold OpenLaw.pre at hc
  have h4:(WTm.not (.lt (.lit (.int (n:Int))) (.len (.arg 0)))).holds [] { args:=[.list (ns.map .int)] }=true:=by
   let h4:=(holds_andW hc).1;rw[hn] at h4;exact h4
  let h5:=condW_of h4 (w_not (w_lt w_lit (w_len_list (w_arg Z))));rw[ak] at h5;apply Nat.le_of_not_lt λq=>?_;have q':(n:Int)<((ns.length:Nat):Int):=by omega
  first
   |(rw[c_ q'] at h5;exact absurd h5 (by decide))
   |(simp at h5;omega)
 cases Lj with
 |cons w1 w2=>
  cases w2;cases w1 with
  |list ho zQ=>exact#[_,_,ns,Z,Z,ho,cB_ ns _ zQ,hlen]
theorem he_(l:OpenLaw)(args:List WData):l.row.toRowW.claim.post args (.bool true) args=true:=
 postW_of (r:=l.row.toRowW) (X:=(true == true))
  (show WShape.has [] (.bool true) .bool=true by first|rfl|decide|simp[WShape.has,WShape.arms,WShape.armsAll])
  (show (WTm.eq .res (.lit (.bool true))).value [] { args:=args,res:=some (.bool true),after:=args }=some (.bool (true == true)) from w_eq_bool (w_res Z) w_lit) Z
theorem jO{q:Ad}{loose:af}{XP:(Str->Option Aa)->Heap->Prop}{YP:Ag->Heap->Prop}{d:DefRec}(hn:l.most\n)(Eu:d.params.defaults=[])(call:∀(w:Ag) (dc aJ:Ab) (mg mb:Str->Option Aa) (fa:Addr) (o:Obj) (pm cd doc:Aa) (a:Addr) (vs:aj) (ns:List Int),
   Ground q loose [] XP w dc mg mb aJ.heap->YP w aJ.heap->
   aJ.heap.get? fa\o->o.data=.func (docDef d.name d.params d.body d.scope pm cd doc)->aJ.heap.CodeRec cd d.name->mg d.name\.ref fa->
   aJ.heap.get? a=some { cls:=.type "list",data:=.seq vs.toArray }->IntsAre vs ns->ns.length<=n->aJ.gens=#[]->
   codeAny (model l.prog w) callerA (.call (.ref fa) #[[.ref a],[]]) (λr s'=>r=.ok (.ret (.bool true))/\OldK aJ.heap s'.heap/\s'.os=aJ.os/\AllBare s'.gens) aJ) :
  WalkO q loose XP YP l.row.toRowW d [] (λf vs=>PySem.call f vs):=by
 intro w dc aJ mg mb G Y fa o pm cd doc dV kV ho hd ik hD hmg hg args vals as vM hlay hrd Lj Rz;obtain rfl:dV=.none:=Dflts.none hD Eu;obtain rfl:kV=.none:=Dflts.noKw hD;let#[a,vs,ns,rfl,rfl,zD,hints,hlen]:=gi_ hn vM Lj;apply enter_call (codeAny_mono (call w dc aJ mg mb fa o pm cd doc a vs ns G Y ho (fd_plain hd) ik hmg zD hints hlen hg) λr s' hq=>?_);let#[rfl,h2,h3,h4]:=hq;exact#[.inl #[.bool true,.bool true,[],Z,λ_=>rfl,.bool true,he_ l _,λ_=>#[List.Pairwise.nil,λ_ hm=>(nomatch hm)]],h2,h3,h4]
end Vc
namespace L2
open PySem PySem.Spec PyProof.Rows
theorem T1:∀{vs:aj} {ns:List Int},IntsAre vs ns->Vals (ns.map V.int) vs
 |_,_,.nil=>.nil
 |_,_,.cons n t h=>.cons #[t,Z] (T1 h)
def l_(s:Stmt)(j:Nat):Stmt:=match s with
 |.ClassDef _ _ _ body _ _ _ _ _ _ _=>body.getD j (.Pass #[0,0,0,0])
 |_=>.Pass #[0,0,0,0]
def jL(s:Stmt):Arguments:=match s with
 |.FunctionDef _ a _ _ _ _ _ _ _ _=>a
 |_=>{ posonlyargs:=[],args:=[],vararg:=none,kwonlyargs:=[],kw_defaults:=[],kwarg:=none,defaults:=[] }
def iF(s:Stmt):List Stmt:=match s with
 |.FunctionDef _ _ b _ _ _ _ _ _ _=>b
 |_=>[]
def bg(s:Stmt):Scope:=match s with
 |.FunctionDef _ _ _ _ _ _ sc _ _ _=>sc
 |_=>{ kind:=.function,names:=[],isGenerator:=false,isCoroutine:=false }
abbrev bh:uR:=λ_ _ _ _ _ _=>False
abbrev E0:XK:=λ_ _ _=>False
variable{X:Cx}
theorem nj:wx bh X E0:=λ_ _ _ _ _ _ _ h=>h.elim
structure bx (K:ai) (x qual:Str) (st:Stmt) (f:Addr) (fd:Ae):Prop where
 ex:∃(oc:Aa) (od:Option Addr) (kV doc pm:Aa) (an:Option Addr) (aN ct:Aa) (ka:Array (Option Aa)),
  fd=PySem.W.fnOf x qual (jL st) (iF st) (bg st) .none kV doc pm an aN ct/\K.lookup f=some #[oc,od,.func fd,ka]/\PySem.W.codeIn K aN qual=true
 kp:PySem.W.keepIn K (.ref f)=true
variable{qual x:Str}{st:Stmt}{f:Addr}{fd:Ae}{N ps:af}{k:Nat}{sp:Sp}{P:Ad}{w:Ag}{K:ai}{mg:Str->Option Aa}{base:Heap}
theorem bx.ok(F:bx K x qual st f fd)(S:bG N ps (bg st))(len:∀vs H Q E,sp vs H Q E->vs.length=ps.length)(fP:∀(aN:Aa) (A:Af) (outer:List Env) (s:Ab) (H:Hp) (vs:ag) (Q:VK) (E:XK),aQ k (A.deeper (envOfC qual (bg st) s.heap.objs.size f aN))->sp vs H Q E->
   ∃t,kE (jI bh P w K mg base N qual (bg st) f aN A outer s H E).y6 (iF st) t/\t { nx:=λ_ H'=>Q .non H',rt:=Q } (start N vs) H):!aq bh (k+1) f fd ps sp:=by
 let#[oc,od,kV,doc,pm,an,aN,ct,ka,rfl,lk,ik]:=F.ex;apply QQ lk ik S len λA outer s H vs Q E hr kg=>?_;let#[t,h,q]:=fP aN A outer s H vs Q E hr kg;exact#[t,h.y6,q]
theorem bx.bP(F:bx K x qual st f fd)(S:bG N ps (bg st))(fP:∀(aN:Aa) (A:Af) (outer:List Env) (s:Ab) (H:Hp) (vs:ag) (Q:VK) (E:XK),aQ k (A.deeper (envOfC qual (bg st) s.heap.objs.size f aN))->sp vs H Q E->
   ∃t,kE (jI bh P w K mg base N qual (bg st) f aN A outer s H E).y6 (iF st) t/\t { nx:=λ_ H'=>Q .non H',rt:=Q } (start N vs) H)(len:∀vs H Q E,sp vs H Q E->vs.length=ps.length:=by intro vs H Q E h;first|(cases h;subst_vars;rfl)|(let#[rfl,_]:=h;rfl)|(let#[_,rfl,_]:=h;rfl)|(let#[_,_,rfl,_]:=h;rfl)|(let#[_,_,_,rfl,_]:=h;rfl)|(let#[_,_,_,_,rfl,_]:=h;rfl)):!aq bh (k+1) f fd ps sp:=F.ok S len fP
theorem bx.binds(F:bx K x qual st f fd)(h:∀(kV doc pm:Aa) (an:Option Addr) (aN ct:Aa) (us:aj),us.length=ps.length->bindArgs (PySem.W.fnOf x qual (jL st) (iF st) (bg st) .none kV doc pm an aN ct) #[us,[]]=pure (ps.zip us)):ph K fd ps []:=by
 let#[oc,od,kV,doc,pm,an,aN,ct,ka,rfl,lk,ik]:=F.ex;exact .all (h kV doc pm an aN ct)
theorem Q6{oc:Aa}{od an:Option Addr}{ka:Array (Option Aa)}{kV doc pm aN ct:Aa}(l:K.lookup f=some #[oc,od,.func (PySem.W.fnOf x qual (jL st) (iF st) (bg st) .none kV doc pm an aN ct),ka])(c:PySem.W.codeIn K aN qual=true)(k:PySem.W.keepIn K (.ref f)=true):bx K x qual st f (PySem.W.fnOf x qual (jL st) (iF st) (bg st) .none kV doc pm an aN ct):=#[#[oc,od,kV,doc,pm,an,aN,ct,ka,Z,l,c],k]
theorem gf{A:Af}(hr:aQ k A):A.units+1<cLine:=Nat.lt_of_le_of_lt (Nat.add_le_add_left (by decide:1<=64) _) hr.units
theorem pv(i:Nat){pos:Pos}(hN:X.N[i]? = some x:=by rfl)(hv:Pb X.env.scope x:=by first|exact Or.inl Z|exact Or.inr (Or.inl Z)|exact Or.inr (Or.inr Z))(hd:(x == ("__debug__":Str))=false:=by decide)(ik:(x == ("__classdict__":Str))=false:=by decide):PE X (.Name x pos) (oq i):=YA hN hv hd ik
inductive UK (xs:ag) (H:Hp) (Q:VK):Prop
 |mk:∀a kvs,xs=[V.ref a]->H a\.dK kvs->Q (.int kvs.length) H->UK xs H Q
theorem fJ_:gn X (.builtin "len") UK:=by
 intro pins s σ H xs us Q I r h;let#[a,kvs,rfl,ha,q]:=h;let#[u,rfl,ru]:=vals1 r;cases ru;exact Yr I (.inl ha) λt s' I'=>#[.int kvs.length,H,I',#[t,Z],q]
variable{A B:Prop}
theorem aK(h:B):if false=true then A else B:=by
 rw[aA gE];exact h
theorem df(h:A):if true=true then A else B:=by
 rw[aI Z];exact h
variable{c:Prop}
theorem cu[Decidable c](h1:c->A)(h2:¬c->B):if c then A else B:=by
 by_cases h:c
 ·rw[aI h];exact h1 h
 rw[aA h];exact h2 h
theorem Aq[Decidable c](hc:c)(h:B):if (!decide c)=true then A else B:=by
 rw[c_ hc];exact aK h
def aa(H H':Hp):Prop:=∀b o,H b\o->H' b\o
theorem aa.refl(H:Hp):aa H H:=λ_ _ h=>h
variable{H:Hp}
theorem aa.trans{H1 H2:Hp}(a:aa H H1)(b:aa H1 H2):aa H H2:=λc o h=>b c o (a c o h)
theorem aa.free{H':Hp}(e:aa H H'){l:Addr}(h:H' l=Option.none):H l=Option.none:=by
 cases q:H l with
 |none=>rfl
 |some o=>
  rw[e l o q] at h;cases h
section
variable{κ:Type}[DecidableEq κ]
theorem Y2{kvs:List (κ × V)}{k:κ}{v:V}(h:aY kvs k\v):k∈kvs.map (·.1):=by
 have q:(kvs.any λkv=>decide (kv.1=k))=true:=by
  rw[BC,h]
  all_goals rfl
 let#[p,hp,e]:=List.any_eq_true.mp q;exact bC.mpr #[p,hp,sk e]
end
end L2
local macro_rules|`(%[$x,*|$_])=>do return (<-x.getElems.foldrM (λe (a:Lean.Term)=>if e.raw.isNatLit?.isSome then`(L2.iM (L2.pv $e) $a)else`(L2.iM $e $a)) (<-`(L2.bO)))
namespace L2
open PySem PySem.Spec PyProof.Rows
def iU(env:Env):List (Str × NameKind)->List (Str × Addr)->List (Str × Addr)
 |[],cs=>cs
 |(n,k)::r,cs=>iU env r (if k == .free then (n,(env.cells.lookup n).getD 0)::cs else cs)
theorem OP{env:Env}(f:Str × NameKind->List (Str × Addr)->Sem (ForInStep (List (Str × Addr))))
  (hf:∀n k cs,f (n,k) cs=if (k == .free)=true then (do let a <- cellOf env n;pure (.yield ((n,a)::cs))) else pure (.yield cs)) :
  ∀(names:List (Str × NameKind)) (cs:List (Str × Addr)),(∀x∈names,x.2=.free->∃c,env.cells.lookup x.1\c)->forIn names cs f=(pure (iU env names cs):Sem _)
 |[],cs,_=>by rw[uP];rfl
 |(n,k)::r,cs,h=>by
  rw[wD,hf];have hr:∀x∈r,x.2=.free->∃c,env.cells.lookup x.1\c:=λx hx=>h x (fM _ hx);unfold iU;by_cases hk:(k == NameKind.free)=true
  ·let#[c,hc]:=h (n,k) fX ⇑hk;have hc:env.cells.lookup n\c:=hc;rw[aI hk,aI hk];have e:cellOf env n=pure c:=by unfold cellOf;rw[hc]
   rw[e];simp only[pure_bind];rw[OP f hf r _ hr,hc];rfl
  rw[aA hk,aA hk];simp only[pure_bind];exact OP f hf r _ hr
variable{scope:Scope}{env:Env}
theorem UZ(h:∀x∈scope.names,x.2=.free->∃c,env.cells.lookup x.1\c):closureFor scope env=pure (iU env scope.names []):=by
 simp only[closureFor];rw[OP (env:=env) _ (λn k cs=>by by_cases hk:(k == NameKind.free)=true<;>simp[hk]) scope.names [] h]
 simp only[pure_bind]
theorem Ur{env:Env}:∀{names:List (Str × NameKind)} {cs:List (Str × Addr)} {x:Str} {c:Addr},(x,c)∈iU env names cs->(x,c)∈cs∨((x,NameKind.free)∈names/\c=(env.cells.lookup x).getD 0)
 |[],cs,x,c,h=>.inl h
 |(n,k)::r,cs,x,c,h=>by
  unfold iU at h;rcases Ur h with h|⟨h,e⟩
  ·by_cases hk:(k == NameKind.free)=true
   ·rw[aI hk] at h;rcases bU.mp h with q|q
    ·cases q;have:k=.free:=⇑hk
     subst this;exact .inr #[fX,Z]
    exact .inl q
   rw[aA hk] at h;exact .inl h
  exact .inr #[fM _ h,e]
theorem N9{env:Env}:∀{names:List (Str × NameKind)} {cs:List (Str × Addr)} {x:Str},(x,NameKind.free)∈names∨(∃c,(x,c)∈cs)->∃c,(x,c)∈iU env names cs
 |[],cs,x,h=>by
  rcases h with h|h
  ·cases h
  ·exact h
 |(n,k)::r,cs,x,h=>by
  unfold iU;apply N9 ?_;rcases h with h|⟨c,h⟩
  ·rcases bU.mp h with e|h
   ·cases e;exact .inr #[(env.cells.lookup n).getD 0,by rw[aI (by decide)];exact fX]
   exact .inl h
  apply .inr #[c,?_];split
  ·exact fM _ h
  exact h
theorem OR:∀(names:List (Str × NameKind)) (n:Nat) (acc cl:List (Str × Addr)),cellsFrom n names (acc++cl)=cellsFrom n names acc++cl
 |[],_,_,_=>rfl
 |(x,k)::r,n,acc,cl=>by
  unfold cellsFrom;split
  ·exact OR r (n+1) ((x,n)::acc) cl
  exact OR r n acc cl
theorem OQ:∀{names:List (Str × NameKind)} {n:Nat} {acc:List (Str × Addr)} {x:Str} {c:Addr},(x,c)∈cellsFrom n names acc->(x,c)∈acc∨(x,NameKind.cell)∈names
 |[],_,_,_,_,h=>.inl h
 |(y,k)::r,n,acc,x,c,h=>by
  unfold cellsFrom at h;by_cases hk:(k == NameKind.cell)=true
  ·rw[aI hk] at h;rcases OQ h with h|h
   ·rcases bU.mp h with e|h
    ·cases e;have:k=.cell:=⇑hk
     subst this;exact .inr fX
    exact .inl h
   exact .inr (fM _ h)
  rw[aA hk] at h;rcases OQ h with h|h
  ·exact .inl h
  exact .inr (fM _ h)
theorem OS{α:Type}:∀{l:List (Str × α)} {x:Str} {c:α},(x,c)∈l->∃c',l.lookup x\c'
 |(k,v)::r,x,c,h=>by
  rw[pO];cases hb:x == k with
  |true=>exact#[v,Z]
  |false=>
   rcases bU.mp h with e|h
   ·cases e;simp at hb
   exact OS h
def jJ(scope:Scope)(C:Addr)(env:Env):Env:=
 { scope:=relabel scope env,locals:=C,globals:=env.globals,cells:=cellsFrom (C+1) scope.names (iU env scope.names []),qual:=env.qual,func:=none,code:=env.code,frame:=env.frame,builtins:=env.builtins }
theorem UF{M:Model}{A:Af}{E:Aa->Ab->Prop}{s:Ab}{cl:List (Str × Addr)}{Q:Env->Ab->Prop}(h:Q { scope:=scope,locals:=s.heap.objs.size,globals:=env.globals,cells:=cellsFrom (s.heap.objs.size+1) scope.names cl,qual:=env.qual,func:=none,code:=env.code,frame:=env.frame,builtins:=env.builtins }
   { s with heap:=pushCells (s.heap.push { cls:=.type "dict",data:=.dict #[] }) scope.names }) :
  wpAny M A (newFunctionEnv scope env.globals cl [] env.qual none .none (some env)) Q E s:=by
 simp only[newFunctionEnv,Option.isSome_some,if_true];apply ae (wpAny_alloc ?_);apply ae (wpAny_layCells _ (λname kind cells=>by cases hkc:kind == NameKind.cell<;>simp[hkc]) _ _ _ _ ?_)
 rw[show ({ s with heap:=s.heap.push { cls:=.type "dict",data:=.dict #[] } }:Ab).heap.objs.size=s.heap.objs.size+1 from l5 ..];rw[uP];exact ae (aE (aE h))
def IS(PN:af)(ps:Scope)(N:af)(own:Nat)(fr:List Nat)(scope:Scope):Bool:=
 decide (scope.kind=.function)&&decide N.Nodup&&decide (own+fr.length=N.length)
 && (scope.names.all λy=>decide (scope.names.lookup y.1\y.2))
 && (scope.names.all λy=>if y.2=.free then decide (ps.names.lookup y.1\.cell) || decide (ps.names.lookup y.1\.free) else true)
 && ((fr.map λj=>PN[j]?) == (N.drop own).map some)
 && ((N.drop own).all λx=>decide (scope.names.lookup x\.free))
structure mz (PN:af) (ps:Scope) (N:af) (own:Nat) (fr:List Nat) (scope:Scope):Prop where
 kind:scope.kind=.function
 nd:N.Nodup
 len:own+fr.length=N.length
 look:∀y∈scope.names,scope.names.lookup y.1\y.2
 par:∀y∈scope.names,y.2=.free->ps.names.lookup y.1\.cell∨ps.names.lookup y.1\.free
 oO:(fr.map λj=>PN[j]?)=(N.drop own).map some
 frk:∀x∈N.drop own,scope.names.lookup x\.free
variable{N:af}{own:Nat}
theorem mz.of{PN:af}{ps:Scope}{fr:List Nat}(h:IS PN ps N own fr scope=true):mz PN ps N own fr scope:=by
 unfold IS at h;simp only[Bool.and_eq_true,decide_eq_true_eq,List.all_eq_true,beq_iff_eq] at h;let#[#[#[#[#[#[h1,h2],h3],h4],h5],h6],h7]:=h;apply#[h1,h2,h3,h4,λy hy e=>?_,h6,h7];let q:=h5 y hy;rw[aI e] at q;simpa using q
def AK(own:Nat)(fr:List Nat)(σ:St):St:=List.replicate own none++fr.map λj=>(σ[j]?).join
def hW(X:Cx)(N:af)(scope:Scope)(fp:au)(s:Ab)(H:Hp):Cx where
 prog:=X.prog
 w:=X.w
 K:=X.K
 mg:=X.mg
 base:=X.base
 A:=X.A
 N:=N
 dc:=s
 j7:=H
 env:=jJ scope s.heap.objs.size X.env
 outer:=X.stack
 stack:=X.stack
 ex:=fp
 fn:=λx=>decide (scope.names.lookup x\.local) || decide (scope.names.lookup x\.cell)
 calm:=X.calm
 pn:=[]
 xe:=λ_ _=>False
theorem UB{ps:Scope}{env:Env}(he:env.scope=ps){x:Str}:∀{names:List (Str × NameKind)} {k:NameKind},names.lookup x\k->
  (names.map λ(n,k)=>if (k == NameKind.free&&env.scope.kind == .function&&env.kindOf n == some .cell) then (n,NameKind.cell) else (n,k)).lookup x =
   some (if (k == NameKind.free&&env.scope.kind == .function&&env.kindOf x == some .cell) then .cell else k)
 |(n,k')::r,k,h=>by
  rw[pO] at h;rw[eG];cases hb:x == n with
  |true=>
   rw[hb] at h;cases h;have e:x=n:=⇑hb
   subst e;dsimp only;split<;>simp[pO]
  |false=>
   rw[hb] at h;let ih:=UB he (env:=env) h;dsimp only;split<;>(rw[pO,hb];exact ih)
theorem Ob{env:Env}{x:Str}:∀{names:List (Str × NameKind)} {k:NameKind},(names.map λ(n,k)=>if (k == NameKind.free&&env.scope.kind == .function&&env.kindOf n == some .cell) then (n,NameKind.cell) else (n,k)).lookup x\k->∃k',names.lookup x\k'/\(k'=k∨(k'=.free/\k=.cell))
 |(n,k')::r,k,h=>by
  rw[eG] at h;rw[pO];dsimp only at h;cases hb:x == n with
  |true=>
   apply#[k',Z,?_];by_cases hc:(k' == NameKind.free&&env.scope.kind == .function&&env.kindOf n == some .cell)=true
   ·rw[aI hc,pO,hb] at h;cases h;simp only[Bool.and_eq_true,beq_iff_eq] at hc;exact .inr #[hc.1.1,Z]
   ·rw[aA hc,pO,hb] at h;cases h;exact .inl Z
  |false=>
   have h':(r.map λ(n,k)=>if (k == NameKind.free&&env.scope.kind == .function&&env.kindOf n == some .cell) then (n,NameKind.cell) else (n,k)).lookup x\k:=by
    split at h<;>(rw[pO,hb] at h;exact h)
   exact Ob h'
theorem dj_{α:Type}{x:Str}{c:α}:∀{l r:List (Str × α)},(l++r).lookup x\c->(x,c)∈l∨(x,c)∈r:=λh=>d8.mp (pM h)
section
variable{X:Cx}{pins:List (Addr × Obj)}{σ:St}{H:Hp}{s:Ab}{N:af}{own:Nat}{fr:List Nat}{scope:Scope}{fp:au}
theorem Uj(I:Inv X pins σ H s)(S:mz X.N X.env.scope N own fr scope){x:Str}{c:Addr}(h:(x,c)∈iU X.env scope.names []):X.env.cells.lookup x\c/\(x,NameKind.free)∈scope.names:=by
 rcases Ur h with h|⟨h,e⟩
 ·cases h
 let#[c',hc]:=I.ok.has x (S.par _ h Z);apply#[?_,h];rw[e,hc];rfl
theorem Inv.block(I:Inv X pins σ H s)(S:mz X.N X.env.scope N own fr scope)(GZ:∀b∈fp,dj X pins H b)(hfo:∀b∈fp,∃o,s.heap.get? b\o) :
  Inv (hW X N scope fp s H) [] (AK own fr σ) H { s with heap:=pushCells (s.heap.push { cls:=.type "dict",data:=.dict #[] }) scope.names }:=by
 have kept:∀b o,s.heap.get? b\o->(pushCells (s.heap.push { cls:=.type "dict",data:=.dict #[] }) scope.names).get? b\o:=λb o e=>pushCells_keeps _ _ b o (aU _ e);let IE:=cellsFrom_ok scope.names (s.heap.push { cls:=.type "dict",data:=.dict #[] }) (s.heap.objs.size+1) [] #[λ_ _ hm=>(nomatch hm),List.Pairwise.nil] (by rw[l5];exact a_ _);rw[l5] at IE;have ecs:cellsFrom (s.heap.objs.size+1) scope.names (iU X.env scope.names [])=cellsFrom (s.heap.objs.size+1) scope.names []++iU X.env scope.names []:=OR _ _ [] _
 have gP:∀{x c},(cellsFrom (s.heap.objs.size+1) scope.names (iU X.env scope.names [])).lookup x\c->((x,c)∈cellsFrom (s.heap.objs.size+1) scope.names []/\(x,NameKind.cell)∈scope.names/\s.heap.objs.size+1<=c)∨(X.env.cells.lookup x\c/\(x,NameKind.free)∈scope.names):=λ{x c} h=>by
  rw[ecs] at h;rcases dj_ h with h|h
  ·apply .inl #[h,?_,(IE.empty _ _ h).2];rcases OQ h with q|q
   ·cases q
   exact q
  exact .inr (Uj I S h)
 have CN:∀{x c},X.env.cells.lookup x\c->c<s.heap.objs.size:=λ{x c} h=>by
  let#[v,hv]:=I.cell x c h;exact hv.lt
 have hb:∀b∈fp,b<s.heap.objs.size:=λb hb=>let #[o,e]:=hfo b hb;bz e
 apply#[#[I.ok.mod,S.kind,I.ok.glob,I.ok.blt,a_ _,λx y c h1 h2=>?_,λx hx=>?_,λx c hf h=>?_,I.ok.hd,I.ok.frames,.inl Z,λb xF=>#[dR (hb b xF),λx c h=>?_],I.bs,?_,λb o e xF=>?_,λb xF hs=>?_,I.stack,I.mL],
  rfl,I.bare,Un.kept kept,#[_,(Heap.Ns.new s.heap (.type "dict")).keeps (pushCells_keeps _ _),λi x v h1 h2 h3=>?_],λx c h=>?_,I.az.fresh (a_ _),λx c h=>?_,λp hp=>absurd (show p∈([]:List (Addr × Obj)) from hp) Z2,I.az.kept kept,?_]
 ·-- inj
  rcases gP h1 with⟨m1,k1,l1⟩|⟨m1,k1⟩<;>rcases gP h2 with⟨m2,k2,l2⟩|⟨m2,k2⟩
  ·exact name_of_addr IE.apart m1 m2
  ·exact absurd (CN m2) (Nat.not_lt.mpr (Nat.le_of_succ_le l1))
  ·exact absurd (CN m1) (Nat.not_lt.mpr (Nat.le_of_succ_le l2))
  exact I.ok.inj x y c m1 m2
 ·-- has
  have key:(x,NameKind.cell)∈scope.names∨(x,NameKind.free)∈scope.names:=by
   rcases hx with hx|hx
   ·let#[k',e,q]:=Ob (env:=X.env) (show _\NameKind.cell from hx);let m:=pM e;rcases q with q|⟨q,_⟩
    ·exact .inl (q▸m)
    exact .inr (q▸m)
   let#[k',e,q]:=Ob (env:=X.env) (show _\NameKind.free from hx);let m:=pM e;rcases q with q|⟨_,q⟩
   ·exact .inr (q▸m)
   cases q
  show ∃c,(cellsFrom (s.heap.objs.size+1) scope.names (iU X.env scope.names [])).lookup x\c
  have:((cellsFrom (s.heap.objs.size+1) scope.names (iU X.env scope.names [])).lookup x).isSome=true:=by
   apply PySem.W.cellsFrom_some _ _ _ ?_;rcases key with q|q
   ·exact .inl (S.look _ q)
   let#[c,m]:=N9 (env:=X.env) (names:=scope.names) (cs:=[]) (x:=x) (.inl q);let#[c',e]:=OS m;exact .inr (by rw[e];rfl)
  exact Option.isSome_iff_exists.mp this
 ·-- Bx
  rcases gP h with⟨_,_,l⟩|⟨_,k⟩
  ·exact Nat.le_of_succ_le l
  let e:=S.look _ k;have hf:(decide (scope.names.lookup x\.local) || decide (scope.names.lookup x\.cell))=true:=hf;rw[show scope.names.lookup x\.free from e] at hf;exact absurd hf (by decide)
 ·rcases gP h with⟨_,_,l⟩|⟨q,_⟩
  ·exact i5 (jn (hb b xF) (Nat.le_of_succ_le l))
  exact (GZ b xF).2.2.2.2.1 x c q
 ·exact iH I.ok.tq I.sz
 ·rcases (GZ b xF).2.2.2.1 with q|q
  ·exact I.ok.rE b o e q
  exact absurd (jn (bz e) I.ok.tq) Z1
 ·rcases bU.mp (I.kI b hs) with q|q
  ·exact (GZ b xF).2.1 q
  exact (GZ b xF).2.2.1 q
 ·-- names
  have hi:own<=i:=by
   apply Nat.le_of_not_lt λdZ=>?_;unfold AK at h2;rw[xZ (by rw[BK];exact dZ),List.getElem?_replicate,aI dZ] at h2;cases h2
  have gT:(fr.map λj=>(σ[j]?).join)[i - own]? = some (some v):=by
   unfold AK at h2;rw[AW (by rw[BK];exact hi),BK] at h2;exact h2
  have h1:N[i]? = some x:=h1;have hx:(N.drop own)[i - own]? = some x:=by rw[List.getElem?_drop,show own+(i - own)=i by omega];exact h1
  rw[di] at gT;cases ej:fr[i - own]? with
  |none=>rw[ej] at gT;cases gT
  |some j=>
   rw[ej] at gT;have gT:(σ[j]?).join\v:=cY gT
   have vG:σ[j]? = some (some v):=by
    cases q:σ[j]? with
    |none=>rw[q] at gT;cases gT
    |some o=>rw[q] at gT;exact d5 some gT
   have hN:X.N[j]? = some x:=by
    let q:=d5 (λl=>l[i - own]?) S.oO;simp only[di,ej,hx,Option.map_some] at q;exact cY q
   let kf:=S.frk x (cQ hx);let mf:=pM kf;let#[m,hm,hv]:=I.loc;let pk:=S.par _ mf Z;let#[u,ru,lk]:=hv j x v hN vG (pk.elim (λq=>.inr (.inl q)) λq=>.inr (.inr q));apply#[u,ru,?_];have P9:X.env.kindOf x\.cell∨X.env.kindOf x\.free:=pk;rcases lk with⟨k,_⟩|⟨_,c,hc,nJ⟩
   ·rw[k] at P9;rcases P9 with q|q<;>cases q
   let#[c',m1]:=N9 (env:=X.env) (names:=scope.names) (cs:=[]) (x:=x) (.inl mf);let e1:=(Uj I S m1).1;rw[hc] at e1;cases e1;apply .inr #[?_,c,?_,nJ.keeps kept]
   ·let q:=UB (env:=X.env) Z kf;show (relabel scope X.env).names.lookup x\.cell∨(relabel scope X.env).names.lookup x\.free;unfold relabel;rw[q];split
    ·exact .inl Z
    exact .inr Z
   let#[c2,e2]:=Option.isSome_iff_exists.mp (PySem.W.cellsFrom_some (x:=x) scope.names (s.heap.objs.size+1) (iU X.env scope.names []) (.inr (by let#[c',e]:=OS m1;rw[e];rfl)));show (cellsFrom (s.heap.objs.size+1) scope.names (iU X.env scope.names [])).lookup x\c;rcases gP e2 with⟨_,q,_⟩|⟨q,_⟩
   ·have:=S.look _ q;rw[show scope.names.lookup x\.free from kf] at this;cases this
   rw[hc] at q;cases q;exact e2
 ·-- cells
  rcases gP h with⟨q,_,_⟩|⟨q,_⟩
  ·exact#[_,(IE.empty _ _ q).1]
  let#[v,hv]:=I.cell x c q;exact#[v,hv.keeps kept]
 ·rcases gP h with⟨q,_,l⟩|⟨q,_⟩
  ·exact I.az.fresh Z1
  exact I.d0 x c q
 show (AK own fr σ).length=N.length;unfold AK;rw[d9,BK,ak];exact S.len
end
def FJ(X:Cx)(ifs:List Expr)(t:TT):Prop:=
 ∀(pins:List (Addr × Obj)) (s:Ab) (σ:St) (H:Hp) (Q:Bool->Hp->Prop),Inv X pins σ H s->t σ H Q->
  wpAny (model X.prog X.w) X.A (forIn ifs true λc r=>if r=true then do let ok <- isTrue c X.env (eval c X.env);pure (ForInStep.yield ok) else pure (ForInStep.yield r)) (TP X pins σ Q) X.xe s
def pV:TT:=λ_ H Q=>Q true H
variable{σ:St}
theorem d_{H:Hp}{A B:Hp->Prop}(h:A H):pV σ H λb H4=>if b=true then A H4 else B H4:=by
 unfold pV;exact df h
variable{X:Cx}
theorem ji:FJ X [] pV:=λ_ _ _ H _ I h=>wpAny_tests_nil #[H,I,h]
theorem Ft{c:Expr}{t:TT}(h:PT X c t):FJ X [c] t:=λpins s σ H Q I q=>wpAny_tests_one (h pins s σ H Q I q)
def Bm(J:It)(g:TG)(tc:TT)(te:TE)(o6:St)(D:Addr)(H1:Hp)(Q:VK):Prop:=∃W:Nat->Nat->St->Hp->Prop,
 (∃m,W 0 m o6 (upd H1 D (.lst [])))/\∀i m aX H',W i m aX H'->(J.stop i H'/\Q (.ref D) H') ∨
  (J.go i H'/\∃Nx:St->Hp->Prop,(∀fZ H2,Nx fZ H2->∃m',m'<m/\W (i+1) m' fZ H2) /\
   ∀x H2,J.uT i H' x H2->g x aX H2 λj_ H3=>tc j_ H3 λb H4=>if b=true then te j_ H4 λy H5=>∃out,H5 D\.lst out/\out.length<sizeLine/\Nx j_ (upd H5 D (.lst (out++[y]))) else Nx j_ H4)
def wU(wi:TI)(own:Nat)(fr:List Nat)(g:TG)(tc:TT)(te:TE):TE:=λσ H Q=>wi σ H λJ H1=>∀D,H1 D=none->Bm J g tc te (AK own fr σ) D H1 Q
variable{Q:VK}{J:It}{D:Addr}{elt iter tg:Expr}{ifs:List Expr}{pos:Pos}{g:TG}{tc:TT}{te:TE}
theorem SG{R:Result->Ab->Prop}{fr:List Nat}{pins:List (Addr × Obj)}{H1:Hp}{s2:Ab}{it:Addr}{fp:au}{tn:Nat->Heap->Prop}(S:mz X.N X.env.scope N own fr scope)(hc:X.calm=true)(hg:∀fp s H,PG (hW X N scope fp s H) tg g)(ht:∀fp s H,FJ (hW X N scope fp s H) ifs tc)(he:∀fp s H,PE (hW X N scope fp s H) elt te)(I3:Inv X pins σ (upd H1 D (.lst [])) s2)(T:Turn X.prog X.w X.K tg J fp it tn)(st:tn 0 s2.heap)(f2:∀b∈fp,dj X pins (upd H1 D (.lst [])) b)(k:Bm J g tc te (AK own fr σ) D H1 Q)(hR:∀H' s',Inv X pins σ H' s'->(∃m,s'.heap.Ns s2.heap.objs.size m)->H' s2.heap.objs.size=none->Q (.ref D) H'->R (.ok .next) s') :
  codeAny (model X.prog X.w) X.A (.compStart (.ListComp elt [#[tg,iter,ifs,0]] scope pos) 0 (.ref it) (.ref D) (jJ scope s2.heap.objs.size X.env)) R
   { s2 with heap:=pushCells (s2.heap.push { cls:=.type "dict",data:=.dict #[] }) scope.names }:=by
 let#[W,#[m0,w0],turn]:=k;let I4:=I3.block (N:=N) S f2 (λb hb=>let #[o,e,_]:=T.obj _ _ st b hb;#[o,e]);have kept:∀b o,s2.heap.get? b\o->(pushCells (s2.heap.push { cls:=.type "dict",data:=.dict #[] }) scope.names).get? b\o:=λb o e=>pushCells_keeps _ _ b o (aU _ e);have ib:tn 0 (pushCells (s2.heap.push { cls:=.type "dict",data:=.dict #[] }) scope.names):=T.keep _ _ _ st λb hb o e=>kept b o e
 have fx:∀{H':Hp},(∀b∈fp,H' b=none)->∀b∈fp,dj (hW X N scope fp s2 (upd H1 D (.lst []))) [] H' b:=λhn b hb=>
  #[hn b hb,(I4.ok.Hl b hb).1,I4.ok.rZ b hb,.inl hb,(I4.ok.Hl b hb).2,λp hp=>absurd (show p∈([]:List (Addr × Obj)) from hp) Z2]
 have loop:codeAny (model X.prog X.w) X.A (.compLoop (.ListComp elt [#[tg,iter,ifs,0]] scope pos) 0 (.ref it) (.ref D) (jJ scope s2.heap.objs.size X.env)) R
   { s2 with heap:=pushCells (s2.heap.push { cls:=.type "dict",data:=.dict #[] }) scope.names }:=by
  apply codeAny_loop Z (λn s'=>∃i aX H',Inv (hW X N scope fp s2 (upd H1 D (.lst []))) [] aX H' s'/\tn i s'.heap/\(∀b∈fp,H' b=none)/\W i n aX H') (λn s' hI=>?_) m0 #[0,_,_,I4,ib,λb hb=>(f2 b hb).1,w0];let#[i,aX,H',I5,g8,oP,w5]:=hI;show wpAny _ X.A ((compTurn (.ListComp elt [#[tg,iter,ifs,0]] scope pos) 0 (.ref it) (.ref D) (jJ scope s2.heap.objs.size X.env)).onRaise (λx=>do noteFrame x (jJ scope s2.heap.objs.size X.env);theTreesLotGoes x)) _ _ s';apply wpAny_noted (wpAny_mono (E:=λ_ _=>False) ?_ (λ_ _ q=>q) λ_ _ q=>q.elim);rw[compTurn_list];apply ae (wpAny_standAt (ae ?_));rcases turn i n aX H' w5 with⟨stop,q⟩|⟨go,Nx,hN,step⟩
  ·apply aO (T.done (hW X N scope fp s2 (upd H1 D (.lst []))) Z Z Z hc i [] s' aX H' _ I5 (fx oP) g8 stop) λr s6 ⟨hr,I6⟩=>?_;subst hr;apply aE (hR H' s6 (I3.Fb I6.os I6.base I6.az I6.bare λb hb=>?_) ?_ I6.free q)
   ·exact#[(f2 b hb).2.2.2.1,(f2 b hb).2.1,(f2 b hb).2.2.2.2.1,(f2 b hb).2.2.2.2.2]
   let#[m,hm,_]:=I6.loc;exact#[m,hm]
  apply aO (T.item (hW X N scope fp s2 (upd H1 D (.lst []))) Z Z Z hc i [] s' aX H' _ I5 (fx oP) g8 go) λr s6 ⟨u,hr,h6⟩=>?_;subst hr;apply ae (aO h6 λ_ s7 ⟨x,H7,I7,r7,y7,i7,ES⟩=>?_);let I7':=I7.pinned (fx ES) (T.obj _ _ i7)
  have back:∀{ua:St} {H8:Hp} {s8:Ab},Inv (hW X N scope fp s2 (upd H1 D (.lst []))) ([]++wA fp s7.heap) ua H8 s8->Nx ua H8->∃m,m<n/\∃i aX H',Inv (hW X N scope fp s2 (upd H1 D (.lst []))) [] aX H' s8/\tn i s8.heap/\(∀b∈fp,H' b=none)/\W i m aX H':=λ{ua H8 s8} I8 n8=>by
   let#[m',hm,w8]:=hN ua H8 n8;apply#[m',hm,i+1,ua,H8,I8.ee,T.keep _ _ _ i7 λb hb o e=>(I8.pin (b,o) (mq _ (mq _ (Jh hb e)))).1,λb hb=>?_,w8];let#[o,e,d]:=T.obj _ _ i7 b hb;exact (I8.pin (b,o) (mq _ (mq _ (Jh hb e)))).2.1
  apply ae (aO (hg fp s2 (upd H1 D (.lst [])) _ s7 aX H7 x u _ I7' r7 (step x H7 y7)) λ_ s8 ⟨ua,H8,I8,q8⟩=>?_);apply ae (aO (ht fp s2 (upd H1 D (.lst [])) _ s8 ua H8 _ I8 q8) λb s9 ⟨H9,I9,q9⟩=>?_);cases b with
  |false=>
   simp only[pQ,if_false] at q9 ⊢;exact aE #[Z,back I9 q9]
  |true=>
   simp only[if_true] at q9 ⊢;apply ae (ae (aO (he fp s2 (upd H1 D (.lst [])) _ s9 ua H9 _ I9 q9) λy CA ⟨yv,H10,I10,W3,out,hD,hz,Ks⟩=>?_));apply ae (aO (uJ (X:=hW X N scope fp s2 (upd H1 D (.lst []))) _ CA ua H10 (.ref D) [yv] (.ref D) [y] (λ_ H'=>Nx ua H') I10 Z (.cons W3 .nil) #[D,out,yv,Z,Z,hD,hz,Ks]) λ_ s11 ⟨_,Po,I11,_,Kr⟩=>?_);exact aE (aE #[Z,back I11 Kr])
 exact codeAny_compStart_list loop (T.self _ 0 _ _ _ ib loop)
variable{wi:TI}
theorem iI(N:af)(own:Nat)(fr:List Nat)(hi:PI X tg iter wi)(hg:∀fp s H,PG (hW X N scope fp s H) tg g)(ht:∀fp s H,FJ (hW X N scope fp s H) ifs tc)(he:∀fp s H,PE (hW X N scope fp s H) elt te)
  (S:IS X.N X.env.scope N own fr scope=true:=by kernel_rfl) (hc:X.calm=true:=by rfl) (hs:∀x,foldedSetIterable iter X.env x=pure x:=by intro _;rfl) :
  PE X (.ListComp elt [#[tg,iter,ifs,0]] scope pos) (wU wi own fr g tc te):=by
 intro pins s σ H Q I h;let S':=mz.of S;rw[eval_ListComp];have rV:closureFor scope X.env=pure (iU X.env scope.names []):=UZ λx hx e=>I.ok.has x.1 (S'.par x hx e);apply wpAny_comprehension_free (use:=none) Z hs rV S'.kind (λx hx e=>by rw[S'.look x hx,e]) (aO (hi pins s σ H _ I h) λv s1 h1=>aO h1 λGI s2 h2=>?_);let#[it,fp,tn,J,H1,rfl,I2,T,fI,f2,k]:=h2;apply pI (UF ?_);have hD:H1 s2.heap.objs.size=none:=I2.fresh;let I3:=I2.zi (ys:=[]) (its:=[]) (t':=s2.toks) .nil (gM _);have kept:∀b o,s2.heap.get? b\o->(s2.heap.push { cls:=.type "list",data:=.seq ([]:aj).toArray }).get? b\o:=λb o e=>aU _ e;apply SG (own:=own) (fr:=fr) (Q:=Q) S' hc hg ht he I3 T (T.keep _ _ _ fI λb hb o e=>kept b o e) (λb hb=>?_) (k _ hD) ?_
 ·apply#[?_,(f2 b hb).2];let#[o,e,_]:=T.obj _ _ fI b hb;rw[aw (dR (bz e))];exact (f2 b hb).1
 rintro H' s' I' ⟨m,hm⟩ hn q;apply#[m,hm,λh' hs'=>#[.ref s2.heap.objs.size,H',?_,Z,q]]
 exact I'.turned (t':=s'.toks) (λb o hb e=>hs'.extBut b o hb e) hn (i5 I3.lt) (.inr I3.sz) (λx c L9 e=>by
  let#[v,hv]:=I3.cell x c L9
  exact absurd hv.lt (by rw[e];exact tO _)) λp hp e=>by
   have:=(I3.pin p hp).1;rw[e] at this;exact absurd (bz this) (tO _)
def Cm(i:Nat)(te:TE):TS:=λD σ H=>te σ H λx H1=>D.nx (σ.set i (some x)) H1
theorem M0{i:Nat}{x:Str}{px:Pos}(N:af)(own:Nat)(fr:List Nat)(hN:X.N.Nodup)(hi':X.N[i]? = some x)(hx:Loc X.env.scope x)
  (hi:PI X tg iter wi) (hg:∀fp s H,PG (hW X N scope fp s H) tg g) (ht:∀fp s H,FJ (hW X N scope fp s H) ifs tc) (he:∀fp s H,PE (hW X N scope fp s H) elt te) {pos':Pos}
  (S:IS X.N X.env.scope N own fr scope=true:=by kernel_rfl) (hc:X.calm=true:=by rfl) (hs:∀x,foldedSetIterable iter X.env x=pure x:=by intro _;rfl)
  (hf:X.fn x=true∨X.env.scope.names.lookup x\.local:=by first|exact .inl Z|exact .inr Z|assumption)
  (_S:swapsWith (.ListComp elt [#[tg,iter,ifs,0]] scope pos) (some (.Name x px)) pos'.line X.env=pure true:=by rfl) :
  PS X (.Assign [.Name x px] (.ListComp elt [#[tg,iter,ifs,0]] scope pos) pos') (Cm i (wU wi own fr g tc te)):=by
 intro pins s σ H E I h;let S':=mz.of S;rw[exec_Assign_Name_used _ _ _ _ _S];apply ae (wpAny_standAt (ae ?_));show wpAny _ X.A (do let _ <- comprehension (.ListComp elt [#[tg,iter,ifs,0]] scope pos) scope X.env _ (newList []) false (eval iter X.env) (some (assign (.Name x px) X.env))) _ _ s;have rV:closureFor scope X.env=pure (iU X.env scope.names []):=UZ λx hx e=>I.ok.has x.1 (S'.par x hx e)
 apply ae (wpAny_mono (wpAny_comprehension_free (use:=some (assign (.Name x px) X.env)) (Q:=λ_ s'=>SP X pins E .next s') Z hs rV S'.kind (λx hx e=>by rw[S'.look x hx,e]) (aO (hi pins s σ H _ I h) λv s1 h1=>aO h1 λGI s2 h2=>?_))
  (λ_ s' hq=>aE (aE hq)) λ_ _ e=>e)
 let#[it,fp,tn,J,H1,rfl,I2,T,fI,f2,k]:=h2;apply pI (UF ?_);have hD:H1 s2.heap.objs.size=none:=I2.fresh;let I3:=I2.zi (ys:=[]) (its:=[]) (t':=s2.toks) .nil (gM _);have kept:∀b o,s2.heap.get? b\o->(s2.heap.push { cls:=.type "list",data:=.seq ([]:aj).toArray }).get? b\o:=λb o e=>aU _ e;apply SG (own:=own) (fr:=fr) (Q:=λx H1=>E.nx (σ.set i (some x)) H1) S' hc hg ht he I3 T (T.keep _ _ _ fI λb hb o e=>kept b o e) (λb hb=>?_) (k _ hD) ?_
 ·apply#[?_,(f2 b hb).2];let#[o,e,_]:=T.obj _ _ fI b hb;rw[aw (dR (bz e))];exact (f2 b hb).1
 rintro H' s' I' ⟨m,hm⟩ hn q
 have ux:∀y c,X.env.cells.lookup y\c->c≠(s2.heap.push { cls:=.type "list",data:=.seq ([]:aj).toArray }).objs.size:=λy c L9 e=>by
  let#[v,hv]:=I3.cell y c L9;exact absurd hv.lt (by rw[e];exact tO _)
 show wpAny _ X.A (assign (.Name x px) X.env (.ref s2.heap.objs.size)) _ _ s';apply wpAny_assign_Name (Tx (v:=V.ref s2.heap.objs.size) I' hN hi' hx Z (λo8 I'' ⟨a,vK,ha⟩=>?_) hf)
 have hCa:(s2.heap.push { cls:=.type "list",data:=.seq ([]:aj).toArray }).objs.size≠a:=by
  rcases ha with e|e
  ·rw[e];exact i5 I3.lt
  exact (ux x a e).symm
 apply#[m,hm.sameBut vK hCa,λh' hs'=>#[_,H',?_,q]]
 exact I''.turned (t':=o8.toks) (λb o hb e=>hs'.extBut b o hb e) hn (i5 I3.lt) (.inr I3.sz) ux λp hp e=>by
   have:=(I3.pin p hp).1;rw[e] at this;exact absurd (bz this) (tO _)
def FR(g:TG)(own:Nat)(fv:List aL)(dec:V->Hp->List aL->Prop):Prop:=
 ∀(x:V) (o:List aL) (H:Hp) (k:oZ) (o3:List aL),o.length=own->dec x H o3->k (o3++fv) H->g x (o++fv) H k
variable{fv:List aL}
theorem e_:FR (kz 0) 1 fv (λx _ o3=>o3=[some x]):=λx o H k o3 hl e h=>by
 subst e
 match o,hl with
 |[a],_=>exact h
inductive E6 (K:ai) (x:V) (H:Hp) (o3:List aL):Prop
 |mk:∀p u v,x=.ref p->fo K H p [u,v]->o3=[some u,some v]->E6 K x H o3
inductive E5 (K:ai) (x:V) (H:Hp) (o3:List aL):Prop
 |mk:∀p u v w,x=.ref p->fo K H p [u,v,w]->o3=[some u,some v,some w]->E5 K x H o3
variable{K:ai}
theorem vR:FR (gA K 2 (pE (kz 0) (pE (kz 1) rX))) 2 fv (E6 K):=λx o H k o3 hl e h=>by
 let#[p,u,v,rfl,hp,rfl]:=e
 match o,hl with
 |[a,b],_=>exact#[p,[u,v],Z,hp,Z,u,[v],Z,v,[],Z,Z,h]
theorem EM:FR (gA K 3 (pE (kz 0) (pE (kz 1) (pE (kz 2) rX)))) 3 fv (E5 K):=λx o H k o3 hl e h=>by
 let#[p,u,v,w,rfl,hp,rfl]:=e
 match o,hl with
 |[a,b,c],_=>exact#[p,[u,v,w],Z,hp,Z,u,[v,w],Z,v,[w],Z,w,[],Z,Z,h]
variable{H:Hp}{dec:V->Hp->List aL->Prop}{o6:St}
theorem Il(vG:o6=List.replicate own none++fv)(G:FR g own fv dec)(n:Nat)(Pv:Nat->ag->Hp->Prop)(h0:Pv 0 [] (upd H D (.lst [])))(DU:∀out H',Pv n out H'->J.stop n H'/\Q (.ref D) H')(LR:∀i out H',i<n->Pv i out H'->J.go i H'/\∀x H2,J.uT i H' x H2->∃o3,dec x H2 o3/\o3.length=own/\∀Nx:Hp->Prop,(∀rA H2,Pv (i+1) rA H2->Nx H2)->
   tc (o3++fv) H2 λb H4=>if b=true then te (o3++fv) H4 λy H5=>∃iN,H5 D\.lst iN/\iN.length<sizeLine/\Nx (upd H5 D (.lst (iN++[y]))) else Nx H4) :
  Bm J g tc te o6 D H Q:=by
 subst vG;apply#[λi m aX H'=>m=n - i/\i<=n/\(∃o:List aL,aX=o++fv/\o.length=own)/\∃out,Pv i out H',#[n,by simp,gM _,#[_,Z,BK],_,h0],?_];rintro i m aX H' ⟨rfl,hi,⟨o,rfl,ho⟩,out,p⟩;by_cases dZ:i<n
 ·let#[go,k]:=LR i out H' dZ p;apply .inr #[go,λfZ H2=>(∃o:List aL,fZ=o++fv/\o.length=own)/\∃out,Pv (i+1) out H2,λfZ H2 q=>#[n - (i+1),by omega,Z,dZ,q],λx H2 y=>?_];let#[o3,d,l3,q]:=k x H2 y;exact G x o H2 _ o3 ho d (q (λH2=>(∃o:List aL,o3++fv=o++fv/\o.length=own)/\∃out,Pv (i+1) out H2) λrA H2 z=>#[#[o3,Z,l3],rA,z])
 have e:i=n:=by omega
 subst e;exact .inl (DU out H' p)
theorem iZ{a:Addr}{xs:ag}(vG:o6=List.replicate own none++fv)(G:FR g own fv dec)(Pv:Nat->ag->Hp->Prop)(h0:Pv 0 [] (upd H D (.lst [])))(hl:∀i out H',i<=xs.length->Pv i out H'->dX K H' a xs)(hd:∀out H',Pv xs.length out H'->Q (.ref D) H')(LR:∀i x out H',xs[i]? = some x->Pv i out H'->∃o3,dec x H' o3/\o3.length=own/\∀Nx:Hp->Prop,(∀rA H2,Pv (i+1) rA H2->Nx H2)->
   tc (o3++fv) H' λb H4=>if b=true then te (o3++fv) H4 λy H5=>∃iN,H5 D\.lst iN/\iN.length<sizeLine/\Nx (upd H5 D (.lst (iN++[y]))) else Nx H4) :
  Bm (yb K a) g tc te o6 D H Q:=by
 apply Il vG G xs.length Pv h0 (λout H' p=>#[#[xs,hl _ _ _ (a_ _) p,a_ _],hd out H' p]) λi out H' hi p=>?_;let q:=hl i out H' (Nat.le_of_lt hi) p;apply#[#[xs,xs[i],q,by simp[hi]],λx H2 y=>?_];let#[e,y]:=y;subst e;exact LR i x out _ (y xs q) p
end L2
namespace yc
open PySem PySem.W PyProof.Rows
def Ok{α:Type}(f:Nat->Nat->Bool)(n:Nat):KasT α->(α->Prop)->Prop
 |.ret a,Q=>Q a
 |.ask i j k,Q=>i<n/\j<n/\Ok f n (k (f i j)) Q
theorem Ok.bind{α β:Type}{f:Nat->Nat->Bool}{n:Nat}{g:α->KasT β}{Q:β->Prop}:∀{t:KasT α} {R:α->Prop},Ok f n t R->(∀a,R a->Ok f n (g a) Q)->Ok f n (t.bind g) Q
 |.ret a,R,h,k=>k a h
 |.ask i j t,R,h,k=>#[h.1,h.2.1,Ok.bind h.2.2 k]
theorem Ok.imp{α:Type}{f:Nat->Nat->Bool}{n:Nat}{Q R:α->Prop}(k:∀a,Q a->R a):∀{t:KasT α},Ok f n t Q->Ok f n t R
 |.ret a,h=>k a h
 |.ask i j t,h=>#[h.1,h.2.1,Ok.imp k h.2.2]
theorem Ok.wp{α:Type}{f:Nat->Nat->Bool}{n:Nat}{cmp:Nat->Nat->(Bool->Ab->Prop)->Ab->Prop}{s:Ab}(hc:∀i j C,i<n->j<n->C (f i j) s->cmp i j C s){Q:α->Prop}{G:α->Ab->Prop}(k:∀a,Q a->G a s) :
  ∀{t:KasT α},Ok f n t Q->t.kasWp cmp G s
 |.ret a,h=>k a h
 |.ask i j t,h=>hc i j _ h.1 h.2.1 (Ok.wp hc k h.2.2)
structure Ord (f:Nat->Nat->Bool):Prop where
 fA:∀i,f i i=false
 trans:∀{i j k},f j i=false->f k j=false->f k i=false
 FZ:∀{i j},f i j=true->f j i=false
variable{p:Array Nat}
variable{i j:Nat}
variable{k:Nat}
variable{n:Nat}
variable{lo:Nat}
variable{dE:Nat}
section
variable{f:Nat->Nat->Bool}(O:Ord f){N:Nat}
abbrev at'(p:Array Nat)(i:Nat):Nat:=p.getD i 0
def Up(f:Nat->Nat->Bool)(p:Array Nat)(k:Nat):Prop:=∀i j,i<=j->j<k->f (at' p j) (at' p i)=false
def Down(f:Nat->Nat->Bool)(p:Array Nat)(k:Nat):Prop:=∀i j,i<=j->j<k->f (at' p i) (at' p j)=false
def o4(f:Nat->Nat->Bool)(p:Array Nat)(lo k:Nat):Prop:=∀i,lo<=i->i<k->f (at' p i) (at' p (k - 1))=false/\f (at' p (k - 1)) (at' p i)=false
def Good(N:Nat)(p:Array Nat):Prop:=p.Perm (List.range N).toArray
theorem Good.size(h:Good N p):p.size=N:=by
 have:=h.size_eq;simpa using this
theorem Good.lt(h:Good N p)(hN:0<N)(i:Nat):at' p i<N:=by
 unfold at';by_cases hi:i<p.size
 ·have e:p.getD i 0=p[i]:=by simp[Array.getD,hi]
  rw[e];have m:p[i]∈(List.range N).toArray:=h.mem_iff.mp (Array.getElem_mem hi);simpa using m
 have e:p.getD i 0=0:=by simp[Array.getD,hi]
 rw[e];exact hN
theorem Good.rev(h:Good N p)(i j:Nat):Good N (kas_rev p i j):=(mirror_perm _ _ _ _).trans h
theorem Good.bub(h:Good N p)(i j:Nat):Good N (bubble p i j):=(bubble_perm _ _ _).trans h
theorem Fm{q:Array Nat}(h:p[i]? = q[j]?):at' p i=at' q j:=by
 unfold at';rw[Array.getD_eq_getD_getElem?,Array.getD_eq_getD_getElem?,h]
theorem Au(hj:j<=p.size)(k:Nat):at' (kas_rev p i j) k=if i<=k/\k<j then at' p (i+j - 1 - k) else at' p k:=by
 let e:=getElem?_mirror_all (i:=i) hj k;unfold kas_rev;split
 ·rename_i c
  rw[aI c] at e;exact Fm e
 rename_i c
 rw[aA c] at e;exact Fm e
theorem QT{l:Nat}(hk:k<p.size)(hl:l<=k)(i:Nat):at' (bubble p k (k - l)) i=if i=l then at' p k else if l<i/\i<=k then at' p (i - 1) else at' p i:=by
 let e:=getElem?_bubble hk (k - l) Z1 i;rw[show k - (k - l)=l by omega] at e;by_cases c:i=l
 ·rw[aI c] at e ⊢;exact Fm e
 rw[aA c] at e ⊢;split
 ·rename_i d
  rw[aI d] at e;exact Fm e
 rename_i d
 rw[aA d] at e;exact Fm e
include O
theorem Up.more(h:Up f p n)(h1:1<=n)(c:f (at' p n) (at' p (n - 1))=false):Up f p (n+1):=λi j nI hj=>by
 by_cases e:j<n
 ·exact h i j nI e
 have e:j=n:=by omega
 subst e;by_cases e2:i=j
 ·subst e2;exact O.fA _
 exact O.trans (h i (j - 1) Z1 Z1) c
theorem Down.more(h:Down f p n)(h1:1<=n)(c:f (at' p (n - 1)) (at' p n)=false):Down f p (n+1):=λi j nI hj=>by
 by_cases e:j<n
 ·exact h i j nI e
 have e:j=n:=by omega
 subst e;by_cases e2:i=j
 ·subst e2;exact O.fA _
 exact O.trans c (h i (j - 1) Z1 Z1)
theorem LU{p:Array Nat}(g:Good N p)(hN:0<N):∀(m n:Nat),1<=n->Up f p n->Ok f N (kas_asc p m n) λr=>n<=r/\r<=n+m/\Up f p r/\(r<n+m->f (at' p r) (at' p (r - 1))=true)
 |0,n,_,h=>#[a_ _,a_ _,h,λq=>absurd q Z1]
 |m+1,n,h1,h=>by
  apply#[g.lt hN _,g.lt hN _,?_];dsimp only;by_cases c:f (at' p n) (at' p (n - 1))=true
  ·rw[aI c];exact#[a_ _,by omega,h,λ_=>c]
  rw[aA c];apply (LU g hN m (n+1) Z1 (h.more O h1 ⇑c)).imp λr ⟨a,b,u,z⟩=>#[by omega,by omega,u,λq=>z Z1]
theorem o4.rev(h:o4 f p lo k)(hk:k<=p.size)(i:Nat):f (at' (kas_rev p lo k) i) (at' p i)=false/\f (at' p i) (at' (kas_rev p lo k) i)=false:=by
 rw[Au hk];split
 ·rename_i c
  let#[a1,a2]:=h i c.1 c.2;let#[b1,b2]:=h (lo+k - 1 - i) Z1 Z1;exact#[O.trans a2 b1,O.trans b2 a1]
 exact#[O.fA _,O.fA _]
theorem Down.rev(h:Down f p n)(l:o4 f p lo k)(hk:k<=p.size):Down f (kas_rev p lo k) n:=λi j nI hj=>by
 let#[a1,_]:=l.rev O hk i;let#[_,b2]:=l.rev O hk j;exact O.trans (O.trans b2 (h i j nI hj)) a1
theorem Ie(hN:0<N):∀(m:Nat) (p:Array Nat) (n q:Nat),Good N p->1<=n->q+1<=n->n+m<=N->Down f p n->o4 f p (n - (q+1)) n->
  Ok f N (kas_desc m p n q) λr=>Good N r.1/\n<=r.2.1/\r.2.1<=n+m/\Down f r.1 r.2.1/\r.2.2+1<=r.2.1/\o4 f r.1 (r.2.1 - (r.2.2+1)) r.2.1
 |0,p,n,q,g,h1,hq,hn,d,l=>#[g,a_ _,a_ _,d,hq,l]
 |m+1,p,n,q,g,h1,hq,hn,d,l=>by
  apply#[g.lt hN _,g.lt hN _,?_];dsimp only;by_cases c:f (at' p n) (at' p (n - 1))=true
  ·rw[aI c];have d2:Down f p (n+1):=d.more O h1 (O.FZ c)
   have one:∀p':Array Nat,o4 f p' (n+1 - (0+1)) (n+1):=λp' i h2 h3=>by
    have e:i=n+1 - 1:=by omega
    subst e;exact#[O.fA _,O.fA _]
   by_cases Rt:q > 0
   ·rw[aI Rt];have hk:n<=p.size:=by rw[g.size];omega
    exact (Ie hN m _ (n+1) 0 (g.rev _ _) Z1 Z1 Z1 (d2.rev O l hk) (one _)).imp λr ⟨a,b,b2,z⟩=>#[a,by omega,by omega,z]
   rw[aA Rt];exact (Ie hN m _ (n+1) 0 g Z1 Z1 Z1 d2 (one _)).imp λr ⟨a,b,b2,z⟩=>#[a,by omega,by omega,z]
  rw[aA c];apply#[g.lt hN _,g.lt hN _,?_];dsimp only;have c:f (at' p n) (at' p (n - 1))=false:=⇑c
  by_cases e:f (at' p (n - 1)) (at' p n)=true
  ·rw[aI e];exact#[g,a_ _,by show n<=n+(m+1);omega,d,hq,l]
  rw[aA e];have e:f (at' p (n - 1)) (at' p n)=false:=⇑e
  apply (Ie hN m p (n+1) (q+1) g Z1 Z1 Z1 (d.more O h1 e) λi h2 h3=>?_).imp λr ⟨a,b,b2,z⟩=>#[a,by omega,by omega,z];show f (at' p i) (at' p n)=false/\f (at' p n) (at' p i)=false;by_cases ei:i=n
  ·subst ei;exact#[O.fA _,O.fA _]
  let#[a1,a2]:=l i Z1 Z1;exact#[O.trans e a1,O.trans a2 c]
def NP(f:Nat->Nat->Bool)(N dE:Nat)(r:Nat × Array Nat):Prop:=Good N r.2/\1<=r.1/\r.1<=dE/\Up f r.2 r.1
theorem Sd(hN:0<N)(g:Good N p)(h1:1<=n)(hn:n<=dE)(hr:dE<=N)(d:Down f p n):Ok f N (kas_tail3 n dE p) (NP f N dE):=by
 unfold kas_tail3
 have u:Up f (kas_rev p 0 n) n:=λi j nI hj=>by
  rw[Au (by rw[g.size];omega),Au (by rw[g.size];omega),aI Z1,aI Z1];exact d _ _ Z1 Z1
 exact (LU O (g.rev _ _) hN (dE - n) n h1 u).bind λm ⟨a,b,u,_⟩=>#[g.rev _ _,by show 1<=m;omega,by show m<=dE;omega,u]
theorem Uw(hN:0<N)(g:Good N p)(hn:n+1<=dE)(hr:dE<=N)(d:Down f p (n+1)):Ok f N (kas_descPart n dE p) (NP f N dE):=by
 unfold kas_descPart;apply (Ie O hN (dE - (n+1)) p (n+1) 0 g Z1 Z1 Z1 d λi h2 h3=>?_).bind λr ⟨g',a,b,d',hq,l⟩=>?_
 ·have e:i=n+1 - 1:=by omega
  subst e;exact#[O.fA _,O.fA _]
 split
 ·exact Sd O hN (g'.rev _ _) Z1 Z1 hr (d'.rev O l (by rw[g'.size];omega))
 exact Sd O hN g' Z1 Z1 hr d'
theorem _t(hN:0<N)(g:Good N p)(h1:1<=dE)(hr:dE<=N):Ok f N (kas_count dE p) (NP f N dE):=by
 unfold kas_count;apply (LU O g hN (dE - 1) 1 (a_ _) λi j nI hj=>?_).bind λn ⟨a,b,u,st⟩=>?_
 ·have e:i=j:=by omega
  subst e;exact O.fA _
 by_cases e:(n == dE)=true
 ·rw[aI e];exact#[g,a,by show n<=dE;omega,u]
 rw[aA e];have e:n≠dE:=⇑e
 let c:=st Z1;by_cases h2:n > 1
 ·rw[aI h2];apply#[g.lt hN _,g.lt hN _,?_];dsimp only;by_cases c2:f (at' p 0) (at' p (n - 1))=true
  ·rw[aI c2];exact#[g,a,by show n<=dE;omega,u]
  rw[aA c2];have c2:f (at' p 0) (at' p (n - 1))=false:=⇑c2
  apply Uw O hN (g.rev _ _) Z1 hr λi j nI hj=>?_;by_cases ej:j<n
  ·rw[Au (by rw[g.size];omega),Au (by rw[g.size];omega),aI Z1,aI Z1];exact u _ _ Z1 Z1
  have ej:j=n:=by omega
  subst ej;by_cases ei:i=j
  ·subst ei;exact O.fA _
  rw[Au (by rw[g.size];omega),Au (by rw[g.size];omega),aI Z1,aA Z1];exact O.trans (O.trans (O.FZ c) c2) (u 0 _ Z1 Z1)
 rw[aA h2];have e1:n=1:=by omega
 subst e1;apply Uw O hN g Z1 hr λi j nI hj=>?_;by_cases ei:i=j
 ·subst ei;exact O.fA _
 have q1:i=0:=by omega
 have q2:j=1:=by omega
 subst q1;subst q2;exact O.FZ c
theorem Nk(hN:0<N){p:Array Nat}{k:Nat}(g:Good N p)(u:Up f p k):∀(m l r:Nat),r - l<=m->l<=r->r<=k->(∀i,i<l->f (at' p k) (at' p i)=false)->(∀i,r<=i->i<k->f (at' p k) (at' p i)=true)->
  Ok f N (kas_place p k m l r) λx=>x<=k/\(∀i,i<x->f (at' p k) (at' p i)=false)/\∀i,x<=i->i<k->f (at' p k) (at' p i)=true
 |0,l,r,hm,hl,hr,h1,h2=>by
  have e:l=r:=by omega
  subst e;exact#[hr,h1,h2]
 |m+1,l,r,hm,hl,hr,h1,h2=>by
  unfold kas_place;by_cases e:l ≥ r
  ·rw[aI e];have e:l=r:=by omega
   subst e;exact#[hr,h1,h2]
  rw[aA e];apply#[g.lt hN _,g.lt hN _,?_];dsimp only;by_cases c:f (at' p k) (at' p ((l+r) / 2))=true
  ·rw[aI c];apply Nk hN g u m l _ Z1 Z1 Z1 h1 λi h3 h4=>?_;by_cases ei:f (at' p k) (at' p i)=true
   ·exact ei
   have ei:f (at' p k) (at' p i)=false:=⇑ei
   have:=O.trans (u _ i h3 h4) ei;rw[c] at this;cases this
  rw[aA c];have c:f (at' p k) (at' p ((l+r) / 2))=false:=⇑c
  exact Nk hN g u m _ r Z1 Z1 hr (λi h3=>O.trans (u i _ Z1 Z1) c) h2
theorem Rf(hN:0<N):∀(m:Nat) (p:Array Nat) (k:Nat),Good N p->k+m=N->Up f p k->Ok f N (kas_bin m p k) λr=>Good N r/\Up f r N
 |0,p,k,g,e,u=>by
  have e:k=N:=by omega
  subst e;exact#[g,u]
 |m+1,p,k,g,e,u=>by
  unfold kas_bin;apply (Nk O hN g u k 0 k Z1 Z1 (a_ _) (λi h=>absurd h Z1) λi h1 h2=>absurd h2 Z1).bind λl ⟨hl,h1,h2⟩=>?_;have hk:k<p.size:=by rw[g.size];omega
  apply Rf hN m _ (k+1) (g.bub _ _) Z1 λi j nI hj=>?_;rw[QT hk hl,QT hk hl];by_cases ej:j=l
  ·rw[aI ej];by_cases ei:i=l
   ·rw[aI ei];exact O.fA _
   rw[aA ei,aA Z1];exact h1 i Z1
  rw[aA ej];by_cases SX:l<j/\j<=k
  ·rw[aI SX];by_cases ei:i=l
   ·rw[aI ei];exact O.FZ (h2 (j - 1) Z1 Z1)
   rw[aA ei];by_cases SY:l<i/\i<=k
   ·rw[aI SY];exact u _ _ Z1 Z1
   rw[aA SY];exact u _ _ Z1 Z1
  rw[aA SX];rw[aA (show ¬i=l by omega),aA (show ¬(l<i/\i<=k) by omega)];exact u _ _ Z1 Z1
theorem SI(hN:0<N):Ok f N (kas_sort N) λp=>Good N p/\Up f p N:=by
 unfold kas_sort;apply (_t O hN (p:=(List.range N).toArray) (Array.Perm.refl _) hN (a_ _)).bind λr ⟨g,h1,h2,u⟩=>?_;split
 ·rename_i c
  rw[show max r.1 1=r.1 by omega];exact Rf O hN _ _ _ g Z1 u
 rename_i c
 have e:r.1=N:=by omega
 exact#[g,e▸u]
end
def t_(prog:Ad)(w:Ag)(A:Af)(f:Nat->Nat->Bool)(vs:aj)(s:Ab):Prop:=
 ∃κ,(∀Q:SortKind->Ab->Prop,Q κ s->wpAny (model prog w) A (keyKind' vs.toArray) Q (λ_ _=>False) s)/\∀i j C,i<vs.length->j<vs.length->C (f i j) s->kas_ask prog w A κ vs i j C s
def Fp(a:Addr)(h h':Heap):Prop:=∀b o,b≠a->h.get? b\o->h'.get? b\o
def mi(p:Array Nat)(vs:aj):aj:=p.toList.map λi=>vs.getD i Value.none
theorem Uz(vs:aj):mi (List.range vs.length).toArray vs=vs:=by
 unfold mi;apply List.ext_getElem? ?_;intro i;simp only[di];by_cases h:i<vs.length
 ·simp[h]
 simp[Nat.le_of_not_lt h]
variable{f:Nat->Nat->Bool}{prog:Ad}{w:Ag}{A:Af}{E:Aa->Ab->Prop}{s:Ab}
theorem _v{a:Addr}{vs:aj}{P:Fin->Ab->Prop}(O:Ord f)(ho:s.heap.get? a\seqObj "list" vs.toArray n)(bX:vs.length<64)(zN:2<=vs.length->∀h',Fp a s.heap h'->t_ prog w A f vs { s with heap:=h' })(h:∀(p:Array Nat) (h':Heap) (e:Nat),Good vs.length p->Up f p vs.length->h'.get? a\seqObj "list" (mi p vs).toArray e->Fp a s.heap h'->P (.done (.ret .none)) { s with heap:=h' }) :
  wpAny (model prog w) A (Builtin.«list.sort» #[[.ref a],[]]) P E s:=by
 have haz:a<s.heap.objs.size:=bz ho;obtain⟨e1,ui⟩:∃e1,(s.heap.update a (Obj.mapSeq λ_=>(#[]:Array Aa))).get? a\seqObj "list" #[] e1:=#[_,get?_update_seq ho (λ_=>#[])]
 have GF:vs.length<=sizeLine:=by
  have:=cX;omega
 rw[list_sort_plain];apply ae (listItems_at ho Z (ae (listUpdate_at ho Z (ae (seqEpoch_at ui Z (ae (wpAny_newTuple (ae (wpAny_newList (iX ?_) (gM _))) GF)))) ⇑GF (gM _))))
 have keep:∀g:Array Aa->Array Aa,Fp a s.heap ((((s.heap.update a (Obj.mapSeq λ_=>(#[]:Array Aa))).push (seqObj "tuple" vs.toArray 0)).push (seqObj "list" #[] 0)).update a (Obj.mapSeq g)):=λg b o hb e=>by
  apply (uy _ _ (bJ hb)).trans (aU _ (aU _ ?_));exact (uy _ _ (bJ hb)).trans e
 have Dt:Fp a s.heap (((s.heap.update a (Obj.mapSeq λ_=>(#[]:Array Aa))).push (seqObj "tuple" vs.toArray 0)).push (seqObj "list" #[] 0)):=λb o hb e=>
  aU _ (aU _ ((uy _ _ (bJ hb)).trans e))
 have Bc:(((s.heap.update a (Obj.mapSeq λ_=>(#[]:Array Aa))).push (seqObj "tuple" vs.toArray 0)).push (seqObj "list" #[] 0)).get? a\seqObj "list" #[] e1:=aU _ (aU _ ui);show wpAny (model prog w) A _ P E { s with heap:=((s.heap.update a (Obj.mapSeq λ_=>(#[]:Array Aa))).push (seqObj "tuple" vs.toArray 0)).push (seqObj "list" #[] 0) };dsimp only;by_cases h2:vs.toArray.size<2
 ·rw[aI h2,aI h2];apply ae (aE ?_);rw[StateT.run_pure]
  have vX:((vs.toArray.zip vs.toArray).map λx:Keyed=>x.2)=(mi (List.range vs.length).toArray vs).toArray:=by
   rw[Uz];apply Array.ext' ?_;simp[List.map_snd_zip]
  apply ae (aE (ae (seqEpoch_at Bc Z (ae (listUpdate_at Bc Z ?_ (gM _) ?_)))))
  ·simp only[bne_self_eq_false,pQ,if_false];apply aE (h (List.range vs.length).toArray _ _ (Array.Perm.refl _) (λi j nI hj=>?_) ((get?_update_seq Bc _).trans (d5 (λz=>some (seqObj "list" z _)) vX)) (keep _))
   have e:i=j:=by
    simp only[cj] at h2;omega
   subst e;exact O.fA _
  have e:((vs.toArray.zip vs.toArray).map λx:Keyed=>x.2).size<=sizeLine+1:=by
   simp only[Array.size_map,Array.size_zip,cj];omega
  exact e
 rw[aA h2,aA h2]
 have gT:2<=vs.length:=by
  simp only[cj] at h2;omega
 let#[κ,hk,hc]:=zN gT _ Dt;apply ae (wpAny_mono (hk (λk s'=>k=κ/\s'=_) #[Z,Z]) (λk s' Eg=>?_) λ_ _ x=>x.elim);let#[rfl,rfl]:=Eg
 apply ae (wpAny_mono (kat_run (ks:=vs) (vs:=vs) (G:=λp s'=>s'={ s with heap:=((s.heap.update a (Obj.mapSeq λ_=>(#[]:Array Aa))).push (seqObj "tuple" vs.toArray 0)).push (seqObj "list" #[] 0) }/\Good vs.length p/\Up f p vs.length)
  (Q:=λfw s'=>∃p:Array Nat,arrOf fw=p.map (kas_item (vs.toArray.zip vs.toArray))/\failedOf fw=none/\s'={ s with heap:=((s.heap.update a (Obj.mapSeq λ_=>(#[]:Array Aa))).push (seqObj "tuple" vs.toArray 0)).push (seqObj "list" #[] 0) }/\Good vs.length p/\Up f p vs.length)
  rfl gT bX (λp fw s' _ q1 q2 q3=>#[p,q1,q2,q3]) (Ok.wp hc (λp q=>#[Z,q]) (SI O Z1))) ?_ λ_ _ x=>x)
 rintro⟨⟨⟩,fw⟩ s' ⟨p,Ma,hf,hs',g,u⟩;have hs':s'={ s with heap:=((s.heap.update a (Obj.mapSeq λ_=>(#[]:Array Aa))).push (seqObj "tuple" vs.toArray 0)).push (seqObj "list" #[] 0) }:=hs';subst hs'
 have vX:((arrOf fw).map λx:Keyed=>x.2)=(mi p vs).toArray:=by
  rw[Ma];apply Array.ext' ?_;unfold mi;simp only[Array.map_map,Array.toList_map,List.toList_toArray];apply uL λi _=>?_;show (kas_item (vs.toArray.zip vs.toArray) i).2=_;unfold kas_item;by_cases hi:i<vs.length
  ·simp[Array.getD,hi]
  simp[Array.getD,hi,Nat.le_of_not_lt hi]
 have esz:((arrOf fw).map λx:Keyed=>x.2).size=vs.length:=by
  rw[vX];unfold mi;simp only[cj,ak,tJ];exact g.size
 apply ae (seqEpoch_at Bc Z (ae (listUpdate_at Bc Z ?_ (gM _) (by rw[esz];omega))));rw[hf];simp only[bne_self_eq_false,pQ,if_false];exact aE (h p _ _ g u ((get?_update_seq Bc _).trans (d5 (λz=>some (seqObj "list" z _)) vX)) (keep _))
theorem TV{x:Aa}{Q:Aa->Ab->Prop}(O:Ord f)(lW:wpAny (model prog w) A.in1 (collect x) (λvs s1=>vs.length<64/\(2<=vs.length->∀h':Heap,(∀b o,s1.heap.get? b\o->h'.get? b\o)->t_ prog w A.in1.in1 f vs { s1 with heap:=h' }) /\
   ∀(p:Array Nat) (h':Heap) (e:Nat),Good vs.length p->Up f p vs.length->h'.get? s1.heap.objs.size\seqObj "list" (mi p vs).toArray e->(∀b o,s1.heap.get? b\o->h'.get? b\o)->Q (.ref s1.heap.objs.size) { s1 with heap:=h' }) E s) :
  wpAny (model prog w) A (call (.builtin "sorted") [x]) Q E s:=by
 apply Calls.call_function_entry kind_sorted plain_sorted entry_sorted (args_sorted1 _) ?_;unfold Builtin.«sorted»;apply ae (m:=checkCount "sorted" 1 1 _) (aE (ae (wpAny_mono lW (λvs s1 q=>?_) λ_ _ z=>z)));let#[bX,zN,hQ]:=q;apply ae (wpAny_newList ?_ (by have:=cX;omega));have hn:(s1.heap.push (seqObj "list" vs.toArray 0)).get? s1.heap.objs.size\seqObj "list" vs.toArray 0:=cz _ Z
 have old:∀h',Fp s1.heap.objs.size (s1.heap.push (seqObj "list" vs.toArray 0)) h'->∀b o,s1.heap.get? b\o->h'.get? b\o:=λh' k b o e=>
  k b o (dR (bz e)) (aU _ e)
 apply ae (iX (sf slot_list_sort #[_,hn,Z] entry_list_sort (_v O hn bX (λh2 h' k=>zN h2 h' (old h' k)) λp h' e g u q k=>#[_,Z,?_]) (args_list_sort _)));exact aE #[_,Z,hQ p h' e g u q (old h' k)]
end yc
namespace L2
open PySem PySem.Spec PyProof.Rows PySem.W yc
def i_:Key->Key->Bool
 |.inl i,.inl j=>decide (i<j)
 |.inl _,.inr _=>true
 |.inr _,.inl _=>false
 |.inr x,.inr y=>decide (x.cps.toList<y.cps.toList)
def bF:aC->aC->Bool
 |[],[]=>false
 |[],_::_=>true
 |_::_,[]=>false
 |a::r,b::q=>if a=b then bF r q else i_ a b
theorem Y0:∀a:Key,i_ a a=false
 |.inl i=>by simp[i_]
 |.inr x=>by simp[i_,List.lt_irrefl]
theorem T8:∀{a b:Key},i_ a b=true->i_ b a=false
 |.inl i,.inl j,h=>by
  simp only[i_,decide_eq_true_eq,decide_eq_false_iff_not] at *;omega
 |.inl _,.inr _,_=>rfl
 |.inr _,.inl _,h=>by cases h
 |.inr x,.inr y,h=>by
  simp only[i_,decide_eq_true_eq,decide_eq_false_iff_not] at *;exact λq=>List.lt_irrefl _ (List.lt_trans h q)
theorem Si:∀{a b:Key},i_ a b=false->i_ b a=false->a=b
 |.inl i,.inl j,h,h2=>by
  simp only[i_,decide_eq_false_iff_not] at *;rw[show i=j by omega]
 |.inl _,.inr _,h,_=>by cases h
 |.inr _,.inl _,_,h=>by cases h
 |.inr x,.inr y,h,h2=>by
  simp only[i_,decide_eq_false_iff_not] at *;rw[ext_toList (List.le_antisymm (List.not_lt.mp h2) (List.not_lt.mp h))]
theorem gc_:∀{a b c:Key},i_ a b=true->i_ b c=true->i_ a c=true
 |.inl i,.inl j,.inl k,h,h2=>by
  simp only[i_,decide_eq_true_eq] at *;omega
 |.inl _,.inl _,.inr _,_,_=>rfl
 |.inl _,.inr _,.inr _,_,_=>rfl
 |.inl _,.inr _,.inl _,_,h=>by cases h
 |.inr _,.inl _,_,h,_=>by cases h
 |.inr _,.inr _,.inl _,_,h=>by cases h
 |.inr x,.inr y,.inr z,h,h2=>by
  simp only[i_,decide_eq_true_eq] at *;exact List.lt_trans h h2
theorem Nf:∀a:aC,bF a a=false
 |[]=>rfl
 |a::r=>by
  unfold bF;rw[aI Z];exact Nf r
theorem OC:∀{a b:aC},bF a b=true->bF b a=false
 |[],[],h=>by cases h
 |[],_::_,_=>rfl
 |_::_,[],h=>by cases h
 |a::r,b::q,h=>by
  unfold bF at h ⊢;by_cases e:a=b
  ·rw[aI e] at h;rw[aI e.symm];exact OC h
  rw[aA e] at h;rw[aA (bJ e)];exact T8 h
theorem M3:∀{a b:aC},bF a b=false->bF b a=false->a=b
 |[],[],_,_=>rfl
 |[],_::_,h,_=>by cases h
 |_::_,[],_,h=>by cases h
 |a::r,b::q,h,h2=>by
  unfold bF at h h2;by_cases e:a=b
  ·rw[aI e] at h;rw[aI e.symm] at h2;rw[e,M3 h h2]
  rw[aA e] at h;rw[aA (bJ e)] at h2;exact absurd (Si h h2) e
theorem UA:∀{a b c:aC},bF a b=true->bF b c=true->bF a c=true
 |[],_,[],h,h2=>by
  rename_i b
  cases b with
  |nil=>cases h
  |cons _ _=>cases h2
 |[],_,_::_,_,_=>rfl
 |_::_,[],_,h,_=>by cases h
 |_::_,_::_,[],_,h=>by cases h
 |a::r,b::q,c::t,h,h2=>by
  unfold bF at h h2 ⊢;by_cases e:a=b
  ·subst e;rw[aI Z] at h;by_cases e2:a=c
   ·rw[aI e2] at h2 ⊢;exact UA h h2
   rw[aA e2] at h2 ⊢;exact h2
  rw[aA e] at h;by_cases e2:b=c
  ·subst e2;rw[aA e];exact h
  rw[aA e2] at h2;let h3:=gc_ h h2;rw[aA (λq=>by rw[q,Y0] at h3;cases h3)];exact h3
theorem TN{a b c:aC}(h:bF b a=false)(h2:bF c b=false):bF c a=false:=by
 cases e:bF c a with
 |false=>rfl
 |true=>
  by_cases e1:bF a b=true
  ·have:=UA e e1;rw[h2] at this;cases this
  have e1:bF a b=false:=⇑e1
  have:=M3 e1 h;subst this;rw[h2] at e;cases e
def BO(ks:List aC):Prop:=ks.Pairwise λa b=>bF b a=false
theorem Uh:∀{a b:List aC},a.Perm b->BO a->BO b->a=b
 |[],b,p,_,_=>by
  have:=p.length_eq;cases b with
  |nil=>rfl
  |cons _ _=>cases this
 |x::r,[],p,_,_=>by
  have:=p.length_eq;cases this
 |x::r,y::q,p,h1,h2=>by
  let#[a1,a2]:=List.pairwise_cons.mp h1;let#[b1,b2]:=List.pairwise_cons.mp h2
  have e:x=y:=by
   rcases bU.mp (p.mem_iff.mp fX) with m|m
   ·exact m
   rcases bU.mp (p.mem_iff.mpr fX) with m2|m2
   ·exact m2.symm
   exact M3 (b1 _ m) (a1 _ m2)
  subst e;rw[Uh ((List.perm_cons _).mp p) a2 b2]
def a9(ks:List aC):List aC:=ks.mergeSort λa b=>!bF b a
theorem tK(ks:List aC):(a9 ks).Perm ks:=List.mergeSort_perm _ _
theorem fr_(ks:List aC):BO (a9 ks):=by
 have:=List.pairwise_mergeSort (le:=λa b=>!bF b a) (λa b c h1 h2=>by
  simp only[Bool.not_eq_true'] at *;exact TN h1 h2) (λa b=>by
  simp only[Bool.or_eq_true,Bool.not_eq_true'];by_cases e:bF b a=true
  ·exact .inr (OC e)
  exact .inl ⇑e) ks
 exact this.imp λh=>by simpa using h
variable{ks:List aC}
theorem Oh{iP:List aC}(p:iP.Perm ks)(h:BO iP):iP=a9 ks:=Uh (p.trans (tK ks).symm) h (fr_ ks)
variable{p:Array Nat}
theorem FG{α:Type}{n:Nat}(g:Good n p)(F:Nat->α):(p.toList.map F).Perm ((List.range n).map F):=by
 have e:p.toList.Perm (List.range n):=by
  have:=Array.perm_iff_toList_perm.mp g;simpa using this
 exact e.map F
theorem MX{f:Nat->Nat->Bool}(hf:∀i j,i<ks.length->j<ks.length->f i j=bF (ks.getD i []) (ks.getD j []))(g:Good ks.length p)(u:Up f p ks.length):BO (p.toList.map λi=>ks.getD i []):=by
 unfold BO;rw[uK,List.pairwise_iff_getElem];intro i j hi hj nI;let hs:=g.size;rw[tJ] at hi hj;have hj':j<ks.length:=by omega
 let q:=u i j (Nat.le_of_lt nI) hj';have hN:0<ks.length:=by omega
 rw[hf _ _ (g.lt hN _) (g.lt hN _)] at q;have e1:at' p i=p.toList[i]:=by simp[at',Array.getD,hi]
 have e2:at' p j=p.toList[j]:=by simp[at',Array.getD,hj]
 rw[e1,e2] at q;exact q
theorem Nb(ks:List aC):Ord λi j=>bF (ks.getD i []) (ks.getD j []):=#[λ_=>Nf _,λh h2=>TN h h2,λh=>OC h]
theorem FI{α:Type}(d:α)(l:List α):((List.range l.length).map λi=>l.getD i d)=l:=by
 apply List.ext_getElem? ?_;intro i;simp only[di];by_cases h:i<l.length
 ·simp[h]
 simp[Nat.le_of_not_lt h]
variable{ys:ag}{vs:aj}
theorem M9(r:Vals ys vs)(g:Good vs.length p):Vals (p.toList.map λi=>ys.getD i .non) (mi p vs):=by
 unfold mi
 have key:∀l:List Nat,(∀i∈l,i<vs.length)->Vals (l.map λi=>ys.getD i .non) (l.map λi=>vs.getD i Value.none):=λl=>by
  induction l with
  |nil=>exact λ_=>.nil
  |cons i l ih=>
   intro h;apply .cons ?_ (ih λj hj=>h j (fM _ hj));let hi:=h i fX;have hy:i<ys.length:=by rw[r.length];exact hi
   let#[u,hu,ru]:=r.get (aP hy);have e1:ys.getD i .non=ys[i]:=by simp[hy]
   have e2:vs.getD i Value.none=u:=by simp[hu]
   show RelV (ys.getD i .non) (vs.getD i Value.none);rw[e1,e2];exact ru
 apply key p.toList λi hi=>?_;have m:i∈(List.range vs.length).toArray:=g.mem_iff.mp ⇑hi;simpa using m
theorem SF:∀{ss:af} {vs:aj},Vals (ss.map V.str) vs->StrsAre vs ss
 |[],_,.nil=>.nil
 |x::r,_,.cons h t=>by
  let#[tk,rfl]:=h;exact .cons x tk (SF t)
def hU(ss:af):af:=(a9 (ss.map λx=>[Sum.inr x])).map λk=>match k with
 |[.inr x]=>x
 |_=>⟨#[]⟩
def bH(x:Str):aC:=[Sum.inr x]
variable{prog:Ad}{w:Ag}{A:Af}{s:Ab}
theorem TX{ss:af}(r:StrsAre vs ss)(h2:2<=vs.length):t_ prog w A (λi j=>bF ((ss.map bH).getD i []) ((ss.map bH).getD j [])) vs s:=by
 apply#[oneType',λQ q=>?_,λi j C hi hj hC=>?_]
 ·match vs,h2 with
  |v₁::VN::t,_=>
   rw[keyKind_strs r];exact aE q
 unfold kas_ask;rw[keyLt'_oneType]
 have look:∀k,k<vs.length->∃x t,vs.getD k Value.none=.str x t/\(ss.map bH).getD k []=[Sum.inr x]:=λk hk=>by
  let e:=r.strs;let#[x,t,q]:=r.all vs[k] (kD hk);apply#[x,t,by simp[hk,q],?_]
  have RE:k<ss.length:=by
   rw[<- e,ak];exact hk
  have e2:ss[k]=x:=by
   have e3:(vs.map strOf)[k]? = ss[k]?:=by rw[e]
   rw[di,aP hk,aP RE,q] at e3;exact (cY e3).symm
  simp[RE,e2,bH]
 let#[x,t,e1,e2]:=look i hi;let#[y,u,e3,e4]:=look j hj;rw[e1,e3];dsimp only at hC;rw[e2,e4] at hC;apply oneLt_str ?_;unfold bF at hC;by_cases e:x=y
 ·subst e;rw[aI Z] at hC;have:decide (x.cps.toList<x.cps.toList)=false:=by simp[List.lt_irrefl]
  rw[this];exact hC
 rw[aA (λq=>e (hJ q))] at hC;exact hC
def xq:Key->Bool
 |.inl _=>false
 |.inr _=>true
variable{a b:Key}
theorem hd_{E:Aa->Ab->Prop}{c:Bool}{p q:Aa}{Q:Bool->Ab->Prop}(ra:RelV (kV a) p)(rb:RelV (kV b) q)(hk:xq a=xq b)(h:Q (i_ a b) s) :
  wpAny (model prog w) A (oneLt' c p q) Q E s:=by
 cases a with
 |inl i=>
  cases b with
  |inr y=>cases hk
  |inl j=>
   let#[t,rfl]:=ra;let#[u,rfl]:=rb;cases c with
   |true=>exact oneLt_int h
   |false=>exact kat_one _ _ (lt_int (show PySem.W.BoolBack Q (.bool _) s from h))
 |inr x=>
  cases b with
  |inl j=>cases hk
  |inr y=>
   let#[t,rfl]:=ra;let#[u,rfl]:=rb;cases c with
   |true=>exact oneLt_str h
   |false=>exact kat_one _ _ (PyProof.Rows.lt_str (show PySem.W.BoolBack Q (.bool _) s from h))
theorem Y4(hk:xq a=xq b):MO (kV a) (kV b)=decide (a=b):=by
 cases a with
 |inl i=>
  cases b with
  |inr y=>cases hk
  |inl j=>
   show (i == j)=_;by_cases e:i=j
   ·subst e;simp
   ·rw[eF (λq=>e (Sum.inl.inj q))];simpa using e
 |inr x=>
  cases b with
  |inl j=>cases hk
  |inr y=>
   show (x == y)=_;by_cases e:x=y
   ·subst e;simp
   rw[eF (λq=>e (hJ q))];simpa using e
theorem Tq(a:Key):rY (kV a)=true:=by cases a<;>rfl
theorem UE{prog:Ad}{w:Ag}{A:Af}{s:Ab}{Q:Bool->Ab->Prop}:∀{k1 k2:aC} {us vs:aj} (i:Nat),Vals (k1.map kV) us->Vals (k2.map kV) vs->k1.map xq=k2.map xq->Q (bF k1 k2) s->KatLex prog w A true false Q (us.zip vs) i s
 |[],[],_,_,i,.nil,.nil,_,h=>h
 |[],_::_,_,_,_,_,_,h,_=>by cases h
 |_::_,[],_,_,_,_,_,h,_=>by cases h
 |a::k1,b::k2,u::us,v::vs,i,.cons ra r1,.cons rb r2,hk,h=>by
  let#[e1,e2]:=List.cons.inj hk;apply kat_cons ?_;apply Q4 ra rb (Tq a) (Tq b) prog w _ _ ?_;rw[Y4 e1];unfold bF at h;by_cases e:a=b
  ·rw[aI e] at h;rw[c_ e];exact kat_yes (UE (i+1) r1 r2 e2 h)
  rw[aA e] at h;rw[eF e];exact kat_no (hd_ ra rb e1 h)
def bR(K:ai)(H:Hp):ag->List aC->Prop:=Paired λy k=>∃a,y=V.ref a/\H a\.tup (k.map kV)
def Alike(ks:List aC)(sh:List Bool):Prop:=sh≠[]/\∀k∈ks,k.map xq=sh
theorem hk_{X:Cx}{pins:List (Addr × Obj)}{σ:St}{H:Hp}{s':Ab}{sh:List Bool}(I:Inv X pins σ H s)(r:Vals ys vs)(t:bR X.K H ys ks)(al:Alike ks sh)(h2:2<=vs.length)(kp:∀b o,s.heap.get? b\o->s'.heap.get? b\o):t_ X.prog X.w A (λi j=>bF (ks.getD i []) (ks.getD j [])) vs s':=by
 have look:∀k,k<vs.length->∃a its,vs.getD k Value.none=.ref a/\Vals ((ks.getD k []).map kV) its/\IsTup s'.heap a its.toArray/\ks.getD k []∈ks:=λk hk=>by
  have hy:k<ys.length:=by rw[r.length];exact hk
  have Bd:k<ks.length:=by rw[<- br t];exact hy
  let#[u,hu,ru]:=r.get (aP hy)
  have gen:∀{ys:ag} {ks:List aC} (k:Nat) (hy:k<ys.length) (Bd:k<ks.length),bR X.K H ys ks->∃a,ys[k]=V.ref a/\H a\.tup (ks[k].map kV):=λ{ys ks} k hy Bd t=>by
   induction t generalizing k with
   |nil=>exact absurd hy Z2
   |cons h t ih=>
    cases k with
    |zero=>exact h
    |succ k=>exact ih k ⇑hy ⇑Bd
  let#[a,e,sq]:=gen k hy Bd t;let#[its,ri,ti,_]:=I.tuple (fo.of sq);rw[e] at ru;cases ru;have e2:ks.getD k []=ks[k]:=by simp[Bd]
  apply#[a,its,by simp[hu],by rw[e2];exact ri,ti.keeps kp,?_];rw[e2];exact kD Bd
 let#[lR,EF]:=al
 obtain⟨c,Ct,rfl⟩:∃c Ct,sh=c::Ct:=by
  cases sh with
  |nil=>exact absurd Z lR
  |cons c Ct=>exact#[c,Ct,Z]
 apply#[tuples' true,λQ q=>?_,λi j C hi hj hC=>?_]
 ·have zZ:∀l:aj,(∀v∈l,∃(a:Addr) (its:aj) (k:aC),v=.ref a/\Vals (k.map kV) its/\IsTup s'.heap a its.toArray/\k.map xq=c::Ct)->∃fs,KatTups s'.heap l fs/\fs.length=l.length/\∀v∈fs,Looks (model X.prog X.w) s'.heap (typeOf v) (.type (if c then "str" else "int")):=λl=>by
   induction l with
   |nil=>exact λ_=>#[[],.nil,Z,λ_ h=>nomatch h]
   |cons v l ih=>
    intro h;let#[fs,h1,h2,h3]:=ih λv hv=>h v (fM _ hv);let#[a,its,k,rfl,rv,#[o,ho,hc,n,hd],hk]:=h v fX
    match k,its,rv,hk with
    |k0::k,u::its,.cons r0 _,hk=>
     apply#[u::fs,.cons ho hc hd Z2 h1,by simp[h2],λv hv=>?_];rcases bU.mp hv with e|hv
     ·subst e;let e0:=(List.cons.inj hk).1;cases k0 with
      |inl i=>
       let#[t,rfl]:=r0;rw[<- e0];exact .now
      |inr x=>
       let#[t,rfl]:=r0;rw[<- e0];exact .now
     exact h3 v hv
  let#[fs,h1,h3,h4]:=zZ vs λv hv=>by
   let#[k,hk,rfl]:=gX hv;let#[a,its,e,rv,ti,m]:=look k hk;apply#[a,its,_,?_,rv,ti,EF _ m];rw[<- e];simp[hk]
  apply kat_kind h1 Z1 h4 (by cases c<;>decide) ?_
  have e:((Value.type (if c then "str" else "int")) != Value.type "tuple")=true:=by cases c<;>decide
  rw[e];exact q
 unfold kas_ask;let#[a,its,e1,r1,#[o,ho,_,n,hd],m1]:=look i hi;let#[b,ie,e2,r2,#[o2,fq,_,n2,hd2],m2]:=look j hj;rw[e1,e2];apply kat_lt ho hd fq hd2 ?_;let l1:=r1.length;let l2:=r2.length;let l3:=d5 List.length ((EF _ m1).trans (EF _ m2).symm);simp only[ak] at l1 l2 l3;rw[show decide (its.toArray.size<ie.toArray.size)=false by simp;omega];exact UE 0 r1 r2 ((EF _ m1).trans (EF _ m2).symm) hC
end L2
namespace hY
open PySem PySem.W PyProof.Rows
def Raw(h:Heap)(d:Addr)(es:Array DictEntry)(ep:Nat):Prop:=∃o,h.get? d\o/\o.ExactDict/\o.data=.dict es ep
variable{h h':Heap}{d:Addr}{es:Array DictEntry}{ep:Nat}
theorem Raw.eg(x:Raw h d es ep)(k:∀o,h.get? d\o->h'.get? d\o):Raw h' d es ep:=let #[o,e,r]:=x;#[o,k o e,r]
variable{s:Ab}
theorem Raw.ty(x:Raw s.heap d es ep):s.TypeIs (.ref d) "dict":=let #[o,e,c,_]:=x;#[o,e,c.1]
variable{prog:Ad}{w:Ag}{A:Af}{E:Aa->Ab->Prop}
theorem hM_{Q:Aa->Ab->Prop}(hd:(d == sysModules)=false)(x:Raw s.heap d es ep)(q:Q (.ref s.heap.objs.size) { s with heap:=s.heap.push { cls:=.type "dict_keyiterator",data:=.fields (List.toArray [.ref d,.int 0 0,.int es.size 0,.int ep 0]) } }) :
  wpAny (model prog w) A (pyIter (.ref d)) Q E s:=by
 let#[o,ho,hc,jE]:=id x;apply wpAny_pyIter_slot x.ty F.slot_dict_iter (sf F.slot_dict_iter x.ty F.entry_dict_iter ?_ (F.args_dict_iter_1 _));unfold Builtin.«dict.__iter__» Builtin.Dict.dictSlotNone;apply ae (ae (wpAny_notOrdered_dict x.ty (show wpAny _ _ (pure (Value.ref d)) _ _ s from aE (show wpAny _ _ (Builtin.Dict.showsAll d >>= _) _ _ s from ?_))));unfold Builtin.Dict.showsAll;rw[aA (by rw[hd];decide)];apply ae (aE (ae (wpAny_dictEntries ho jE (ae (wpAny_dictEpoch ho jE (ae (pI (aE #[_,Z,"dict_keyiterator",_,#[_,cz _ Z,Z],F.slot_dict_keyiterator_next.lookup,?_]))))))));exact q
variable{Q:Option Aa->Ab->Prop}{it:Addr}{i:Nat}
theorem _Z(hit:s.heap.IsKeyIter it d i es.size ep)(x:Raw s.heap d es ep)(hi:i<es.size)(q:∀h',h'.IsKeyIter it d (i+1) es.size ep->Heap.SameBut it s.heap h'->Q (some es[i].key) { s with heap:=h' }):wpAny (model prog w) A (pyNext (.ref it)) Q E s:=by
 let#[o,ho,hc,hd]:=id hit;let#[od,D0,ik,pe]:=id x;unfold pyNext;apply ae (wpAny_attempt (uE (name:=Str.ofString "__next__") hit.typeIs F.slot_dict_keyiterator_next (sf F.slot_dict_keyiterator_next hit.typeIs F.entry_dict_keyiterator_next ?_ (F.args_dict_keyiterator_next_1 _))));apply ae (aE (ae (ae ?_)))
 first|refine ae (wpAny_typeNameOfWhole_keyiter hit.typeIs (aE (ae (wpAny_fieldsOf ho hd ?_))))|refine ae (wpAny_typeNameOf_keyiter hit.typeIs (aE (ae (wpAny_fieldsOf ho hd ?_))))
 simp only[show Builtin.Dict_items.ownsTuple "dict_keyiterator"=false by decide,pQ,if_false];apply (show wpAny _ _ (if (Value.ref d == Value.none)=true then _ else _) _ _ s from ?_);rw[aA (λz=>by cases z)];apply ae (aE (ae (wpAny_dictEntries D0 pe ?_)));rw[aA Z2];apply ae (aE (ae (wpAny_dictEpoch D0 pe ?_)));rw[aA Z2];apply aE ?_;simp only[show ¬((i:Int)<0) from by omega,if_false,x8,Array.getElem?_eq_getElem hi];apply ae ?_
 first|refine ae (wpAny_typeNameOfWhole_keyiter hit.typeIs (aE (ae (wpAny_isOneOf_keyiter hit.typeIs ?_))))|refine ae (wpAny_typeNameOf_keyiter hit.typeIs (aE (ae (wpAny_isOneOf_keyiter hit.typeIs ?_))))
 apply (show wpAny _ _ (setField (.ref it) 1 (rawInt ((i:Int)+1)) >>= _) _ _ s from ae (wpAny_setField ho hd Z2 ?_))
 have turned:(s.heap.update it (Obj.mapFields (·.setIfInBounds 1 (rawInt ((i:Int)+1))))).IsKeyIter it d (i+1) es.size ep:=
  #[_,Heap.get?_update_self _ ho (Obj.isFreed_of_fields (Obj.data_mapFields hd _)),(Obj.cls_mapFields ..).trans hc,by rw[Obj.data_mapFields hd];simp[rawInt]]
 apply ae (iX (ae (wpAny_isOneOf_keyiter (s:={ s with heap:=s.heap.update it (Obj.mapFields (·.setIfInBounds 1 (rawInt ((i:Int)+1)))) }) turned.typeIs ?_)));exact (show wpAny _ _ (pure es[i].key) _ _ _ from aE (aE #[_,Z,aE (q _ turned (Heap.SameBut.update ..))]))
theorem _p(hh:A.handled=none)(hit:s.heap.IsKeyIter it d es.size es.size ep)(x:Raw s.heap d es ep)(q:∀h',Heap.ExtBut it s.heap h'->Q none { s with heap:=h' }):wpAny (model prog w) A (pyNext (.ref it)) Q E s:=by
 let#[o,ho,hc,hd]:=id hit;let#[od,D0,ik,pe]:=id x;unfold pyNext;apply ae (wpAny_attempt (uE (name:=Str.ofString "__next__") hit.typeIs F.slot_dict_keyiterator_next (sf F.slot_dict_keyiterator_next hit.typeIs F.entry_dict_keyiterator_next ?_ (F.args_dict_keyiterator_next_1 _))));apply ae (aE (ae (ae ?_)))
 first|refine ae (wpAny_typeNameOfWhole_keyiter hit.typeIs (aE (ae (wpAny_fieldsOf ho hd ?_))))|refine ae (wpAny_typeNameOf_keyiter hit.typeIs (aE (ae (wpAny_fieldsOf ho hd ?_))))
 simp only[show Builtin.Dict_items.ownsTuple "dict_keyiterator"=false by decide,pQ,if_false];apply (show wpAny _ _ (if (Value.ref d == Value.none)=true then _ else _) _ _ s from ?_);rw[aA (λz=>by cases z)];apply ae (aE (ae (wpAny_dictEntries D0 pe ?_)));rw[aA Z2];apply ae (aE (ae (wpAny_dictEpoch D0 pe ?_)));rw[aA Z2];apply aE ?_;simp only[show ¬((es.size:Int)<0) from by omega,if_false,x8,Array.getElem?_eq_none (a_ _)];apply ae ?_
 first|refine ae (wpAny_typeNameOfWhole_keyiter hit.typeIs (aE ?g))|refine ae (wpAny_typeNameOf_keyiter hit.typeIs (aE ?g))
 apply (show wpAny _ _ (setField (.ref it) 0 .none >>= _) _ _ s from ae (wpAny_setField ho hd Z2 (show wpAny _ _ (newExc (.type "StopIteration") [] >>= _) _ _ _ from ae ?_)));simp only[newExc,newTuple];apply ae (pI (ae (m:=firstArgMember _ _) (wpAny_of_eq (a:=Value.none) (by first|rfl|(simp only[firstArgMember];rfl)) (pI ?_ (by size_fits)))) (by size_fits));simp only[raiseNew];apply ae (wpAny_handled ?_);rw[show A.in1.handled=none from hh];apply ae (aE (wpAny_throw ?_));exact ae (wpAny_isInstance (T:="StopIteration") (b:=true) #[_,cz _ Z,Z] isSubtype_stop (aE (q _ (((Heap.SameBut.update ..).extBut.push _).push _))))
theorem gb_(hh:A.handled=none)(I d:Addr)(lR:d≠I)(es:Array DictEntry)(ep:Nat) :
  Walks prog w A I [I,d] [I] es.size (λi v=>∃h:i<es.size,v=es[i].key) (λi h=>h.IsKeyIter I d i es.size ep/\Raw h d es ep) where
 sub:=λb hb=>by simp only[eU] at hb;simp[hb]
 frame:=λ_ _ _ st k=>#[st.1.at λo e=>k I Z2 o e,st.2.eg λo e=>k d Z2 o e]
 item:=λi s Q E hi st hQ=>_Z st.1 st.2 hi λh' LO hs'=>hQ _ h' s.toks #[hi,Z] #[LO,st.2.eg λo e=>hs'.extBut d o lR e] λb o hb e=>hs'.extBut b o (λh=>hb (by simp[h])) e
 done:=λs Q E st hQ=>_p hh st.1 st.2 λh' he'=>hQ h' s.toks λb o hb e=>he' b o (λh=>hb (by simp[h])) e
 self:=λ_ _ _ _ st hQ=>wpAny_pyIter_keyiter st.1 hQ
theorem YQ(lo:(d == sysModules)=false):KdlSrc prog w "dict" d d es.size (λi v=>∃h:i<es.size,v=es[i].key) (λh=>Raw h d es ep) where
 type:=λs x=>x.ty
 there:=λh x=>let #[o,e,_]:=x;#[bz e,bz e]
 keep:=λh h' x k=>x.eg λo e=>k d (.inl Z) o e
 notList:=by decide
 notTuple:=by decide
 hint:=λ_ _ s _ x q=>kdl_hint_dict x.ty q
 iter:=λA s hh x=>#[_,_,λE Q q=>hM_ lo x q,gb_ hh _ d (let #[o,e,_]:=x;dR (bz e)) es ep,#[#[_,cz _ Z,Z,Z],x.eg λo e=>aU _ e]]
theorem cW_:typeLookup (.type "list") "keys"=pure none:=by rw[typeLookup_type,builtinLookup_eq_fast];kernel_rfl
variable{a:Addr}{xs:Array Aa}{k:Nat}{tk:Tok}{R:Result->Ab->Prop}
theorem h5_(hx:s.heap.get? a\seqObj "list" xs k)(h:raisesAttr (.ref a) "keys" A R s) :
  codeAny (model prog w) A (.call (.builtin "list.__getattribute__") #[[.ref a,.str "keys" tk],[]]) R s:=by
 apply codeAny_call_builtin F.slot_list_getattribute.plain am_entry_list_getattribute (F.slot_list_getattribute.check _ _ _ _ _ _ _ _ #[_,hx,Z] (F.args_list_getattribute_2 _ _) ?_);exact meets_getattribute_miss_list a xs k #[] "keys" tk cW_ (by decide) (by size_fits) prog w A R s #[hx,h]
theorem y_(hx:s.heap.get? a\seqObj "list" xs k)(hA:A.handled=none)(h:∀h' tk,(∀b o,s.heap.get? b\o->h'.get? b\o)->Q none { s with heap:=h',toks:=tk }):wpAny (model prog w) A (getAttr? (.ref a) "keys") Q E s:=by
 let#[hp,g,d,tk,os]:=s;have ty:∀h_,(#[hp,g,d,h_,os]:Ab).TypeIs (.ref a) "list":=λ_=>#[_,hx,Z];let f1:=sub_AttributeError;let f2:=F.slot_list_getattribute.lookup;let f3:=F.slot_list_getattribute.bind (.ref a);let f4:=am_list_getattr_none;unfold getAttr? getAttrBy? getAttrBy
 repeat (any_goals (first|assumption|exact ty _|wp_step))
 apply h5_ hx #[hA,λh' h_ e vI=>?_];let#[t',u',he]:=vI.there;show wpAny _ _ (getattributeRaised _ _ _ _ _ _ _) _ _ _;unfold getattributeRaised
 repeat (any_goals (first|assumption|wp_step))
 exact h _ _ vI.keeps
theorem Ja:entryFor table "dict.update.loop"\Builtin.«dict.update.loop»:=entryFor_of_tree (by kernel_rfl)
theorem xW:plainId "dict.update.loop"=true:=by decide +kernel
theorem Hj(d it:Addr)(i:Int)(tk:Tok):Builtin.«dict.update.loop» #[[.ref d,.ref it,.int i tk,.none],[]]=(do
  let r <- pyNext (.ref it)
  match r with
  |none=>do Builtin.Dict.addKeywords d [];ret .none
  |some item=>do
   holding [item] (do
    let pair <- (Builtin.Dict.pairItems item).tryCatch λe=>do
     if !(<- isInstance e (.type "TypeError")) then throw e
     rule "dict.update.element-no-sequence"
     raiseError "TypeError" s!"cannot convert dictionary update sequence element #{i} to a sequence"
    match pair with
    |[k,v]=>holding [k,v] (dictSet d k v)
    |l=>do
     rule "dict.update.element-length"
     raiseError "ValueError" s!"dictionary update sequence element #{i} has length {l.length}; 2 is required")
   again (.builtin "dict.update.loop" #[[.ref d,.ref it,rawInt (i+1),.none],[]])):=by
 unfold Builtin.«dict.update.loop»;apply d5 (λf=>pyNext (.ref it) >>= f) (funext λr=>?_);cases r<;>rfl
variable{b l:Addr}{ys:Array Aa}
variable{its:aj}
section
variable{prog:Ad}{w:Ag}{K:Type}[DecidableEq K]{knd:PySem.KeyKind prog w K}{A:Af}
def ND(knd:PySem.KeyKind prog w K)(h:Heap):aj->List (K × Aa)->Prop:=Paired λv p=>∃a key,v=.ref a/\IsTup h a (List.toArray [key,p.2])/\knd.is p.1 key=true
def eD(kvs:List (K × Aa))(ps:List (K × Aa)):List (K × Aa):=ps.foldl (λacc p=>stored acc p.1 p.2) kvs
theorem Um(kvs:List (K × Aa))(k:K)(v:Aa):(stored kvs k v).length<=kvs.length+1:=by
 unfold stored;split
 ·simp
 simp
theorem Uv(t:IsTup h b ys)(q:h.IsListIter it l i):b≠it:=λz=>by
 let#[o,ho,hc,_]:=t;let#[o2,fq,ko,_]:=q;subst z;rw[ho] at fq;cases fq;rw[hc] at ko;exact absurd ko (by decide)
theorem eu_{kvs:List (K × Aa)}(t:IsTup h b ys)(q:h.DictOf knd d kvs):b≠d:=λz=>by
 let#[o,ho,hc,_]:=t;let#[o2,es,ep,fq,ko,_]:=q;subst z;rw[ho] at fq;cases fq;let xD:=ko.1;rw[hc] at xD;exact absurd xD (by decide)
theorem Fv{kvs:List (K × Aa)}(q:h.DictOf knd d kvs)(k:∀o,h.get? d\o->h'.get? d\o):h'.DictOf knd d kvs:=by
 let#[o,es,ep,ho,r]:=q;exact#[o,es,ep,k _ ho,r]
theorem _q{key x:Aa}{k:K}{kvs:List (K × Aa)}(zK:d≠it)(hi:its.toArray[i]? = some (.ref a))(ht:IsTup s.heap a (List.toArray [key,x]))(hk:knd.is k key=true)(hit:s.heap.IsListIter it l i)(hl:s.heap.IsList l its.toArray)(hd:s.heap.DictOf knd d kvs)(hz:kvs.length<=1000)(hR:∀h2,h2.DictOf knd d (stored kvs k x)->(∀b o,b≠d->b≠it->s.heap.get? b\o->h2.get? b\o)->h2.IsListIter it l (i+1)->codeAny (model prog w) A (.builtin "dict.update.loop" #[[.ref d,.ref it,rawInt ((i:Int)+1),.none],[]]) R { s with heap:=h2,toks:=s.toks+1 }) :
  codeAny (model prog w) A (.builtin "dict.update.loop" #[[.ref d,.ref it,.int i tk,.none],[]]) R s:=by
 apply codeAny_builtin Ja ?_;rw[Around.under_plainId xW _,Hj];apply ae (wpAny_pyNext_list_item hit hl hi λh1 LN Ln=>?_);let#[ot,hot,Ew,nt,hdt]:=id ht;have DX:h1.get? a\ot:=Ln.extBut _ _ (Uv ht hit) hot;apply ae (iX (ae (wpAny_tryCatch ?_)));unfold Builtin.Dict.pairItems;apply ae (wpAny_typeOf (T:="tuple") #[ot,DX,Ew] ?_);rw[aI (by decide)];unfold seqItems?;apply ae (ae (wpAny_load DX ?_));rw[hdt];apply aE (aE ?_);apply (show wpAny _ _ (holding [key,x] (dictSet d key x)) _ _ _ from iX (wpAny_dictSet_pairs hk (Fv hd λo q=>Ln.extBut _ _ zK q) (λh2 hd2 vK=>?_) (by have:=cX;omega)));exact aE #[plainId_quiet xW _,hR h2 hd2 (λb o h3 h4 q=>vK.extBut _ _ h3 (Ln.extBut _ _ h4 q)) (LN.extBut vK.extBut (bJ zK))]
theorem _h{kvs:List (K × Aa)}(zK:d≠it)(hh:A.handled=none)(hi:its.toArray[i]? = none)(hit:s.heap.IsListIter it l i)(hl:s.heap.IsList l its.toArray)(hd:s.heap.DictOf knd d kvs)(hR:∀h',h'.DictOf knd d kvs->(∀b o,b≠it->s.heap.get? b\o->h'.get? b\o)->R (.ok (.ret .none)) { s with heap:=h' }) :
  codeAny (model prog w) A (.builtin "dict.update.loop" #[[.ref d,.ref it,.int i tk,.none],[]]) R s:=by
 apply codeAny_builtin Ja ?_;rw[Around.under_plainId xW _,Hj];apply ae (wpAny_pyNext_list_end hh hit hl hi λh' he=>?_);exact ae (m:=Builtin.Dict.addKeywords d []) (aE (aE (hR h' (Fv hd λo q=>he _ _ zK q) λb o hb q=>he b o hb q)))
theorem YK(hil:l≠it)(zK:d≠it)(G0:d≠l)(hh:A.handled=none)(rest:aj):∀(ps:List (K × Aa)) (i:Nat) (kvs:List (K × Aa)) (s:Ab) (R:Result->Ab->Prop) (tk:Tok),its.drop i=rest->ND knd s.heap rest ps->
  s.heap.IsListIter it l i->s.heap.IsList l its.toArray->s.heap.DictOf knd d kvs->kvs.length+ps.length<=1000->
  (∀h' h_,h'.DictOf knd d (eD kvs ps)->(∀b o,b≠d->b≠it->s.heap.get? b\o->h'.get? b\o)->R (.ok (.ret .none)) { s with heap:=h',toks:=h_ })->
  codeAny (model prog w) A (.builtin "dict.update.loop" #[[.ref d,.ref it,.int i tk,.none],[]]) R s:=by
 induction rest with
 |nil=>
  intro ps i kvs s R tk e hp hit hl hd hz hR;cases hp
  have hi:its.toArray[i]? = none:=by
   have:=d5 List.length e;simp only[x6,List.length_nil] at this;simp;omega
  exact _h zK hh hi hit hl hd λh' iR kp=>hR h' s.toks iR λb o _ hb q=>kp b o hb q
 |cons v rest ih=>
  intro ps i kvs s R tk e hp hit hl hd hz hR;cases hp with
  |@cons _ p _ ps h0 hr=>
  let#[a,key,hv,ht,hk]:=h0;let#[k,x]:=p;subst hv
  have hi:its.toArray[i]? = some (.ref a):=by
   have q:(its.drop i)[0]? = some (.ref a):=by rw[e];rfl
   rw[List.getElem?_drop] at q;simpa using q
  have e':its.drop (i+1)=rest:=by
   rw[<- List.drop_drop,e];rfl
  simp only[jm] at hz;apply _q zK hi ht hk hit hl hd Z1 λh2 hd2 kp zJ=>?_;have c1:((i:Int)+1)=((i+1:Nat):Int):=by omega
  rw[c1];apply ih ps (i+1) (stored kvs k x) _ R 0 e' (L2.Paired.aV hr λv p ⟨b,ky,e1,t1,k1⟩=>#[b,ky,e1,?_,k1]) zJ (hl.at λo q=>kp _ _ (bJ G0) hil q) hd2 (by have:=Um kvs k x;omega) λh' h_ iR K7=>hR h' h_ iR λb o h3 h4 q=>K7 b o h3 h4 (kp b o h3 h4 q);let#[o,ho,r]:=id t1;exact#[o,kp _ _ (eu_ t1 hd) (Uv t1 hit) ho,r]
theorem e0_{n:Nat}{ps:List (K × Aa)}{Q:Aa->Ab->Prop}(hh:A.handled=none)(ho:s.heap.get? l\seqObj "list" its.toArray n)(hp:ND knd s.heap its ps)(hz:ps.length<=1000)(h:∀h' h_,h'.DictOf knd s.heap.objs.size (eD [] ps)->(∀b o,s.heap.get? b\o->h'.get? b\o)->Q (.ref s.heap.objs.size) { s with heap:=h',toks:=h_ }) :
  wpAny (model prog w) A (call (.type "dict") [.ref l]) Q E s:=by
 apply callType_codes (Q₁:=λobj aJ=>obj=.ref s.heap.objs.size/\aJ={ s with heap:=s.heap.push { cls:=.type "dict",data:=.dict #[] } }) F.kt_called_dict (F.kt_typeCall_dict_1 _) F.entry_dict_init (kt_code_dict_new _ #[Z,Z]) ?_;rintro obj aJ ⟨rfl,rfl⟩;have iQ:(s.heap.push { cls:=.type "dict",data:=.dict #[] }).DictOf knd s.heap.objs.size []:=Heap.DictOf.new s.heap;have gm:(s.heap.push { cls:=.type "dict",data:=.dict #[] }).get? l\seqObj "list" its.toArray n:=aU _ ho;apply#[iQ.typeIs,F.args_dict_init_2 _ _,?_];unfold Builtin.«dict.__init__» Builtin.Dict.selfAndRest;apply ae (ae (wpAny_notOrdered_dict iQ.typeIs ?_));apply (show wpAny _ _ (pure (s.heap.objs.size,[Value.ref l])) _ _ _ from aE ?_);apply (show wpAny _ _ (Builtin.Dict.updateFrom "dict.__init__" s.heap.objs.size (.ref l) [] .none) _ _ _ from ?_);unfold Builtin.Dict.updateFrom;apply ae (wpAny_typeOf (T:="list") #[_,gm,Z] ?_);rw[aI (by decide)];apply ae (y_ gm hh λh2 V9 k2=>?_);simp only[Option.isNone_none,if_true];have lS:h2.get? l\seqObj "list" its.toArray n:=k2 _ _ gm;apply ae (wpAny_rule (ae (wpAny_pyIter_list #[_,lS,Z,_,Z] ?_)));apply aE #[plainId_quiet xW _,?_];have all:∀{b o},s.heap.get? b\o->(h2.push { cls:=.type "list_iterator",data:=.fields (List.toArray [.ref l,.int 0 0]) }).get? b\o:=λq=>aU _ (k2 _ _ (aU _ q))
 have hd2:h2.DictOf knd s.heap.objs.size []:=by
  let#[o,es,ep,ho,r]:=iQ;exact#[o,es,ep,k2 _ _ ho,r]
 have J6:s.heap.objs.size<h2.objs.size:=by
  let#[o,es,ep,ho,r]:=hd2;exact bz ho
 have lz:l<s.heap.objs.size:=bz ho
 apply YK (A:=A.in1) (knd:=knd) (its:=its) (it:=h2.objs.size) (l:=l) (d:=s.heap.objs.size) (dR (Nat.lt_trans lz J6)) (dR J6) (i5 lz) hh its ps 0 [] _ _ 0 Z (L2.Paired.aV hp λv p ⟨b,ky,e1,t1,k1⟩=>#[b,ky,e1,t1.keeps λb o q=>all q,k1])
  #[_,cz _ Z,Z,Z] #[_,aU _ lS,Z,_,Z] (by
   let#[o,es,ep,ho,r]:=hd2;exact#[o,es,ep,aU _ ho,r]) ⇑hz λh' h_ iR kp=>#[Z,h h' h_ iR λb o q=>?_]
 have bl:b<s.heap.objs.size:=bz q;exact kp b o (dR bl) (dR (Nat.lt_trans bl J6)) (all q)
end
end hY
theorem zl{n:Nat}(h:decide (n<=16777216)=true:=by rfl):n<=PySem.sizeLine:=by
 rw[PySem.sizeLine_eq];exact sk h
namespace L2
open PySem PySem.Spec PyProof.Rows PySem.W yc hY
variable{ys:ag}
theorem bR.same{K:ai}{H H':Hp}{ks:List aC}(t:bR K H ys ks)(e:aa H H'):bR K H' ys ks:=Paired.aV t λy k ⟨a,z,q⟩=>#[a,z,e _ _ q]
theorem aa.new{H:Hp}{l:Addr}{o:HO}(h:H l=none):aa H (upd H l o):=λb u e=>by rw[aw (bp e h)];exact e
section
variable{X:Cx}{pins:List (Addr × Obj)}{σ:St}{H H':Hp}{s:Ab}{h':Heap}{t':Nat}
theorem Inv.many(I:Inv X pins σ H s)(k:∀b o,s.heap.get? b\o->h'.get? b\o)(hold:aa H H')(iQ:∀b,H b=none->b<s.heap.objs.size->H' b=none)
  (hob:∀b o,H' b\o->H b=none->∃xs its,o=.tup xs/\xs.length<=sizeLine/\Vals xs its/\IsTup h' b its.toArray/\∃o,h'.get? b\o/\o.dict=none):Inv X pins σ H' { s with heap:=h',toks:=t' }:=by
 apply I.un #[λb o q _ _ _=>k b o q,λb o q _ _ _=>#[o.slots,k b o q],λb o q n _=>iQ b n (bz q),λb o q _=>#[o,k b o q],λb xs q=>hold b _ q,λb o u q=>hold b _ q,λb ps q=>#[#[],by rw[Array.append_empty];exact hold b _ q]] λb o q=>?_;cases e:H b with
 |some u=>
  let e2:=hold b u e;rw[q] at e2;cases e2;exact (I.az b o e).eg (λc v _ z=>k c v z) (λc z=>hold c _ z) λc xs z=>hold c _ z
 |none=>
  let#[xs,its,rfl,z,r,t]:=hob b o q e;exact#[z,its,r,t]
end
variable{R:aj->Ab->Prop}
section
variable{X:Cx}{pins:List (Addr × Obj)}{σ:St}{H:Hp}{s:Ab}{A:Af}{E:Aa->Ab->Prop}
theorem _Y{p:Addr}(I:Inv X pins σ H s)(h:dX X.K H p ys)(hz:ys.length<=100000)(q:∀vs s1,Inv X pins σ H s1->Vals ys vs->R vs s1):wpAny (model X.prog X.w) A (collect (.ref p)) R E s:=by
 let#[its,r,pl,_]:=I.list h;let hl:=r.length;apply collect_list pl.isList (q its _ ?_ r) (by have:=cX;omega);apply I.kept (t':=s.toks) λb u e=>?_;have lt:b<s.heap.objs.size:=bz e;rw[Heap.get?_update_ne _ _ _ _ (dR lt)];exact aU _ e
theorem Ji{P:Nat->Aa->Prop}{acc:Array Aa}(h:ItemsOf P acc ys.length)(hp:∀(j:Nat) v,P j v->∀y,ys[j]? = some y->RelV y v):Vals ys acc.toList:=by
 have gen:∀(ys:ag) (vs:aj),ys.length=vs.length->(∀(j:Nat) y v,ys[j]? = some y->vs[j]? = some v->RelV y v)->Vals ys vs:=λys=>by
  induction ys with
  |nil=>
   intro vs hl _;cases vs with
   |nil=>exact .nil
   |cons _ _=>cases hl
  |cons y ys ih=>
   intro vs hl h;cases vs with
   |nil=>cases hl
   |cons v vs=>exact .cons (h 0 y v Z Z) (ih vs ⇑hl λj y v a b=>h (j+1) y v ⇑a ⇑b)
 apply gen ys acc.toList (by rw[tJ];exact h.1.symm) λj y v a b=>hp j v (h.2 j v ?_) y a;rw[<- Array.getElem?_toList];exact b
theorem Q8{d:Addr}{kvs:List (Key × V)}(I:Inv X pins σ H s)(h:Rd H d (.dK kvs)):∃(P:Nat->Aa->Prop) (OK:Heap->Prop),KdlSrc X.prog X.w "dict" d d (kvs.map λkv=>kV kv.1).length P OK/\OK s.heap/\∀(j:Nat) v,P j v->∀y,(kvs.map λkv=>kV kv.1)[j]? = some y->RelV y v:=by
 let#[z,hd,vs,rel,dd]:=jN I.az h;let#[ep,dat]:=dd.dictAt;let hl:=rel.length;apply#[λi v=>∃k x,vs[i]? = some (k,x)/\(fh X.prog X.w).is k v=true,λh=>h.DictAt (fh X.prog X.w) d vs ep,(by rw[ak,hl];exact kdl_dict (knd:=fh X.prog X.w) (kvs:=vs) (ep:=ep) hd),dat,λj v ⟨k,x,e,hk⟩ y hy=>?_];rw[di] at hy;have ek:kvs.map (·.1)=vs.map (·.1):=rel.keys;have e2:(kvs.map (·.1))[j]? = (vs.map (·.1))[j]?:=by rw[ek]
 rw[di,di,e] at e2;cases e3:kvs[j]? with
 |none=>rw[e3] at e2;cases e2
 |some kv=>
  rw[e3] at e2 hy;have e4:kv.1=k:=cY e2;have e5:kV kv.1=y:=cY hy;rw[<- e5,e4];have hk:wd k v=true:=hk;rcases pR hk with⟨i,t,rfl,rfl⟩|⟨x,t,rfl,rfl⟩
  ·exact#[t,Z]
  exact#[t,Z]
theorem Rg{d:Addr}{kvs:List (Key × V)}(hh:A.handled=none)(I:Inv X pins σ H s)(h:Rd H d (.dK kvs))(q:∀vs s1,Inv X pins σ H s1->Vals (kvs.map λkv=>kV kv.1) vs->R vs s1):wpAny (model X.prog X.w) A (collect (.ref d)) R E s:=by
 let#[P,OK,S,ok,hp]:=Q8 I h;apply kdu_collect S hh ok ?_ λh' tk acc k a=>q _ _ (I.kept k) (Ji a hp);rw[ak];exact (jN I.az h).1
theorem Zi{d:Addr}{kvs:List (aC × V)}(I:Inv X pins σ H s)(h:Rd H d (.dT kvs)):∃(ys:ag) (P:Nat->Aa->Prop) (OK:Heap->Prop),bR X.K H ys (kvs.map (·.1))/\ys.length<=sizeLine/\KdlSrc X.prog X.w "dict" d d ys.length P OK/\OK s.heap/\∀(j:Nat) v,P j v->∀y,ys[j]? = some y->RelV y v:=by
 let#[z,hd,xs,rel,o,es,ep,ho,hc,jE,vN,nd]:=h.ok I.az
 have l1:es.size=xs.length:=by
  have:=d5 List.length vN;simpa using this
 let l2:=br rel;apply#[xs.map λx=>V.ref x.2.1,λi v=>∃h:i<es.size,v=es[i].key,λh=>Raw h d es ep,?_,by rw[ak];omega,(by rw[ak,<- l1];exact YQ (es:=es) (ep:=ep) hd),#[o,ho,hc,jE],λj v ⟨hj,e⟩ y hy=>?_]
 ·have gen:∀{kvs:List (aC × V)} {xs:List (aC × Addr × Aa)},KT H kvs xs->bR X.K H (xs.map λx=>V.ref x.2.1) (kvs.map (·.1)):=λ{kvs xs} r=>by
   induction r with
   |nil=>exact .nil
   |cons h _ ih=>exact .cons #[_,Z,h.2.1] ih
  exact gen rel
 rw[di] at hy;have hx:j<xs.length:=by omega
 rw[aP hx] at hy;have e1:V.ref xs[j].2.1=y:=cY hy
 have e2:es[j]=entryOfKey (tupleKind (fh X.prog X.w)) xs[j]:=by
  have e3:es.toList[j]? = (xs.map (entryOfKey (tupleKind (fh X.prog X.w))))[j]?:=by rw[vN]
  rw[di,aP hx,Array.getElem?_toList,Array.getElem?_eq_getElem hj] at e3;exact cY e3
 rw[<- e1,e,e2];rfl
theorem Zn{d:Addr}{kvs:List (aC × V)}(hh:A.handled=none)(I:Inv X pins σ H s)(h:Rd H d (.dT kvs))(q:∀ys vs s1,Inv X pins σ H s1->Vals ys vs->bR X.K H ys (kvs.map (·.1))->R vs s1):wpAny (model X.prog X.w) A (collect (.ref d)) R E s:=by
 let#[ys,P,OK,t,z,S,ok,hp]:=Zi I h;exact kdu_collect S hh ok z λh' tk acc k a=>q ys _ _ (I.kept k) (Ji a hp) t
def tj(v d:Addr):HO:=.ext λh=>h.IsItemsView v d
def uC(v d:Addr):HO:=.ext λh=>h.IsValuesView v d
def jd(K:ai)(H:Hp):ag->List (Key × V)->Prop:=Paired λy p=>∃a,y=V.ref a/\H a\.tup [kV p.1,p.2]
theorem gp_{v d:Addr}{kvs:List (Key × V)}(hh:A.handled=none)(I:Inv X pins σ H s)(hv:H v\tj v d)(h:Rd H d (.dK kvs))(q:∀H1 ys vs s1,Inv X pins σ H1 s1->aa H H1->Vals ys vs->jd X.K H1 ys kvs->R vs s1) :
  wpAny (model X.prog X.w) A (collect (.ref v)) R E s:=by
 let#[z,hd,vs,rel,dd]:=jN I.az h;let#[ep,dat]:=dd.dictAt;let#[iv,_,_]:=I.az v _ hv;let hl:=rel.length;apply kdx_collect (knd:=fh X.prog X.w) (kvs:=vs) (ep:=ep) hh iv dat Z1 λh' tk as k la G=>?_;have up:∀b,b∈as->s.heap.objs.size<b:=G.above
 have at1:∀(j:Nat) b p,as[j]? = some b->kvs[j]? = some p->∃its,Vals [kV p.1,p.2] its/\IsTup h' b its.toArray/\∃o,h'.get? b\o/\o.dict=none:=λj b p hj hp=>by
  let#[key,kk,x,e1,e2,e3]:=G.pairs j b hj
  have gen:∀{kvs:List (Key × V)} {vs:List (Key × Aa)},KV kvs vs->∀(j:Nat),vs[j]? = some (kk,x)->kvs[j]? = some p->p.1=kk/\RelV p.2 x:=λ{kvs vs} r=>by
   induction r with
   |nil=>intro j e;simp at e
   |@cons p' q _ _ h _ ih=>
    intro j e e';cases j with
    |zero=>
     have e:q=(kk,x):=⇑e
     have e':p'=p:=⇑e'
     subst e';rw[e] at h;exact h
    |succ j=>exact ih j ⇑e ⇑e'
  let#[g1,g2]:=gen rel j e1 hp;apply#[[key,x],.cons ?_ (.cons g2 .nil),#[_,e3,Z,_,Z],_,e3,Z];rw[g1];have e2:wd kk key=true:=e2;rcases pR e2 with⟨i,t,rfl,rfl⟩|⟨x,t,rfl,rfl⟩
  ·exact#[t,Z]
  exact#[t,Z]
 have look:∀{as:au} {kvs:List (Key × V)},as.Pairwise (· < ·)->∀(j:Nat) b p,as[j]? = some b->kvs[j]? = some p->(as.zip kvs).lookup b\p:=λ{as}=>by
  induction as with
  |nil=>intro kvs _ j b p e;simp at e
  |cons a as ih=>
   intro kvs pw j b p e e';cases kvs with
   |nil=>simp at e'
   |cons q kvs=>
    let#[p1,p2]:=List.pairwise_cons.mp pw;show ((a,q)::as.zip kvs).lookup b\p;cases j with
    |zero=>
     have e:a=b:=⇑e
     have e':q=p:=⇑e'
     subst e;subst e';rw[List.lookup_cons_self]
    |succ j=>
     have e:as[j]? = some b:=⇑e
     have e':kvs[j]? = some p:=⇑e'
     let lt:=p1 b (cQ e);rw[pO,show (b == a)=false by simp only[beq_eq_false_iff_ne];exact i5 lt];exact ih p2 j b p e e'
 have lk:as.length=kvs.length:=by omega
 let H1:Hp:=λb=>if b∈as then ((as.zip kvs).lookup b).map λp=>HO.tup [kV p.1,p.2] else H b
 have EL:∀(j:Nat) b p,as[j]? = some b->kvs[j]? = some p->H1 b\.tup [kV p.1,p.2]:=λj b p e e'=>by
  show (if b∈as then _ else _)=_;rw[aI (cQ e),look G.rise j b p e e'];rfl
 have nM:∀b,b∉as->H1 b=H b:=λb hb=>aA hb;have old:∀b,b<s.heap.objs.size->b∉as:=λb hb m=>absurd (up b m) Z1;apply q H1 (as.map V.ref) _ _ (I.many (t':=tk) k (λb o e=>by rw[nM b (old b (I.az.lt e))];exact e) (λb e hb=>by rw[nM b (old b hb)];exact e) λb o e e0=>?_) (λb o e=>by rw[nM b (old b (I.az.lt e))];exact e) ?_ ?_
 ·by_cases m:b∈as
  ·let#[j,hj]:=List.mem_iff_getElem?.mp m
   have jl:j<kvs.length:=by
    have:=(bY.mp hj).1;omega
   let e':=EL j b kvs[j] hj (aP jl);rw[e] at e';cases e';let#[its,r,t]:=at1 j b _ hj (aP jl);exact#[_,its,Z,zl,r,t]
  rw[nM b m,e0] at e;cases e
 ·have gen:∀as:au,Vals (as.map V.ref) (as.map Value.ref):=λas=>by
   induction as with
   |nil=>exact .nil
   |cons a as ih=>exact .cons Z ih
  exact gen as
 have gen:∀(BH:au) (fC:List (Key × V)),BH.length=fC.length->(∀(j:Nat) b p,BH[j]? = some b->fC[j]? = some p->H1 b\.tup [kV p.1,p.2])->jd X.K H1 (BH.map V.ref) fC:=λBH=>by
  induction BH with
  |nil=>
   intro fC hl _;cases fC with
   |nil=>exact .nil
   |cons _ _=>cases hl
  |cons a BH ih=>
   intro fC hl h;cases fC with
   |nil=>cases hl
   |cons p fC=>exact .cons #[a,Z,h 0 a p Z Z] (ih fC ⇑hl λj b p e e'=>h (j+1) b p ⇑e ⇑e')
 exact gen as kvs lk EL
end
theorem Te{a b:af}(h:a.map bH=b.map bH):a=b:=by
 induction a generalizing b with
 |nil=>
  cases b with
  |nil=>rfl
  |cons _ _=>cases h
 |cons x a ih=>
  cases b with
  |nil=>cases h
  |cons y b=>
   let#[h1,h2]:=List.cons.inj h;have h1:[(Sum.inr x:Key)]=[Sum.inr y]:=h1;cases h1;rw[ih h2]
theorem OJ(ss:af):(hU ss).map bH=a9 (ss.map bH):=by
 have all:∀k∈a9 (ss.map bH),∃x,k=bH x:=λk hk=>by
  let#[x,_,e]:=bC.mp ((tK _).mem_iff.mp hk);exact#[x,e.symm]
 have gen:∀l:List aC,(∀k∈l,∃x,k=bH x)->(l.map λk=>match k with | [.inr x]=>x|_=>(⟨#[]⟩:Str)).map bH=l:=λl=>by
  induction l with
  |nil=>exact λ_=>rfl
  |cons k l ih=>
   intro h;let#[x,rfl]:=h k fX;rw[eG,eG,ih λk hk=>h k (fM _ hk)];rfl
 exact gen _ all
theorem BD(ss:af):(hU ss).Perm ss:=by
 have p:((hU ss).map bH).Perm (ss.map bH):=by rw[OJ];exact tK _
 have back:∀l:af,(l.map bH).map (λk=>match k with | [.inr x]=>x|_=>(⟨#[]⟩:Str))=l:=λl=>by
  rw[cg]
  induction l with
  |nil=>rfl
  |cons x l ih=>rw[eG,ih];rfl
 let q:=p.map (λk=>match k with | [.inr x]=>x|_=>(⟨#[]⟩:Str));rwa [back,back] at q
variable{u:Aa}
section
variable{X:Cx}{pins:List (Addr × Obj)}{σ:St}{H:Hp}{s:Ab}
theorem dI_{ss:af}{Q:VK}(bX:ss.length<64)(lW:wpAny (model X.prog X.w) X.A.in1 (collect u) (λvs s1=>∃H1,Inv X pins σ H1 s1/\Vals (ss.map V.str) vs/\∀l,H1 l=none->Q (.ref l) (upd H1 l (.lst ((hU ss).map V.str)))) X.xe s) :
  wpAny (model X.prog X.w) X.A (call (.builtin "sorted") [u]) (EP X pins σ Q) X.xe s:=by
 apply TV (Nb (ss.map bH)) (aO lW λvs s1 ⟨H1,I1,r,q⟩=>?_);have hl:vs.length=ss.length:=by rw[<- r.length,ak]
 apply#[by omega,λh2 h' _=>TX (SF r) h2,λp h' e g up hD kp=>?_];have g':Good (ss.map bH).length p:=by rw[ak,<- hl];exact g
 let asc:=MX (ks:=ss.map bH) (λi j _ _=>rfl) g' (by rw[ak,<- hl];exact up)
 have perm:(p.toList.map λi=>(ss.map bH).getD i []).Perm (ss.map bH):=by
  have:=FG g' λi=>(ss.map bH).getD i [];rwa [FI] at this
 let es:=Oh perm asc
 have inr:∀i∈p.toList,i<ss.length:=λi hi=>by
  have m:i∈(List.range vs.length).toArray:=g.mem_iff.mp ⇑hi;rw[hl] at m;simpa using m
 have e1:(p.toList.map λi=>ss.getD i ⟨#[]⟩)=hU ss:=by
  apply Te ?_;rw[OJ,<- es,cg];apply uL λi hi=>?_;have:=inr i hi;simp[this]
 let rv:=M9 r g
 have e2:(p.toList.map λi=>(ss.map V.str).getD i .non)=(hU ss).map V.str:=by
  rw[<- e1,cg];apply uL λi hi=>?_;have:=inr i hi;simp[this]
 rw[e2] at rv;apply#[.ref s1.heap.objs.size,_,I1.laid (t':=s1.toks) kp (a_ _) (show ft X.prog X.w _ h' _ (.lst ((hU ss).map V.str)) from #[?_,mi p vs,e,rv,hD]),Z,q _ (I1.az.fresh (a_ _))];rw[ak,(BD ss).length_eq];have:=cX;omega
theorem _U{K:ai}{H:Hp}{ks:List aC}(t:bR K H ys ks):∀l:List Nat,(∀i∈l,i<ys.length)->bR K H (l.map λi=>ys.getD i .non) (l.map λi=>ks.getD i []):=λl=>by
 induction l with
 |nil=>exact λ_=>.nil
 |cons i l ih=>
  intro h;apply .cons ?_ (ih λj hj=>h j (fM _ hj));let hi:=h i fX
  have gen:∀{ys:ag} {ks:List aC} (i:Nat),i<ys.length->bR K H ys ks->∃a,ys.getD i .non=V.ref a/\H a\.tup ((ks.getD i []).map kV):=λ{ys ks} i hy t=>by
   induction t generalizing i with
   |nil=>exact absurd hy Z2
   |cons h t ih=>
    cases i with
    |zero=>exact h
    |succ i=>exact ih i ⇑hy
  exact gen i hi t
theorem UC{ks:List aC}{sh:List Bool}{Q:VK}(bX:ks.length<64)(al:Alike ks sh)(lW:wpAny (model X.prog X.w) X.A.in1 (collect u) (λvs s1=>∃H1 ys,Inv X pins σ H1 s1/\Vals ys vs/\bR X.K H1 ys ks/\∀l zs,H1 l=none->bR X.K H1 zs (a9 ks)->zs.Perm ys->Q (.ref l) (upd H1 l (.lst zs))) X.xe s) :
  wpAny (model X.prog X.w) X.A (call (.builtin "sorted") [u]) (EP X pins σ Q) X.xe s:=by
 apply TV (Nb ks) (aO lW λvs s1 ⟨H1,ys,I1,r,t,q⟩=>?_);let l1:=r.length;let l2:=br t;have hl:vs.length=ks.length:=by omega
 apply#[by omega,λh2 h' k=>hk_ I1 r t al h2 k,λp h' e g up hD kp=>?_];have g':Good ks.length p:=by rw[<- hl];exact g
 let asc:=MX (ks:=ks) (λi j _ _=>rfl) g' (by rw[<- hl];exact up)
 have perm:(p.toList.map λi=>ks.getD i []).Perm ks:=by
  have:=FG g' λi=>ks.getD i [];rwa [FI] at this
 let es:=Oh perm asc
 have inr:∀i∈p.toList,i<ys.length:=λi hi=>by
  have m:i∈(List.range vs.length).toArray:=g.mem_iff.mp ⇑hi;rw[<- l1] at m;simpa using m
 let tz:=_U t p.toList inr;rw[es] at tz;let rv:=M9 r g
 have pz:(p.toList.map λi=>ys.getD i .non).Perm ys:=by
  have:=FG (n:=ys.length) (by rw[l1];exact g) λi=>ys.getD i .non;rwa [FI] at this
 apply#[.ref s1.heap.objs.size,_,I1.laid (t':=s1.toks) kp (a_ _) (show ft X.prog X.w _ h' _ (.lst (p.toList.map λi=>ys.getD i .non)) from #[?_,mi p vs,e,rv,hD]),Z,q _ _ (I1.az.fresh (a_ _)) tz pz];rw[pz.length_eq];have:=cX;omega
end
inductive mT (K:ai) (xs:ag) (H:Hp) (Q:VK):Prop
 |mk:∀d kvs sh,xs=[.ref d]->H d\.dT kvs->Alike (kvs.map (·.1)) sh->kvs.length<64->(∀l zs,H l=none->bR K H zs (a9 (kvs.map (·.1)))->Q (.ref l) (upd H l (.lst zs)))->mT K xs H Q
variable{X:Cx}
theorem ec_(hc:X.calm=true):gn X (.builtin "sorted") (mT X.K):=by
 intro pins s σ H xs us Q I r h;let#[d,kvs,sh,rfl,hd,al,bX,q]:=h;let#[u,rfl,ru]:=vals1 r;cases ru;exact UC (by rw[ak];exact bX) al (Zn (I.ok.hd hc) I (.inl hd) λys vs s1 I1 r1 t=>⟨H,ys,I1,r1,t,λl zs n t' _=>q l zs n t'⟩)
inductive mU (xs:ag) (H:Hp) (Q:VK):Prop
 |mk:∀d kvs ss,xs=[.ref d]->H d\.dK kvs->kvs.map (·.1)=ss.map Sum.inr->ss.length<64->(∀l,H l=none->Q (.ref l) (upd H l (.lst ((hU ss).map V.str))))->mU xs H Q
theorem eq_(hc:X.calm=true):gn X (.builtin "sorted") mU:=by
 intro pins s σ H xs us Q I r h;let#[d,kvs,ss,rfl,hd,ek,bX,q]:=h;let#[u,rfl,ru]:=vals1 r;cases ru;apply dI_ bX (Rg (I.ok.hd hc) I (.inl hd) λvs s1 I1 r1=>⟨H,I1,?_,q⟩)
 have e:(kvs.map λkv=>kV kv.1)=ss.map V.str:=by
  rw[show (kvs.map λkv=>kV kv.1)=(kvs.map (·.1)).map kV by rw[cg];rfl,ek,cg];rfl
 rwa [e] at r1
inductive qZ (K:ai) (xs:ag) (H:Hp) (Q:VK):Prop
 |mk:∀(v d:Addr) (kvs:List (Key × V)) (ks:List (Key × Key)) (sh:List Bool),xs=[.ref v]->H v\tj v d->H d\.dK kvs->kvs=ks.map (λk:Key × Key=>(k.1,kV k.2))->Alike (ks.map λk=>[k.1,k.2]) sh->ks.length<64->(∀l H1 zs,aa H H1->H1 l=none->bR K H1 zs (a9 (ks.map λk=>[k.1,k.2]))->Q (.ref l) (upd H1 l (.lst zs)))->qZ K xs H Q
theorem fw_(hc:X.calm=true):gn X (.builtin "sorted") (qZ X.K):=by
 intro pins s σ H xs us Q I r h;let#[v,d,kvs,ks,sh,rfl,hv,hd,ek,al,bX,q]:=h;let#[u,rfl,ru]:=vals1 r;cases ru;apply UC (by rw[ak];exact bX) al (gp_ (I.ok.hd hc) I hv (.inl hd) λH1 ys vs s1 I1 sm r1 t=>⟨H1,ys,I1,r1,?_,λl zs n t' _=>q l H1 zs sm n t'⟩);subst ek
 have gen:∀(ks:List (Key × Key)) (ys:ag),jd X.K H1 ys (ks.map (λk:Key × Key=>(k.1,kV k.2)))->bR X.K H1 ys (ks.map λk=>[k.1,k.2]):=λks=>by
  induction ks with
  |nil=>
   intro ys t;cases t;exact .nil
  |cons k ks ih=>
   intro ys t;cases t with
   |cons h t=>exact .cons h (ih _ t)
 exact gen ks ys t
inductive rg (xs:ag) (H:Hp) (Q:VK):Prop
 |mk:∀d kvs,xs=[.ref d]->Rd H d (.dK kvs)->(∀l,H l=none->Q (.ref l) (upd H l (.lst (kvs.map λkv=>kV kv.1))))->rg xs H Q
theorem OH(hc:X.calm=true):gn X (.type "list") rg:=by
 intro pins s σ H xs us Q I r h;let#[d,kvs,rfl,hd,q]:=h;let#[u,rfl,ru]:=vals1 r;cases ru;let#[P,OK,S,ok,hp]:=Q8 I hd;let z:=(jN I.az hd).1;apply kdl_call S (I.ok.hd hc) ok (by rw[ak];exact z) λh' tk acc c k hD a=>?_;apply#[.ref s.heap.objs.size,_,I.laid (t':=tk) k (a_ _) (show ft X.prog X.w _ h' _ (.lst (kvs.map λkv=>kV kv.1)) from #[by rw[ak];exact z,acc.toList,c,Ji a hp,by rw[Array.toArray_toList];exact hD]),Z,q _ I.fresh]
theorem KV.eD{κ:Type}[DecidableEq κ]:∀{more:List (κ × V)} {rs:List (κ × Aa)} {kvs:List (κ × V)} {vs:List (κ × Aa)},KV more rs->KV kvs vs->KV (more.foldl (λacc kv=>putK acc kv.1 kv.2) kvs) (hY.eD vs rs):=λ{more rs kvs vs} h=>by
 induction h generalizing kvs vs with
 |nil=>exact λh=>h
 |@cons p q _ _ h _ ih=>
  intro h2;let#[k,y]:=p;let#[k',u]:=q;let#[h1,h3]:=h;have h1:k=k':=h1;subst h1;exact ih (h2.put k h3)
inductive m_ (K:ai) (xs:ag) (H:Hp) (Q:VK):Prop
 |mk:∀p ys kvs,xs=[.ref p]->H p\.lst ys->jd K H ys kvs->kvs.length<=1000->(∀l,H l=none->Q (.ref l) (upd H l (.dK (wo [] kvs))))->m_ K xs H Q
theorem xY(hc:X.calm=true):gn X (.type "dict") (m_ X.K):=by
 intro pins s σ H xs us Q I r h;let#[p,ys,kvs,rfl,hp,t,hz,q]:=h;let#[u,rfl,ru]:=vals1 r;cases ru;let#[z,its,n,rv,hl,ho]:=I.jy hp
 have gen:∀{ys:ag} {its:aj} {kvs:List (Key × V)},Vals ys its->jd X.K H ys kvs->∃ps,KV kvs ps/\ND (fh X.prog X.w) s.heap its ps:=λ{ys its kvs} rv t=>by
  induction t generalizing its with
  |nil=>
   cases rv;exact#[[],.nil,.nil]
  |@cons y p ys kvs h t ih=>
   cases rv with
   |cons r0 rv=>
    let#[ps,h1,h2]:=ih rv;let#[a,e,sq]:=h;subst e;cases r0;let#[tv,rt,it,_]:=I.tuple (fo.of sq);let#[key,x,e2,rk,rx]:=vals2 rt;subst e2;apply#[(p.1,x)::ps,Paired.cons (show p.1=p.1/\RelV p.2 x from #[Z,rx]) h1,Paired.cons (show ∃a' Dq,Value.ref a=.ref a'/\IsTup s.heap a' (List.toArray [Dq,x])/\(fh X.prog X.w).is p.1 Dq=true from #[a,key,Z,it,Ai rk]) h2]
 let#[ps,h1,h2]:=gen rv t;let lp:=KV.length h1;apply e0_ (knd:=fh X.prog X.w) (I.ok.hd hc) ho h2 Z1 λh' tk hd kp=>?_;apply#[.ref s.heap.objs.size,_,I.laid (t':=tk) kp (a_ _) (Hx ?_ (beq_eq_false_iff_ne.mpr (bJ (dR I.big))) (KV.eD h1 .nil) hd),Z,q _ I.fresh];have:=OU kvs [];have:=cX;simp only[List.length_nil] at *;show (wo [] kvs).length<=sizeLine;omega
theorem S8:∀{bs:List Bool} {vs:aj},Vals (bs.map V.bl) vs->vs=bs.map Value.bool
 |[],_,.nil=>rfl
 |b::bs,_,.cons h t=>by
  cases h;rw[S8 t];rfl
inductive CJ (K:ai) (g:List Bool->Bool) (xs:ag) (H:Hp) (Q:VK):Prop
 |mk:∀p bs,xs=[.ref p]->dX K H p (bs.map V.bl)->Q (.bl (g bs)) H->CJ K g xs H Q
theorem hT_(hc:X.calm=true):gn X (.builtin "all") (CJ X.K λbs=>bs.all id):=by
 intro pins s σ H xs us Q I r h;let#[p,bs,rfl,hp,q]:=h;let#[u,rfl,ru]:=vals1 r;cases ru;let#[its,rv,pl,z]:=I.list hp;obtain rfl:=S8 rv;let hl:=pl.isList;have lt:p<s.heap.objs.size:=by let#[_,e,_]:=hl;exact bz e
 apply call_all_walk (wpAny_pyIter_list hl ⟨s.heap.objs.size,[s.heap.objs.size,p],[s.heap.objs.size],(bs.map Value.bool).toArray.size,_,_,λi=>(bs[i]?).getD true,rfl,Walks.list (A:=X.A.in1) (I.ok.hd hc) _ p (dR lt) _,⟨⟨_,cz _ rfl,rfl,rfl⟩,hl.push _⟩,λi v s' Q' E' hP hQ=>?_,λh' tk hk=>?_⟩)
 ·have hP:(bs.map Value.bool).toArray[i]? = some v:=hP;simp only[List.getElem?_toArray,di] at hP;cases e:bs[i]? with
  |none=>rw[e] at hP;cases hP
  |some b=>
   have hQ:Q' ((bs[i]?).getD true) s':=hQ;rw[e] at hP hQ;cases hP;exact uw hQ
 have e:((List.range (bs.map Value.bool).toArray.size).all λi=>(bs[i]?).getD true)=bs.all id:=by
  rw[cj,ak];exact LSm.range_all bs
 rw[e];exact#[.bl _,H,I.kept (LSm.kept_iter hk),Z,q]
end L2
namespace Jp
open PySem PySem.SeqAt PyProof.Rows
open AutoSeq1 (wpAny_loadPart')
open MeetsSeq MeetsSeq2 MeetsSeq3 SeqRoads2
theorem Yl(l b:Addr)(xs ys:Array Aa)(n m:Nat)(dl db:Option Addr)(sl sb:Array (Option Aa))(hs:xs.size=ys.size)(e:Nat->Bool)(k:Nat) :
  ∀i:Nat,xs.size - i=k->Meets (Builtin.«list.__eq__.loop» #[[.ref l,.ref b,rawInt i,rawInt 3],[]])
   (λA R s=>(s.heap.get? l=some { cls:=.type "list",dict:=dl,data:=.seq xs n,slots:=sl }/\s.heap.get? b=some { cls:=.type "list",dict:=db,data:=.seq ys m,slots:=sb }) /\
    (∀j (h1:j<xs.size) (h2:j<ys.size),EqAt A.in1 s xs[j] ys[j] (e j))/\R (.ok (.ret (.bool (!((List.range xs.size).drop i).all e)))) s):=by
 induction k with
 |zero=>
  intro i hk prog w A R s ⟨⟨gl,gb⟩,he,h⟩;let#[hp,g,d,tk,os]:=s
  wp_walk using oV gl,oV gb
  rw[show xs[((i:Nat):Int).toNat]? = none by simp;omega,show ys[((i:Nat):Int).toNat]? = none by simp;omega];rw[show (List.range xs.size).drop i=[] by simp;omega] at h
  wp_walk using oV gl,oV gb
  apply (show R (.ok (.ret (.bool (xs.size != ys.size)))) _ from ?_);rw[show (xs.size != ys.size)=false by simp[hs]];exact h
 |succ k ih=>
  intro i hk prog w A R s ⟨⟨gl,gb⟩,he,h⟩;let#[hp,g,d,tk,os]:=s
  wp_walk using oV gl,oV gb
  have z1:i<xs.size:=by omega
  have z2:i<ys.size:=by omega
  have q1:xs[((i:Nat):Int).toNat]? = some xs[i]:=by simp[z1]
  have q2:ys[((i:Nat):Int).toNat]? = some ys[i]:=by simp[z2]
  rw[show (List.range xs.size).drop i=i::(List.range xs.size).drop (i+1) by simp[List.drop_eq_getElem_cons,z1],List.all_cons] at h;rw[q1,q2];apply ae (he i z1 z2 prog w _ _ ?_);cases c:e i with
  |true=>
   rw[c] at h
   wp_walk
   rw[show ((i:Int)+1)=((i+1:Nat):Int) by omega];apply#[plainId_quiet plain_eq_loop _,codeAny_builtin entry_eq_loop ?_];rw[Around.under_plainId plain_eq_loop _];exact ih (i+1) Z1 prog w A R _ #[#[gl,gb],he,by simpa using h]
  |false=>
   rw[c] at h
   wp_walk using oV gl,oV gb
   rw[q1,q2]
   wp_walk
   simpa using h
theorem hH_(l b:Addr)(xs ys:Array Aa)(n m:Nat)(dl db:Option Addr)(sl sb:Array (Option Aa))(hs:xs.size=ys.size)(e:Nat->Bool) :
  Meets (Builtin.«list.__ne__» #[[.ref l,.ref b],[]])
   (λA R s=>(s.heap.get? l=some { cls:=.type "list",dict:=dl,data:=.seq xs n,slots:=sl }/\s.heap.get? b=some { cls:=.type "list",dict:=db,data:=.seq ys m,slots:=sb }) /\
    (∀j (h1:j<xs.size) (h2:j<ys.size),EqAt A.in1 s xs[j] ys[j] (e j))/\R (.ok (.ret (.bool (!(List.range xs.size).all e)))) s):=by
 intro prog w A R s ⟨⟨gl,gb⟩,he,h⟩;let#[hp,g,d,tk,os]:=s;let f3:=AutoSeq1.sub_list_list;have no:¬(xs.size != ys.size)=true:=by simp[hs]
 wp_walk using oV gl,oV gb
 apply#[plainId_quiet plain_eq_loop _,codeAny_builtin entry_eq_loop ?_];rw[Around.under_plainId plain_eq_loop _];exact Yl l b xs ys n m dl db sl sb hs e _ 0 Z prog w A R _ #[#[gl,gb],he,by simpa using h]
theorem _O(l b:Addr)(xs ys:Array Aa)(n m:Nat)(dl db:Option Addr)(sl sb:Array (Option Aa))(hs:(xs.size != ys.size)=true) :
  Meets (Builtin.«list.__ne__» #[[.ref l,.ref b],[]])
   (λA R s=>(s.heap.get? l=some { cls:=.type "list",dict:=dl,data:=.seq xs n,slots:=sl }/\s.heap.get? b=some { cls:=.type "list",dict:=db,data:=.seq ys m,slots:=sb })/\R (.ok (.ret (.bool true))) s):=
 .of_wp λprog w A R s ⟨⟨gl,gb⟩,h⟩=>by
  let#[hp,g,d,tk,os]:=s;let f3:=AutoSeq1.sub_list_list
  wp_walk using oV gl,oV gb
  exact#[_,Z,h]
variable{b l:Addr}{xs ys:Array Aa}{E Q:Aa->Ab->Prop}{prog:Ad}{w:Ag}{A:Af}{s:Ab}
theorem oM{e:Nat->Bool}(hl:s.heap.IsList l xs)(hb:s.heap.IsList b ys)(hs:xs.size=ys.size)(hu:A.units<cLine)(he:∀j (h1:j<xs.size) (h2:j<ys.size),EqAt A.in1 s xs[j] ys[j] (e j))(h:Q (.bool (!(List.range xs.size).all e)) s):wpAny (model prog w) A (compareOp .NotEq (.ref l) (.ref b)) Q E s:=by
 let#[#[c1,d1,t1,l1],o1,k1,n1,z1]:=id hl;let#[#[c2,d2,t2,l2],o2,k2,n2,z2]:=id hb;simp only at k1 z1 k2 z2;subst k1 z1 k2 z2;exact richCompare_meets_room (op:=.NotEq) #[_,o1,Z] #[_,o2,Z] F.slot_list_ne F.entry_list_ne (F.args_list_ne_2 _ _) (hH_ l b xs ys n1 n2 d1 d2 l1 l2 hs e) #[#[o1,o2],he,show Value.bool (!(List.range xs.size).all e)≠Value.notImplemented/\Q (.bool (!(List.range xs.size).all e)) s from #[(λx=>nomatch x),h]] hu
theorem gO(hl:s.heap.IsList l xs)(hb:s.heap.IsList b ys)(hs:(xs.size != ys.size)=true)(hu:A.units<cLine)(h:Q (.bool true) s):wpAny (model prog w) A (compareOp .NotEq (.ref l) (.ref b)) Q E s:=by
 let#[#[c1,d1,t1,l1],o1,k1,n1,z1]:=id hl;let#[#[c2,d2,t2,l2],o2,k2,n2,z2]:=id hb;simp only at k1 z1 k2 z2;subst k1 z1 k2 z2;exact richCompare_meets_room (op:=.NotEq) #[_,o1,Z] #[_,o2,Z] F.slot_list_ne F.entry_list_ne (F.args_list_ne_2 _ _) (_O l b xs ys n1 n2 d1 d2 l1 l2 hs) #[#[o1,o2],show Value.bool true≠Value.notImplemented/\Q (.bool true) s from #[(λx=>nomatch x),h]] hu
end Jp
namespace L2
open PySem PySem.Spec PyProof.Rows PySem.W yc hY
abbrev Rp(D:Type):=Hp->V->D->Prop
structure t7 (X:Cx) (n:Nat) {D:Type} [DecidableEq D] (R:Rp D):Prop where
 eq:∀{pins:List (Addr × Obj)} {σ:St} {H:Hp} {s:Ab} {A:Af} {x y:V} {u v:Aa} {d e:D},Inv X pins σ H s->RelV x u->RelV y v->R H x d->R H y e->A.units+n<cLine->SeqAt.EqAt A s u v (decide (d=e))
 one:∀{pins:List (Addr × Obj)} {σ:St} {H:Hp} {s:Ab} {x:V} {d e:D},Inv X pins σ H s->R H x d->R H x e->d=e
def rS:Rp Str:=λ_ x d=>x=.str d
def r2(K:ai){D1 D2:Type}(R1:Rp D1)(R2:Rp D2):Rp (D1 × D2):=λH x d=>∃a u v,x=.ref a/\fo K H a [u,v]/\R1 H u d.1/\R2 H v d.2
def rL(K:ai){D:Type}(R:Rp D):Rp (List D):=λH x ds=>∃a xs,x=.ref a/\dX K H a xs/\Paired (R H) xs ds
variable{X:Cx}
theorem gW:t7 X 0 rS where
 eq:=λ{pins σ H s A x y u v d e} I ru rv hx hy hu=>by
  have hx:x=.str d:=hx;have hy:y=.str e:=hy;subst hx;subst hy;let q:=Q4 (A:=A) (s:=s) ru rv Z Z
  have e2:MO (.str d) (.str e)=decide (d=e):=by
   show (d == e)=_;by_cases h:d=e
   ·subst h;simp
   simp[h]
  rwa [e2] at q
 one:=λ{pins σ H s x d e} I hx hy=>by
  have hx:x=.str d:=hx;have hy:x=.str e:=hy;rw[hx] at hy;exact V.str.inj hy
theorem AU{h:Heap}{a:Addr}{its:Array Aa}(t:IsTup h a its):h.IsTuple a its:=t
variable{n:Nat}
theorem E_{m:Nat}{D1 D2:Type}[DecidableEq D1][DecidableEq D2]{R1:Rp D1}{R2:Rp D2}(c1:t7 X n R1)(c2:t7 X m R2):t7 X (max n m+1) (r2 X.K R1 R2) where
 one:=λ{pins σ H s x d e} I hx hy=>by
  let#[a,u,v,rfl,t,q1,q2]:=hx;let#[b,u',v',e0,t',Gi,Gh]:=hy;cases e0;let e1:=I.dM t t';cases e1;exact Prod.ext (c1.one I q1 Gi) (c2.one I q2 Gh)
 eq:=λ{pins σ H s A x y u v d e} I ru rv hx hy hu=>by
  let vI:=hx;let hy':=hy;let#[a,x1,x2,rfl,t,q1,q2]:=hx;let#[b,y1,y2,rfl,t',Gi,Gh]:=hy;cases ru;cases rv;by_cases xG:a=b
  ·subst xG;let e1:=I.dM t t';cases e1;have:d=e:=Prod.ext (c1.one I q1 Gi) (c2.one I q2 Gh);rw[c_ this];exact SeqAt.EqAt.same _
  let#[its,r,it,_]:=I.tuple t;let#[its',r',ZM,_]:=I.tuple t';let#[u1,u2,rfl,r1,r2]:=vals2 r;let#[w1,w2,rfl,W5,WY]:=vals2 r'
  let key:=SeqAt.EqAt.of_refs xG (SeqAt.RcAt.tuples (A:=A) (s:=s) (e:=λj=>if j=0 then decide (d.1=e.1) else decide (d.2=e.2)) (AU it) (AU ZM) Z1 λj h1 h2=>by
   match j,h1,h2 with
   |0,_,_=>exact c1.eq I r1 W5 q1 Gi (by show A.units+1+n<cLine;omega)
   |1,_,_=>exact c2.eq I r2 WY q2 Gh (by show A.units+1+m<cLine;omega))
  have e3:((List.range (min [u1,u2].toArray.size [w1,w2].toArray.size)).all (λj=>if j=0 then decide (d.1=e.1) else decide (d.2=e.2))&&[u1,u2].toArray.size == [w1,w2].toArray.size)=decide (d=e):=by
   show (decide (d.1=e.1)&&(decide (d.2=e.2)&&true)&&true)=_;by_cases h1:d.1=e.1
   ·by_cases h2:d.2=e.2
    ·have:d=e:=Prod.ext h1 h2;simp[this]
    have:¬d=e:=λz=>h2 (by rw[z]);simp[h1,h2,this]
   have:¬d=e:=λz=>h1 (by rw[z]);simp[h1,this]
  rw[e3] at key;exact key
theorem dS{α β:Type}{F:α->β->Prop}:∀{l:List α} {m:List β},Paired F l m->∀(i:Nat) (h1:i<l.length) (h2:i<m.length),F l[i] m[i]
 |_,_,.cons h t,0,_,_=>h
 |_,_,.cons h t,i+1,h1,h2=>dS t i ⇑h1 ⇑h2
theorem OY{D:Type}[DecidableEq D]:∀{ds es:List D},ds.length=es.length->((List.range ds.length).all λj=>decide (ds[j]? = es[j]?))=decide (ds=es):=λ{ds es} hl=>by
 by_cases h:ds=es
 ·subst h;simp
 rw[eF h]
 have:∃i,i<ds.length/\ds[i]?≠es[i]?:=by
  apply Classical.byContradiction λhn=>h ?_;apply List.ext_getElem? ?_;intro i;by_cases hi:i<ds.length
  ·exact Classical.byContradiction λq=>hn #[i,hi,q]
  rw[List.getElem?_eq_none Z1,List.getElem?_eq_none Z1]
 let#[i,hi,q]:=this;rw[List.all_eq_false];exact#[i,by simpa using hi,by simpa using q]
variable{pins:List (Addr × Obj)}{σ:St}{s:Ab}{A:Af}
theorem SM{D:Type}[DecidableEq D]{R:Rp D}(c:t7 X n R){H:Hp}(I:Inv X pins σ H s){xs ys:ag}{us vs:aj}{ds es:List D}(ru:Vals xs us)(rv:Vals ys vs)(hx:Paired (R H) xs ds)(hy:Paired (R H) ys es)(hu:A.units+n<cLine) :
  ∀j (h1:j<us.toArray.size) (h2:j<vs.toArray.size),SeqAt.EqAt A s us.toArray[j] vs.toArray[j] (decide (ds[j]? = es[j]?)):=λj h1 h2=>by
 let l1:=ru.length;let l2:=rv.length;let l3:=br hx;let l4:=br hy;simp only[cj] at h1 h2;let q:=c.eq (A:=A) I (dS ru j Z1 h1) (dS rv j Z1 h2) (dS hx j Z1 Z1) (dS hy j Z1 Z1) hu
 have e:decide (ds[j]? = es[j]?)=decide (ds[j]' Z1=es[j]' Z1):=by
  rw[aP Z1,aP Z1];by_cases z:ds[j]' Z1=es[j]' Z1
  ·simp[z]
  simp[z]
 rw[e];exact q
def CH{D:Type}[DecidableEq D](R:Rp D)(neg:Bool):V->V->Hp->VK->Prop:=λx y H Q=>∃d e,R H x d/\R H y e/\Q (.bl (if neg then !decide (d=e) else decide (d=e))) H
theorem Yt{D:Type}[DecidableEq D]{R:Rp D}(c:t7 X n R)(hu:X.A.units+n+1<cLine):dJ X (compareOp .Eq) (CH (rL X.K R) false):=by
 intro pins s σ H x y v u Q I rx ry h;let#[d,e,#[a,xs,rfl,t,q],#[b,ys,rfl,t',q'],hq]:=h;cases rx;cases ry;let#[us,r,pl,_]:=I.list t;let#[vs,r',oH,_]:=I.list t';let l1:=r.length;let l2:=r'.length;let l3:=br q;let l4:=br q';by_cases hl:d.length=e.length
 ·apply SeqAt.eq_listAt pl.isList oH.isList (by simp only[cj];omega) Z1 (SM c I r r' q q' (A:=X.A.in1) (by show X.A.units+1+n<cLine;omega)) #[.bl _,H,I,Z,?_];rw[show us.toArray.size=d.length by simp only[cj];omega,OY hl];exact hq
 apply SeqAt.eq_list_lengthsAt pl.isList oH.isList (by simp only[cj,bne_iff_ne];omega) Z1 #[.bl _,H,I,Z,?_];have hq:Q (.bl (decide (d=e))) H:=hq;rwa [eF (λz=>hl (by rw[z]))] at hq
theorem Zr{D:Type}[DecidableEq D]{R:Rp D}(c:t7 X n R)(hu:X.A.units+n+1<cLine):dJ X (compareOp .NotEq) (CH (rL X.K R) true):=by
 intro pins s σ H x y v u Q I rx ry h;let#[d,e,#[a,xs,rfl,t,q],#[b,ys,rfl,t',q'],hq]:=h;cases rx;cases ry;let#[us,r,pl,_]:=I.list t;let#[vs,r',oH,_]:=I.list t';let l1:=r.length;let l2:=r'.length;let l3:=br q;let l4:=br q';have hq:Q (.bl (!decide (d=e))) H:=hq;by_cases hl:d.length=e.length
 ·apply Jp.oM pl.isList oH.isList (by simp only[cj];omega) Z1 (SM c I r r' q q' (A:=X.A.in1) (by show X.A.units+1+n<cLine;omega)) #[.bl _,H,I,Z,?_];rw[show us.toArray.size=d.length by simp only[cj];omega,OY hl];exact hq
 apply Jp.gO pl.isList oH.isList (by simp only[cj,bne_iff_ne];omega) Z1 #[.bl _,H,I,Z,?_];rwa [eF (λz=>hl (by rw[z]))] at hq
def yY(K:ai){D:Type}[DecidableEq D](R:Rp D)(neg:Bool):V->V->Hp->VK->Prop:=λx y H Q=>∃d es,R H x d/\rL K R H y es/\Q (.bl (if neg then !decide (d∈es) else decide (d∈es))) H
theorem Mw{D:Type}[DecidableEq D]{R:Rp D}(c:t7 X n R){H:Hp}(I:Inv X pins σ H s){x:V}{u:Aa}{d:D}(ru:RelV x u)(hx:R H x d)(hu:A.units+n<cLine):∀{ys:ag} {vs:aj} {es:List D},Vals ys vs->Paired (R H) ys es->
  ∃f:Aa->Bool,(∀w∈vs,SeqAt.EqAt A s w u (f w))/\vs.any f=decide (d∈es):=λ{ys vs es} rv hy=>by
 let f:Aa->Bool:=λw=>@decide (∃y e,RelV y w/\R H y e/\e=d) (Classical.propDecidable _)
 have sound:∀y w e,RelV y w->R H y e->f w=decide (e=d):=λy w e h1 h2=>by
  by_cases z:e=d
  ·rw[c_ z];exact @c_ _ (Classical.propDecidable _) #[y,e,h1,h2,z]
  rw[eF z];apply @eF _ (Classical.propDecidable _) λ⟨y',e',g1,g2,g3⟩=>z ?_;have:y'=y:=RelV.inj g1 h1;subst this;rw[<- g3];exact c.one I h2 g2
 apply#[f,?_,?_]
 ·induction rv generalizing es with
  |nil=>exact λw hw=>nomatch hw
  |cons h t ih=>
   cases hy with
   |cons g t'=>
    intro w hw;rcases bU.mp hw with rfl|hw
    ·rw[sound _ _ _ h g];exact c.eq I h ru g hx hu
    exact ih t' w hw
 induction rv generalizing es with
 |nil=>
  cases hy;simp
 |cons h t ih=>
  cases hy with
  |@cons _ e _ es g t'=>
   rw[List.any_cons,ih t',sound _ _ _ h g];by_cases z:e=d
   ·subst z;simp
   by_cases z2:d∈es
   ·simp[z2]
   have:¬d∈e::es:=λq=>by
    rcases bU.mp q with q|q
    ·exact z q.symm
    exact z2 q
   rw[eF z,eF z2,eF this];rfl
theorem MB{D:Type}[DecidableEq D]{R:Rp D}(c:t7 X n R)(hu:X.A.units+n+1<cLine):dJ X (compareOp .In) (yY X.K R false):=by
 intro pins s σ H x y v u Q I rx ry h;let#[d,es,hx,#[a,ys,rfl,t,q],hq]:=h;cases ry;let#[us,r,pl,_]:=I.list t;let#[f,h1,h2]:=Mw c I (A:=X.A.in1) rx hx (by show X.A.units+1+n<cLine;omega) r q;apply SeqAt.in_listAt f pl.isList (λw hw=>h1 w ⇑hw) #[.bl _,H,I,Z,?_];rw[show us.toArray.any f=us.any f by simp,h2];exact hq
theorem TY{D:Type}[DecidableEq D]{R:Rp D}(c:t7 X n R)(hu:X.A.units+n+1<cLine):dJ X (compareOp .NotIn) (yY X.K R true):=by
 intro pins s σ H x y v u Q I rx ry h;let#[d,es,hx,#[a,ys,rfl,t,q],hq]:=h;cases ry;let#[us,r,pl,_]:=I.list t;let#[f,h1,h2]:=Mw c I (A:=X.A.in1) rx hx (by show X.A.units+1+n<cLine;omega) r q;apply SeqAt.notIn_listAt f pl.isList (λw hw=>h1 w ⇑hw) #[.bl _,H,I,Z,?_];rw[show us.toArray.any f=us.any f by simp,h2];exact hq
inductive CF (K:ai) (xs:ag) (H:Hp) (Q:VK):Prop
 |mk:∀x T t b,xs=[x,.ty T]->fG K H x t->PySem.W.kitOne K t (.type T)\b->Q (.bl b) H->CF K xs H Q
theorem jR:gn X (.builtin "isinstance") (CF X.K):=by
 intro pins s σ H xs us Q I r h;let#[x,T,t,b,rfl,ty,e,q]:=h;let#[u,w',rfl,ru,i9]:=vals2 r;cases (show w'=Value.type T from i9);exact Ub I ru ty e λtk=>#[.bl b,H,I.tok tk,Z,q]
inductive UH (x:V) (y:V) (H:Hp) (Q:VK):Prop
 |mk:∀i j,x=.str i->y=.str j->Q (.bl (!decide (j.cps.toList<i.cps.toList))) H->UH x y H Q
theorem TB:dJ X (compareOp .LtE) UH:=by
 intro pins s σ H x y v u Q I rx ry h;let#[i,j,rfl,rfl,q]:=h;let#[t,rfl]:=rx;let#[t',rfl]:=ry;exact PySem.P.le_str ⟨.bl _,H,I,rfl,q⟩
theorem ZY{prog:Ad}{w':Ag}{E:Aa->Ab->Prop}(l:Addr)(its:Array Aa)(n:Nat)(k:Int)(t:Tok)(w:Aa)(h1:¬(!Builtin.List.listFitsIndex k)=true)(h2:its.size<=sizeLine){Q:Aa->Ab->Prop}(e:s.heap.get? l=some { cls:=.type "list",data:=.seq its n })(f:Array Aa->Array Aa)(hf:f=λxs:Array Aa=>let k:=if k<0 then (k+((xs.size:Nat):Int)).toNat else min k.toNat xs.size;(xs.extract 0 k).push w++xs.extract k)(q:Q .none { s with heap:=s.heap.update l (Obj.mapSeq f) }):wpAny (model prog w') A (call (.builtin "list.insert") [.ref l,.int k t,w]) Q E s:=by
 subst hf;let hm:=@PySem.AutoListH.list_insert_list_int_val_1 l its n k t w h1 h2;have ty:s.TypeIs (.ref l) "list":=⟨_,e,rfl⟩;exact wpAny_call (codeAny_call_builtin F.slot_list_insert.plain F.entry_list_insert (F.slot_list_insert.check _ _ _ _ _ _ _ _ ty (F.args_list_insert_3 _ _ _) (hm prog w' A (wants Q E) s ⟨e,q⟩)))
inductive mV (x:V) (vs:ag) (H:Hp) (Q:VK):Prop
 |mk:∀(l:Addr) (k:Nat) (xs:ag) (y:V),x=.ref l->vs=[.int k,y]->H l\.lst xs->k<=xs.length->xs.length<100000->Q .non (upd H l (.lst (xs.take k++y::xs.drop k)))->mV x vs H Q
theorem Tv:Jn X "list.insert" mV:=by
 intro pins s σ H x vs v us Q I rx rv h;let#[l,k,xs,y,rfl,rfl,hH,hk,hz,q]:=h;cases rx;let#[u,w,rfl,#[t,rfl],i9]:=rv.two;let#[z,its,n,r,hl,e]:=I.jy hH;let sz:=cX
 have fit:Builtin.List.listFitsIndex (k:Int)=true:=by
  unfold Builtin.List.listFitsIndex;rw[c_ Z1,c_ Z1];rfl
 apply ZY l its.toArray n (k:Int) t w (by rw[fit];exact gE) (by rw[cj];omega) e _ rfl ?_;apply⟨.non,_,I.vA (its':=its.take k++w::its.drop k) (f:=λxs=>let k':=if (k:Int)<0 then ((k:Int)+((xs.size:Nat):Int)).toNat else min (k:Int).toNat xs.size;(xs.extract 0 k').push w++xs.extract k') hH e ?_ (Vals.append (r.take k) (.cons i9 (r.drop k))) ?_,rfl,q⟩
 ·have e1:(if (k:Int)<0 then ((k:Int)+((its.toArray.size:Nat):Int)).toNat else min (k:Int).toNat its.toArray.size)=k:=by
   rw[aA Z1];simp;omega
  dsimp only;rw[e1];apply Array.ext' ?_;simp[tL]
 rw[d9,jm,dH,x6];omega
inductive pX (mk:Addr->Addr->HO) (Q:VK) (x:V) (H1:Hp):Prop
 |mk:∀d kvs,x=.ref d->H1 d\.dK kvs->(∀v,H1 v=none->Q (.ref v) (upd H1 v (mk v d)))->pX mk Q x H1
def wK(mk:Addr->Addr->HO)(td:TE):TE:=λσ H Q=>td σ H λx H1=>pX mk Q x H1
variable{H:Hp}{d:Addr}
theorem Sl{cls:String}(I:Inv X pins σ H s)(φ:Heap->Prop)(_y:φ (s.heap.push { cls:=.type cls,data:=.fields (List.toArray [.ref d]) }))(hs:∀h1 h2:Heap,φ h1->(∀o,h1.get? s.heap.objs.size\o->h2.get? s.heap.objs.size\o)->φ h2) :
  Inv X pins σ (upd H s.heap.objs.size (.ext φ)) { s with heap:=s.heap.push { cls:=.type cls,data:=.fields (List.toArray [.ref d]) } }:=
 I.laid (t':=s.toks) (λ_ _ q=>aU _ q) (a_ _) #[_y,#[_,cz _ Z],hs]
variable{o:Expr}{td:TE}{apos cO:Pos}
theorem IJ(ho:PE X o td)(gS:attributeBase o "items" X.env (eval o X.env)=eval o X.env:=by rfl)(gR:(apos.endLine == cO.line)=true:=by rfl):PE X (.Call (.Attribute o "items" apos) [] [] cO) (wK tj td):=by
 intro pins s σ H Q I h;apply wpAny_Call_method0_late gS gR (aO (ho pins s σ H _ I h) λv s1 ⟨x,H1,I1,r1,d,kvs,e,hd,q⟩=>?_);subst e;cases r1;let#[t1,t2,t3]:=Re I1 (.inl #[kvs,.inl hd]);let#[_,_,vs,rel,dd]:=EN I1.az hd;apply#["dict","dict.items",PySem.F.plainAttrs_dict,PySem.F.slot_dict_items,PySem.F.type_dict_items,t1,t2,Calls.callWith_builtin Z (PySem.evalArgs_none ?_)];apply call_meetsIn PySem.F.slot_dict_items t1 PySem.F.entry_dict_items (PySem.F.args_dict_items_1 _) (meets_dict_items (fh X.prog X.w) d t3) #[#[vs,dd],?_];exact#[.ref _,_,Sl I1 _ #[_,cz _ Z,Z,Z] λh1 h2 ⟨o,e,r⟩ k=>#[o,k o e,r],Z,q _ I1.fresh]
theorem NW(ho:PE X o td)(gS:attributeBase o "values" X.env (eval o X.env)=eval o X.env:=by rfl)(gR:(apos.endLine == cO.line)=true:=by rfl):PE X (.Call (.Attribute o "values" apos) [] [] cO) (wK uC td):=by
 intro pins s σ H Q I h;apply wpAny_Call_method0_late gS gR (aO (ho pins s σ H _ I h) λv s1 ⟨x,H1,I1,r1,d,kvs,e,hd,q⟩=>?_);subst e;cases r1;let#[t1,t2,t3]:=Re I1 (.inl #[kvs,.inl hd]);let#[_,_,vs,rel,dd]:=EN I1.az hd;apply#["dict","dict.values",PySem.F.plainAttrs_dict,PySem.F.slot_dict_values,PySem.F.type_dict_values,t1,t2,Calls.callWith_builtin Z (PySem.evalArgs_none ?_)];apply call_meetsIn PySem.F.slot_dict_values t1 PySem.F.entry_dict_values (PySem.F.args_dict_values_1 _) (meets_dict_values (fh X.prog X.w) d t3) #[#[vs,dd],?_];exact#[.ref _,_,Sl I1 _ #[_,cz _ Z,Z,Z] λh1 h2 ⟨o,e,r⟩ k=>#[o,k o e,r],Z,q _ I1.fresh]
variable{kvs:List (Key × V)}
theorem Inv.freeze(I:Inv X pins σ H s)(h:H d\.dK kvs):∃o,s.heap.get? d\o/\Inv X pins σ (upd H d (.frz o (.dK kvs))) s:=by
 let#[z,hd,vs,rel,dd]:=EN I.az h;let#[o,es,ep,ho,r]:=id dd;have other:∀{b u},H b\u->u≠.dK kvs->upd H d (.frz o (.dK kvs)) b\u:=λ{b u} e ne=>by rw[aw (bK e h ne)];exact e
 apply#[o,ho,I.un (h':=s.heap) (t':=s.toks) #[λb u q _ _ _=>q,λb u q _ _ _=>#[u.slots,q],λb u q n _=>?_,λb u q _=>#[u,q],λb xs q=>other q Z2,λb u v q=>other q Z2,λb ps q=>#[#[],by rw[Array.append_empty];exact other q Z2]] λb u q=>?_]
 ·by_cases e:b=d
  ·subst e;rw[h] at n;cases n
  rw[aw e];exact n
 by_cases e:b=d
 ·subst e;rw[ax] at q;cases q;exact#[ho,z,hd,vs,rel,dd]
 rw[aw e] at q;exact (I.az b u q).eg (λc v _ z=>z) (λc z=>other z Z2) λc xs z=>other z Z2
variable{o:Obj}
theorem Inv.pU(I:Inv X pins σ H s)(h:H d\.frz o (.dK kvs))(h0:∀o u,X.j7 d≠some (.frz o u)):Inv X pins σ (upd H d (.dK kvs)) s:=by
 have other:∀{b u},H b\u->(∀o v,u≠.frz o v)->upd H d (.dK kvs) b\u:=λ{b u} e ne=>by rw[aw (bK e h (ne _ _))];exact e
 have nu:∀{b},H b=none->upd H d (.dK kvs) b=none:=λ{b} e=>by
  rw[aw (λz=>by subst z;rw[h] at e;cases e)];exact e
 apply#[I.ok,I.os,I.bare,#[I.base.keep,I.base.slot,λb u q n hx=>nu (I.base.free b u q n hx),I.base.there,λb xs q=>other (I.base.gN b xs q) Z2,λb u v q=>?_,λb ps q=>?_],I.loc,I.cell,nu I.free,λx c e=>nu (I.d0 x c e),λp hp=>?_,λb u q=>?_,I.len]
 ·have:=I.base.gU b u v q;rw[aw (λz=>by subst z;exact h0 _ _ q)];exact this
 ·let#[more,e]:=I.base.ia b ps q;exact#[more,other e Z2]
 ·let#[a1,a2,a3]:=I.pin p hp;exact#[a1,nu a2,a3]
 by_cases e:b=d
 ·subst e;rw[ax] at q;cases q;let#[ho,z,hd,vs,rel,dd]:=I.az b _ h;exact#[z,hd,vs,rel,dd]
 rw[aw e] at q;exact (I.az b u q).eg (λc v _ z=>z) (λc z=>other z Z2) λc xs z=>other z Z2
theorem TM{es:Array DictEntry}{ep:Nat}(I:Inv X pins σ H s)(h:H d\.frz o (.dK kvs))(ho:o.data=.dict es ep):∃vs,KV kvs vs/\s.heap.DictAt (fh X.prog X.w) d vs ep:=by
 let#[e,z,hd,vs,rel,o',Hm,Hn,e',c',d',r]:=I.az d _ h;rw[e] at e';cases e';rw[ho] at d';cases d';exact#[vs,rel,o,es,e,c',ho,r]
theorem Mq{κ:Type}{kvs:List (κ × V)}{vs:List (κ × Aa)}(r:KV kvs vs):∀(i:Nat) {k:κ} {x:V},kvs[i]? = some (k,x)->∃u,vs[i]? = some (k,u)/\RelV x u:=by
 induction r with
 |nil=>intro i k x e;simp at e
 |@cons p q _ _ h _ ih=>
  intro i k x e;cases i with
  |zero=>
   have e:p=(k,x):=⇑e
   subst e;apply#[q.2,?_,h.2];rw[List.getElem?_cons_zero];have h1:k=q.1:=h.1;rw[h1]
  |succ i=>exact ih i ⇑e
def Pn(x:Str):It:=#[λi _=>i<x.cps.size,λi H v H'=>H'=H/\∃c,x.cps[i]? = some c/\v=.str ⟨(List.toArray [c])⟩,λi _=>x.cps.size<=i]
variable{P:Ad}{w:Ag}{K:ai}{tg:Expr}
theorem fE_(it:Addr)(x:Str)(t:Tok):Turn P w K tg (Pn x) [it] it (λi h=>i<=x.cps.size/\h.IsStrIter it "str_ascii_iterator" x t i) where
 mem:=by simp
 obj:=λi h st b hb=>by
  obtain rfl:b=it:=⇑hb
  let#[o,e,c,d]:=st.2;exact#[o,e,λv z=>by rw[d] at z;cases z]
 keep:=λi h h' st k=>#[st.1,let #[o,ho,r]:=st.2;#[o,k it Z2 o ho,r]]
 item:=by
  intro X hP hw hK hc i pins s σ H E I hf st hg;subst hP hw hK;have hg:i<x.cps.size:=hg;let#[f0,f1,f2,f3,f4,f5]:=hf it Z2;apply wpAny_pyNext_ascii_item st.2 (c:=x.cps[i]) (by simp[hg]) λh' fw sb=>?_;have I1:Inv X pins σ H { s with heap:=h',toks:=s.toks+1 }:=I.turned (t':=s.toks+1) (λb o hb e=>(sb.2 b hb).trans e) f0 f1 f3 f4 f5;let#[o',e,c,dd]:=id fw;exact#[_,Z,GJ (s:={ s with heap:=h',toks:=s.toks+1 }) e c dd (by decide) #[.str ⟨#[x.cps[i]]⟩,H,I1,#[_,Z],#[Z,_,by simp[hg],Z],#[hg,fw],λb hb=>(hf b hb).1]]
 done:=by
  intro X hP hw hK hc i pins s σ H E I hf st hg;subst hP hw hK;have hg:x.cps.size<=i:=hg;let#[f0,f1,f2,f3,f4,f5]:=hf it Z2;exact wpAny_pyNext_ascii_end (I.ok.hd hc) st.2 (by simp[hg]) λh' eb=>#[Z,I.turned (t':=s.toks) (λb o hb e=>eb b o hb e) f0 f1 f3 f4 f5]
 self:=λ_ _ _ _ _ st h=>wpAny_pyIter_striter_ascii st.2 h
theorem gQ_(it:Addr)(x:Str)(t:Tok):Turn P w K tg (Pn x) [it] it (λi h=>i<=x.cps.size/\h.IsStrIter it "str_iterator" x t i) where
 mem:=by simp
 obj:=λi h st b hb=>by
  obtain rfl:b=it:=⇑hb
  let#[o,e,c,d]:=st.2;exact#[o,e,λv z=>by rw[d] at z;cases z]
 keep:=λi h h' st k=>#[st.1,let #[o,ho,r]:=st.2;#[o,k it Z2 o ho,r]]
 item:=by
  intro X hP hw hK hc i pins s σ H E I hf st hg;subst hP hw hK;have hg:i<x.cps.size:=hg;let#[f0,f1,f2,f3,f4,f5]:=hf it Z2;apply wpAny_pyNext_wide_item st.2 (c:=x.cps[i]) (by simp[hg]) λh' fw sb=>?_;have I1:Inv X pins σ H { s with heap:=h',toks:=s.toks+1 }:=I.turned (t':=s.toks+1) (λb o hb e=>(sb.2 b hb).trans e) f0 f1 f3 f4 f5;let#[o',e,c,dd]:=id fw;exact#[_,Z,GJ (s:={ s with heap:=h',toks:=s.toks+1 }) e c dd (by decide) #[.str ⟨#[x.cps[i]]⟩,H,I1,#[_,Z],#[Z,_,by simp[hg],Z],#[hg,fw],λb hb=>(hf b hb).1]]
 done:=by
  intro X hP hw hK hc i pins s σ H E I hf st hg;subst hP hw hK;have hg:x.cps.size<=i:=hg;let#[f0,f1,f2,f3,f4,f5]:=hf it Z2;exact wpAny_pyNext_wide_end (I.ok.hd hc) st.2 (by simp[hg]) λh' eb=>#[Z,I.turned (t':=s.toks) (λb o hb e=>eb b o hb e) f0 f1 f3 f4 f5]
 self:=λ_ _ _ _ _ st h=>wpAny_pyIter_striter_wide st.2 h
inductive xr (R:It->Hp->Prop) (v:V) (H1:Hp):Prop
 |mk:∀x,v=.str x->R (Pn x) H1->xr R v H1
def Le(tl:TE):TI:=λσ H R=>tl σ H λv H1=>xr R v H1
theorem Zm{l:Expr}{tl:TE}(hl:PE X l tl):PI X tg l (Le tl):=by
 intro pins s σ H R I h;apply aO (hl pins s σ H _ I h) λv s1 ⟨y,H1,I1,r1,x,e,q⟩=>?_;subst e;let#[t,rfl]:=r1
 have fp:∀b∈[s1.heap.objs.size],dj X pins H1 b:=λb hb=>by
  obtain rfl:b=s1.heap.objs.size:=⇑hb
  exact I1.jH (a_ _) (I1.az.fresh (a_ _))
 cases ha:x.cps.all (· < 128)
 ·apply wpAny_pyIter_wide ha ?_;exact#[s1.heap.objs.size,[s1.heap.objs.size],_,_,H1,Z,I1.kept (t':=s1.toks) λb o e=>aU _ e,gQ_ _ x t,#[gM _,_,cz _ Z,Z,Z],fp,q]
 apply wpAny_pyIter_ascii ha ?_;exact#[s1.heap.objs.size,[s1.heap.objs.size],_,_,H1,Z,I1.kept (t':=s1.toks) λb o e=>aU _ e,fE_ _ x t,#[gM _,_,cz _ Z,Z,Z],fp,q]
theorem Qk{f:Aa->Aa->Sem Aa}(r:ai->R2)(h:dJ X f (r X.K))(hK:X.K=K:=by rfl):dJ X f (r K):=by
 subst hK;exact h
theorem xS{f:Aa}(r:ai->ag->Hp->VK->Prop)(h:gn X f (r X.K))(hK:X.K=K:=by rfl):gn X f (r K):=by
 subst hK;exact h
theorem ug(r:ai->R2)(h:BL X (r X.K))(hK:X.K=K:=by rfl):BL X (r K):=by
 subst hK;exact h
theorem AM{N:af}{scope:Scope}{fp:au}{es:List Expr}{k:Nat}{pos:Pos}{t:AY}(h:FM (hW X N scope fp s H) es t)(hc:X.calm=true:=by rfl)(hn:(assignEach es (hW X N scope fp s H).env).length=n:=by rfl)(zx:(assignEach es (hW X N scope fp s H).env).findIdx? (·.1)=none:=by rfl):PG (hW X N scope fp s H) (.Tuple es k pos) (gA X.K n t):=oU (X:=hW X N scope fp s H) hc h hn zx
end L2
abbrev xN:PySem.Str:="_law_found"
abbrev Al:PySem.Str:="ways_by_name"
abbrev uB:PySem.Str:="_law_ties_here"
abbrev xM:PySem.Str:="_law_script"
abbrev Bo:PySem.Str:="greatest_divisor"
abbrev uA:PySem.Str:="_law_digit"
abbrev jZ:PySem.Str:="multiple_of_strengths"
abbrev Bn:PySem.Str:="neighbours_by_hand"
abbrev sX:PySem.Str:="_law_piece"
abbrev kC:PySem.Str:="_law_pieces_here"
abbrev uz:PySem.Str:="strength_by_hand"
abbrev pC:PySem.Str:="weight_by_name"
abbrev pH:PySem.Str:="ahead_by_hands"
abbrev jg:PySem.Str:="_law_hands_here"
abbrev gB:PySem.Str:="_law_state"
abbrev jM:PySem.Str:="exits_by_place"
abbrev tW:List PySem.Str:=[jg,kC,uB,"_law_spot","_law_limit_here","_law_moves_here"]
abbrev om:List PySem.Str:=[jg,kC,"_law_spot","_law_limit_here"]
abbrev nV:List PySem.Str:=["goods","placed"]
abbrev fW:List PySem.Str:=["thing"]
abbrev vZ:List PySem.Str:=[gB,"_law_base"]
abbrev md:List PySem.Str:=["one","other"]
abbrev nU:List PySem.Str:=["self","thing"]
abbrev tV:List PySem.Str:=[jg,kC,"_law_layers_here","_law_limit_here"]
abbrev oj:List PySem.Str:=[gB,jg,kC]
abbrev Bl:List PySem.Str:=["_law_name_here","_law_strength"]
abbrev xP:List PySem.Str:=["name","weight","ways"]
abbrev oi:List PySem.Str:=[kC,uB,"_law_spot"]
abbrev tU:List PySem.Str:=[kC,uB,"_law_spot","_law_most"]
abbrev tT:List PySem.Str:=[gB,"_law_goods","_law_names","_law_layers_here"]
abbrev oh:List PySem.Str:=["_law_name_here","_law_weight","_law_ways"]
abbrev jX:List PySem.Str:=["goods","stand","limit","most"]
abbrev tS:List PySem.Str:=[jg,kC,"_law_spot"]
abbrev vY:List PySem.Str:=["self","hand"]
abbrev xK:List PySem.Str:=["goods","stand"]
abbrev x_:List PySem.Str:=["_law_spot",jg,"_law_limit_here",kC]
abbrev tR:List PySem.Str:=[gB,uB,"_law_most"]
abbrev tQ:List PySem.Str:=["_law_told","_law_due_here","_law_parts"]
abbrev jW:List PySem.Str:=["thing","least","most"]
abbrev jV:List PySem.Str:=["self","one","other"]
abbrev tP:List PySem.Str:=["_law_one","_law_later","_law_move"]
abbrev og:List PySem.Str:=["goods","hands","limit"]
abbrev oR:List PySem.Str:=["self"]
abbrev Bp:List PySem.Str:=["self","hands"]
namespace Ev
open PySem L2
def top(i:Nat):Stmt:=PySem.Challenge.pw_evenpieces_k67_fewest_moves.main.body.getD i (.Pass #[0,0,0,0])
abbrev yU:Stmt:=top 12
abbrev lu:Stmt:=top 14
abbrev qI:Stmt:=top 15
abbrev NA:Stmt:=top 16
abbrev qG:Stmt:=top 17
abbrev Nv:Stmt:=top 18
abbrev qR:Stmt:=top 45
abbrev yT:Stmt:=top 46
abbrev qB:Stmt:=top 47
abbrev qH:Stmt:=top 48
abbrev oz:Stmt:=top 49
def zg(a b:Str):Bool:=decide (a.cps.toList<b.cps.toList)
def aH(a b:Str):Str × Str:=if zg a b=true then (a,b) else (b,a)
variable{f:Addr}{fd:Ae}
variable{X:Cx}{k:Nat}{ps:af}{sp:Sp}{pos:Pos}{e:Expr}{es:List Expr}{t:TA}
section v
theorem bQ{N p:List Str}{c:Scope}(h:bG N p c:=by exact#[Z,Z,Z,by decide +kernel,Z,by decide +kernel,by decide +kernel]):bG N p c:=h
theorem qr:bG md md (bg NA):=bQ
def IA:Sp:=λvs H Q _=>∃a b,vs=[.str a,.str b]/\∀t,H t=none->Q (.ref t) (upd H t (.tup [.str (aH a b).1,.str (aH a b).2]))
theorem gR_(F:bx K "lesser_first" "lesser_first" NA f fd):!aq bh 1 f fd md IA:=by
 exists F.bP qr;let#[a,b,rfl,k]:=h;apply#[_,aF (bu (_s (fF h4_ (pv 0) (pv 1)) (fY %[0,1|0]) (fY %[1,0|0]))),?_];apply#[_,Z,_,Z,a,b,Z,Z,_,Z,?_];apply cu (λc=>?_) (λc=>?_)
 ·apply#[_,Z,_,Z,zl,λt ht=>?_];have:=k t ht;rwa [show aH a b=(a,b) from aI c] at this
 apply#[_,Z,_,Z,zl,λt ht=>?_];have:=k t ht;rwa [show aH a b=(b,a) from aA c] at this
theorem u4:bG jW jW (bg lu):=bQ
def NF:Sp:=λvs H Q _=>∃i a b:Int,vs=[.int i,.int a,.int b]/\Q (.bl (decide (a<=i)&&decide (i<=b))) H
structure Bi (mg:Str->Option Aa):Prop where
 ja:mg "isinstance"=none
 int:mg "int"=none
 bool:mg "bool"=none
 str:mg "str"=none
 tuple:mg "tuple"=none
 list:mg "list"=none
 dict:mg "dict"=none
 len:mg "len"=none
 all:mg "all"=none
 sorted:mg "sorted"=none
 max:mg "max"=none
 range:mg "range"=none
 any:mg "any"=none
 enum:mg "enumerate"=none
structure bw (P:Ad) (w:Ag) (K:ai) (mg:Str->Option Aa) (base:Heap) (k:Nat) (x:Str) (ps:af) (sp:Sp):Prop where
 ex:∃f fd,aq P w K mg base bh k f fd ps sp/\mg x\.ref f/\PySem.W.keepIn K (.ref f)=true/\ph K fd ps []
theorem aZ{n_:Nat}{x:Str}{p:Pos}(c:bw X.prog X.w X.K X.mg X.base k x ps sp)(hr:aQ n_ X.A)(ha:PA X (e::es) t)(hg:Gl X x:=by rfl)(rT:(x == ("__debug__":Str))=false:=by decide)(he:starEach (e::es) X.env=(false,eval e X.env)::starEach es X.env:=by rfl)(ig:(backTo pos (starEach es X.env)).any (·.1)=false:=by rfl)(hk:k<=n_:=by decide):PE X (.Call (.Name x p) (e::es) [] pos) (wV sp [] E0 t):=by
 let#[f,fd,F,m,kp,b]:=c.ex;exact _d F (hr.mono hk) hg m kp b .nil nj ha rT he ig
theorem Cv:bG fW fW (bg yU):=bQ
def mO:Sp:=λvs H Q _=>∃i:Int,vs=[.int i]/\Q (.bl true) H
theorem YG(F:bx K "is_whole" "is_whole" yU f fd)(B:Bi mg):!aq bh 1 f fd fW mO:=by
 exists F.bP Cv;let#[i,rfl,k]:=h;apply#[_,aF (bu (s_ (cJ jR (by rfl) B.ja jh %[0,jP (v:=.ty "int") (by rfl) B.int Mu Z|0]) (uF (Ra (cJ jR (by rfl) B.ja jh %[0,jP (v:=.ty "bool") (by rfl) B.bool PyProof.Rows.Boot.«bool» rfl|0]))))),?_];exact#[_,Z,_,_,_,_,Z,.int i,Z,_,Z,df #[_,Z,_,_,_,_,Z,.int i,Z,_,Z,k]]
theorem _D(F:bx K "is_whole_within" "is_whole_within" lu f fd)(cI:!bw 1 "is_whole" fW mO):!aq bh 2 f fd jW NF:=by
 exists F.bP u4;let#[i,a,b,rfl,k]:=h;apply#[_,aF (bu (s_ (aZ cI hr %[0|0]) (uF (S9 xJ xJ (pv 1) (pv 0) (pv 2))))),?_];apply#[_,Z,i,Z,_,Z,df ?_];apply#[_,Z,_,Z,_,_,Z,Z,_,Z,?_];apply cu (λc=>?_) (λc=>?_)
 ·apply#[_,Z,_,_,Z,Z,?_];rw[c] at k;exact k
 rw[show decide (a<=i)=false by simpa using c] at k;exact k
def oJ(c:Nat):Bool:=decide (97<=c)&&decide (c<=122)
def iw(x:Str):Bool:=decide (1<=x.length)&&decide (x.length<=8)&&x.cps.toList.all oJ
theorem yJ:bG fW fW (bg qI):=bQ
def Hq:Sp:=λvs H Q _=>∃x:Str,vs=[.str x]/\x.length<=100000/\∀H',aa H H'->Q (.bl (iw x)) H'
theorem Y6{c:Nat}:(!decide ((⟨(List.toArray [c])⟩:Str).cps.toList<("a":Str).cps.toList))=decide (97<=c):=by
 have e:("a":Str).cps.toList=[97]:=by decide +kernel
 rw[e];show (!decide ([c] < [97]))=decide (97<=c);by_cases h:97<=c
 ·have:¬[c] < [97]:=by simp[List.cons_lt_cons_iff];omega
  simp[this,h]
 have:[c] < [97]:=by simp[List.cons_lt_cons_iff];omega
 simp[this,h]
theorem Y7{c:Nat}:(!decide (("z":Str).cps.toList<(⟨(List.toArray [c])⟩:Str).cps.toList))=decide (c<=122):=by
 have e:("z":Str).cps.toList=[122]:=by decide +kernel
 rw[e];show (!decide ([122] < [c]))=decide (c<=122);by_cases h:c<=122
 ·have:¬[122] < [c]:=by simp[List.cons_lt_cons_iff];omega
  simp[this,h]
 have:[122] < [c]:=by simp[List.cons_lt_cons_iff];omega
 simp[this,h]
theorem ZG(F:bx K "is_name" "is_name" qI f fd)(B:Bi mg){t8:Tok}(m8:mg "MOST_LETTERS"\.int 8 t8):!aq bh 1 f fd fW Hq:=by
 exists F.bP yJ;let#[x,rfl,hz,k]:=h;let sz:=cX
 apply#[_,av (b_ (oT (eV (eO (cJ jR (by rfl) B.ja jh %[0,jP (v:=.ty "str") (by rfl) B.str Hi Z|0])))
   (pK (eV (SN xJ xJ aB (cJ e2_ (by rfl) B.len gC %[0|0]) (Fo (v:=.int 8) (by rfl) m8 #[t8,Z]))))).pt (aF (bu iV)) cm)
  (aF (bu (cJ (hT_ Z) (by rfl) B.all PyProof.Rows.Boot.«all» (iM
   (iI ["letter"] 1 [] (Zm (pv 0)) (λfp s H=>eN (i:=0) (show (["letter"]:af).Nodup by decide +kernel) Z (Or.inl Z)) (λfp s H=>ji) (λfp s H=>S9 TB TB sZ (pv 0) sZ)) bO)))),?_]
 apply#[_,Z,_,_,_,_,Z,.str x,Z,_,Z,?_];apply aK ?_;apply#[_,Z,x,Z,by omega,_,_,Z,Z,_,Z,?_]
 have fin:(decide (1<=x.length)&&decide (x.length<=8))=false->∀H',aa H H'->Q (.bl false) H':=λe H' sm=>by
  have:=k H' sm;rwa [show iw x=false by unfold iw;rw[e];rfl] at this
 apply cu (λc=>?_) (λc=>?_)
 ·have c1:1<=x.length:=by
   have:(1:Int)<=(x.length:Int):=⇑c
   omega
  apply#[_,_,Z,Z,_,Z,?_];apply cu (λc2=>?_) (λc2=>?_)
  ·-- too long
   have c3:¬x.length<=8:=by
    have:¬((x.length:Int)<=8):=⇑c2
    omega
   exact fin (by rw[eF c3,Bool.and_false]) H (aa.refl H)
  have c3:x.length<=8:=by
   have:(x.length:Int)<=8:=⇑c2
   omega
  apply#[_,Z,x,Z,λD hD=>?_];apply Il (own:=1) (fv:=[]) Z e_ x.cps.size (λi out H'=>H'=upd H D (.lst out)/\out=((x.cps.toList.take i).map oJ).map V.bl) #[Z,by simp] (λout H' ⟨e1,e2⟩=>?_) (λi out H' hi ⟨e1,e2⟩=>?_)
  ·apply#[a_ _,D,x.cps.toList.map oJ,Z,.of ?_,?_]
   ·rw[e1,ax,e2,tL Z2]
   have:=k H' (by rw[e1];exact aa.new hD);rwa [show iw x=(x.cps.toList.map oJ).all id by unfold iw;rw[c_ c1,c_ c3,List.all_map];rfl] at this
  apply#[hi,λv H2 y=>?_];let#[eH,c,hc,rfl]:=y;subst eH;apply#[_,Z,Z,λNx hN=>d_ ?_]
  have lo:out.length<sizeLine:=by
   rw[e2];have hs:x.length=x.cps.size:=rfl;simp only[ak,dH,tJ];omega
  have nx:Nx (upd H2 D (.lst (out++[V.bl (oJ c)]))):=hN (out++[V.bl (oJ c)]) _ #[by rw[e1,Zt],by
   rw[e2,pP];simp[hc]]
  have U3:H2 D\.lst out:=by rw[e1,ax]
  apply#[_,Z,_,_,Z,Z,_,Z,?_];rw[Y6];apply cu (λc2=>?_) (λc2=>?_)
  ·apply#[_,_,Z,Z,out,U3,lo,?_];rw[Y7];rwa [show oJ c=decide (c<=122) by unfold oJ;rw[c2];rfl] at nx
  apply#[out,U3,lo,?_];rwa [show oJ c=false by unfold oJ;rw[show decide (97<=c)=false by simpa using c2];rfl] at nx
 have c1:¬1<=x.length:=by
  have:¬((1:Int)<=(x.length:Int)):=⇑c
  omega
 exact#[_,Z,df (fin (by rw[eF c1];rfl) H (aa.refl H))]
end
def kT(t:Str × Str):aC:=[.inr t.1,.inr t.2]
def wc(t:Str × Str):Prop:=iw t.1=true/\iw t.2=true/\t.1≠t.2
theorem IV{x:Str}(h:iw x=true):x.length<=8:=by
 unfold iw at h;simp only[Bool.and_eq_true,decide_eq_true_eq] at h;exact h.1.2
theorem GQ{H:Hp}{p:Addr}{t:Str × Str}(h:H p\.tup ((kT t).map kV)):H p\.tup [.str t.1,.str t.2]:=h
variable{ks:List aC}
variable{D:Addr}{o:HO}
section v
theorem yI:bG fW fW (bg qG):=bQ
def qe:Sp:=λvs H Q _=>∃(p:Addr) (a b:Str),vs=[.ref p]/\H p\.tup [.str a,.str b]/\a.length<=100000/\b.length<=100000/\∀H',aa H H'->Q (.bl (iw a&&iw b&&!decide (a=b))) H'
theorem _b(F:bx K "is_pair_of_names" "is_pair_of_names" qG f fd)(B:Bi mg)(cN:!bw 1 "is_name" fW Hq):!aq bh 2 f fd fW qe:=by
 exists F.bP yI;let#[p,a,b,rfl,hp,la,lb,k]:=h
 apply#[_,av (b_ (oT (eV (eO (cJ jR (by rfl) B.ja jh %[0,jP (v:=.ty "tuple") (by rfl) B.tuple uI Z|0])))
   (pK (fF sW (cJ iy (by rfl) B.len gC %[0|0]) aB))).pt (aF (bu iV)) cm)
  (aF (bu (s_ (aZ cN hr %[bo cZ (pv 0) aB|0]) (s_ (aZ cN hr %[bo cZ (pv 0) aB|0])
   (uF (wk sW (bo cZ (pv 0) aB) (bo cZ (pv 0) aB))))))),?_]
 apply#[_,Z,_,_,_,_,Z,.tup hp,Z,_,Z,aK ?_];apply#[_,Z,p,_,Z,.inr (.of hp),Z,_,Z,?_];apply Aq (show V.int ((2:Nat):Int)=V.int 2 from Z) ?_;apply#[_,Z,p,_,_,_,Z,Z,.of hp,Z,a,Z,la,λH1 s1=>#[_,Z,?_]];let xv:=s1 _ _ hp;apply cu (λc=>?_) (λc=>?_)
 ·apply#[_,Z,p,_,_,_,Z,Z,.of xv,Z,b,Z,lb,λH2 s2=>#[_,Z,?_]];let kh:=s2 _ _ xv;let kk:=k H2 (s1.trans s2);apply cu (λc2=>?_) (λc2=>?_)
  ·apply#[_,Z,p,_,_,_,Z,Z,.of kh,Z,_,Z,p,_,_,_,Z,Z,.of kh,Z,Z,?_];rw[c,c2] at kk
   have e:decide (V.str a=V.str b)=decide (a=b):=by
    by_cases z:a=b
    ·simp[z]
    simp[z]
   show Q (.bl (!decide (V.str a=V.str b))) H2;rw[e];exact kk
  rw[c,show iw b=false by simpa using c2] at kk;exact kk
 let kk:=k H1 s1;rw[show iw a=false by simpa using c] at kk;exact kk
theorem IG:bG ["ties","found","pair","tie"] ["ties"] (bg Nv):=bQ
def OD(K:ai):Sp:=λvs H Q _=>∃(l:Addr) (ys:ag) (ts:Xb),vs=[.ref l]/\H l\.lst ys/\bR K H ys (ts.map kT)/\(∀t∈ts,wc t)/\(ts.map λt=>kT (aH t.1 t.2)).Nodup/\ts.length<64 /\
 ∀l' zs H',aa H H'->H l'=none->H' l'\.lst zs->bR K H' zs (a9 (ts.map λt=>kT (aH t.1 t.2)))->Q (.ref l') H'
theorem uM{α β γ:Type}{F:α->γ->Prop}{g:β->γ}{ys:List α}{ts:List β}(t:Paired F ys (ts.map g)){i:Nat}{y:α}(h:ys[i]? = some y):∃x,ts[i]? = some x/\F y (g x):=by
 have hi:i<ys.length:=(bY.mp h).1;let hl:=br t;rw[ak] at hl;have:=dS t i hi (by rw[ak];omega);rw[List.getElem_map] at this;apply#[ts[i],aP Z1,?_];rw[(bY.mp h).2] at this;exact this
theorem uN{κ:Type}[DecidableEq κ]{kvs:List (κ × V)}{k:κ}(h:k∉kvs.map (·.1)):aY kvs k=none:=by
 cases e:aY kvs k with
 |none=>rfl
 |some v=>exact absurd (Y2 e) h
theorem tH{α β:Type}(g:α->β){ts:List α}{i:Nat}{x:α}(h:ts[i]? = some x):(ts.take (i+1)).map g=(ts.take i).map g++[g x]:=by
 rw[pP,h,eS];rfl
theorem Fy{α β:Type}{g:α->β}{ts:List α}{i:Nat}{x:α}(h:(ts.map g).Nodup)(hx:ts[i]? = some x):g x∉(ts.take i).map g:=by
 intro m;have hi:i<ts.length:=(bY.mp hx).1;let#[y,hy,e]:=bC.mp m;let#[j,hj,e2]:=gX hy;rw[dH] at hj;rw[List.getElem_take] at e2;rw[tN,uK,List.pairwise_iff_getElem] at h;apply h j i Z1 hi Z1 ?_;rw[e2,e,(bY.mp hx).2]
theorem gT_(F:bx K "sorted_ties" "sorted_ties" Nv f fd)(B:Bi mg)(cP:!bw 2 "is_pair_of_names" fW qe)(cL:!bw 1 "lesser_first" md IA):!aq bh 3 f fd ["ties"] (OD K):=by
 exists F.bP IG;let#[l,ys,ts,rfl,hl,tu,good,nd,bX,k]:=h;let hu:=gf hr;let sz:=cX
 apply#[_,av (b_ (eV (eO (cJ jR (by rfl) B.ja jh %[0,jP (v:=.ty "list") (by rfl) B.list xV Z|0]))) gr cm)
  (av (bj 1 IG.nd hn_)
  (av (eW d6 Z (dI (pv 0)) (cy 2 IG.nd)
   (av (b_ (eV (eO (aZ cP hr %[2|0]))) gr cm)
   (av (bj 3 IG.nd (aZ cL hr %[bo cZ (pv 2) aB,bo cZ (pv 2) aB|0]))
   (av (b_ (tE (Bs hu (pv 3) (pv 1))) gr cm)
   (aF (uD hu (pv 1) (pv 3) iV Z))))))
  (aF (bu (cJ (ec_ Z) (by rfl) B.sorted Jc %[1|0]))))),?_]
 apply#[_,Z,_,_,_,_,Z,.lst hl,Z,_,Z,aK ?_];intro d hd;have s0:aa H (upd H d (.dT [])):=aa.new hd;apply#[_,Z,l,Z,#[_,.of (s0 _ _ hl)],hX (K:=K) (a:=l) (xs:=ys) (λi σ H2=>∃(v3 v4:aL),σ=[some (.ref l),some (.ref d),v3,v4]/\aa H H2/\H2 d\.dT ((ts.take i).map λt=>(kT (aH t.1 t.2),V.bl true))) #[none,none,Z,s0,ax] (λi σ H2 _ ⟨_,_,_,s2,_⟩=>.of (s2 _ _ hl)) ?_ ?_]
 ·rintro i y σ H2 hy ⟨v3,v4,rfl,s2,hd2⟩;let#[t,ht,a,rfl,ha]:=uM tu hy;let#[g1,g2,g3]:=good t (cQ ht);let nK:=s2 _ _ (GQ ha);apply#[_,Z,a,t.1,t.2,Z,nK,by have:=IV g1;omega,by have:=IV g2;omega,λH3 s3=>#[_,Z,?_]];let jG:=s3 _ _ nK;let lV:=s3 _ _ hd2;rw[g1,g2,eF g3];apply aK ?_;apply#[_,Z,a,_,_,_,Z,Z,.of jG,Z,_,Z,a,_,_,_,Z,Z,.of jG,Z,t.1,t.2,Z,λb hb=>?_];have s4:aa H3 (upd H3 b (.tup [.str (aH t.1 t.2).1,.str (aH t.1 t.2).2])):=aa.new hb;let RK:=s4 _ _ lV;have RP:upd H3 b (.tup [.str (aH t.1 t.2).1,.str (aH t.1 t.2).2]) b\.tup ((kT (aH t.1 t.2)).map kV):=ax
  have uf:aY ((ts.take i).map λt=>(kT (aH t.1 t.2),V.bl true)) (kT (aH t.1 t.2))=none:=uN (by
   rw[cg];exact Fy (g:=λt=>kT (aH t.1 t.2)) nd ht)
  apply#[_,Z,_,Z,d,_,Z,.t (k:=kT (aH t.1 t.2)) RK RP,_,Z,?_];rw[uf];apply aK ?_;apply#[_,Z,_,Z,d,_,Z,.t (k:=kT (aH t.1 t.2)) RK RP (by rw[ak,dH];omega),?_];apply#[_,_,Z,λc o e=>?_,?_]
  ·rw[aw (bp e hd)];exact s4 _ _ (s3 _ _ (s2 _ _ e))
  rw[ax,wq _ uf,tH _ ht]
 rintro σ H2 ⟨v3,v4,rfl,s2,hd2⟩;let le:=br tu;rw[ak] at le;rw[le,eI] at hd2;apply#[_,Z,d,_,[true,true],Z,hd2,#[by decide,λk hk=>?_],by rw[ak];exact bX,λl' zs hn tz=>?_]
 ·rw[cg] at hk;let#[t,_,rfl]:=bC.mp hk;rfl
 rw[cg] at tz;exact k l' zs _ (s2.trans (aa.new hn)) (s2.free hn) ax (tz.same (aa.new hn))
theorem fQ_{K:ai}{H:Hp}{ys:ag}{a:Addr}{k:aC}(t:bR K H ys ks)(h:H a\.tup (k.map kV)):bR K H (ys++[.ref a]) (ks++[k]):=Paired.snoc t #[a,Z,h]
theorem fi{H H1:Hp}(h:aa H H1)(hD:H D=none):aa H (upd H1 D o):=λb u e=>by rw[aw (bp e hD)];exact h b u e
theorem IP{K:ai}{H:Hp}{ys:ag}{xs:ag}(t:bR K H ys ks)(hD:H D\.lst xs):bR K (upd H D o) ys ks:=Paired.aV t λy k ⟨a,z,q⟩=>#[a,z,by rw[aw (bK q hD nofun)];exact q]
end
def kH(h:Str × Int):aC:=[.inr h.1,.inl h.2]
def nQ(h:Str × Int):Prop:=iw h.1=true/\1<=h.2/\h.2<=1000
def zj:aC->Key × V
 |[k,v]=>(k,kV v)
 |_=>(.inl 0,.non)
def dk(hs:Xa):List (Key × V):=(a9 (hs.map kH)).map zj
theorem zB{H:Hp}{p:Addr}{t:Str × Int}(h:H p\.tup ((kH t).map kV)):H p\.tup [.str t.1,.int t.2]:=h
theorem Ul:∀(more kvs:List (Key × V)),(kvs.map (·.1)++more.map (·.1)).Nodup->wo kvs more=kvs++more
 |[],kvs,_=>by
  show kvs=kvs++[];rw[List.append_nil]
 |p::more,kvs,h=>by
  show wo (putK kvs p.1 p.2) more=kvs++p::more
  have hn:aY kvs p.1=none:=uN λm=>by
   rw[eG,List.nodup_append] at h;exact h.2.2 p.1 m p.1 fX Z
  rw[wq _ hn,Ul more (kvs++[(p.1,p.2)])]
  ·simp
  simpa using h
theorem wC{more:List (Key × V)}(h:(more.map (·.1)).Nodup):wo [] more=more:=by
 rw[Ul more [] ⇑h];rfl
theorem TU(hs:Xa):((dk hs).map (·.1)).Perm (hs.map λh=>Sum.inr h.1):=by
 unfold dk;rw[cg];let p:=(tK (hs.map kH)).map λk=>(zj k).1;rw[cg] at p;exact p
theorem UP{hs:Xa}(h:(hs.map (·.1)).Nodup):((dk hs).map (·.1)).Nodup:=by
 apply (TU hs).nodup_iff.mpr ?_;have:(hs.map λh=>(Sum.inr h.1:Key))=(hs.map (·.1)).map Sum.inr:=by rw[cg];rfl
 rw[this,tN,uK];exact h.imp λn e=>n (hJ e)
theorem nZ{A:Af}(hr:aQ k A)(n:Nat)(h:n+1<=64:=by decide):A.units+n+1<cLine:=by
 have:=hr.units;omega
variable{tk:Tok}
variable{ns:af}
section v
theorem yQ:bG fW fW (bg qR):=bQ
def qg:Sp:=λvs H Q _=>∃(p:Addr) (a:Str) (n:Int),vs=[.ref p]/\H p\.tup [.str a,.int n]/\a.length<=100000/\∀H',aa H H'->Q (.bl (iw a&&(decide (1<=n)&&decide (n<=1000)))) H'
theorem ZD(F:bx K "is_hand_with_strength" "is_hand_with_strength" qR f fd)(B:Bi mg)(cN:!bw 1 "is_name" fW Hq)(cW:!bw 2 "is_whole_within" jW NF)(mS:mg "MOST_STRENGTH"\.int 1000 tk) :
  aq P w K mg base bh 3 f fd fW qg:=by
 exists F.bP yQ;let#[p,a,n,rfl,hp,la,k]:=h
 apply#[_,av (b_ (oT (eV (eO (cJ jR (by rfl) B.ja jh %[0,jP (v:=.ty "tuple") (by rfl) B.tuple uI Z|0])))
   (pK (fF sW (cJ iy (by rfl) B.len gC %[0|0]) aB))).pt (aF (bu iV)) cm)
  (aF (bu (s_ (aZ cN hr %[bo cZ (pv 0) aB|0]) (uF (aZ cW hr %[bo cZ (pv 0) aB,aB,Fo (v:=.int 1000) (by rfl) mS #[tk,Z]|0]))))),?_]
 apply#[_,Z,_,_,_,_,Z,.tup hp,Z,_,Z,aK ?_];apply#[_,Z,p,_,Z,.inr (.of hp),Z,_,Z,?_];apply Aq (show V.int ((2:Nat):Int)=V.int 2 from Z) ?_;apply#[_,Z,p,_,_,_,Z,Z,.of hp,Z,a,Z,la,λH1 s1=>#[_,Z,?_]];let xv:=s1 _ _ hp;let kk:=k H1 s1;apply cu (λc=>?_) (λc=>?_)
 ·apply#[_,Z,p,_,_,_,Z,Z,.of xv,Z,n,1,1000,Z,?_];rw[c] at kk;exact kk
 rw[show iw a=false by simpa using c] at kk;exact kk
theorem qo:bG ["hands","found","hand"] ["hands"] (bg yT):=bQ
def wY(K:ai):Sp:=λvs H Q _=>∃(l:Addr) (ys:ag) (hs:Xa),vs=[.ref l]/\H l\.lst ys/\bR K H ys (hs.map kH)/\(∀h∈hs,nQ h)/\(hs.map (·.1)).Nodup/\1<=hs.length/\hs.length<=8 /\
 ∀d H',aa H H'->H d=none->H' d\.dK (dk hs)->Q (.ref d) H'
theorem YJ(F:bx K "checked_strengths" "checked_strengths" yT f fd)(B:Bi mg)(cH:!bw 3 "is_hand_with_strength" fW qg)(mH:mg "MOST_HANDS"\.int 8 tk):!aq bh 4 f fd ["hands"] (wY K):=by
 exists F.bP qo;let#[l,ys,hs,rfl,hl,tu,good,nd,h1,h8,k]:=h;let hu:=gf hr;let sz:=cX;let le:=br tu;rw[ak] at le
 apply#[_,av (b_ (oT (eV (eO (cJ jR (by rfl) B.ja jh %[0,jP (v:=.ty "list") (by rfl) B.list xV Z|0])))
   (pK (eV (SN xJ xJ aB (cJ iy (by rfl) B.len gC %[0|0]) (Fo (v:=.int 8) (by rfl) mH #[tk,Z]))))).pt gr cm)
  (av (bj 1 qo.nd FC)
  (av (eW d6 Z (dI (pv 0)) (cy 2 qo.nd)
   (av (b_ (eV (eO (aZ cH hr %[2|0]))) gr cm)
   (av (b_ (tE (Bs hu (bo cZ (pv 2) aB) (pv 1))) gr cm)
   (aF (uD hu (pv 1) (bo cZ (pv 2) aB) (bo cZ (pv 2) aB) Z)))))
  (aF (bu (i0 (xY Z) (by rfl) B.dict tw %[cJ (fw_ Z) (by rfl) B.sorted Jc %[IJ (pv 1)|0]|0]))))),?_]
 apply#[_,Z,_,_,_,_,Z,.lst hl,Z,_,Z,aK ?_];apply#[_,Z,l,_,Z,.inl (.of hl),_,_,Z,Z,_,Z,?_];rw[c_ (show (1:Int)<=(ys.length:Int) by omega)];apply df #[_,_,Z,Z,_,Z,?_];rw[c_ (show (ys.length:Int)<=8 by omega)];apply aK ?_;intro d hd;have s0:aa H (upd H d (.dK [])):=aa.new hd;apply#[_,Z,l,Z,#[_,.of (s0 _ _ hl)],hX (K:=K) (a:=l) (xs:=ys) (λi σ H2=>∃(v2:aL),σ=[some (.ref l),some (.ref d),v2]/\aa H H2/\H2 d\.dK ((hs.take i).map λh=>(Sum.inr h.1,V.int h.2))) #[none,Z,s0,ax] (λi σ H2 _ ⟨_,_,s2,_⟩=>.of (s2 _ _ hl)) ?_ ?_]
 ·rintro i y σ H2 hy ⟨v2,rfl,s2,hd2⟩;let#[t,ht,a,rfl,ha]:=uM tu hy;let#[g1,g2,g3]:=good t (cQ ht);let nK:=s2 _ _ (zB ha);apply#[_,Z,a,t.1,t.2,Z,nK,by have:=IV g1;omega,λH3 s3=>#[_,Z,?_]];let jG:=s3 _ _ nK;let lV:=s3 _ _ hd2;rw[g1,c_ g2,c_ g3];apply aK ?_
  have uf:aY ((hs.take i).map λh=>((Sum.inr h.1:Key),V.int h.2)) (Sum.inr t.1)=none:=uN (by
   rw[cg];let q:=Fy (g:=λh:Str × Int=>h.1) nd ht;intro m;let#[h,hh,e]:=bC.mp m;exact q (bC.mpr #[h,hh,hJ e]))
  apply#[_,Z,a,_,_,_,Z,Z,.of jG,Z,_,Z,d,_,Z,.k (k:=Sum.inr t.1) lV,_,Z,?_];rw[uf];apply aK ?_;apply#[_,Z,a,_,_,_,Z,Z,.of jG,Z,_,Z,_,Z,a,_,_,_,Z,Z,.of jG,Z,d,_,Z,.k (k:=Sum.inr t.1) lV (by rw[ak,dH];omega),?_];apply#[_,Z,λc o e=>?_,?_]
  ·rw[aw (bp e hd)];exact s3 _ _ (s2 _ _ e)
  rw[ax,wq _ uf,tH _ ht]
 rintro σ H2 ⟨v2,rfl,s2,hd2⟩;rw[le,eI] at hd2;apply#[_,Z,d,_,Z,hd2,λv hv=>?_];have s3:aa H2 (upd H2 v (tj v d)):=aa.new hv;apply#[v,d,_,hs.map λh=>(Sum.inr h.1,Sum.inl h.2),[true,false],Z,ax,s3 _ _ hd2,by rw[cg];rfl,#[by decide,λq hq=>?_],by rw[ak];omega,λl' H4 zs s4 hn tz=>?_]
 ·rw[cg] at hq;let#[h,_,rfl]:=bC.mp hq;rfl
 have ez:((hs.map λh=>((Sum.inr h.1:Key),(Sum.inl h.2:Key))).map λk=>[k.1,k.2])=hs.map kH:=by rw[cg];rfl
 rw[ez] at tz
 have pz:jd K (upd H4 l' (.lst zs)) zs (dk hs):=by
  have shape:∀k∈a9 (hs.map kH),∃a b,k=[a,b]:=λk hk=>by
   let#[h,_,e]:=bC.mp ((tK _).mem_iff.mp hk);exact#[_,_,e.symm]
  have gen:∀(ks:List aC) (zs:ag),(∀k∈ks,∃a b,k=[a,b])->bR K (upd H4 l' (.lst zs)) zs ks->jd K (upd H4 l' (.lst zs)) zs (ks.map zj):=λks=>by
   intro zs;generalize upd H4 l' (.lst zs)=HH;intro sh t
   induction t with
   |nil=>exact .nil
   |cons h t ih=>
    let#[a,b,rfl]:=sh _ fX;exact .cons h (ih λk hk=>sh k (fM _ hk))
  exact gen _ _ shape (tz.same (aa.new hn))
 apply#[l',zs,_,Z,ax,pz,?_,λd' iR=>?_]
 ·have:=(TU hs).length_eq;simp only[ak] at this;omega
 rw[wC (UP nd)];have Cz:aa H (upd H4 l' (.lst zs)):=(s2.trans (s3.trans s4)).trans (aa.new hn);exact k d' _ (Cz.trans (aa.new iR)) (Cz.free iR) ax
theorem Ht:bG ["ties","strengths","found","one","other"] ["ties","strengths"] (bg qB):=bQ
inductive kK (K:ai) (vs:ag) (H:Hp) (Q:VK) (E:XK):Prop
 |mk:∀(l d:Addr) (ys:ag) (ts:Xb) (kvs:List (Key × V)),vs=[.ref l,.ref d]->H l\.lst ys->bR K H ys (ts.map kT)->(∀t∈ts,wc t)->(ts.map λt=>kT (aH t.1 t.2)).Nodup->ts.length<64->H d\.dK kvs->(∀t∈ts,(aY kvs (Sum.inr t.1)).isSome=true/\(aY kvs (Sum.inr t.2)).isSome=true)->(∀l' zs H',aa H H'->H l'=none->H' l'\.lst zs->bR K H' zs (a9 (ts.map λt=>kT (aH t.1 t.2)))->Q (.ref l') H')->kK K vs H Q E
theorem Bw(a b:Str):aH a b=(a,b)∨aH a b=(b,a):=by
 unfold aH;split
 ·exact .inl rfl
 exact .inr rfl
theorem Y8(F:bx K "checked_ties" "checked_ties" qB f fd)(B:Bi mg)(cS:!bw 3 "sorted_ties" ["ties"] (OD K)):!aq bh 4 f fd ["ties","strengths"] (kK K):=by
 exists F.bP Ht;let#[l,d,ys,ts,kvs,rfl,hl,tu,good,nd,bX,hd,there,k]:=h;let hu:=gf hr
 apply#[_,av (bj 2 Ht.nd (aZ cS hr %[0|0]))
  (av (b_ (tE (HX (pv 2))) gr cm)
  (av (eW d6 Z (dI (pv 2)) (oU Z (dC (cy 3 Ht.nd) (dC (cy 4 Ht.nd) i6)))
   (aF (b_ (oT (tE (IX hu (pv 3) (pv 1))) (pK (tE (IX hu (pv 4) (pv 1))))).pt gr cm)))
  (aF (bu (pv 2))))),?_]
 apply#[_,Z,l,ys,ts,Z,hl,tu,good,nd,bX,λl' zs H1 s1 hf gm tz=>?_];apply#[_,Z,_,Z,aK ?_];apply#[_,Z,l',Z,#[_,.of gm],hX (K:=K) (a:=l') (xs:=zs) (λi σ H2=>∃(v3 v4:aL),σ=[some (.ref l),some (.ref d),some (.ref l'),v3,v4]/\H2=H1) #[none,none,Z,Z] (λi σ H2 _ ⟨_,_,_,e⟩=>by subst e;exact .of gm) ?_ ?_]
 ·rintro i y σ H2 hy ⟨v3,v4,rfl,rfl⟩;let ez:=br tz;have hi:i<zs.length:=(bY.mp hy).1;let#[a,e,ha]:=dS tz i hi Z1;rw[(bY.mp hy).2] at e;subst e;let#[t,ht,e]:=bC.mp ((tK _).mem_iff.mp (kD (show i<(a9 (ts.map λt=>kT (aH t.1 t.2))).length by omega)));rw[<- e] at ha;let#[t1,t2]:=there t ht
  have both:(aY kvs (Sum.inr (aH t.1 t.2).1)).isSome=true/\(aY kvs (Sum.inr (aH t.1 t.2).2)).isSome=true:=by
   rcases Bw t.1 t.2 with q|q
   ·rw[q];exact#[t1,t2]
   rw[q];exact#[t2,t1]
  let um:=s1 _ _ hd;apply#[a,_,Z,.of (GQ ha),Z,_,_,Z,_,_,Z,Z,?_];apply#[_,Z,_,Z,d,_,Z,.k (k:=Sum.inr (aH t.1 t.2).1) um,_,Z,?_];rw[both.1];apply aK ?_;apply#[_,Z,_,Z,d,_,Z,.k (k:=Sum.inr (aH t.1 t.2).2) um,_,Z,?_];rw[both.2];apply aK ?_;exact#[_,_,Z,Z]
 rintro σ H2 ⟨v3,v4,rfl,rfl⟩;exact#[_,Z,k l' zs _ s1 hf gm tz]
def near(ns:af)(ts:Xb)(n:Str):af:=ns.filter λo=>decide (aH n o∈ts)
theorem k_:bG ["names","ties","found","hand"] ["names","ties"] (bg qH):=bQ
def tx(ns:af)(as:au):List (Key × V):=(ns.zip as).map λp=>(Sum.inr p.1,V.ref p.2)
inductive kR (K:ai) (vs:ag) (H:Hp) (Q:VK) (E:XK):Prop
 |mk:∀(l1 l2:Addr) (ns:af) (zs:ag) (ts:Xb),vs=[.ref l1,.ref l2]->H l1\.lst (ns.map V.str)->H l2\.lst zs->bR K H zs (ts.map kT)->ns.Nodup->ns.length<=1000->l1≠l2->(∀d as H',aa H H'->H d=none->as.length=ns.length->H' d\.dK (tx ns as)->(∀(i:Nat) n a,ns[i]? = some n->as[i]? = some a->H a=none/\H' a\.lst ((near ns ts n).map V.str))->Q (.ref d) H')->kR K vs H Q E
theorem MY{K:ai}{H:Hp}:∀{ts:Xb} {zs:ag},bR K H zs (ts.map kT)->Paired (r2 K rS rS H) zs ts
 |[],_,.nil=>.nil
 |t::ts,_,.cons ⟨a,e,h⟩ r=>.cons #[a,_,_,e,.of (GQ h),Z,Z] (MY r)
theorem mj{i:Nat}{x:V}(h:(ns.map V.str)[i]? = some x):∃n,ns[i]? = some n/\x=.str n:=by
 rw[di] at h;cases e:ns[i]? with
 |none=>rw[e] at h;cases h
 |some n=>rw[e] at h;exact#[n,Z,(cY h).symm]
theorem I_{α:Type}(p:α->Bool){l:List α}{i:Nat}{x:α}(h:l[i]? = some x):(l.take (i+1)).filter p=(l.take i).filter p++(if p x then [x] else []):=PySem.take_succ_filter p l i x h
theorem ZJ(F:bx K "neighbours_of_all" "neighbours_of_all" qH f fd)(cL:!bw 1 "lesser_first" md IA):!aq bh 2 f fd ["names","ties"] (kR K):=by
 exists F.bP k_;let#[l1,l2,ns,zs,ts,rfl,gm,lS,tz,nd,h8,lR,k]:=h;let hu:=gf hr;let hu3:=hr.units;let sz:=cX
 apply#[_,av (bj 2 k_.nd FC)
  (av (eW d6 Z (dI (pv 0)) (cy 3 k_.nd)
   (aF (uD hu (pv 2) (pv 3) (iI ["other","hand","ties"] 1 [3,1] (dI (pv 0)) (λfp s H=>eN (i:=0) (show (["other","hand","ties"]:af).Nodup by decide +kernel) Z (Or.inl Z))
    (λfp s H=>Ft (fF (Qk (K:=K) (λK=>yY K (r2 K rS rS) false) (MB (E_ gW gW) (nZ hr _))) (aZ cL hr %[1,0|0]) (pv 2) (by with_unfolding_all rfl))) (λfp s H=>pv 0)) Z)))
  (aF (bu (pv 2)))),?_]
 intro d hd;have s0:aa H (upd H d (.dK [])):=aa.new hd
 apply#[_,Z,l1,Z,#[_,.of (s0 _ _ gm)],hX (K:=K) (a:=l1) (xs:=ns.map V.str) (λi σ H2=>∃(v3:aL) (as:au),σ=[some (.ref l1),some (.ref l2),some (.ref d),v3]/\aa H H2/\as.length=i/\H2 d\.dK (tx (ns.take i) as) /\
  ∀(j:Nat) n a,ns[j]? = some n->as[j]? = some a->H a=none/\a≠d/\H2 a\.lst ((near ns ts n).map V.str)) #[none,[],Z,s0,Z,ax,λj n a _ e=>by simp at e] (λi σ H2 _ ⟨_,_,_,s2,_⟩=>.of (s2 _ _ gm)) ?_ ?_]
 ·rintro i y σ H2 hy ⟨v3,as,rfl,s2,la,hd2,lists⟩;let#[n,hn,rfl]:=mj hy;have hi:i<ns.length:=(bY.mp hn).1
  have lk:(tx (ns.take i) as).length=i:=by
   unfold tx;rw[ak,List.length_zip,dH];omega
  apply#[_,Z,l1,Z,#[_,.of (s2 _ _ gm)],λD hD=>?_];apply iZ (own:=1) (fv:=[some (.str n),some (.ref l2)]) (xs:=ns.map V.str) Z e_ (λj out H'=>aa H2 H'/\H' D\.lst out/\out=((ns.take j).filter λo=>decide (aH n o∈ts)).map V.str) #[aa.new hD,ax,Z] (λj out H' _ ⟨sm,_,_⟩=>.of (sm _ _ (s2 _ _ gm))) (λout H' ⟨sm,cK,eo⟩=>?_) (λj x out H' hx ⟨sm,cK,eo⟩=>?_)
  ·rw[ak,eI] at eo
   have uf:aY (tx (ns.take i) as) (Sum.inr n)=none:=uN λm=>by
    unfold tx at m;rw[cg] at m;let#[p,hp,e]:=bC.mp m;have e:p.1=n:=hJ e;let q:=Fy (g:=id) (by rw[List.map_id];exact nd) hn;rw[List.map_id] at q;exact q (e▸(List.of_mem_zip hp).1)
   have Qn:D≠d:=λz=>by subst z;rw[hD] at hd2;cases hd2
   apply#[_,Z,_,Z,d,_,Z,.k (k:=Sum.inr n) (sm _ _ hd2) Z1,?_];apply#[_,as++[D],Z,λc o e=>?_,by rw[d9,la];rfl,?_,λj n' a D9 ha=>?_]
   ·rw[aw (bp e hd)];exact sm _ _ (s2 _ _ e)
   ·rw[ax,wq _ uf];congr 2;unfold tx;rw[pP,hn,List.zip_append (by rw[dH];omega),eS];rfl
   by_cases hj:j<as.length
   ·rw[xZ hj] at ha;let#[q1,q2,q3]:=lists j n' a D9 ha;apply#[q1,q2,?_];rw[aw q2];exact sm _ _ q3
   have hj2:j=i:=by
    have:=(bY.mp ha).1;rw[d9] at this;simp only[jU] at this;omega
   subst hj2;rw[AW Z1,la,Nat.sub_self] at ha;have ha:D=a:=⇑ha
   subst ha;rw[hn] at D9;cases D9;apply#[s2.free hD,Qn,?_];rw[aw Qn,cK,eo];rfl
  let#[o,ho,rfl]:=mj hx;apply#[_,Z,Z,λNx hN=>?_];apply#[_,Z,_,Z,n,o,Z,λt ht=>?_];have s3:aa H' (upd H' t (.tup [.str (aH n o).1,.str (aH n o).2])):=aa.new ht;let VV:=((tz.same s2).same sm).same s3
  have lo:out.length<sizeLine:=by
   rw[eo,ak];have:=AV (λo=>decide (aH n o∈ts)) (ns.take j);rw[dH] at this;omega
  apply#[_,Z,aH n o,ts,#[t,_,_,Z,.of ax,Z,Z],#[l2,zs,Z,.of (s3 _ _ (sm _ _ (s2 _ _ lS))),MY VV],_,Z,?_];apply cu (λc=>?_) (λc=>?_)
  ·apply#[_,Z,out,s3 _ _ cK,lo,hN _ _ #[fi (sm.trans s3) hD,ax,?_]];have c:decide (aH n o∈ts)=true:=⇑c
   rw[I_ _ ho,aI c,eS,eo];rfl
  apply hN _ _ #[sm.trans s3,s3 _ _ cK,?_];have c:¬decide (aH n o∈ts)=true:=⇑c
  rw[I_ _ ho,aA c,List.append_nil,eo]
 rintro σ H2 ⟨v3,as,rfl,s2,la,hd2,lists⟩;rw[ak] at la hd2;rw[eI] at hd2;exact#[_,Z,k d as _ s2 hd la hd2 λj n a h1 h2=>#[(lists j n a h1 h2).1,(lists j n a h1 h2).2.2]]
end
abbrev qQ:Stmt:=l_ oz 0
abbrev u9:Stmt:=l_ oz 1
abbrev lI:Stmt:=l_ oz 2
abbrev Ot:Stmt:=l_ oz 3
abbrev lE:Stmt:=l_ oz 4
abbrev qC:Stmt:=l_ oz 5
def EO:aC->Str
 |.inr a::_=>a
 |_=>⟨#[]⟩
def JJ:aC->Str × Str
 |[.inr a,.inr b]=>(a,b)
 |_=>(⟨#[]⟩,⟨#[]⟩)
def aS(hs:Xa):af:=(a9 (hs.map kH)).map EO
def bM(ts:Xb):Xb:=(a9 (ts.map λt=>kT (aH t.1 t.2))).map JJ
theorem Ow(ts:Xb):(bM ts).map kT=a9 (ts.map λt=>kT (aH t.1 t.2)):=by
 unfold bM;rw[cg]
 have all:∀k∈a9 (ts.map λt=>kT (aH t.1 t.2)),∃t:Str × Str,k=kT t:=λk hk=>by
  let#[t,_,e]:=bC.mp ((tK _).mem_iff.mp hk);exact#[_,e.symm]
 generalize a9 (ts.map λt=>kT (aH t.1 t.2))=l at all
 induction l with
 |nil=>rfl
 |cons k l ih=>
  let#[t,rfl]:=all k fX;rw[eG,ih λk hk=>all k (fM _ hk)];rfl
theorem UD(hs:Xa):∀k∈a9 (hs.map kH),∃h:Str × Int,h∈hs/\k=kH h:=λk hk=>by
 let#[t,ht,e]:=bC.mp ((tK _).mem_iff.mp hk);exact#[t,ht,e.symm]
theorem Ts(hs:Xa):((dk hs).map λkv=>kV kv.1)=(aS hs).map V.str:=by
 unfold dk aS;rw[cg,cg];apply uL λk hk=>?_;let#[h,_,rfl]:=UD hs k hk;rfl
theorem Tr(hs:Xa):(dk hs).map (·.1)=(aS hs).map Sum.inr:=by
 unfold dk aS;rw[cg,cg];apply uL λk hk=>?_;let#[h,_,rfl]:=UD hs k hk;rfl
theorem gF(hs:Xa):(aS hs).Perm (hs.map (·.1)):=by
 unfold aS;let p:=(tK (hs.map kH)).map EO;rw[cg] at p;exact p
theorem Jd{κ:Type}[DecidableEq κ]{kvs:List (κ × V)}{k:κ}(h:k∈kvs.map (·.1)):(aY kvs k).isSome=true:=by
 rw[<- BC];let#[p,hp,e]:=bC.mp h;exact List.any_eq_true.mpr #[p,hp,c_ e]
theorem Ia{hs:Xa}{n:Str}:(aY (dk hs) (Sum.inr n)).isSome=decide (n∈hs.map (·.1)):=by
 by_cases h:n∈hs.map (·.1)
 ·rw[c_ h];apply Jd ?_;rw[Tr];exact bC.mpr #[n,(gF hs).mem_iff.mpr h,Z]
 rw[eF h,uN]
 ·rfl
 rw[Tr];intro m;let#[x,hx,e]:=bC.mp m;cases e;exact h ((gF hs).mem_iff.mp hx)
theorem rK:¬((uz:Str)="sorted_pairs"):=by decide +kernel
theorem C4:¬((uz:Str)=Bn):=by decide +kernel
def fg(d1 l2 d3:Addr):List (Str × V):=ay Bn (.ref d3) (ay "sorted_pairs" (.ref l2) (ay uz (.ref d1) []))
theorem HW(d1 l2 d3:Addr):(fg d1 l2 d3).lookup (uz:Str)\.ref d1:=by
 unfold fg;rw[gg,aA C4,gg,aA rK,gg,aI Z]
theorem Q_(d1 l2 d3:Addr):(fg d1 l2 d3).lookup (Bn:Str)\.ref d3:=by
 unfold fg;rw[gg,aI Z]
variable{m:Str}
theorem pN(d1 l2 d3:Addr)(h1:¬m=uz)(h2:¬m="sorted_pairs")(h3:¬m=Bn):(fg d1 l2 d3).lookup m=none:=by
 unfold fg;rw[gg,aA h3,gg,aA h2,gg,aA h1]
 all_goals rfl
structure iq (K:ai) (C:Addr) (H:Hp) (p:Addr) (hs:Xa) (ts:Xb) (fp:au):Prop where
 ex:∃(dx d1 l2 d3:Addr) (zs:ag) (as:au),fp=p::d1::l2::d3::as/\H p\.ins C dx (fg d1 l2 d3)/\H d1\.dK (dk hs)/\H l2\.lst zs/\bR K H zs ((bM ts).map kT)/\H d3\.dK (tx (aS hs) as)/\as.length=(aS hs).length /\
  ∀(i:Nat) n a,(aS hs)[i]? = some n->as[i]? = some a->H a\.lst ((near (aS hs) (bM ts) n).map V.str)
variable{H':Hp}
theorem iq.keep{K:ai}{C:Addr}{H:Hp}{p:Addr}{hs:Xa}{ts:Xb}{fp:au}(W:iq K C H p hs ts fp)(k:∀b∈fp,∀o,H b\o->H' b\o)(kt:∀b xs,H b\.tup xs->H' b\.tup xs):iq K C H' p hs ts fp:=by
 let#[dx,d1,l2,d3,zs,as,rfl,h1,h2,h3,h4,h5,h6,h7]:=W.ex;apply#[dx,d1,l2,d3,zs,as,Z,k _ Z2 _ h1,k _ Z2 _ h2,k _ Z2 _ h3,Paired.aV h4 λy q ⟨a,e,z⟩=>#[a,e,kt _ _ z],k _ Z2 _ h5,h6,λi n a e1 e2=>k _ ?_ _ (h7 i n a e1 e2)];have:=cQ e2;simp[this]
theorem iq.same{K:ai}{C:Addr}{H:Hp}{p:Addr}{hs:Xa}{ts:Xb}{fp:au}(W:iq K C H p hs ts fp)(s:aa H H'):iq K C H' p hs ts fp:=W.keep (λb _ o e=>s b o e) λb xs e=>s b _ e
structure Good (hs:Xa) (ts:Xb):Prop where
 az:∀h∈hs,nQ h
 uj:(hs.map (·.1)).Nodup
 h1:1<=hs.length
 h8:hs.length<=8
 tok:∀t∈ts,wc t
 B9:(ts.map λt=>kT (aH t.1 t.2)).Nodup
 wW:ts.length<64
 uc:∀t∈ts,t.1∈hs.map (·.1)/\t.2∈hs.map (·.1)
theorem Good.rG{hs:Xa}{ts:Xb}(G:Good hs ts):(aS hs).Nodup:=(gF hs).nodup_iff.mpr G.uj
theorem Good.iO{hs:Xa}{ts:Xb}(G:Good hs ts):(aS hs).length=hs.length:=by
 rw[(gF hs).length_eq,ak]
structure Txt (K:ai) (mg:Str->Option Aa) (C:Addr):Prop where
 cl:mB K C
 nS:l9 K C uz
 nP:l9 K C "sorted_pairs"
 nN:l9 K C Bn
section v
theorem lg:bG ["self","hands","ties","strengths","checked"] ["self","hands","ties"] (bg qQ):=bQ
inductive kY (K:ai) (C:Addr) (vs:ag) (H:Hp) (Q:VK) (E:XK):Prop
 |mk:∀(p dx lh lt:Addr) (ys zs:ag) (hs:Xa) (ts:Xb),vs=[.ref p,.ref lh,.ref lt]->H p\.ins C dx []->H lh\.lst ys->bR K H ys (hs.map kH)->H lt\.lst zs->bR K H zs (ts.map kT)->Good hs ts->(∀fp H',(∀b o,H b\o->b≠p->H' b\o)->iq K C H' p hs ts fp->(∀b∈fp,b=p∨H b=none)->Q .non H')->kY K C vs H Q E
theorem Y5{C:Addr}(F:bx K "__init__" "Web.__init__" qQ f fd)(T:Txt K mg C)(B:Bi mg)(cS:!bw 4 "checked_strengths" ["hands"] (wY K))(cT:!bw 4 "checked_ties" ["ties","strengths"] (kK K))(cN:!bw 2 "neighbours_of_all" ["names","ties"] (kR K)) :
  aq P w K mg base bh 5 f fd ["self","hands","ties"] (kY K C):=by
 exists F.bP lg;let#[p,dx,lh,lt,ys,zs,hs,ts,rfl,hp,fV,th,dZ,tt,G,k]:=h
 apply#[_,av (bj 3 lg.nd (aZ cS hr %[1|0]))
  (av (bj 4 lg.nd (aZ cT hr %[2,3|0]))
  (av (uH (pv 0) (pv 3) Z) (av (uH (pv 0) (pv 4) Z)
  (aF (uH (pv 0) (aZ cN hr %[i0 (OH Z) (by rfl) B.list xV %[3|0],4|0]) Z))))),?_]
 apply#[_,Z,lh,ys,hs,Z,fV,th,G.az,G.uj,G.h1,G.h8,λd1 H1 s1 f1 um=>?_];apply#[_,Z,_,Z,lt,d1,zs,ts,_,Z,s1 _ _ dZ,tt.same s1,G.tok,G.B9,G.wW,um,λt ht=>?_,λl2 Js H2 s2 f2 lS tz=>?_]
 ·rw[Ia,Ia];exact#[c_ (G.uc t ht).1,c_ (G.uc t ht).2]
 let zL:=s2 _ _ um;let kh:=s2 _ _ (s1 _ _ hp);have p1:p≠d1:=bK kh zL nofun;have p2:p≠l2:=bK kh lS nofun;apply#[_,Z,_,Z,p,C,dx,[],Z,kh,T.cl,T.nS,by show 0<1000;decide,?_];apply#[_,Z,_,Z,p,C,dx,_,Z,ax,T.cl,T.nP,by show 1<1000;decide,?_]
 let H3:Hp:=upd (upd H2 p (.ins C dx (ay uz (.ref d1) []))) p (.ins C dx (ay "sorted_pairs" (.ref l2) (ay uz (.ref d1) [])))
 have h3:∀{b o},H2 b\o->b≠p->H3 b\o:=λe ne=>by
  show upd (upd H2 p _) p _ _=_;rw[aw ne,aw ne];exact e
 have Mo:H3 p\.ins C dx (ay "sorted_pairs" (.ref l2) (ay uz (.ref d1) [])):=ax
 have CT:∀{b},H3 b=none->H2 b=none:=λ{b} e=>by
  by_cases z:b=p
  ·subst z;rw[Mo] at e;cases e
  have e:upd (upd H2 p _) p _ b=none:=e;rw[aw z,aw z] at e;exact e
 have PH:bR K H3 Js ((bM ts).map kT):=by
  rw[Ow];exact Paired.aV tz λy q ⟨a,e,z⟩=>#[a,e,h3 z (bK z kh nofun)]
 apply#[_,Z,d1,_,Z,.inl (h3 zL p1.symm),λl1 gm=>?_];rw[Ts];have s4:aa H3 (upd H3 l1 (.lst ((aS hs).map V.str))):=aa.new gm;have KI:l1≠l2:=(bp (H:=H3) (h3 lS p2.symm) gm).symm;apply#[_,Z,l1,l2,aS hs,Js,bM ts,Z,ax,s4 _ _ (h3 lS p2.symm),PH.same s4,G.rG,by rw[G.iO];have:=G.h8;omega,KI,λd3 as H5 s5 f5 la lV lists=>?_];let Lu:=s5 _ _ (s4 _ _ Mo);apply#[_,Z,p,C,dx,_,Z,Lu,T.cl,T.nN,by show 2<1000;decide,?_]
 have up:∀{b o},H2 b\o->b≠p->upd H5 p (.ins C dx (fg d1 l2 d3)) b\o:=λe ne=>by
  rw[aw ne];exact s5 _ _ (s4 _ _ (h3 e ne))
 have oP:∀{b},upd H3 l1 (.lst ((aS hs).map V.str)) b=none->H b=none:=λe=>s1.free (s2.free (CT (s4.free e)));have L8:d3≠p:=(bp (s4 _ _ Mo) f5).symm;apply k (p::d1::l2::d3::as) _ (λb o e ne=>up (s2 _ _ (s1 _ _ e)) ne) #[dx,d1,l2,d3,Js,as,Z,ax,up zL p1.symm,up lS p2.symm,?_,?_,la,λi n a e1 e2=>?_] λb hb=>?_
 ·exact Paired.aV (PH.same (s4.trans s5)) λy q ⟨a,e,z⟩=>#[a,e,by rw[aw (bK z Lu nofun)];exact z]
 ·rw[aw L8];exact lV
 ·let#[q1,q2]:=lists i n a e1 e2;rw[aw (bK q2 Lu nofun)];exact q2
 simp only[bU] at hb;rcases hb with rfl|rfl|rfl|rfl|hb
 ·exact .inl Z
 ·exact .inr f1
 ·exact .inr (s1.free f2)
 ·exact .inr (oP f5)
 let#[i,hi,e]:=gX hb;have e1:as[i]? = some b:=by rw[aP hi,e]
 have hn:i<(aS hs).length:=by omega
 exact .inr (oP (lists i _ b (aP hn) e1).1)
end
structure bW (P:Ad) (w:Ag) (K:ai) (mg:Str->Option Aa) (base:Heap) (C:Addr) (k:Nat) (m:Str) (ps:af) (sp:Sp):Prop where
 ex:∃f fd,aq P w K mg base bh k f fd ps sp/\Meth K C m f/\ph K fd ps []
variable{o:Expr}{apos:Pos}{ta:TE}{pl:Sem Bool}
theorem jc{C:Addr}(c:bW X.prog X.w X.K X.mg X.base C k m ps sp)(cl:mB X.K C)(hr:aQ k X.A)(he:PE X o ta)(ha:PA X (e::es) t)(zx:starEach (e::es) X.env=(false,eval e X.env)::starEach es X.env:=by rfl)(ig:(backTo pos (starEach es X.env)).any (·.1)=false:=by rfl)(ht:eval (.Call (.Attribute o m apos) (e::es) [] pos) X.env=(do
   let ov <- eval o X.env
   standAt apos.atName
   let (f,first) <- holding [ov] (getMethod ov m pl)
   callWith pos f first (backTo pos (starEach (e::es) X.env)) (backToKw pos (keywordEach [] X.env))):=by rfl) :
  PE X (.Call (.Attribute o m apos) (e::es) [] pos) (mJ C m sp [] E0 ta t):=by
 let#[f,fd,F,hm,b]:=c.ex;exact _a he cl hm F hr b .nil nj ha zx ig ht
theorem Ax{C:Addr}(c:bW X.prog X.w X.K X.mg X.base C k m ps sp)(cl:mB X.K C)(hr:aQ k X.A)(he:PE X o ta)(ht:eval (.Call (.Attribute o m apos) [] [] pos) X.env=(do
   let ov <- eval o X.env
   standAt apos.atName
   let (f,first) <- holding [ov] (getMethod ov m pl)
   callWith pos f first (backTo pos (starEach [] X.env)) (backToKw pos (keywordEach [] X.env))):=by rfl) :
  PE X (.Call (.Attribute o m apos) [] [] pos) (mJ C m sp [] E0 ta ou):=by
 let#[f,fd,F,hm,b]:=c.ex;exact hE_ he cl hm F hr b .nil nj ht
theorem fB_{hs:Xa}(nd:(hs.map (·.1)).Nodup){x:Str}{n:Int}(h:(x,n)∈hs):aY (dk hs) (Sum.inr x)\.int n:=by
 have m:((Sum.inr x:Key),V.int n)∈dk hs:=by
  unfold dk;apply bC.mpr #[kH (x,n),(tK _).mem_iff.mpr (bC.mpr #[_,h,Z]),Z]
 let nk:=UP nd;generalize dk hs=kvs at m nk
 induction kvs with
 |nil=>cases m
 |cons p r ih=>
  let#[n1,n2]:=jk.mp nk;rcases bU.mp m with e|m
  ·rw[<- e];exact AH Z
  rw[AE (λe:p.1=Sum.inr x=>n1 (bC.mpr #[_,m,e.symm]))];exact ih m n2
variable{as:au}
theorem fP_(nd:ns.Nodup)(la:as.length=ns.length){i:Nat}{n:Str}(hn:ns[i]? = some n):∃a,as[i]? = some a/\aY (tx ns as) (Sum.inr n)\.ref a:=by
 induction ns generalizing as i with
 |nil=>simp at hn
 |cons x ns ih=>
  cases as with
  |nil=>cases la
  |cons b as=>
   let#[n1,n2]:=jk.mp nd;cases i with
   |zero=>
    have e:x=n:=⇑hn
    subst e;exact#[b,Z,AH Z]
   |succ i=>
    have hn:ns[i]? = some n:=⇑hn
    let#[a,h1,h2]:=ih n2 ⇑la hn;apply#[a,by simpa using h1,?_];show aY ((Sum.inr x,V.ref b)::tx ns as) (Sum.inr n)=_;rw[AE λe=>n1 (by rw[show x=n from hJ e];exact cQ hn)];exact h2
section v
theorem w4:bG nU nU (bg u9):=bQ
inductive js (K:ai) (C:Addr) (vs:ag) (H:Hp) (Q:VK) (E:XK):Prop
 |mk:∀(p:Addr) (x:Str) (hs:Xa) (ts:Xb) (fp:au),vs=[.ref p,.str x]->iq K C H p hs ts fp->Q (.bl (decide (x∈hs.map (·.1)))) H->js K C vs H Q E
theorem Zl{C:Addr}(F:bx K "has_hand" "Web.has_hand" u9 f fd)(T:Txt K mg C)(B:Bi mg):!aq bh 1 f fd nU (js K C):=by
 exists F.bP w4;let#[p,x,hs,ts,fp,rfl,W,k]:=h;let hu:=gf hr;let#[dx,d1,l2,d3,zs,as,rfl,h1,h2,h3,h4,h5,h6,h7]:=W.ex;apply#[_,aF (bu (s_ (cJ jR (by rfl) B.ja jh %[1,jP (v:=.ty "str") (by rfl) B.str Hi Z|0]) (uF (Hh (Bs hu (pv 1) (gG (pv 0) Z)))))),?_];apply#[_,Z,_,_,_,_,Z,.str x,Z,_,Z,df ?_];apply#[_,Z,_,Z,p,C,dx,_,_,Z,h1,T.cl,T.nS,HW _ _ _,d1,_,Z,.k (k:=Sum.inr x) h2,?_];rw[Ia];exact k
theorem u7:bG oR oR (bg lI):=bQ
inductive Fs (K:ai) (C:Addr) (vs:ag) (H:Hp) (Q:VK) (E:XK):Prop
 |mk:∀(p:Addr) (hs:Xa) (ts:Xb) (fp:au),vs=[.ref p]->iq K C H p hs ts fp->(∀l,H l=none->Q (.ref l) (upd H l (.lst ((aS hs).map V.str))))->Fs K C vs H Q E
theorem hL_{C:Addr}(F:bx K "hands" "Web.hands" lI f fd)(T:Txt K mg C)(B:Bi mg):!aq bh 1 f fd oR (Fs K C):=by
 exists F.bP u7;let#[p,hs,ts,fp,rfl,W,k]:=h;let#[dx,d1,l2,d3,zs,as,rfl,h1,h2,h3,h4,h5,h6,h7]:=W.ex;apply#[_,aF (bu (i0 (OH Z) (by rfl) B.list xV %[gG (pv 0) Z|0])),?_];apply#[_,Z,p,C,dx,_,_,Z,h1,T.cl,T.nS,HW _ _ _,d1,_,Z,.inl h2,λl hl=>?_];rw[Ts];exact k l hl
theorem ei':bG vY vY (bg Ot):=bQ
inductive Jg (K:ai) (C:Addr) (vs:ag) (H:Hp) (Q:VK) (E:XK):Prop
 |mk:∀(p:Addr) (x:Str) (n:Int) (hs:Xa) (ts:Xb) (fp:au),vs=[.ref p,.str x]->iq K C H p hs ts fp->(hs.map (·.1)).Nodup->(x,n)∈hs->Q (.int n) H->Jg K C vs H Q E
theorem eg_{C:Addr}(F:bx K "strength" "Web.strength" Ot f fd)(T:Txt K mg C)(cH:!bW C 1 "has_hand" nU (js K C)):!aq bh 2 f fd vY (Jg K C):=by
 apply F.bP ei' λaN A outer s H vs Q E hr h=>?_;let#[p,x,n,hs,ts,fp,rfl,W,nd,hx,k]:=h;let hu:=gf hr;let#[dx,d1,l2,d3,zs,as,rfl,h1,h2,h3,h4,h5,h6,h7]:=id W.ex;apply#[_,av (b_ (eV (eO (jc cH T.cl hr (pv 0) %[1|0]))) gr cm) (aF (bu (n5 hu (gG (pv 0) Z) (pv 1)))),?_];apply#[_,Z,p,dx,_,Z,h1,pN _ _ _ Z0 Z0 Z0,_,Z,p,x,hs,ts,_,Z,W,_,Z,?_];rw[c_ (bC.mpr #[_,hx,Z])];apply aK ?_;apply#[_,Z,p,C,dx,_,_,Z,h1,T.cl,T.nS,HW _ _ _,_,Z,d1,_,Z,?_,k];rw[<- fB_ nd hx];exact .k (k:=Sum.inr x) h2
theorem u5:bG vY vY (bg lE):=bQ
inductive NK (K:ai) (C:Addr) (vs:ag) (H:Hp) (Q:VK) (E:XK):Prop
 |mk:∀(p:Addr) (x:Str) (hs:Xa) (ts:Xb) (fp:au),vs=[.ref p,.str x]->iq K C H p hs ts fp->(aS hs).Nodup->x∈hs.map (·.1)->(∀l,H l=none->Q (.ref l) (upd H l (.lst ((near (aS hs) (bM ts) x).map V.str))))->NK K C vs H Q E
theorem Q7{H:Hp}{hs:Xa}{ts:Xb}{x:Str}(nd:(aS hs).Nodup)(hx:x∈hs.map (·.1))(la:as.length=(aS hs).length)(h7:∀(i:Nat) n a,(aS hs)[i]? = some n->as[i]? = some a->H a\.lst ((near (aS hs) (bM ts) n).map V.str)):∃a,aY (tx (aS hs) as) (Sum.inr x)\.ref a/\H a\.lst ((near (aS hs) (bM ts) x).map V.str):=by
 let#[i,hi,e]:=gX ((gF hs).mem_iff.mpr hx);have hn:(aS hs)[i]? = some x:=by rw[aP hi,e]
 let#[a,h1,h2]:=fP_ nd la hn;exact⟨a,h2,h7 i x a hn h1⟩
theorem ZT{C:Addr}(F:bx K "neighbours" "Web.neighbours" lE f fd)(T:Txt K mg C)(B:Bi mg)(cH:!bW C 1 "has_hand" nU (js K C)):!aq bh 2 f fd vY (NK K C):=by
 exists F.bP u5;let#[p,x,hs,ts,fp,rfl,W,nd,hx,k]:=h;let hu:=gf hr;let#[dx,d1,l2,d3,zs,as,rfl,h1,h2,h3,h4,h5,h6,h7]:=id W.ex;let#[a,e1,ha]:=Q7 nd hx h6 h7;apply#[_,av (b_ (eV (eO (jc cH T.cl hr (pv 0) %[1|0]))) gr cm) (aF (bu (i0 e3_ (by rfl) B.list xV %[n5 hu (gG (pv 0) Z) (pv 1)|0]))),?_];apply#[_,Z,p,dx,_,Z,h1,pN _ _ _ Z0 Z0 Z0,_,Z,p,x,hs,ts,_,Z,W,_,Z,?_];rw[c_ hx];apply aK ?_;apply#[_,Z,p,C,dx,_,_,Z,h1,T.cl,T.nN,Q_ _ _ _,_,Z,d3,.ref a,Z,?_,a,_,Z,.inl (.of ha),k];rw[<- e1];exact .k (k:=Sum.inr x) h5
theorem yG:bG jV jV (bg qC):=bQ
theorem M4{H:Hp}:∀ns:af,Paired (rS H) (ns.map V.str) ns
 |[]=>.nil
 |_::ns=>.cons Z (M4 ns)
end
end Ev
namespace L2
open PySem PySem.Spec PyProof.Rows PySem.W
variable{X:Cx}{pins:List (Addr × Obj)}{σ:St}{s:Ab}{h':Heap}{t':Nat}{fp:au}
theorem Inv.iJ{H:Hp}{T:Addr}{xs:ag}{its:aj}(I:Inv X pins σ H s)(k:∀b o,b∉fp->s.heap.get? b\o->h'.get? b\o)(hf:∀b∈fp,dj X pins H b)(hT:s.heap.objs.size<=T)(hz:xs.length<=sizeLine)(r:Vals xs its)(ht:IsTup h' T its.toArray/\∃o,h'.get? T\o/\o.dict=none):Inv X pins σ (upd H T (.tup xs)) { s with heap:=h',toks:=t' }:=by
 have fT:H T=none:=I.az.fresh hT;have nf:∀b u,H b\u->b∉fp:=λb u e hb=>by rw[(hf b hb).1] at e;cases e
 have old:∀{b u},H b\u->upd H T (.tup xs) b\u:=λe=>by rw[aw (bp e fT)];exact e
 apply I.step (g':=s.gens) (d':=s.drawn) (ch:=fp) (λb hb=>?_) (λb o _ _ hc e _=>k b o hc e) (λb o _ _ hc e _=>#[o.slots,k b o hc e]) (λb o _ e n=>?_)
  (λb o hc e=>#[o,k b o hc e]) (λb ys e=>old e) (λb o u e=>old e) (λb ps e=>#[#[],by rw[Array.append_empty];exact old e]) (λm hm=>?_) (λb u e=>?_) I.bare
 ·let#[f0,f1,f2,f3,f4,f5]:=hf b hb;exact#[f3,f1,f4,f5]
 ·rw[aw (λz=>by subst z;exact absurd (bz e) (Nat.not_lt.mpr hT))];exact n
 ·let#[o,es,ep,ho,r]:=hm;exact#[o,es,ep,k _ o (λhb=>(hf _ hb).2.1 Z) ho,r]
 by_cases z:b=T
 ·subst z;rw[ax] at e;cases e;exact#[hz,its,r,ht]
 rw[aw z] at e;apply (I.az b u e).eg (λc v hc q=>k c v ?_ q) (λ_ q=>old q) λ_ _ q=>old q;rcases hc with z|z
 ·rw[z];exact nf b u e
 exact nf c _ z
theorem Inv.gK{H:Hp}(I:Inv X pins σ H s)(k:∀b o,b∉fp->s.heap.get? b\o->h'.get? b\o)(hf:∀b∈fp,dj X pins H b):Inv X pins σ H { s with heap:=h',toks:=t' }:=by
 have nf:∀b u,H b\u->b∉fp:=λb u e hb=>by rw[(hf b hb).1] at e;cases e
 apply I.step (g':=s.gens) (d':=s.drawn) (ch:=fp) (λb hb=>?_) (λb o _ _ hc e _=>k b o hc e) (λb o _ _ hc e _=>#[o.slots,k b o hc e]) (λb o _ e n=>n)
  (λb o hc e=>#[o,k b o hc e]) (λb ys e=>e) (λb o u e=>e) (λb ps e=>#[#[],by rw[Array.append_empty];exact e]) (λm hm=>?_) (λb u e=>?_) I.bare
 ·let#[f0,f1,f2,f3,f4,f5]:=hf b hb;exact#[f3,f1,f4,f5]
 ·let#[o,es,ep,ho,r]:=hm;exact#[o,es,ep,k _ o (λhb=>(hf _ hb).2.1 Z) ho,r]
 apply (I.az b u e).eg (λc v hc q=>k c v ?_ q) (λ_ q=>q) λ_ _ q=>q;rcases hc with z|z
 ·rw[z];exact nf b u e
 exact nf c _ z
section
variable{M:Model}{A:Af}{E:Aa->Ab->Prop}{s:Ab}{base:Heap}{env:Env}{outer:List Env}{L e:Addr}{cls cx fl:Aa}{Q:Unit->Ab->Prop}
end
section
variable{P:Ad}{w:Ag}{H H':Hp}{B h0 h h1:Heap}{l:List Env}
end
section
variable{X:Cx}{pins:List (Addr × Obj)}{σ:St}{H H':Hp}{s s1:Ab}{B h:Heap}{a:Addr}{cls a0:Aa}{E:XK}
end
section
variable{P:Ad}{w:Ag}{K:ai}{mg:Str->Option Aa}{base:Heap}{N:af}{qual:Str}{scope:Scope}{f:Addr}{cd:Aa}{A:Af}{outer:List Env}{s:Ab}{H:Hp}{E:XK}
end
section v
end
open PySem.Calls Builtin Builtin.ObjectAttr Builtin.Getset_descriptor
structure Pq (K:ai) (C:Addr):Prop where
 cl:(clsIn K C).isSome=true
 ga:findIn K (.ref C) "__getattribute__"\some (.builtin "BaseException.__getattribute__")
 ha:findIn K (.ref C) "__getattr__"\none
 ca:findIn K (.ref C) "__class__"\some (.builtin "object.__class__")
 gt:specialIn K (.builtin "object.__class__") "__get__"\some (.builtin "getset_descriptor.__get__")
 tk:takesIn K (.builtin "object.__class__")\true
 mo:mroIn K C (.type "object")\true
 mb:mroIn K C (.type "BaseException")\true
section
variable{prog:Ad}{w:Ag}{A:Af}{E:Aa->Ab->Prop}{s:Ab}{K:ai}{x C:Addr}
end
inductive xh (K:ai) (xs:ag) (H:Hp) (Q:VK):Prop
 |mk:∀x C t b,xs=[x,.ref C]->fG K H x t->PySem.W.kitOne K t (.ref C)\b->Q (.bl b) H->xh K xs H Q
theorem fN_:gn X (.builtin "isinstance") (xh X.K):=by
 intro pins s σ H xs us Q I r h;let#[x,C,t,b,rfl,ty,e,q]:=h;let#[u,w',rfl,ru,i9]:=vals2 r;cases (show w'=Value.ref C from i9);exact Ub I ru ty e λtk=>#[.bl b,H,I.tok tk,Z,q]
end L2
namespace Ev
open PySem L2
abbrev lO:Stmt:=top 52
abbrev NO:Stmt:=top 53
abbrev Ol:Stmt:=top 54
abbrev EZ:Stmt:=top 55
abbrev lM:Stmt:=top 58
abbrev Kh:Stmt:=top 20
abbrev Kg:Stmt:=top 21
abbrev qU:Stmt:=top 22
abbrev qP:Stmt:=top 23
abbrev qN:Stmt:=top 24
abbrev NC:Stmt:=top 13
abbrev NI:Stmt:=top 26
abbrev OO:Stmt:=top 27
abbrev qM:Stmt:=top 28
abbrev NH:Stmt:=top 29
abbrev qD:Stmt:=top 30
abbrev NY:Stmt:=top 31
abbrev NM:Stmt:=top 32
abbrev qX:Stmt:=top 34
abbrev lK:Stmt:=top 35
abbrev qF:Stmt:=top 36
abbrev Ny:Stmt:=top 37
abbrev qJ:Stmt:=top 38
abbrev Iu:Stmt:=top 39
abbrev qK:Stmt:=top 40
abbrev M_:Stmt:=top 41
abbrev lG:Stmt:=top 59
abbrev NB:Stmt:=top 60
abbrev lF:Stmt:=top 61
abbrev OG:Stmt:=top 62
abbrev Nu:Stmt:=top 63
abbrev NG:Stmt:=top 64
abbrev lH:Stmt:=top 65
abbrev NV:Stmt:=top 66
abbrev NN:Stmt:=top 67
abbrev qA:Stmt:=top 68
abbrev qV:Stmt:=top 69
abbrev NQ:Stmt:=top 70
abbrev Na:Stmt:=top 71
abbrev f_:Stmt:=top 72
def bc(l:Addr)(H H':Hp):Prop:=∀b o,H b\o->b≠l->H' b\o
theorem bc.refl(l:Addr)(H:Hp):bc l H H:=λ_ _ e _=>e
variable{H1:Hp}
theorem bc.trans{l:Addr}{H H2:Hp}(h:bc l H H1)(h2:bc l H1 H2):bc l H H2:=λb o e n=>h2 b o (h b o e n) n
theorem bc.of{l:Addr}{H:Hp}(h:aa H H1):bc l H H1:=λb o e _=>h b o e
theorem bc.upd{l:Addr}{H:Hp}{o:HO}:bc l H (upd H l o):=λb u e n=>by rw[aw n];exact e
def dD(H:Hp)(l:Addr):Prop:=(∃n:Int,H l\.lst [.int n])∨∃n m c:Int,H l\.lst [.int n,.int m,.int c]
theorem dD.some{H:Hp}{l:Addr}(h:dD H l):∃xs,H l\.lst xs:=by
 rcases h with⟨n,e⟩|⟨n,m,c,e⟩
 ·exact#[_,e]
 exact#[_,e]
theorem bc.free{l b:Addr}{H H':Hp}(h:bc l H H')(s:dD H' l)(e:H' b=none):H b=none:=by
 cases z:H b with
 |none=>rfl
 |some o=>
  by_cases q:b=l
  ·subst q;let#[xs,e2]:=s.some;rw[e] at e2;cases e2
  rw[h b o z q] at e;cases e
theorem dQ{α:Type}{xs:List α}{i:Int}(h0:0<=i)(h1:i<xs.length):ix xs i=xs[i.toNat]?:=by
 unfold ix vE;rw[aI h0,aI h1];rfl
section v
def xU:Sp:=λvs H Q _=>∃(l:Addr) (b:Int),vs=[.ref l,.int b]/\0<b/\b<1073741824/\dD H l/\∀r H',0<=r->r<b->bc l H H'->dD H' l->Q (.int r) H'
theorem small(x:Int):-(2 ^ 64)<x % 2147483647/\x % 2147483647<2 ^ 64:=by
 let h1:=Int.emod_nonneg x (b:=2147483647) (by decide);let h2:=Int.emod_lt_of_pos x (b:=2147483647) (by decide);exact#[by omega,by omega]
end
theorem _r:("abcdefghijklmnopqrstuvwxyz":Str).cps.toList=[97,98,99,100,101,102,103,104,105,106,107,108,109,110,111,112,113,114,115,116,117,118,119,120,121,122]:=by decide +kernel
variable{r:Int}
theorem YB(h0:0<=r)(h1:r<26):∃c,ix ("abcdefghijklmnopqrstuvwxyz":Str).cps.toList r\c/\oJ c=true:=by
 rw[_r,dQ h0 ⇑h1];have hn:r.toNat<26:=by omega
 apply#[_,aP ⇑hn,?_];have all:∀c∈[97,98,99,100,101,102,103,104,105,106,107,108,109,110,111,112,113,114,115,116,117,118,119,120,121,122],oJ c=true:=by decide +kernel
 exact all _ (kD _)
def pG{α:Type}(l:List α)(k:Nat)(x:α):List α:=l.take k++x::l.drop k
theorem FA{α:Type}(l:List α)(k:Nat)(x:α):(pG l k x).Perm (x::l):=by
 unfold pG;apply List.perm_middle.trans ?_;rw[List.take_append_drop]
theorem T7{α β:Type}(g:α->β)(l:List α)(k:Nat)(x:α):(pG l k x).map g=pG (l.map g) k (g x):=by
 unfold pG;rw[eS,eG,List.map_take,List.map_drop]
theorem OE{α β:Type}{F:α->β->Prop}:∀{ys:List α} {ks:List β} (k:Nat) {y:α} {q:β},Paired F ys ks->F y q->Paired F (pG ys k y) (pG ks k q)
 |[],_,k,_,_,.nil,h=>by
  unfold pG;simp only[List.take_nil,List.drop_nil,List.nil_append];exact .cons h .nil
 |y::ys,_,0,_,_,.cons a t,h=>.cons h (.cons a t)
 |y::ys,_,k+1,_,_,.cons a t,h=>.cons a (OE k t h)
theorem Oo{α:Type}(l:List α)(k:Nat)(x:α):(pG l k x).length=l.length+1:=(FA l k x).length_eq
theorem zJ{α:Type}{a b:α}(h0:0<=r)(h1:r<2):ix [a,b] r\a∨ix [a,b] r\b:=by
 have:r=0∨r=1:=by omega
 rcases this with rfl|rfl
 ·exact .inl Z
 exact .inr Z
theorem LM{α:Type}{p:α->Prop}{a b c d:α}(h0:0<=r)(h1:r<4)(ha:p a)(hb:p b)(hc:p c)(hd:p d):∃x,ix [a,b,c,d] r\x/\p x:=by
 have:r=0∨r=1∨r=2∨r=3:=by omega
 rcases this with rfl|rfl|rfl|rfl
 ·exact#[_,Z,ha]
 ·exact#[_,Z,hb]
 ·exact#[_,Z,hc]
 exact#[_,Z,hd]
theorem jT{K:ai}{H H':Hp}{l:Addr}{ys:ag}{ks:List aC}(t:bR K H ys ks)(b:bc l H H'){xs:ag}(hl:H l\.lst xs):bR K H' ys ks:=Paired.aV t λy k ⟨a,z,q⟩=>#[a,z,b _ _ q (bK q hl nofun)]
variable{D:Addr}{ns:af}
theorem T4{K:ai}{H:Hp}(h:H D\.lst (ns.map V.str)):rL K rS H (.ref D) ns:=#[D,_,Z,.of h,M4 ns]
theorem f7_{K:ai}{a:Addr}{ys:ag}{hs:Xa}{H:Hp}{Q:VK}{o6:St}(vG:o6=[none,none])(ha:H a\.lst ys)(tu:bR K H ys (hs.map kH))(h8:hs.length<=1000)(hD:H D=none)(q:∀H',aa H H'->H' D\.lst ((hs.map (·.1)).map V.str)->Q (.ref D) H'):Bm (yb K a) (gA K 2 (pE (kz 0) (pE (kz 1) rX))) pV (oq 0) o6 D H Q:=by
 let sz:=cX;let le:=br tu;rw[ak] at le;apply iZ (own:=2) (fv:=[]) (xs:=ys) vG vR (λi out H'=>aa H H'/\H' D\.lst out/\out=((hs.take i).map (·.1)).map V.str) #[aa.new hD,ax,Z] (λi out H' _ ⟨sm,_,_⟩=>.of (sm _ _ ha)) (λout H4 ⟨sm,iS,eo⟩=>?_) (λj y out H' hy ⟨sm,cK,eo⟩=>?_)
 ·rw[le,eI] at eo;subst eo;exact q _ sm iS
 let#[h,hh,p,rfl,hp]:=uM tu hy;apply#[_,#[p,_,_,Z,.of (sm _ _ (zB hp)),Z],Z,λNx hN=>d_ ?_];apply#[_,Z,out,cK,?_,hN _ _ #[fi sm hD,ax,?_]]
 ·rw[eo,ak,ak,dH];omega
 rw[tH _ hh,eS,eo];rfl
def kO(t:Str × Str):aC:=kT (aH t.1 t.2)
structure TI (ns:af) (k j:Nat) (ts:Xb):Prop where
 at':∀t∈ts,∃(a b:Nat) (x y:Str),b<a/\(a<k∨(a=k/\b<j))/\ns[a]? = some x/\ns[b]? = some y/\(t=(x,y)∨t=(y,x))
 nd:(ts.map kO).Nodup
 len:ts.length<=7 * k+j
variable{j k:Nat}
theorem TI.skip{ts:Xb}(h:TI ns k j ts):TI ns k (j+1) ts:=
 #[λt ht=>let #[a,b,x,y,h1,h2,h3,h4,h5]:=h.at' t ht;#[a,b,x,y,h1,by omega,h3,h4,h5],h.nd,by have:=h.len;omega]
theorem TI.next{ts:Xb}(h:TI ns k k ts)(h7:k<=7):TI ns (k+1) 0 ts:=
 #[λt ht=>let #[a,b,x,y,h1,h2,h3,h4,h5]:=h.at' t ht;#[a,b,x,y,h1,by omega,h3,h4,h5],h.nd,by have:=h.len;omega]
theorem HZ{a b:Str × Str}(h:kT a=kT b):a=b:=by
 unfold kT at h;let#[h1,h2]:=List.cons.inj h;let#[h2,_]:=List.cons.inj h2;exact Prod.ext (hJ h1) (hJ h2)
variable{x:Str}
theorem Fq(nd:ns.Nodup){i:Nat}(h:ns[i]? = some x)(h2:ns[j]? = some x):i=j:=by
 let#[hi,e1]:=bY.mp h;let#[hj,e2]:=bY.mp h2;exact (List.getElem_inj nd).mp (e1.trans e2.symm)
variable{b:Str}
theorem Rb{a c d:Str}(h:kO (a,b)=kO (c,d)):(a=c/\b=d)∨(a=d/\b=c):=by
 let h:=HZ h;dsimp only at h;rcases Bw a b with e|e<;>rcases Bw c d with e2|e2<;>rw[e,e2] at h<;>let h1:=(Prod.mk.inj h).1<;>let h2:=(Prod.mk.inj h).2
 ·exact .inl #[h1,h2]
 ·exact .inr #[h1,h2]
 ·exact .inr #[h2,h1]
 exact .inl #[h2,h1]
theorem TI.add{ts:Xb}(h:TI ns k j ts)(nd:ns.Nodup){y:Str}{t:Str × Str}(hj:j<k)(hx:ns[k]? = some x)(hy:ns[j]? = some y)(ht:t=(x,y)∨t=(y,x))(q:Nat):TI ns k (j+1) (pG ts q t):=by
 apply#[λu hu=>?_,?_,by have:=h.len;rw[Oo];omega]
 ·rcases bU.mp ((FA _ _ _).mem_iff.mp hu) with rfl|hu
  ·exact#[k,j,x,y,hj,.inr #[Z,by omega],hx,hy,ht]
  exact h.skip.at' u hu
 apply ((FA ts q t).map kO).nodup_iff.mpr ?_;rw[eG];apply jk.mpr #[λm=>?_,h.nd];let#[u,hu,e]:=bC.mp m;let#[a,b,c,d,h1,h2,h3,h4,h5]:=h.at' u hu
 have key:(c=x/\d=y)∨(c=y/\d=x):=by
  rcases h5 with rfl|rfl<;>rcases ht with rfl|rfl<;>rcases Rb e with⟨q1,q2⟩|⟨q1,q2⟩<;>simp_all
 rcases key with⟨rfl,rfl⟩|⟨rfl,rfl⟩
 ·have:=Fq nd h3 hx;have:=Fq nd h4 hy;omega
 have:=Fq nd h3 hy;have:=Fq nd h4 hx;omega
theorem TI.good{ts:Xb}(h:TI ns k j ts)(nd:ns.Nodup)(ok:∀n∈ns,iw n=true):∀t∈ts,wc t/\t.1∈ns/\t.2∈ns:=λt ht=>by
 let#[a,b,x,y,h1,h2,h3,h4,h5]:=h.at' t ht;let mx:=cQ h3;let my:=cQ h4
 have ne:x≠y:=λe=>by
  subst e;have:=Fq nd h3 h4;omega
 rcases h5 with rfl|rfl
 ·exact#[#[ok _ mx,ok _ my,ne],mx,my]
 exact#[#[ok _ my,ok _ mx,ne.symm],my,mx]
theorem _A(ns:af)(k:Nat):dO (ns.map V.str) none (some (k:Int))=(ns.take k).map V.str:=by
 unfold dO;rw[HT.er,HT.dU,List.drop_zero,Nat.sub_zero,List.map_take,ak];by_cases h:k<=ns.length
 ·rw[Nat.min_eq_left h]
 rw[Nat.min_eq_right Z1,tL (by rw[ak];omega),tL (by rw[ak];omega)]
theorem dD.same{H H':Hp}{l:Addr}(h:dD H l)(s:aa H H'):dD H' l:=by
 rcases h with⟨n,e⟩|⟨n,m,c,e⟩
 ·exact .inl #[n,s _ _ e]
 exact .inr #[n,m,c,s _ _ e]
theorem fK_{a:Str}(h:zg a b=true):zg b a=false:=T8 (a:=Sum.inr a) (b:=Sum.inr b) h
theorem Zs{a:Str}(h:zg a b=false)(h2:zg b a=false):a=b:=hJ (Si (a:=Sum.inr a) (b:=Sum.inr b) h h2)
theorem Oj(a b:Str):aH a b=aH b a:=by
 unfold aH;by_cases h:zg a b=true
 ·rw[aI h,aA (by rw[fK_ h];decide)]
 by_cases h2:zg b a=true
 ·rw[aA h,aI h2]
 have:=Zs ⇑h ⇑h2;subst this;rw[aA h]
theorem IK{ts:Xb}{x:Str × Str}:x∈bM ts ↔ ∃t∈ts,aH t.1 t.2=x:=by
 have e:kT x∈(bM ts).map kT ↔ x∈bM ts:=#[λh=>by
  let#[y,hy,e]:=bC.mp h;rw[<- HZ e];exact hy,λh=>bC.mpr #[x,h,Z]]
 rw[<- e,Ow,(tK _).mem_iff,bC];exact#[λ⟨t,ht,q⟩=>#[t,ht,HZ q],λ⟨t,ht,q⟩=>#[t,ht,by rw[q]]]
theorem YY(a b:Str):kO (a,b)=kO (b,a):=by
 show kT (aH a b)=kT (aH b a);rw[Oj]
variable{f:Addr}{fd:Ae}
section v
theorem IT:bG [gB,"_law_base",xN,"_law_number"] vZ (bg lM):=bQ
theorem hU_(F:bx K uA uA lM f fd)(B:Bi mg):!aq bh 1 f fd vZ xU:=by
 exists F.bP IT;let#[l,b,rfl,h0,h1,st,k]:=h
 apply#[_,av (b_ (fF G7 (cJ iy (by rfl) B.len gC %[0|0]) aB)
   (aF (ml (pA oW PySem.F.slot_list_extend PySem.F.type_list_extend hc_ (pv 0) %[fN %[bN xR (bo fL (pv 0) aB) aB,aB|0]|0]))) cm)
  (av (b_ (fF Lc (bo fL (pv 0) aB) aB)
   (av (bj 2 IT.nd (bN xR (bo fL (pv 0) aB) (pv 1)))
   (av (HY (bN Fl (bo fL (pv 0) aB) (pv 1)) (Q5 (pv 0) aB Tp))
   (aF (bu (pv 2))))) cm)
  (av (HY (bN gH (bo fL (pv 0) aB) aB) (Q5 (pv 0) aB Tp))
  (av (bj 3 IT.nd (bN xR (bN pL (bN gH (bN gH (bo fL (pv 0) aB) (bN pL aB (bo fL (pv 0) aB))) aB) aB) aB))
  (av (bj 3 IT.nd (bN xR (bN pL (pv 3) (bN gH (bN Fl (pv 3) aB) aB)) aB))
  (aF (bu (bN xR (bN xR (bN pL (pv 3) (bN gH (bN Fl (pv 3) aB) aB)) aB) (pv 1)))))))),?_]
 rcases st with⟨n,lT⟩|⟨n,m,c,hl⟩
 case' inl=>
  apply#[_,Z,l,_,Z,.inl (.of lT),Z,_,Z,df ?_];apply#[_,Z,.inl #[Z,_,.of lT],_,Z,l,_,_,_,Z,Z,.of lT,Z,_,_,Z,Z,by show (0:Int)<2147483647;decide,zl,λq hq=>?_];apply#[l,q,_,_,Z,Z,aa.new hq _ _ lT,ax,by show 1+2<=sizeLine;decide,?_];have bt:bc l H (upd (upd H q (.lst [.int (n % 2147483647),.int 0])) l (.lst ([.int n]++[.int (n % 2147483647),.int 0]))):=(bc.of (aa.new hq)).trans bc.upd;have hl:(upd (upd H q (.lst [.int (n % 2147483647),.int 0])) l (.lst ([.int n]++[.int (n % 2147483647),.int 0]))) l\.lst [.int n,.int (n % 2147483647),.int 0]:=ax;generalize (upd (upd H q (.lst [.int (n % 2147483647),.int 0])) l (.lst ([.int n]++[.int (n % 2147483647),.int 0])))=H1 at bt hl ⊢
 case' inr=>
  apply#[_,Z,l,_,Z,.inl (.of hl),Z,_,Z,aK ?_];let bt:=bc.refl l H
 all_goals
  apply#[_,Z,l,_,_,_,Z,Z,.of hl,Z,_,_,Z,Z,_,Z,?_];apply cu (λc=>?_) (λc=>?_)
  ·apply#[_,Z,l,_,_,_,Z,Z,.of hl,Z,_,Z,_,_,Z,Z,h0,?_];apply#[_,Z,l,_,_,_,Z,Z,.of hl,Z,_,Z,_,_,Z,Z,#[h0,h1],_,Z,l,_,_,0,Z,Z,hl,Z,?_];exact#[_,Z,k _ _ (Int.emod_nonneg _ Z1) (Int.emod_lt_of_pos _ h0) (bt.trans bc.upd) (.inr #[_,_,_,ax])]
  apply#[_,Z,l,_,_,_,Z,Z,.of hl,Z,_,_,Z,Z,_,Z,l,_,_,2,Z,Z,hl,Z,?_];apply#[_,Z,l,_,_,_,Z,Z,.of ax,Z,_,Z,l,_,_,_,Z,Z,.of ax,Z,_,_,Z,Z,.inl #[by decide,by decide],_,_,Z,Z,_,_,Z,Z,_,_,Z,Z,.inr #[by decide,by decide],_,_,Z,Z,by show (0:Int)<2147483647;decide,?_];apply#[_,Z,_,Z,_,_,Z,Z,#[by decide,by decide],_,_,Z,Z,_,_,Z,Z,.inl (small _),_,_,Z,Z,by show (0:Int)<2147483647;decide,?_];apply#[_,Z,_,Z,_,_,Z,Z,#[by decide,by decide],_,_,Z,Z,_,_,Z,Z,.inl (small _),_,_,Z,Z,by show (0:Int)<2147483399;decide,_,Z,_,_,Z,Z,h0,?_];exact k _ _ (Int.emod_nonneg _ Z1) (Int.emod_lt_of_pos _ h0) (bt.trans bc.upd) (.inr #[_,_,_,ax])
theorem IY:bG [gB,xN,"_law_k"] [gB] (bg lG):=bQ
def Nc:Sp:=λvs H Q _=>∃(l:Addr),vs=[.ref l]/\dD H l/\∀x H',iw x=true->bc l H H'->dD H' l->Q (.str x) H'
theorem _H(F:bx K "_law_name" "_law_name" lG f fd)(B:Bi mg)(cD:!bw 1 uA vZ xU):!aq bh 2 f fd [gB] Nc:=by
 exists F.bP IY;let#[l,rfl,st,k]:=h;let sz:=cX
 apply#[_,av (bj 1 IY.nd sZ)
  (av (eW d6 Z (wB (by rfl) B.range %[bN gH aB (aZ cD hr %[0,aB|0])|0]) (cy 2 IY.nd)
   (aF (bj 1 IY.nd (bN fc_ (pv 1) (bo YH sZ (aZ cD hr %[0,aB|0]))))))
  (aF (bu (pv 1)))),?_]
 apply#[_,Z,l,8,Z,by decide,by decide,st,λr H1 r0 r8 b1 qd=>?_];apply#[_,_,Z,Z,_,Z,by show (-(2 ^ 62):Int)<=1+r;omega,by show 1+r<(2 ^ 62:Int);omega,?_];apply AI (lo:=0) (n:=(1+r).toNat) (λi σ H2=>∃(x:Str) (v:aL),σ=[some (.ref l),some (.str x),v]/\x.length=i/\x.cps.toList.all oJ=true/\bc l H H2/\dD H2 l) #["",none,Z,Z,Z,b1,qd] ?_ ?_
 ·rintro i σ H2 hi ⟨x,v,rfl,hx,ho,b2,fI⟩;apply#[_,Z,_,Z,l,26,Z,by decide,by decide,fI,λq H3 q0 W8 b3 iB=>?_];let#[c,hc,oc]:=YB q0 W8;apply#[_,_,_,Z,Z,by decide +kernel,hc,_,_,Z,Z,?_,_,_,Z,?_,?_,b2.trans b3,iB]
  ·have:(⟨(List.toArray [c])⟩:Str).length=1:=rfl;omega
  ·have e:(x++(⟨(List.toArray [c])⟩:Str)).cps.toList=x.cps.toList++[c]:=PySem.W.KT.app_list _ _;have:(x++(⟨(List.toArray [c])⟩:Str)).length=(x++(⟨(List.toArray [c])⟩:Str)).cps.toList.length:=by rw[tJ];rfl
   rw[this,e,d9,tJ];show x.length+1=i+1;omega
  have e:(x++(⟨(List.toArray [c])⟩:Str)).cps.toList=x.cps.toList++[c]:=PySem.W.KT.app_list _ _;rw[e,List.all_append,ho];simp[oc]
 rintro σ H2 ⟨x,v,rfl,hx,ho,b2,fI⟩;apply#[_,Z,k x H2 ?_ b2 fI];unfold iw;rw[ho,c_ (show 1<=x.length by omega),c_ (show x.length<=8 by omega)];rfl
theorem FF:bG [gB,"_law_most",xN,"_law_k","_law_name_here","_law_strength"] [gB,"_law_most"] (bg NB):=bQ
def Uq(K:ai):Sp:=λvs H Q _=>∃(l:Addr) (m:Nat),vs=[.ref l,.int m]/\1<=m/\m<=8/\dD H l/\∀(a:Addr) (ys:ag) (hs:Xa) (H':Hp),bc l H H'->dD H' l->H a=none->H' a\.lst ys->bR K H' ys (hs.map kH)->(∀h∈hs,nQ h)->(hs.map (·.1)).Nodup->1<=hs.length->hs.length<=m->Q (.ref a) H'
theorem g3_(F:bx K "_law_hands" "_law_hands" NB f fd)(B:Bi mg)(cD:!bw 1 uA vZ xU)(cN:!bw 2 "_law_name" [gB] Nc):!aq bh 3 f fd [gB,"_law_most"] (Uq K):=by
 exists F.bP FF;let#[l,m,rfl,m1,m8,st,k]:=h;let sz:=cX
 apply#[_,av (bj 2 FF.nd (fN bO))
  (av (eW d6 Z (wB (by rfl) B.range %[bN gH aB (aZ cD hr %[0,1|0])|0]) (cy 3 FF.nd)
   (av (bj 4 FF.nd (aZ cN hr %[0|0]))
   (aF (b_ (fF (TY gW (nZ hr 0)) (pv 4) (iI ["_law_one","_law_strength"] 2 [] (dI (pv 2)) (λfp s H=>AM (n:=2) (dC (eN (i:=0) (show (["_law_one","_law_strength"]:af).Nodup by decide +kernel) Z (Or.inl Z)) (dC (eN (i:=1) (show (["_law_one","_law_strength"]:af).Nodup by decide +kernel) Z (Or.inl Z)) i6)))
     (λfp s H=>ji) (λfp s H=>pv 0)) (by with_unfolding_all rfl))
    (av (bj 5 FF.nd (bo fL (fN %[aB,bN gH aB (aZ cD hr %[0,aB|0]),bN gH aB (aZ cD hr %[0,aB|0]),aB|0]) (aZ cD hr %[0,aB|0])))
    (aF (ml (pA oW PySem.F.slot_list_insert PySem.F.type_list_insert Tv (pv 2) %[aZ cD hr %[0,bN gH (cJ iy (by rfl) B.len gC %[2|0]) aB|0],fY %[4,5|0]|0]))))
    cm))))
  (aF (bu (pv 2)))),?_]
 apply#[zl,λa ha=>?_];let#[Jv,lT]:=st.some;have gd:l≠a:=bp lT ha
 have Wr:dD (upd H a (.lst [])) l:=by
  unfold dD;rw[aw gd];exact st
 apply#[_,Z,_,Z,l,m,Z,by omega,by omega,Wr,λr H1 r0 r8 b1 qd=>?_];apply#[_,_,Z,Z,_,Z,by show (-(2 ^ 62):Int)<=1+r;omega,by show 1+r<(2 ^ 62:Int);omega,?_]
 apply AI (lo:=0) (n:=(1+r).toNat) (λi σ H2=>∃(v3 v4 v5:aL) (ys:ag) (hs:Xa),σ=[some (.ref l),some (.int m),some (.ref a),v3,v4,v5]/\bc l H H2/\dD H2 l/\H2 a\.lst ys/\bR K H2 ys (hs.map kH)/\(∀h∈hs,nQ h)/\(hs.map (·.1)).Nodup/\hs.length<=i/\(1<=i->1<=hs.length))
  #[none,none,none,[],[],Z,(bc.of (aa.new ha)).trans b1,qd,b1 _ _ ax gd.symm,.nil,by simp,.nil,a_ _,by omega] ?_ ?_
 ·rintro i σ H2 hi ⟨v3,v4,v5,ys,hs,rfl,b2,fI,nK,tu,good,nd,le,ge⟩;have i8:i<8:=by omega
  apply#[_,Z,l,Z,fI,λx H3 nx b3 iB=>?_];let jG:=b3 _ _ nK gd.symm;let#[Vv,lS]:=fI.some;let PM:=jT tu b3 lS;apply#[_,Z,_,Z,a,Z,#[_,.of jG],λD hD=>?_];let QB:=br tu;rw[ak] at QB;apply iZ (own:=2) (fv:=[]) (xs:=ys) Z vR (λi out H'=>aa H3 H'/\H' D\.lst out/\out=((hs.take i).map (·.1)).map V.str) #[aa.new hD,ax,Z] (λi out H' _ ⟨sm,_,_⟩=>.of (sm _ _ jG)) (λout H4 ⟨sm,iS,eo⟩=>?_) (λj y out H' hy ⟨sm,cK,eo⟩=>?_)
  ·rw[QB,eI] at eo;subst eo;let jF:=sm _ _ jG;have b4:bc l H H4:=(b2.trans b3).trans (bc.of sm)
   have ib:dD H4 l:=by
    rcases iB with⟨n,e⟩|⟨n,m,c,e⟩
    ·exact .inl #[n,sm _ _ e]
    exact .inr #[n,m,c,sm _ _ e]
   let yj:=PM.same sm;apply#[x,_,Z,T4 iS,_,Z,?_];apply cu (λc=>?_) (λc=>?_)
   ·have KG:x∉hs.map (·.1):=⇑c
    apply#[_,Z,l,9,Z,by decide,by decide,ib,λr1 H5 q0 q1 b5 g8=>#[_,_,Z,Z,?_]];apply#[_,Z,l,1000,Z,by decide,by decide,g8,λr2 H6 q2 q3 b6 iK=>#[_,_,Z,Z,?_]];apply#[zl,λp hp=>?_];let#[PB,zH]:=iK.some;have lp:l≠p:=bp zH hp
    have i7:dD (upd H6 p (.lst [.int 1,.int (1+r1),.int (1+r2),.int 1000])) l:=by
     unfold dD;rw[aw lp];exact iK
    apply#[_,Z,l,4,Z,by decide,by decide,i7,λr3 H8 q4 q5 b8 yA=>?_];let hp8:=b8 _ _ (show upd H6 p (.lst [.int 1,.int (1+r1),.int (1+r2),.int 1000]) p=_ from ax) lp.symm;let#[y,hy,n,en,n1,n2]:=LM (p:=λy:V=>∃n:Int,y=.int n/\1<=n/\n<=1000) (a:=V.int 1) (b:=.int (1+r1)) (c:=.int (1+r2)) (d:=.int 1000) q4 q5 #[1,Z,by decide,by decide] #[_,Z,by omega,by omega] #[_,Z,by omega,by omega] #[1000,Z,by decide,by decide];subst en;apply#[p,_,_,_,Z,Z,.of hp8,hy,?_];have O4:bc l H4 H8:=((b5.trans b6).trans (bc.of (aa.new hp))).trans b8;let#[Vt,Ed]:=ib.some;let Mc:=O4 _ _ jF gd.symm;let V2:=jT yj O4 Ed;apply#[_,Z,.inl #[Z,_,.of Mc],_,Z,_,Z,a,_,Z,.inl (.of Mc),_,_,Z,Z,l,_,Z,by show (0:Int)<(ys.length:Int)+1;omega,by show (ys.length:Int)+1<1073741824;omega,yA,λr4 H9 q6 q7 b9 uZ=>?_];have q7:r4<(ys.length:Int)+1:=q7;let#[xs8,hl8]:=yA.some;let Mb:=b9 _ _ Mc gd.symm;let V1:=jT V2 b9 hl8;apply#[_,Z,_,Z,zl,λt ht=>?_];let jr:=aa.new (o:=.tup [.str x,.int n]) ht;apply#[a,r4.toNat,ys,.ref t,Z,by rw[Int.toNat_of_nonneg q6],jr _ _ Mb,by omega,by omega,?_]
    have hl9:∃xs,upd H9 t (.tup [.str x,.int n]) l\.lst xs:=by
     let#[xs,e]:=uZ.some;exact#[xs,jr _ _ e]
    have tt:upd H9 t (.tup [.str x,.int n]) t\.tup ((kH (x,n)).map kV):=ax;have ta:t≠a:=(bp Mb ht).symm;apply#[_,_,_,_,pG hs r4.toNat (x,n),Z,?_,?_,ax,?_,?_,?_,?_,?_]
    ·intro b o e ne;rw[aw (bp e ha)];exact jr _ _ (b9 _ _ (O4 _ _ (b4 _ _ e ne) ne) ne)
    ·unfold dD;rw[aw gd,aw (bp (uZ.some.choose_spec) ht)];exact uZ
    ·rw[T7];exact IP (OE _ (V1.same jr) #[t,Z,tt]) (jr _ _ Mb)
    ·intro h hh;rcases bU.mp ((FA _ _ _).mem_iff.mp hh) with rfl|hh
     ·exact#[nx,n1,n2]
     exact good h hh
    ·apply ((FA hs _ _).map _).nodup_iff.mpr ?_;rw[eG];exact jk.mpr #[KG,nd]
    ·rw[Oo];omega
    intro _;rw[Oo];omega
   apply#[_,_,_,_,hs,Z,b4,ib,jF,yj,good,nd,by omega,λ_=>?_];have Vq:x∈hs.map (·.1):=⇑c
   have:=List.length_pos_of_mem Vq;rw[ak] at this;omega
  let#[h,hh,p,rfl,hp]:=uM PM hy;apply#[_,#[p,_,_,Z,.of (sm _ _ (zB hp)),Z],Z,λNx hN=>d_ ?_];apply#[_,Z,out,cK,?_,hN _ _ #[fi sm hD,ax,?_]]
  ·rw[eo,ak,ak,dH];omega
  rw[tH _ hh,eS,eo];rfl
 rintro σ H2 ⟨v3,v4,v5,ys,hs,rfl,b2,fI,nK,tu,good,nd,le,ge⟩;exact#[_,Z,k a ys hs H2 b2 fI ha nK tu good nd (ge Z1) Z1]
theorem AL:bG [gB,jg,"_law_names","_law_few",xN,"_law_k","_law_other","_law_tie"] [gB,jg] (bg lF):=bQ
inductive NL (K:ai) (vs:ag) (H:Hp) (Q:VK) (E:XK):Prop
 |mk:∀(l lh:Addr) (ys:ag) (hs:Xa),vs=[.ref l,.ref lh]->dD H l->H lh\.lst ys->bR K H ys (hs.map kH)->(∀n∈hs.map (·.1),iw n=true)->(hs.map (·.1)).Nodup->hs.length<=8->lh≠l->(∀(a:Addr) (zs:ag) (ts:Xb) (H':Hp),bc l H H'->dD H' l->H a=none->H' a\.lst zs->bR K H' zs (ts.map kT)->(∀t∈ts,wc t/\t.1∈hs.map (·.1)/\t.2∈hs.map (·.1))->(ts.map kO).Nodup->ts.length<64->Q (.ref a) H')->NL K vs H Q E
theorem _z(F:bx K "_law_ties" "_law_ties" lF f fd)(B:Bi mg)(cD:!bw 1 uA vZ xU):!aq bh 2 f fd [gB,jg] (NL K):=by
 exists F.bP AL;let#[l,lh,ys,hs,rfl,st,fV,tu,Xu,nd,h8,lR,k]:=h;let sz:=cX
 apply#[_,av (M0 (i:=2) Bl 2 [] AL.nd Z (Or.inl Z) (dI (pv 1)) (λfp s H=>AM (n:=2) (dC (eN (i:=0) (show (Bl:af).Nodup by decide +kernel) Z (Or.inl Z)) (dC (eN (i:=1) (show (Bl:af).Nodup by decide +kernel) Z (Or.inl Z)) i6)))
     (λfp s H=>ji) (λfp s H=>pv 0))
  (av (bj 3 AL.nd (bN gH aB (aZ cD hr %[0,aB|0])))
  (av (bj 4 AL.nd (fN bO))
  (av (eW d6 Z (wB (by rfl) B.range %[cJ iy (by rfl) B.len gC %[2|0]|0]) (cy 5 AL.nd)
   (aF (eW d6 Z (dI (AD MW (pv 2) AR (AN (pv 5)))) (cy 6 AL.nd)
    (aF (b_ (fF QR (aZ cD hr %[0,aB|0]) (pv 3))
     (av (bj 7 AL.nd (bo fL (fN %[fY %[bo fL (pv 2) (pv 5),6|0],fY %[6,bo fL (pv 2) (pv 5)|0]|0]) (aZ cD hr %[0,aB|0])))
     (aF (ml (pA oW PySem.F.slot_list_insert PySem.F.type_list_insert Tv (pv 4) %[aZ cD hr %[0,bN gH (cJ iy (by rfl) B.len gC %[4|0]) aB|0],7|0]))))
     cm)))))
  (aF (bu (pv 4)))))),?_]
 apply#[_,Z,lh,Z,#[_,.of fV],λln uk=>?_];apply f7_ Z fV tu Z1 uk λH1 s1 hn1=>?_
 let ns:af:=hs.map (·.1)
 have n8:ns.length<=8:=by show (hs.map (·.1)).length<=8;rw[ak];exact h8
 let qd:=st.same s1;apply#[_,Z,l,3,Z,by decide,by decide,qd,λr H2 r0 r3 b2 fI=>#[_,_,Z,Z,?_]];let#[Vy,gm]:=qd.some
 have A_:ln≠l:=λe=>by
  subst e;let#[xs,e2]:=st.some;rw[uk] at e2;cases e2
 let xw:=b2 _ _ hn1 A_;apply#[zl,λa ha=>?_];let#[Vv,lS]:=fI.some;have gd:l≠a:=bp lS ha;have X9:ln≠a:=bp xw ha;have s3:aa H2 (upd H2 a (.lst [])):=aa.new ha
 have nL:H a=none:=by
  cases z:H a with
  |none=>rfl
  |some o=>
   have:=b2 _ _ (s1 _ _ z) gd.symm;rw[ha] at this;cases this
 apply#[_,Z,ln,_,Z,.inl (.of (s3 _ _ xw)),_,Z,by show (-(2 ^ 62):Int)<=((ns.map V.str).length:Int);omega,by show (((hs.map (·.1)).map V.str).length:Int)<2 ^ 62;rw[ak,ak];omega,?_]
 let Iv:Nat->Nat->Hp->Prop:=λkk j H'=>∃zs ts,bc l H H'/\dD H' l/\H' ln\.lst (ns.map V.str)/\H' a\.lst zs/\bR K H' zs (ts.map kT)/\TI ns kk j ts
 have le:(ns.map V.str).length=ns.length:=ak _
 apply AI (lo:=0) (n:=((ns.map V.str).length:Int).toNat) (λi σ H'=>∃(v5 v6 v7:aL),σ=[some (.ref l),some (.ref lh),some (.ref ln),some (.int (1+r)),some (.ref a),v5,v6,v7]/\Iv i 0 H')
  #[none,none,none,Z,[],[],((bc.of s1).trans b2).trans (bc.of s3),fI.same s3,s3 _ _ xw,ax,.nil,#[by simp,.nil,gM _]] ?_ ?_
 ·rintro i σ H4 hi ⟨v5,v6,v7,rfl,Vf,V7,b4,ib,zF,jF,yj,V_⟩;rw[Int.zero_add];have hi:i<ns.length:=by omega
  apply#[_,Z,_,Z,_,Z,ln,_,Z,.of zF,λp hp=>?_];rw[_A];have s5:aa H4 (upd H4 p (.lst ((ns.take i).map V.str))):=aa.new hp
  have lp:l≠p:=by
   let#[xs,e]:=ib.some;exact bp e hp
  have pln:ln≠p:=bp zF hp;have pa:p≠a:=(bp jF hp).symm
  apply#[p,Z,#[_,.of ax],hX (K:=K) (a:=p) (xs:=(ns.take i).map V.str) (λj σ H'=>∃(v6 v7:aL),σ=[some (.ref l),some (.ref lh),some (.ref ln),some (.int (1+r)),some (.ref a),some (.int i),v6,v7]/\H' p\.lst ((ns.take i).map V.str)/\Iv i j H')
   #[_,_,Z,ax,Vf,V7,b4.trans (bc.of s5),ib.same s5,s5 _ _ zF,s5 _ _ jF,yj.same s5,V_] (λj σ H' _ ⟨_,_,_,q,_⟩=>.of q) ?_ ?_]
  ·rintro j y σ H6 hy ⟨v6,v7,rfl,Rx,uS,A2,b6,iK,GU,vP,ub,ud⟩;let#[o,ho,rfl]:=mj hy
   have hj:j<i:=by
    have:=(bY.mp ho).1;rw[dH] at this;omega
   have ho:ns[j]? = some o:=by
    rw[List.getElem?_take_of_lt hj] at ho;exact ho
   have hx:ns[i]? = some ns[i]:=aP hi
   have Ez:ix (ns.map V.str) (i:Int)\.str ns[i]:=by
    rw[dQ Z1 (by rw[ak];omega),x8,di,hx];rfl
   apply#[_,Z,l,4,Z,by decide,by decide,iK,λr2 H7 q0 q1 b7 i7=>#[_,Z,_,_,Z,Z,_,Z,?_]];let#[PB,zH]:=iK.some;let GT:=b7 _ _ GU A_;let RR:=b7 _ _ vP gd.symm;let Rw:=b7 _ _ Rx lp.symm;let PL:=jT ub b7 zH;apply cu (λc=>?_) (λc=>?_)
   ·apply#[_,Z,_,Z,ln,_,_,_,Z,Z,.of GT,Ez,_,Z,zl,λt1 uh=>?_];let s8:=aa.new (o:=.tup [.str ns[i],.str o]) uh;apply#[_,Z,_,Z,_,Z,ln,_,_,_,Z,Z,.of (s8 _ _ GT),Ez,zl,λt2 xu=>?_];let s9:=aa.new (o:=.tup [.str o,.str ns[i]]) xu;apply#[zl,λlx kj=>?_];let CA:=aa.new (o:=.lst [.ref t1,.ref t2]) kj;let s7:=(s8.trans s9).trans CA;let jr:=i7.same s7;apply#[_,Z,l,2,Z,by decide,by decide,jr,λr3 Po q2 q3 Jk Cq=>?_]
    have Df:lx≠l:=by
     let#[xs,e]:=(i7.same (s8.trans s9)).some;exact (bp e kj).symm
    let D_:=Jk _ _ (show upd (upd (upd H7 t1 (.tup [.str ns[i],.str o])) t2 (.tup [.str o,.str ns[i]])) lx (.lst [.ref t1,.ref t2]) lx=_ from ax) Df;let#[Vx,Ef]:=jr.some;let DQ:=CA _ _ (s9 _ _ (show upd H7 t1 (.tup [.str ns[i],.str o]) t1=_ from ax));let DN:=CA _ _ (show upd (upd H7 t1 (.tup [.str ns[i],.str o])) t2 (.tup [.str o,.str ns[i]]) t2=_ from ax);let DO:=Jk _ _ DQ (bK DQ Ef nofun);let DM:=Jk _ _ DN (bK DN Ef nofun)
    have pick:∃(t:Addr) (tt:Str × Str),ix [V.ref t1,V.ref t2] r3\.ref t/\Po t\.tup ((kT tt).map kV)/\(tt=(ns[i],o)∨tt=(o,ns[i])):=by
     rcases zJ (a:=V.ref t1) (b:=V.ref t2) q2 q3 with e|e
     ·exact#[t1,(ns[i],o),e,DO,.inl Z]
     exact#[t2,(o,ns[i]),e,DM,.inr Z]
    let#[t,tt,et,ht,etc]:=pick;apply#[lx,_,_,_,Z,Z,.of D_,et,?_];have tG:bc l H7 Po:=(bc.of s7).trans Jk;let#[xs7,hl7]:=i7.some;let zR:=tG _ _ RR gd.symm;let LC:=tG _ _ GT A_;let Lw:=tG _ _ Rw lp.symm;let JL:=jT PL tG hl7;let lz:=br ub;rw[ak] at lz;let tl:=ud.len;apply#[_,Z,.inl #[Z,_,.of zR],_,Z,_,Z,a,_,Z,.inl (.of zR),_,_,Z,Z,l,_,Z,by show (0:Int)<(uS.length:Int)+1;omega,by show (uS.length:Int)+1<1073741824;omega,Cq,λr4 H12 q4 q5 BF Ka=>?_];have q5:r4<(uS.length:Int)+1:=q5;let#[Vw,Ee]:=Cq.some;let EI:=BF _ _ zR gd.symm;let LB:=BF _ _ LC A_;let Lv:=BF _ _ Lw lp.symm;let Lm:=BF _ _ ht (bK ht Ee nofun);let JK:=jT JL BF Ee;apply#[_,Z,a,r4.toNat,uS,.ref t,Z,by rw[Int.toNat_of_nonneg q4],EI,by omega,by omega,?_];apply#[_,_,Z,by rw[aw pa];exact Lv,_,pG A2 r4.toNat tt,?_,?_,by rw[aw X9];exact LB,ax,?_,ud.add nd hj hx ho etc _]
    ·intro b o e ne;rw[aw (bp e nL)];exact BF _ _ (tG _ _ (b7 _ _ (b6 _ _ e ne) ne) ne) ne
    ·unfold dD;rw[aw gd];exact Ka
    rw[T7];exact IP (OE _ JK #[t,Z,Lm]) EI
   exact#[_,_,Z,Rw,uS,A2,b6.trans b7,i7,GT,RR,PL,ud.skip]
  rintro σ H6 ⟨v6,v7,rfl,Rx,uS,A2,b6,iK,GU,vP,ub,ud⟩;rw[ak,dH,Nat.min_eq_left Z1] at ud;exact#[_,_,_,Z,uS,A2,b6,iK,GU,vP,ub,ud.next Z1]
 rintro σ H6 ⟨v5,v6,v7,rfl,uS,A2,b6,iK,GU,vP,ub,ud⟩;have:=ud.len;exact#[_,Z,k a uS A2 H6 b6 iK nL vP ub (ud.good nd Xu) ud.nd Z1]
end
end Ev
namespace HT
open PySem PySem.Spec PyProof.Rows
end HT
namespace L2
open PySem PySem.Spec PyProof.Rows
end L2
namespace Ev
open PySem L2
theorem Tw(ys:ag)(k:Nat):dO ys none (some (k:Int))=ys.take k:=by
 unfold dO;rw[HT.er,HT.dU,List.drop_zero,Nat.sub_zero];by_cases h:k<=ys.length
 ·rw[Nat.min_eq_left h]
 rw[Nat.min_eq_right Z1,tL (a_ _),tL Z1]
theorem NZ(ys:ag)(k:Nat):dO ys (some (k:Int)) none=ys.drop k:=by
 unfold dO;rw[HT.dU,HT.er];by_cases h:k<=ys.length
 ·rw[Nat.min_eq_left h,tL (by rw[x6];omega)]
 rw[Nat.min_eq_right Z1,List.drop_eq_nil_of_le (a_ _),List.drop_eq_nil_of_le Z1,List.take_nil]
theorem Uy{α β:Type}{F:α->β->Prop}:∀{ys:List α} {ks:List β} (n:Nat),Paired F ys ks->Paired F (ys.drop n) (ks.drop n)
 |_,_,0,h=>h
 |_,_,_+1,.nil=>.nil
 |_,_,n+1,.cons _ t=>Uy n t
theorem gY{α β:Type}{F:α->β->Prop}:∀{ys Py:List α} {ks iP:List β},Paired F ys ks->Paired F Py iP->Paired F (ys++Py) (ks++iP)
 |_,_,_,_,.nil,h=>h
 |_,_,_,_,.cons a t,h=>.cons a (gY t h)
theorem Em{α:Type}{p:α->Prop}{a b c:α}{r:Int}(h0:0<=r)(h1:r<3)(ha:p a)(hb:p b)(hc:p c):∃x,ix [a,b,c] r\x/\p x:=by
 have:r=0∨r=1∨r=2:=by omega
 rcases this with rfl|rfl|rfl
 ·exact#[_,Z,ha]
 ·exact#[_,Z,hb]
 exact#[_,Z,hc]
structure E3 (ts ws:Xb):Prop where
 good:∀w∈ws,wc w
 nd:(ws.map kO).Nodup
 g_:∀w∈ws,kO w∈ts.map kO
 len:ws.length<=ts.length
theorem YX{ts us ws:Xb}(good:∀t∈ts,wc t)(nd:(ts.map kO).Nodup)(sub:us.Sublist ts)(p:Paired (λw u=>w=u∨w=(u.2,u.1)) ws us):E3 ts ws:=by
 have e:ws.map kO=us.map kO:=by
  clear sub
  induction p with
  |nil=>rfl
  |cons h _ ih=>
   rw[eG,eG,ih];rcases h with rfl|rfl
   ·rfl
   exact d5 (·::_) (YY _ _)
 apply#[λw hw=>?_,?_,λw hw=>?_,?_]
 ·let#[i,hi,ew]:=gX hw;let hl:=br p;let q:=dS p i hi Z1;rw[ew] at q;let g:=good _ (sub.subset (kD (show i<us.length by omega)));rcases q with q|q
  ·rw[q];exact g
  rw[q];exact#[g.2.1,g.1,g.2.2.symm]
 ·rw[e];exact (sub.map kO).nodup nd
 ·have:kO w∈ws.map kO:=bC.mpr #[w,hw,Z];rw[e] at this;exact (sub.map kO).subset this
 rw[br p];exact sub.length_le
def bT(K:ai)(H:Hp)(v:V):Option (Xb)->Prop
 |none=>v=.non
 |some ws=>∃a ys,v=.ref a/\H a\.lst ys/\bR K H ys (ws.map kT)
variable{K:ai}{H H':Hp}{v:V}{o:Option (Xb)}
theorem bT.same(h:bT K H v o)(s:aa H H'):bT K H' v o:=by
 cases o with
 |none=>exact h
 |some ws=>
  let#[a,ys,e,ha,t]:=h;exact#[a,ys,e,s _ _ ha,t.same s]
abbrev Pc:=Str × Int × Option (Xb)
def g7(K:ai)(H:Hp)(y:V)(p:Pc):Prop:=∃t v,y=.ref t/\H t\.tup [.str p.1,.int p.2.1,v]/\bT K H v p.2.2
abbrev iY(K:ai)(H:Hp)(ys:ag)(ps:List Pc):Prop:=Paired (g7 K H) ys ps
structure j8 (ts:Xb) (p:Pc):Prop where
 nm:iw p.1=true
 w1:1<=p.2.1
 w2:p.2.1<=1000000000
 ws:∀ws,p.2.2\ws->E3 ts ws
variable{l:Addr}
theorem YT{a:Addr}{ys:ag}{ks:List aC}(t:bR K H ys ks)(ha:H a\.lst ys)(st:dD H l):a≠l:=λe=>by
 subst e;rcases st with⟨n,e⟩|⟨n,m,c,e⟩
 all_goals
  rw[ha] at e;have e:ys=_:=HO.lst.inj (cY e);subst e;cases t with
  |cons h _=>
   let#[b,z,_]:=h;cases z
theorem bT.but(h:bT K H v o)(b:bc l H H')(st:dD H l):bT K H' v o:=by
 cases o with
 |none=>exact h
 |some ws=>
  let#[a,ys,e,ha,t]:=h;let#[xs,hl]:=st.some;exact#[a,ys,e,b _ _ ha (YT t ha st),jT t b hl]
variable{y:V}{p:Pc}
theorem g7.but(h:g7 K H y p)(b:bc l H H')(st:dD H l):g7 K H' y p:=by
 let#[t,v,e,ht,hv]:=h;let#[xs,hl]:=st.some;exact#[t,v,e,b _ _ ht (bK ht hl nofun),hv.but b st]
theorem g7.same(h:g7 K H y p)(s:aa H H'):g7 K H' y p:=by
 let#[t,v,e,ht,hv]:=h;exact#[t,v,e,s _ _ ht,hv.same s]
theorem bT.put{D:Addr}{xs:ag}{u:HO}(h:bT K H v o)(hD:H D\.lst xs)(ne:v≠.ref D):bT K (upd H D u) v o:=by
 cases o with
 |none=>exact h
 |some ws=>
  let#[a,ys,e,ha,t]:=h;subst e;exact#[a,ys,Z,by rw[aw λz=>ne (by rw[z])];exact ha,IP t hD]
end Ev
abbrev aM:=List Ev.Pc
namespace Ev
open PySem L2
def jY(K:ai)(H:Hp)(v:V):Option Str->Prop
 |some x=>v=.str x
 |none=>∃t,fG K H v t/\PySem.W.kitOne K t (.type "str")\false
def Du(ns:af):Option Str->Bool
 |some x=>decide (x∈ns)
 |none=>false
def Br(hs:Xa)(ts:Xb):Option Str->Option Str->Bool
 |some x,some y=>decide (x∈hs.map (·.1))&&(decide (y∈hs.map (·.1))&&decide (y∈near (aS hs) (bM ts) x))
 |_,_=>false
theorem OF(hs:Xa)(ts:Xb)(x y:Str):Br hs ts (some x) (some y)=(decide (x∈hs.map (·.1))&&(decide (y∈hs.map (·.1))&&decide (y∈near (aS hs) (bM ts) x))):=rfl
variable{f:Addr}{fd:Ae}
variable{H' H0:Hp}
variable{D:Addr}{u:HO}{v:V}{o:Option (Xb)}
section v
inductive kZ (K:ai) (C:Addr) (vs:ag) (H:Hp) (Q:VK) (E:XK):Prop
 |mk:∀(p:Addr) (v:V) (x:Option Str) (hs:Xa) (ts:Xb) (fp:au),vs=[.ref p,v]->iq K C H p hs ts fp->jY K H v x->Q (.bl (Du (hs.map (·.1)) x)) H->kZ K C vs H Q E
theorem Zv{C:Addr}(F:bx K "has_hand" "Web.has_hand" u9 f fd)(T:Txt K mg C)(B:Bi mg):!aq bh 1 f fd nU (kZ K C):=by
 exists F.bP w4;let#[p,v,x,hs,ts,fp,rfl,W,sv,k]:=h;let hu:=gf hr;let#[dx,d1,l2,d3,zs,as,rfl,h1,h2,h3,h4,h5,h6,h7]:=W.ex;apply#[_,aF (bu (s_ (cJ jR (by rfl) B.ja jh %[1,jP (v:=.ty "str") (by rfl) B.str Hi Z|0]) (uF (Hh (Bs hu (pv 1) (gG (pv 0) Z)))))),?_];cases x with
 |some x=>
  cases (show v=.str x from sv);apply#[_,Z,_,_,_,_,Z,.str x,Z,_,Z,df ?_];apply#[_,Z,_,Z,p,C,dx,_,_,Z,h1,T.cl,T.nS,HW _ _ _,d1,_,Z,.k (k:=Sum.inr x) h2,?_];rw[Ia];exact k
 |none=>
  let#[t,ty,e]:=sv;exact#[_,Z,_,_,_,_,Z,ty,e,_,Z,aK k]
inductive Ih (K:ai) (C:Addr) (vs:ag) (H:Hp) (Q:VK) (E:XK):Prop
 |mk:∀(p:Addr) (v u:V) (x y:Option Str) (hs:Xa) (ts:Xb) (fp:au),vs=[.ref p,v,u]->iq K C H p hs ts fp->(aS hs).Nodup->jY K H v x->jY K H u y->Q (.bl (Br hs ts x y)) H->Ih K C vs H Q E
theorem ZV{C:Addr}(F:bx K "are_tied" "Web.are_tied" qC f fd)(T:Txt K mg C)(cH:!bW C 1 "has_hand" nU (kZ K C)):!aq bh 2 f fd jV (Ih K C):=by
 exists F.bP yG;let#[p,v,u,x,y,hs,ts,fp,rfl,W,nd,sv,su,k]:=h;let hu:=gf hr;let#[dx,d1,l2,d3,zs,as,rfl,h1,h2,h3,h4,h5,h6,h7]:=id W.ex;have ki:(fg d1 l2 d3).lookup ("has_hand":Str)=none:=pN _ _ _ Z0 Z0 Z0;apply#[_,aF (bu (s_ (jc cH T.cl hr (pv 0) %[1|0]) (s_ (jc cH T.cl hr (pv 0) %[2|0]) (uF (wk (MB gW (nZ hr 0)) (pv 2) (n5 hu (gG (pv 0) Z) (pv 1)) (by with_unfolding_all rfl)))))),?_];apply#[_,Z,p,dx,_,Z,h1,ki,_,Z,p,v,x,hs,ts,_,Z,W,sv,_,Z,?_];cases x with
 |none=>exact aK k
 |some x=>
  cases (show v=.str x from sv);apply cu (λc=>?_) (λc=>?_)
  ·have hx:x∈hs.map (·.1):=sk c;let#[a,e1,ha]:=Q7 nd hx h6 h7;apply#[_,Z,p,dx,_,Z,h1,ki,_,Z,p,u,y,hs,ts,_,Z,W,su,_,Z,?_];cases y with
   |none=>exact aK k
   |some y=>
    cases (show u=.str y from su);rw[OF,c_ hx,Bool.true_and] at k;apply cu (λc2=>?_) (λc2=>?_)
    ·have hy:y∈hs.map (·.1):=sk c2;rw[c_ hy,Bool.true_and] at k;apply#[_,Z,_,Z,p,C,dx,_,_,Z,h1,T.cl,T.nN,Q_ _ _ _,_,Z,d3,.ref a,Z,?_,y,_,Z,#[a,_,Z,.of ha,M4 _],k];rw[<- e1];exact .k (k:=Sum.inr x) h5
    have hy:¬y∈hs.map (·.1):=λz=>c2 (c_ z);rw[eF hy,Bool.false_and] at k;exact k
  have hx:¬x∈hs.map (·.1):=λz=>c (c_ z);cases y with
  |none=>exact k
  |some y=>
   rw[OF,eF hx,Bool.false_and] at k;exact k
theorem hW_{hs:Xa}{ts ws:Xb}(G:Good hs ts)(W:E3 ts ws){t:Str × Str}(ht:t∈bM ws):Br hs ts (some t.1) (some t.2)=true:=by
 let#[x,hx,ex]:=IK.mp ht;let#[u,hu,eu]:=bC.mp (W.g_ x hx);have eo:aH u.1 u.2=t:=(HZ eu).trans ex
 have both:t.1∈hs.map (·.1)/\t.2∈hs.map (·.1)/\aH t.1 t.2=t:=by
  let#[g1,g2]:=G.uc u hu;rcases Bw u.1 u.2 with e|e
  ·rw[<- eo,e];exact#[g1,g2,e]
  rw[<- eo,e];exact#[g2,g1,(Oj _ _).trans e]
 let#[m1,m2,m3]:=both;have m4:t.2∈near (aS hs) (bM ts) t.1:=jS.mpr #[(gF hs).mem_iff.mpr m2,c_ (by rw[m3];exact IK.mpr #[u,hu,eo])];rw[OF,c_ m1,c_ m2,c_ m4];rfl
theorem Ii:bG ["web","ways","found","one","other"] ["web","ways"] (bg lO):=bQ
inductive Nw (K:ai) (C:Addr) (vs:ag) (H:Hp) (Q:VK) (E:XK):Prop
 |mk:∀(p:Addr) (v:V) (o:Option (Xb)) (hs:Xa) (ts:Xb) (fp:au),vs=[.ref p,v]->iq K C H p hs ts fp->Good hs ts->bT K H v o->(∀ws,o\ws->E3 ts ws)->(∀v' H',aa H H'->bT K H' v' (o.map bM)->(∀a,v'=.ref a->H a=none)->Q v' H')->Nw K C vs H Q E
theorem ZU{C:Addr}(F:bx K "checked_ways" "checked_ways" lO f fd)(T:Txt K mg C)(cS:!bw 3 "sorted_ties" ["ties"] (OD K))(cT:!bW C 2 "are_tied" jV (Ih K C)):!aq bh 4 f fd ["web","ways"] (Nw K C):=by
 exists F.bP Ii;let#[p,v,o,hs,ts,fp,rfl,W,G,wy,gw,k]:=h;let hu:=gf hr;have jD:aQ 2 _:=hr.mono (by decide)
 apply#[_,av (b_ (tE (HX (pv 1))) (aF (bu uG)) cm)
  (av (bj 2 Ii.nd (aZ cS hr %[1|0]))
  (av (b_ (tE (HX (pv 2))) gr cm)
  (av (eW d6 Z (dI (pv 2)) (oU Z (dC (cy 3 Ii.nd) (dC (cy 4 Ii.nd) i6)))
   (aF (b_ (eV (eO (jc cT T.cl jD (pv 0) %[3,4|0]))) gr cm)))
  (aF (bu (pv 2)))))),?_]
 cases o with
 |none=>
  cases (show v=.non from wy);exact#[_,Z,_,Z,df (k .non H (aa.refl H) Z (λa z=>by cases z))]
 |some ws=>
  let#[a,ys,rfl,ha,tu]:=wy;let Wo:=gw ws Z;apply#[_,Z,_,Z,aK ?_];apply#[_,Z,a,ys,ws,Z,ha,tu,Wo.good,Wo.nd,by have:=Wo.len;have:=G.wW;omega,λl' zs H1 s1 hf gm tz=>?_];apply#[_,Z,_,Z,aK ?_];let W1:=W.same s1;let#[dx,d1,l2,d3,wJ,as,rfl,h1,h2,h3,h4,h5,h6,h7]:=id W1.ex;have ki:(fg d1 l2 d3).lookup ("are_tied":Str)=none:=pN _ _ _ Z0 Z0 Z0;rw[<- Ow] at tz;apply#[_,Z,l',Z,#[_,.of gm],hX (K:=K) (a:=l') (xs:=zs) (λi σ H2=>∃(v3 v4:aL),σ=[some (.ref p),some (.ref a),some (.ref l'),v3,v4]/\H2=H1) #[none,none,Z,Z] (λi σ H2 _ ⟨_,_,_,e⟩=>by subst e;exact .of gm) ?_ ?_]
  ·rintro i y σ H2 hy ⟨v3,v4,rfl,rfl⟩;let#[t,ht,q,rfl,hq]:=uM tz hy;apply#[q,_,Z,.of (GQ hq),Z,_,_,Z,_,_,Z,Z,?_];apply#[_,Z,p,dx,_,Z,h1,ki,_,Z,_,Z,p,_,_,some t.1,some t.2,hs,ts,_,Z,W1,G.rG,Z,Z,_,Z,?_];rw[hW_ G Wo (cQ ht)];apply aK ?_;exact#[_,_,Z,Z]
  rintro σ H2 ⟨v3,v4,rfl,rfl⟩;exact#[_,Z,k (.ref l') _ s1 #[l',zs,Z,gm,tz] (λc z=>by cases z;exact hf)]
def o9(p:Pc):Pc:=(p.1,p.2.1,p.2.2.map bM)
def pF(K:ai)(H0 H:Hp)(y:V)(p:Pc):Prop:=∃t v,y=.ref t/\H t\.tup [.str p.1,.int p.2.1,v]/\bT K H v p.2.2/\∀a,v=.ref a->H0 a=none
theorem pF.same{K:ai}{H:Hp}{y:V}{p:Pc}(h:pF K H0 H y p)(s:aa H H'):pF K H0 H' y p:=by
 let#[t,v,e,ht,hv,hn]:=h;exact#[t,v,e,s _ _ ht,hv.same s,hn]
theorem bT.up{K:ai}{H:Hp}(h:bT K H v o)(n1:∀xs,H D≠some (.lst xs))(n2:∀xs,H D≠some (.tup xs)):bT K (upd H D u) v o:=by
 cases o with
 |none=>exact h
 |some ws=>
  let#[a,ys,e,ha,t]:=h;exact#[a,ys,e,by rw[aw (λz:a=D=>n1 ys (z▸ha))];exact ha,Paired.aV t λy k ⟨b,z,q⟩=>#[b,z,by rw[aw (λz:b=D=>n2 _ (z▸q))];exact q]]
theorem pF.up{K:ai}{H:Hp}{y:V}{p:Pc}(h:pF K H0 H y p)(n1:∀xs,H D≠some (.lst xs))(n2:∀xs,H D≠some (.tup xs)):pF K H0 (upd H D u) y p:=by
 let#[t,v,e,ht,hv,hn]:=h;exact#[t,v,e,by rw[aw (λz:t=D=>n2 _ (z▸ht))];exact ht,hv.up n1 n2,hn]
theorem Nj{ps:aM}{cs:ag}(nd:(ps.map (·.1)).Nodup)(hl:cs.length=ps.length):∀{j:Nat} {q:Pc} {c:V},ps[j]? = some q->cs[j]? = some c->aY ((ps.zip cs).map λq=>((Sum.inr q.1.1:Key),q.2)) (Sum.inr q.1)\c:=by
 induction ps generalizing cs with
 |nil=>
  intro j q c h;simp at h
 |cons p ps ih=>
  intro j q c h1 h2;cases cs with
  |nil=>cases hl
  |cons b cs=>
   rw[eG] at nd;let#[n1,n2]:=jk.mp nd;cases j with
   |zero=>
    have e1:p=q:=⇑h1
    have e2:b=c:=⇑h2
    subst e1 e2;exact AH Z
   |succ j=>
    have h1:ps[j]? = some q:=⇑h1
    have h2:cs[j]? = some c:=⇑h2
    show aY ((Sum.inr p.1,b)::((ps.zip cs).map λq=>((Sum.inr q.1.1:Key),q.2))) (Sum.inr q.1)=_;rw[AE λe=>n1 (by rw[show p.1=q.1 from hJ e];exact bC.mpr #[q,cQ h1,Z])];exact ih n2 ⇑hl h1 h2
theorem qz:bG ["web","piece"] ["web","piece"] (bg NO):=bQ
inductive Oe (K:ai) (C:Addr) (vs:ag) (H:Hp) (Q:VK) (E:XK):Prop
 |mk:∀(p:Addr) (y:V) (q:Pc) (hs:Xa) (ts:Xb) (fp:au),vs=[.ref p,y]->iq K C H p hs ts fp->Good hs ts->g7 K H y q->j8 ts q->(∀y' H',aa H H'->pF K H H' y' (o9 q)->Q y' H')->Oe K C vs H Q E
theorem go_{C:Addr}(F:bx K "checked_piece" "checked_piece" NO f fd)(B:Bi mg)(cN:!bw 1 "is_name" fW Hq)(cW:!bw 2 "is_whole_within" jW NF)(cC:!bw 4 "checked_ways" ["web","ways"] (Nw K C)){tk:Tok}(mW:mg "MOST_WEIGHT"\.int 1000000000 tk) :
  aq P w K mg base bh 5 f fd ["web","piece"] (Oe K C):=by
 exists F.bP qz;let#[p,y,q,hs,ts,fp,rfl,W,G,#[t,v,rfl,ht,wy],gp,k]:=h
 apply#[_,av (b_ (oT (eV (eO (cJ jR (by rfl) B.ja jh %[1,jP (v:=.ty "tuple") (by rfl) B.tuple uI Z|0])))
   (pK (fF sW (cJ iy (by rfl) B.len gC %[1|0]) aB))).pt gr cm)
  (av (b_ (eV (eO (aZ cN hr %[bo cZ (pv 1) aB|0]))) gr cm)
  (av (b_ (eV (eO (aZ cW hr %[bo cZ (pv 1) aB,aB,Fo (v:=.int 1000000000) (by rfl) mW #[tk,Z]|0]))) gr cm)
  (aF (bu (fY %[bo cZ (pv 1) aB,bo cZ (pv 1) aB,aZ cC hr %[0,bo cZ (pv 1) aB|0]|0]))))),?_]
 apply#[_,Z,_,_,_,_,Z,.tup ht,Z,_,Z,aK ?_];apply#[_,Z,t,_,Z,.inr (.of ht),Z,_,Z,?_];apply Aq (show V.int ((3:Nat):Int)=V.int 3 from Z) ?_;apply#[_,Z,t,_,_,_,Z,Z,.of ht,Z,q.1,Z,by have:=IV gp.nm;omega,λH1 s1=>#[_,Z,?_]];rw[gp.nm];apply aK ?_;let uh:=s1 _ _ ht;apply#[_,Z,t,_,_,_,Z,Z,.of uh,Z,q.2.1,1,1000000000,Z,_,Z,?_];rw[c_ gp.w1,c_ gp.w2];apply aK ?_;apply#[_,Z,t,_,_,_,Z,Z,.of uh,Z,_,Z,t,_,_,_,Z,Z,.of uh,Z,_,Z,_,Z,t,_,_,_,Z,Z,.of uh,Z,p,v,q.2.2,hs,ts,fp,Z,W.same s1,G,wy.same s1,gp.ws,λv' H2 s2 VA hf=>?_];apply#[zl,λt' DT=>?_];exact k (.ref t') _ (s1.trans (s2.trans (aa.new DT))) #[t',v',Z,ax,VA.same (aa.new DT),λa z=>s1.free (hf a z)]
theorem Jj:bG ["web","pieces","found","piece","checked"] ["web","pieces"] (bg Ol):=bQ
structure Qs (ps qs:aM):Prop where
 vw:qs.map (·.1)=hU (ps.map (·.1))
 mem:∀q∈qs,∃p∈ps,q=o9 p
inductive N1 (K:ai) (C:Addr) (vs:ag) (H:Hp) (Q:VK) (E:XK):Prop
 |mk:∀(p l:Addr) (ys:ag) (ps:aM) (hs:Xa) (ts:Xb) (fp:au),vs=[.ref p,.ref l]->iq K C H p hs ts fp->Good hs ts->H l\.lst ys->iY K H ys ps->(∀q∈ps,j8 ts q)->(ps.map (·.1)).Nodup->ps.length<64->(∀l' zs qs H',aa H H'->H' l'\.lst zs->Paired (pF K H H') zs qs->Qs ps qs->Q (.ref l') H')->N1 K C vs H Q E
theorem aD{H:Hp}{a:Addr}{o:HO}(n:H a=none):aa H (upd H a o)/\upd H a o a\o:=⟨aa.new n,ax⟩
theorem fx_{C:Addr}(F:bx K "checked_pieces" "checked_pieces" Ol f fd)(B:Bi mg)(cP:!bw 5 "checked_piece" ["web","piece"] (Oe K C)):!aq bh 6 f fd ["web","pieces"] (N1 K C):=by
 exists F.bP Jj;let#[p,l,ys,ps,hs,ts,fp,rfl,W,G,hl,pc,gp,nd,bX,k]:=h;let hu:=gf hr;let sz:=cX;let le:=br pc
 apply#[_,av (b_ (eV (eO (cJ jR (by rfl) B.ja jh %[1,jP (v:=.ty "list") (by rfl) B.list xV Z|0]))) gr cm)
  (av (bj 2 Jj.nd FC)
  (av (eW d6 Z (dI (pv 1)) (cy 3 Jj.nd)
   (av (bj 4 Jj.nd (aZ cP hr %[0,3|0]))
   (av (b_ (tE (Bs hu (bo cZ (pv 4) aB) (pv 2))) gr cm)
   (aF (uD hu (pv 2) (bo cZ (pv 4) aB) (pv 4) Z)))))
  (aF (bu (iI ["name","found"] 1 [2] (dI (cJ (eq_ Z) (by rfl) B.sorted Jc %[2|0])) (λfp s H=>eN (i:=0) (show (["name","found"]:af).Nodup by decide +kernel) Z (Or.inl Z)) (λfp s H=>ji)
   (λfp s H=>n5 hu (pv 1) (pv 0))))))),?_]
 apply#[_,Z,_,_,_,_,Z,.lst hl,Z,_,Z,aK ?_];intro d hd;have s0:aa H (upd H d (.dK [])):=aa.new hd;apply#[_,Z,l,Z,#[_,.of (s0 _ _ hl)],hX (K:=K) (a:=l) (xs:=ys) (λi σ H2=>∃(v3 v4:aL) (cs:ag),σ=[some (.ref p),some (.ref l),some (.ref d),v3,v4]/\aa H H2/\Paired (pF K H H2) cs ((ps.take i).map o9)/\H2 d\.dK (((ps.take i).zip cs).map λq=>(Sum.inr q.1.1,q.2))) #[none,none,[],Z,s0,.nil,ax] (λi σ H2 _ ⟨_,_,_,_,s2,_⟩=>.of (s2 _ _ hl)) ?_ ?_]
 ·rintro i y σ H2 hy ⟨v3,v4,cs,rfl,s2,pn,hd2⟩;have hi:i<ys.length:=(bY.mp hy).1;have hq:ps[i]? = some (ps[i]' Z1):=aP Z1;let py:=dS pc i hi Z1;rw[(bY.mp hy).2] at py;generalize ps[i]' Z1=q at hq py;apply#[_,Z,_,Z,p,y,q,hs,ts,fp,Z,W.same s2,G,py.same s2,gp q (cQ hq),λy' H3 s3 pw=>?_];let#[t,v,rfl,ht,wy,hf]:=pw;let lV:=s3 _ _ hd2;let lc:=br pn;rw[ak,dH] at lc
  have keys:((((ps.take i).zip cs).map λq=>((Sum.inr q.1.1:Key),q.2)).map (·.1))=((ps.take i).map (·.1)).map Sum.inr:=by
   rw[cg];have:((λx:Key × V=>x.1) ∘ λq:Pc × V=>((Sum.inr q.1.1:Key),q.2))=(λp:Pc=>(Sum.inr p.1:Key)) ∘ Prod.fst:=rfl;rw[this,<- cg,List.map_fst_zip (by rw[dH];omega),cg];rfl
  have uf:aY (((ps.take i).zip cs).map λq=>((Sum.inr q.1.1:Key),q.2)) (Sum.inr q.1)=none:=uN (by
   rw[keys];intro m;let#[x,hx,e]:=bC.mp m;cases e;exact Fy (g:=λp:Pc=>p.1) nd hq hx)
  apply#[_,Z,t,_,_,_,Z,Z,.of ht,Z,_,Z,d,_,Z,.k (k:=Sum.inr q.1) lV,_,Z,?_];rw[uf];apply aK ?_;apply#[_,Z,_,Z,_,Z,t,_,_,_,Z,Z,.of ht,Z,d,_,Z,.k (k:=Sum.inr q.1) lV (by rw[ak,List.length_zip,dH];omega),?_];let WB:=s2.trans s3;have n1:∀xs,H3 d≠some (.lst xs):=λxs z=>by rw[lV] at z;cases z
  have n2:∀xs,H3 d≠some (.tup xs):=λxs z=>by rw[lV] at z;cases z
  apply#[_,_,cs++[.ref t],Z,λc o e=>?_,?_,?_]
  ·rw[aw (bp e hd)];exact WB _ _ e
  ·rw[pP,hq,eS];exact gY (Paired.aV pn λy q h=>(h.same s3).up n1 n2) (.cons (pF.up #[t,v,Z,ht,wy,λa z=>s2.free (hf a z)] n1 n2) .nil)
  rw[ax,wq _ uf,pP,hq,List.zip_append (by rw[dH];omega),eS];rfl
 rintro σ H2 ⟨v3,v4,cs,rfl,s2,pn,hd2⟩;rw[le,eI] at pn hd2;let lc:=br pn;rw[ak] at lc
 have keys:(((ps.zip cs).map λq=>((Sum.inr q.1.1:Key),q.2)).map (·.1))=(ps.map (·.1)).map Sum.inr:=by
  rw[cg];have:((λx:Key × V=>x.1) ∘ λq:Pc × V=>((Sum.inr q.1.1:Key),q.2))=(λp:Pc=>(Sum.inr p.1:Key)) ∘ Prod.fst:=rfl;rw[this,<- cg,List.map_fst_zip Z1,cg];rfl
 apply#[_,Z,d,_,ps.map (·.1),Z,hd2,keys,by rw[ak];exact bX,λls LD=>?_];let#[s3,zI]:=aD (o:=.lst ((hU (ps.map (·.1))).map V.str)) LD;apply#[ls,Z,#[_,.of zI],λD hD=>?_];generalize upd H2 ls (.lst ((hU (ps.map (·.1))).map V.str))=H3 at s3 zI hD ⊢;have X3:(hU (ps.map (·.1))).length=ps.length:=by rw[(BD _).length_eq,ak]
 apply iZ (own:=1) (fv:=[some (.ref d)]) (xs:=(hU (ps.map (·.1))).map V.str) Z e_ (λi out H'=>∃qs:aM,aa H3 H'/\H' D\.lst out/\Paired (pF K H H2) out qs/\qs.map (·.1)=(hU (ps.map (·.1))).take i/\∀q∈qs,∃p∈ps,q=o9 p) #[[],aa.new hD,ax,.nil,Z,by simp] (λi out H' _ ⟨_,sm,_⟩=>.of (sm _ _ zI)) (λzs H4 ⟨qs,s4,iS,pq,en,mem⟩=>?_) (λi x out H' hx ⟨qs,sm,cK,pq,en,mem⟩=>?_)
 ·rw[ak,eI] at en;exact k D zs qs H4 (s2.trans (s3.trans s4)) iS (Paired.aV pq λy q h=>h.same (s3.trans s4)) #[en,mem]
 let#[n,hn,rfl]:=mj hx;have hm:n∈ps.map (·.1):=(BD _).mem_iff.mp (cQ hn);let#[q,hq,eq]:=bC.mp hm;let#[j,hj,ej]:=gX hq;have _X:ps[j]? = some q:=by rw[aP hj,ej]
 have RM:cs[j]? = some (cs[j]' Z1):=aP Z1;let hv:=Nj nd lc _X RM;let pj:=dS pn j Z1 (by rw[ak];omega);rw[List.getElem_map,ej] at pj;generalize cs[j]' Z1=c at RM hv pj;rw[eq] at hv;let lo:=br pq;let lq:=d5 List.length en;rw[ak,dH] at lq;have hi:i<(hU (ps.map (·.1))).length:=(bY.mp hn).1;apply#[_,Z,Z,λNx hN=>d_ ?_];apply#[_,Z,_,Z,d,c,Z,?_,out,cK,by omega,hN _ _ #[qs++[o9 q],fi sm hD,ax,?_,?_,?_]]
 ·rw[<- hv];exact .k (k:=Sum.inr n) (sm _ _ (s3 _ _ hd2))
 ·exact gY pq (.cons pj .nil)
 ·rw[eS,en,pP,hn,<- eq];rfl
 intro q' hq';rcases d8.mp hq' with hq'|hq'
 ·exact mem q' hq'
 obtain rfl:q'=o9 q:=⇑hq'
 exact#[q,hq,Z]
end
abbrev lJ:Stmt:=l_ EZ 0
abbrev qT:Stmt:=l_ EZ 1
abbrev Nz:Stmt:=l_ EZ 2
abbrev Nn:Stmt:=l_ EZ 3
abbrev qS:Stmt:=l_ EZ 5
def cw(p dw dy:Addr):List (Str × V):=ay Al (.ref dy) (ay pC (.ref dw) (ay "web" (.ref p) []))
theorem g12:¬(("web":Str)=pC):=by decide +kernel
theorem g13:¬(("web":Str)=Al):=by decide +kernel
theorem g23:¬((pC:Str)=Al):=by decide +kernel
theorem AQ(p dw dy:Addr):(cw p dw dy).lookup ("web":Str)\.ref p:=by
 unfold cw;rw[gg,aA g13,gg,aA g12,gg,aI Z]
theorem MT(p dw dy:Addr):(cw p dw dy).lookup (pC:Str)\.ref dw:=by
 unfold cw;rw[gg,aA g23,gg,aI Z]
theorem YM(p dw dy:Addr):(cw p dw dy).lookup (Al:Str)\.ref dy:=by
 unfold cw;rw[gg,aI Z]
theorem wz(p dw dy:Addr){m:Str}(h1:¬m="web")(h2:¬m=pC)(h3:¬m=Al):(cw p dw dy).lookup m=none:=by
 unfold cw;rw[gg,aA h3,gg,aA h2,gg,aA h1]
 all_goals rfl
def kG(qs:aM):List (Key × V):=qs.map λq=>(Sum.inr q.1,V.int q.2.1)
def uU(qs:aM)(vs:ag):List (Key × V):=(qs.zip vs).map λx=>(Sum.inr x.1.1,x.2)
theorem SJ(qs:aM):(kG qs).map (·.1)=(qs.map (·.1)).map Sum.inr:=by
 unfold kG;rw[cg,cg];rfl
variable{qs:aM}
theorem hm_{vs:ag}(h:vs.length=qs.length):(uU qs vs).map (·.1)=(qs.map (·.1)).map Sum.inr:=by
 unfold uU;rw[cg];have:((λx:Key × V=>x.1) ∘ λq:Pc × V=>((Sum.inr q.1.1:Key),q.2))=(λp:Pc=>(Sum.inr p.1:Key)) ∘ Prod.fst:=rfl;rw[this,<- cg,List.map_fst_zip Z1,cg];rfl
structure gq (K:ai) (CG CW:Addr) (H:Hp) (g p:Addr) (hs:Xa) (ts:Xb) (qs:aM) (fp:au):Prop where
 ex:∃(dx dw dy:Addr) (vs:ag) (dG:au),H g\.ins CG dx (cw p dw dy)/\iq K CW H p hs ts dG/\H dw\.dK (kG qs)/\H dy\.dK (uU qs vs)/\Paired (λv (q:Pc)=>bT K H v q.2.2) vs qs /\
  g∈fp/\dw∈fp/\dy∈fp/\(∀b∈dG,b∈fp)/\∀v∈vs,∀a,v=.ref a->a∈fp
theorem OX{α β:Type}{F G:α->β->Prop}:∀{l:List α} {m:List β},Paired F l m->(∀a∈l,∀b,F a b->G a b)->Paired G l m
 |_,_,.nil,_=>.nil
 |_,_,.cons h t,f=>.cons (f _ fX _ h) (OX t λa ha=>f a (fM _ ha))
theorem bT.keep{K:ai}{H:Hp}(h:bT K H v o)(k:∀a,v=.ref a->∀u,H a\u->H' a\u)(kt:∀b xs,H b\.tup xs->H' b\.tup xs):bT K H' v o:=by
 cases o with
 |none=>exact h
 |some ws=>
  let#[a,ys,e,ha,t]:=h;exact#[a,ys,e,k a e _ ha,Paired.aV t λy q ⟨b,z,hb⟩=>#[b,z,kt _ _ hb]]
variable{fp:au}
theorem gq.keep{K:ai}{CG CW:Addr}{H:Hp}{g p:Addr}{hs:Xa}{ts:Xb}(G:gq K CG CW H g p hs ts qs fp)(k:∀b∈fp,∀o,H b\o->H' b\o)(kt:∀b xs,H b\.tup xs->H' b\.tup xs):gq K CG CW H' g p hs ts qs fp:=by
 let#[dx,dw,dy,vs,dG,h1,h2,h3,h4,h5,m1,m2,m3,m4,m5]:=G.ex;exact#[dx,dw,dy,vs,dG,k _ m1 _ h1,h2.keep (λb hb o e=>k b (m4 b hb) o e) kt,k _ m2 _ h3,k _ m3 _ h4,OX h5 λv hv q h=>h.keep (λa z u e=>k a (m5 v hv a z) u e) kt,m1,m2,m3,m4,m5]
theorem gq.same{K:ai}{CG CW:Addr}{H:Hp}{g p:Addr}{hs:Xa}{ts:Xb}(G:gq K CG CW H g p hs ts qs fp)(s:aa H H'):gq K CG CW H' g p hs ts qs fp:=G.keep (λb _ o e=>s b o e) λb xs e=>s b _ e
structure gh (K:ai) (CG:Addr):Prop where
 cl:mB K CG
 nW:l9 K CG "web"
 nG:l9 K CG pC
 nY:l9 K CG Al
structure FQ (K:ai) (C:Addr):Prop where
 ha:PySem.W.findIn K (.ref C) "__class__"\some (.builtin "object.__class__")
 hn:PySem.W.specialIn K (.builtin "object.__class__") "__get__"\some (.builtin "getset_descriptor.__get__")
 tk:PySem.W.takesIn K (.builtin "object.__class__")\true
 mo:PySem.W.mroIn K C (.type "object")\true
theorem hD_(K:ai)(c:Aa):PySem.W.kitOne K c c\true:=by
 unfold PySem.W.kitOne;rw[aI (beq_self_eq_true c)]
theorem Th{K:ai}{H0 H:Hp}:∀{zs:ag} {qs:aM},Paired (pF K H0 H) zs qs->∃vs:ag,vs.length=qs.length/\Paired (λz (x:Pc × V)=>∃t,z=.ref t/\H t\.tup [.str x.1.1,.int x.1.2.1,x.2]) zs (qs.zip vs)/\Paired (λv (q:Pc)=>bT K H v q.2.2) vs qs/\∀v∈vs,∀a,v=.ref a->H0 a=none
 |_,_,.nil=>#[[],Z,.nil,.nil,by simp]
 |_,_,.cons ⟨t,v,e,ht,wy,hn⟩ r=>by
  let#[vs,h1,h2,h3,h4]:=Th r;apply#[v::vs,by simp[h1],.cons #[t,e,ht] h2,.cons wy h3,λu hu=>?_];rcases bU.mp hu with rfl|hu
  ·exact hn
  exact h4 u hu
theorem Tn{K:ai}{l:Addr}{zs:ag}{xs:List (Pc × V)}{H:Hp}{Q:VK}{o6:St}{j:Nat}(sel:Pc × V->V)(hj:∀x:Pc × V,[some (V.str x.1.1),some (V.int x.1.2.1),some x.2][j]? = some (some (sel x)))(vG:o6=[none,none,none])(hl:H l\.lst zs)(pz:Paired (λz (x:Pc × V)=>∃t,z=.ref t/\H t\.tup [.str x.1.1,.int x.1.2.1,x.2]) zs xs)(nO:xs.length<=1000)(hD:H D=none)(q:∀H' out,aa H H'->H' D\.lst out->jd K H' out (xs.map λx=>(Sum.inr x.1.1,sel x))->Q (.ref D) H') :
  Bm (yb K l) (gA K 3 (pE (kz 0) (pE (kz 1) (pE (kz 2) rX)))) pV (Cc (jo (oq 0) (jo (oq j) ou))) o6 D H Q:=by
 let sz:=cX;let le:=br pz;apply iZ (own:=3) (fv:=[]) (xs:=zs) vG EM (λi out H'=>aa H H'/\H' D\.lst out/\jd K H' out ((xs.take i).map λx=>(Sum.inr x.1.1,sel x))) #[aa.new hD,ax,.nil] (λi out H' _ ⟨sm,_,_⟩=>.of (sm _ _ hl)) (λout H4 ⟨sm,iS,eo⟩=>?_) (λi y out H' hy ⟨sm,cK,eo⟩=>?_)
 ·rw[le,eI] at eo;exact q _ _ sm iS eo
 have hi:i<zs.length:=(bY.mp hy).1;have hx:xs[i]? = some (xs[i]' Z1):=aP Z1;let#[t,et,ht]:=dS pz i hi Z1;rw[(bY.mp hy).2] at et;subst et;generalize xs[i]' Z1=x at hx ht;let lo:=br eo;rw[ak,dH] at lo;apply#[_,#[t,_,_,_,Z,.of (sm _ _ ht),Z],Z,λNx hN=>d_ ?_];apply#[_,Z,_,hj x,zl,λp hp=>?_];let s2:=aa.new (o:=.tup [.str x.1.1,sel x]) hp;apply#[out,s2 _ _ cK,by omega,hN _ _ #[fi (sm.trans s2) hD,ax,?_]];rw[tH _ hx];have pD:∀{b:Addr} {ys:ag},upd H' p (.tup [.str x.1.1,sel x]) b\.tup ys->b≠D:=λhb=>bK hb (s2 _ _ cK) nofun;apply gY (Paired.aV eo λy kv ⟨b,z,hb⟩=>#[b,z,by rw[aw (pD (s2 _ _ hb))];exact s2 _ _ hb]) (.cons #[p,Z,?_] .nil);have kh:upd H' p (.tup [.str x.1.1,sel x]) p\.tup [.str x.1.1,sel x]:=ax;rw[aw (pD kh)];exact kh
section v
theorem mQ:bG ["self","web","pieces","checked"] ["self","web","pieces"] (bg lJ):=bQ
inductive NR (K:ai) (CG CW:Addr) (vs:ag) (H:Hp) (Q:VK) (E:XK):Prop
 |mk:∀(g dx p l:Addr) (ys:ag) (ps:aM) (hs:Xa) (ts:Xb) (dG:au),vs=[.ref g,.ref p,.ref l]->H g\.ins CG dx []->iq K CW H p hs ts dG->g∉dG->Good hs ts->H l\.lst ys->iY K H ys ps->(∀q∈ps,j8 ts q)->(ps.map (·.1)).Nodup->ps.length<64->(∀qs fp H',(∀b o,H b\o->b≠g->H' b\o)->gq K CG CW H' g p hs ts qs fp->Qs ps qs->(∀b∈fp,b=g∨b∈dG∨H b=none)->Q .non H')->NR K CG CW vs H Q E
theorem ZW{CG CW:Addr}(F:bx K "__init__" "Goods.__init__" lJ f fd)(T:gh K CG)(TW:Txt K mg CW)(IW:FQ K CW)(B:Bi mg)(KM:mg "Web"\.ref CW)(cP:!bw 6 "checked_pieces" ["web","pieces"] (N1 K CW)):!aq bh 7 f fd ["self","web","pieces"] (NR K CG CW):=by
 exists F.bP mQ;let#[g,dx,p,l,ys,ps,hs,ts,dG,rfl,hg,W,gw,G,hl,pc,gp,nd,bX,k]:=h
 apply#[_,av (b_ (eV (eO (cJ fN_ (by rfl) B.ja jh %[1,Fo (v:=.ref CW) (by rfl) KM Z|0]))) gr cm)
  (av (bj 3 mQ.nd (aZ cP hr %[1,2|0]))
  (av (uH (pv 0) (pv 1) Z)
  (av (uH (pv 0) (i0 (xY Z) (by rfl) B.dict tw %[iI xP 3 [] (dI (pv 3)) (λfp s H=>AM (n:=3) (dC (eN (i:=0) (show (xP:af).Nodup by decide +kernel) Z (Or.inl Z)) (dC (eN (i:=1) (show (xP:af).Nodup by decide +kernel) Z (Or.inl Z)) (dC (eN (i:=2) (show (xP:af).Nodup by decide +kernel) Z (Or.inl Z)) i6)))) (λfp s H=>ji) (λfp s H=>fY %[0,1|0])|0]) Z)
  (aF (uH (pv 0) (i0 (xY Z) (by rfl) B.dict tw %[iI xP 3 [] (dI (pv 3)) (λfp s H=>AM (n:=3) (dC (eN (i:=0) (show (xP:af).Nodup by decide +kernel) Z (Or.inl Z)) (dC (eN (i:=1) (show (xP:af).Nodup by decide +kernel) Z (Or.inl Z)) (dC (eN (i:=2) (show (xP:af).Nodup by decide +kernel) Z (Or.inl Z)) i6)))) (λfp s H=>ji) (λfp s H=>fY %[0,2|0])|0]) Z))))),?_]
 let#[lZ,d1,l2,d3,wJ,as,ef,w1,_]:=id W.ex;apply#[_,Z,_,_,_,_,Z,.ins w1 TW.cl IW.ha IW.hn IW.tk IW.mo,hD_ _ _,_,Z,aK ?_];apply#[_,Z,_,Z,p,l,ys,ps,hs,ts,dG,Z,W,G,hl,pc,gp,nd,bX,λlc zs qs H1 s1 xx pn Qq=>?_];let#[vs,lv,pz,Vz,B5]:=Th pn;let En:=s1 _ _ hg
 have lq:qs.length=ps.length:=by
  have:=d5 List.length Qq.vw;rw[ak,(BD _).length_eq,ak] at this;exact this
 have W7:(qs.map (·.1)).Nodup:=by
  rw[Qq.vw];exact (BD _).nodup_iff.mpr nd
 apply#[_,Z,_,Z,g,CG,dx,[],Z,En,T.cl,T.nW,by show 0<1000;decide,?_];have up1:∀{b o},H1 b\o->b≠g->upd H1 g (.ins CG dx (ay "web" (.ref p) [])) b\o:=λe ne=>by rw[aw ne];exact e
 have xy:upd H1 g (.ins CG dx (ay "web" (.ref p) [])) g\.ins CG dx (ay "web" (.ref p) []):=ax
 have ME:∀{b},upd H1 g (.ins CG dx (ay "web" (.ref p) [])) b=none->H1 b=none:=λ{b} e=>by
  by_cases z:b=g
  ·rw[z,ax] at e;cases e
  rw[aw z] at e;exact e
 generalize upd H1 g (.ins CG dx (ay "web" (.ref p) []))=H2 at up1 xy ME ⊢;have GD:lc≠g:=bK xx En nofun;have Xh:Paired (λz (x:Pc × V)=>∃t,z=.ref t/\H2 t\.tup [.str x.1.1,.int x.1.2.1,x.2]) zs (qs.zip vs):=Paired.aV pz λz x ⟨t,e,ht⟩=>#[t,e,up1 ht (bK ht En nofun)];have mG:(qs.zip vs).length<=1000:=by rw[List.length_zip];omega
 apply#[_,Z,lc,Z,#[_,.of (up1 xx GD)],λD hD=>?_];apply Tn (λx=>.int x.1.2.1) (λx=>rfl) Z (up1 xx GD) Xh mG hD λH3 out s3 kq Xq=>?_;apply#[D,out,_,Z,kq,Xq,by rw[ak];exact mG,λdw L5=>?_]
 have MU:((qs.zip vs).map λx:Pc × V=>((Sum.inr x.1.1:Key),V.int x.1.2.1))=kG qs:=by
  unfold kG;have:(λx:Pc × V=>((Sum.inr x.1.1:Key),V.int x.1.2.1))=(λq:Pc=>((Sum.inr q.1:Key),V.int q.2.1)) ∘ Prod.fst:=rfl;rw[this,<- cg,List.map_fst_zip Z1]
 have ke:(qs.map (·.1)).map (Sum.inr:Str->Key) |>.Nodup:=by
  rw[tN,uK];exact W7.imp λn e=>n (hJ e)
 rw[MU,wC (by rw[SJ];exact ke)];let s4:=aa.new (o:=.dK (kG qs)) L5;let RI:=s4 _ _ (s3 _ _ xy);apply#[_,Z,g,CG,dx,_,Z,RI,T.cl,T.nG,by show 1<1000;decide,?_];let vk:=s3.trans s4;have Ep:upd H3 dw (.dK (kG qs)) dw\.dK (kG qs):=ax;have TC:dw≠g:=(bp (s3 _ _ xy) L5).symm;have pf:∀{b},upd H3 dw (.dK (kG qs)) b=none->H2 b=none:=λe=>vk.free e;have dwn:H2 dw=none:=s3.free L5;generalize upd H3 dw (.dK (kG qs))=H4 at s4 RI vk Ep pf ⊢;have JH:∀{b o},H4 b\o->b≠g->upd H4 g (.ins CG dx (ay pC (.ref dw) (ay "web" (.ref p) []))) b\o:=λe ne=>by rw[aw ne];exact e
 have LV:upd H4 g (.ins CG dx (ay pC (.ref dw) (ay "web" (.ref p) []))) g\.ins CG dx (ay pC (.ref dw) (ay "web" (.ref p) [])):=ax
 have oP:∀{b},upd H4 g (.ins CG dx (ay pC (.ref dw) (ay "web" (.ref p) []))) b=none->H4 b=none:=λ{b} e=>by
  by_cases z:b=g
  ·rw[z,ax] at e;cases e
  rw[aw z] at e;exact e
 generalize upd H4 g (.ins CG dx (ay pC (.ref dw) (ay "web" (.ref p) [])))=H5 at JH LV oP ⊢;have uV:∀{b o},H1 b\o->b≠g->H5 b\o:=λe ne=>JH (vk _ _ (up1 e ne)) ne;have Xg:Paired (λz (x:Pc × V)=>∃t,z=.ref t/\H5 t\.tup [.str x.1.1,.int x.1.2.1,x.2]) zs (qs.zip vs):=Paired.aV pz λz x ⟨t,e,ht⟩=>#[t,e,uV ht (bK ht En nofun)];apply#[_,Z,lc,Z,#[_,.of (uV xx GD)],λD2 uq=>?_];apply Tn (λx=>x.2) (λx=>rfl) Z (uV xx GD) Xg mG uq λH6 iN s6 hD6 Xp=>?_;apply#[D2,iN,_,Z,hD6,Xp,by rw[ak];exact mG,λdy L4=>?_];rw[show ((qs.zip vs).map λx:Pc × V=>((Sum.inr x.1.1:Key),x.2))=uU qs vs from Z,wC (by rw[hm_ lv];exact ke)];let s7:=aa.new (o:=.dK (uU qs vs)) L4;let Gc:=s6.trans s7;let RH:=Gc _ _ LV;apply#[_,Z,g,CG,dx,_,Z,RH,T.cl,T.nY,by show 2<1000;decide,?_];have Eo:upd H6 dy (.dK (uU qs vs)) dy\.dK (uU qs vs):=ax;have dyg:dy≠g:=(bp (s6 _ _ LV) L4).symm;have dyn:H5 dy=none:=s6.free L4;generalize upd H6 dy (.dK (uU qs vs))=H7 at s7 Gc RH Eo ⊢
 have fin:∀{b o},H1 b\o->b≠g->upd H7 g (.ins CG dx (cw p dw dy)) b\o:=λe ne=>by
  rw[aw ne];exact Gc _ _ (uV e ne)
 have B7:∀b xs,H1 b\.tup xs->upd H7 g (.ins CG dx (cw p dw dy)) b\.tup xs:=λb xs e=>fin e (bK e En nofun);have nH:∀{b},H1 b=none->H b=none:=λe=>s1.free e;apply k qs (g::dw::dy::(dG++vs.filterMap λv=>match v with | .ref a=>some a|_=>none)) _ (λb o e ne=>fin (s1 _ _ e) ne) #[dx,dw,dy,vs,dG,ax,?_,?_,?_,?_,by simp,by simp,by simp,λb hb=>by simp[hb],λv hv a z=>?_] Qq λb hb=>?_
 ·exact W.keep (λb hb o e=>fin (s1 _ _ e) (λz=>gw (z▸hb))) λb xs e=>B7 b xs (s1 _ _ e)
 ·rw[aw TC];exact Gc _ _ (JH Ep TC)
 ·rw[aw dyg];exact Eo
 ·exact OX Vz λv hv q h=>h.keep (λa z u e=>fin e (λzz=>by
   subst zz;have:=B5 v hv _ z;rw[hg] at this;cases this)) λb xs e=>B7 b xs e
 ·apply fM _ (fM _ (fM _ (mq _ (xX.mpr #[v,hv,?_]))));rw[z]
 simp only[bU,d8,xX] at hb;rcases hb with rfl|rfl|rfl|hb|⟨v,hv,e⟩
 ·exact .inl Z
 ·exact .inr (.inr (nH (ME dwn)))
 ·exact .inr (.inr (nH (ME (vk.free (oP dyn)))))
 ·exact .inr (.inl hb)
 cases v with
 |ref a=>
  cases e;exact .inr (.inr (B5 _ hv _ Z))
 |_=>cases e
end
end Ev
namespace L2
open PySem
end L2
namespace Ev
open PySem L2
theorem es_{kvs:List (Key × V)}{ns:af}(h:kvs.map (·.1)=ns.map Sum.inr)(x:Str):(aY kvs (Sum.inr x)).isSome=decide (x∈ns):=by
 by_cases hx:x∈ns
 ·rw[c_ hx];apply Jd ?_;rw[h];exact bC.mpr #[x,hx,Z]
 rw[eF hx,uN]
 ·rfl
 rw[h];intro m;let#[y,hy,e]:=bC.mp m;cases e;exact hx hy
variable{q:Pc}
theorem Zg{qs:aM}(nd:(qs.map (·.1)).Nodup)(hq:q∈qs):aY (kG qs) (Sum.inr q.1)\.int q.2.1:=by
 let#[j,hj,e]:=gX hq;have:=Nj (ps:=qs) (cs:=qs.map λq=>V.int q.2.1) nd (by rw[ak]) (j:=j) (q:=q) (c:=.int q.2.1) (by rw[aP hj,e]) (by rw[di,aP hj,e];rfl)
 have e2:((qs.zip (qs.map λq=>V.int q.2.1)).map λq=>((Sum.inr q.1.1:Key),q.2))=kG qs:=by
  unfold kG;rw[List.zip_map_right,cg]
  have:qs.zip qs=qs.map λq=>(q,q):=by
   clear nd hq this hj e j
   induction qs with
   |nil=>rfl
   |cons a l ih=>rw[List.zip_cons_cons,ih,eG]
  rw[this,cg];rfl
 rwa [e2] at this
theorem YD{qs:aM}{vs:ag}(nd:(qs.map (·.1)).Nodup){K:ai}{H:Hp}(h:Paired (λv (q:Pc)=>bT K H v q.2.2) vs qs)(hq:q∈qs):∃v∈vs,aY (uU qs vs) (Sum.inr q.1)\v/\bT K H v q.2.2:=by
 let#[j,hj,e]:=gX hq;let hl:=br h;have hv:j<vs.length:=by omega
 let p:=dS h j hv hj;rw[e] at p;exact#[vs[j],kD hv,Nj nd Z1 (by rw[aP hj,e]) (aP hv),p]
def Bj(hs:Xa)(ts:Xb)(o:Option (Xb))(x y:Option Str):Bool:=
 Br hs ts x y&&match o,x,y with
  |none,_,_=>true
  |some ws,some a,some b=>decide (aH a b∈ws)
  |_,_,_=>false
variable{f:Addr}{fd:Ae}
section v
theorem yR:bG nU nU (bg qT):=bQ
inductive E1 (K:ai) (CG CW:Addr) (vs:ag) (H:Hp) (Q:VK) (E:XK):Prop
 |mk:∀(g p:Addr) (v:V) (x:Option Str) (hs:Xa) (ts:Xb) (qs:aM) (fp:au),vs=[.ref g,v]->gq K CG CW H g p hs ts qs fp->jY K H v x->Q (.bl (Du (qs.map (·.1)) x)) H->E1 K CG CW vs H Q E
theorem Z8{CG CW:Addr}(F:bx K "has_piece" "Goods.has_piece" qT f fd)(T:gh K CG)(B:Bi mg):!aq bh 1 f fd nU (E1 K CG CW):=by
 exists F.bP yR;let#[g,p,v,x,hs,ts,qs,fp,rfl,G,sv,k]:=h;let hu:=gf hr;let#[dx,dw,dy,vs,dG,h1,h2,h3,h4,h5,m1,m2,m3,m4,m5]:=G.ex;apply#[_,aF (bu (s_ (cJ jR (by rfl) B.ja jh %[1,jP (v:=.ty "str") (by rfl) B.str Hi Z|0]) (uF (Hh (Bs hu (pv 1) (gG (pv 0) Z)))))),?_];cases x with
 |some x=>
  cases (show v=.str x from sv);apply#[_,Z,_,_,_,_,Z,.str x,Z,_,Z,df ?_];apply#[_,Z,_,Z,g,CG,dx,_,_,Z,h1,T.cl,T.nG,MT _ _ _,dw,_,Z,.k (k:=Sum.inr x) h3,?_];rw[es_ (SJ qs)];exact k
 |none=>
  let#[t,ty,e]:=sv;exact#[_,Z,_,_,_,_,Z,ty,e,_,Z,aK k]
theorem qv:bG oR oR (bg Nz):=bQ
inductive BA (K:ai) (CG CW:Addr) (vs:ag) (H:Hp) (Q:VK) (E:XK):Prop
 |mk:∀(g p:Addr) (hs:Xa) (ts:Xb) (qs:aM) (fp:au),vs=[.ref g]->gq K CG CW H g p hs ts qs fp->(∀l,H l=none->Q (.ref l) (upd H l (.lst ((qs.map (·.1)).map V.str))))->BA K CG CW vs H Q E
theorem gF_{CG CW:Addr}(F:bx K "names" "Goods.names" Nz f fd)(T:gh K CG)(B:Bi mg):!aq bh 1 f fd oR (BA K CG CW):=by
 exists F.bP qv;let#[g,p,hs,ts,qs,fp,rfl,G,k]:=h;let#[dx,dw,dy,vs,dG,h1,h2,h3,h4,h5,m1,m2,m3,m4,m5]:=G.ex;apply#[_,aF (bu (i0 (OH Z) (by rfl) B.list xV %[gG (pv 0) Z|0])),?_];apply#[_,Z,g,CG,dx,_,_,Z,h1,T.cl,T.nG,MT _ _ _,dw,_,Z,.inl h3,λl hl=>?_]
 have e:((kG qs).map λkv=>kV kv.1)=(qs.map (·.1)).map V.str:=by
  unfold kG;rw[cg,cg];rfl
 rw[e];exact k l hl
structure Ref (K:ai) (mg:Str->Option Aa) (x:Str) (C:Addr):Prop where
 mg:mg x\.ref C
 ex:PySem.W.excIn K C [.type "ValueError",.type "Exception",.type "BaseException",.type "object"] "ValueError.__new__"=true
theorem oy:bG ["self","piece"] ["self","piece"] (bg Nn):=bQ
inductive N0 (K:ai) (CG CW CP:Addr) (vs:ag) (H:Hp) (Q:VK) (E:XK):Prop
 |mk:∀(g p:Addr) (v:V) (x:Option Str) (hs:Xa) (ts:Xb) (qs:aM) (fp:au),vs=[.ref g,v]->gq K CG CW H g p hs ts qs fp->(qs.map (·.1)).Nodup->jY K H v x->((∃q∈qs,x\q.1/\Q (.int q.2.1) H)∨False)->N0 K CG CW CP vs H Q E
theorem fn_{CG CW CP:Addr}(F:bx K "weight" "Goods.weight" Nn f fd)(T:gh K CG)(cH:!bW CG 1 "has_piece" nU (E1 K CG CW)):!aq bh 2 f fd ["self","piece"] (N0 K CG CW CP):=by
 exists F.bP oy;let#[g,p,v,x,hs,ts,qs,fp,rfl,G,nd,sv,k]:=h;let hu:=gf hr;let#[dx,dw,dy,vs,dG,h1,h2,h3,h4,h5,m1,m2,m3,m4,m5]:=id G.ex;have ki:(cw p dw dy).lookup ("has_piece":Str)=none:=wz _ _ _ Z0 Z0 Z0;apply#[_,av (b_ (eV (eO (jc cH T.cl hr (pv 0) %[1|0]))) gr cm) (aF (bu (n5 hu (gG (pv 0) Z) (pv 1)))),?_];apply#[_,Z,g,dx,_,Z,h1,ki,_,Z,g,p,v,x,hs,ts,qs,fp,Z,G,sv,_,Z,?_];rcases k with⟨q,hq,rfl,k⟩|k
 ·cases (show v=.str q.1 from sv);rw[show Du (qs.map (·.1)) (some q.1)=true from c_ (bC.mpr #[q,hq,Z])];apply aK ?_;apply#[_,Z,g,CG,dx,_,_,Z,h1,T.cl,T.nG,MT _ _ _,_,Z,dw,_,Z,?_,k];rw[<- Zg nd hq];exact .k (k:=Sum.inr q.1) h3
 exact k.elim
theorem qw:bG ["self","piece","one","other","ties"] ["self","piece","one","other"] (bg qS):=bQ
inductive k6 (K:ai) (CG CW CP:Addr) (vs:ag) (H:Hp) (Q:VK) (E:XK):Prop
 |mk:∀(g p:Addr) (v u1 u2:V) (x y1 y2:Option Str) (hs:Xa) (ts:Xb) (qs:aM) (fp:au),vs=[.ref g,v,u1,u2]->gq K CG CW H g p hs ts qs fp->(qs.map (·.1)).Nodup->(aS hs).Nodup->jY K H v x->((∃q∈qs,x\q.1/\jY K H u1 y1/\jY K H u2 y2/\∀H',aa H H'->Q (.bl (Bj hs ts q.2.2 y1 y2)) H')∨False)->k6 K CG CW CP vs H Q E
theorem _e{CG CW CP:Addr}(F:bx K "may_go" "Goods.may_go" qS f fd)(T:gh K CG)(TW:Txt K mg CW)(cH:!bW CG 1 "has_piece" nU (E1 K CG CW))(cT:!bW CW 2 "are_tied" jV (Ih K CW))(cL:!bw 1 "lesser_first" md IA) :
  aq P w K mg base bh 3 f fd ["self","piece","one","other"] (k6 K CG CW CP):=by
 exists F.bP qw;let#[g,p,v,u1,u2,x,y1,y2,hs,ts,qs,fp,rfl,G,nd,rG,sv,k]:=h;let hu:=gf hr;have jb:aQ 1 _:=hr.mono (by decide);let#[dx,dw,dy,vs,dG,h1,h2,h3,h4,h5,m1,m2,m3,m4,m5]:=id G.ex;have ki:(cw p dw dy).lookup ("has_piece":Str)=none:=wz _ _ _ Z0 Z0 Z0;let#[lZ,d1,l2,d3,wJ,as,ef,w1,_]:=id h2.ex;have zE:(fg d1 l2 d3).lookup ("are_tied":Str)=none:=pN _ _ _ Z0 Z0 Z0
 apply#[_,av (b_ (eV (eO (jc cH T.cl jb (pv 0) %[1|0]))) gr cm)
  (av (b_ (eV (eO (jc cT TW.cl hr (gG (pv 0) Z) %[2,3|0]))) (aF (bu iV)) cm)
  (av (bj 4 qw.nd (n5 hu (gG (pv 0) Z) (pv 1)))
  (aF (bu (Yn (Hh (HX (pv 4))) (uF (wk (MB (E_ gW gW) (nZ hr _)) (aZ cL hr %[2,3|0]) (pv 4) (by with_unfolding_all rfl)))))))),?_]
 apply#[_,Z,g,dx,_,Z,h1,ki,_,Z,g,p,v,x,hs,ts,qs,fp,Z,G,sv,_,Z,?_];rcases k with⟨q,hq,rfl,s1,s2,k⟩|k
 ·cases (show v=.str q.1 from sv);rw[show Du (qs.map (·.1)) (some q.1)=true from c_ (bC.mpr #[q,hq,Z])];apply aK ?_;apply#[_,Z,g,CG,dx,_,_,Z,h1,T.cl,T.nW,AQ _ _ _,p,lZ,_,Z,w1,zE,_,Z,_,Z,p,u1,u2,y1,y2,hs,ts,dG,Z,h2,rG,s1,s2,_,Z,?_];cases tb:Br hs ts y1 y2 with
  |false=>
   apply df ?_;have:=k H (aa.refl H);unfold Bj at this;rw[tb,Bool.false_and] at this;exact this
  |true=>
   apply aK ?_;let#[u,vJ,eu,wy]:=YD nd h5 hq;apply#[_,Z,g,CG,dx,_,_,Z,h1,T.cl,T.nY,YM _ _ _,_,Z,dy,u,Z,?_,?_]
   ·rw[<- eu];exact .k (k:=Sum.inr q.1) h4
   apply#[_,Z,_,Z,?_];unfold Bj at k;rw[tb] at k;cases e:q.2.2 with
   |none=>
    rw[e] at wy k;cases (show u=.non from wy);exact df (k H (aa.refl H))
   |some ws=>
    rw[e] at wy k;let#[a,ys,rfl,ha,tu]:=wy;cases y1 with
    |none=>cases tb
    |some a1=>
     cases y2 with
     |none=>cases tb
     |some a2=>
      cases (show u1=.str a1 from s1);cases (show u2=.str a2 from s2);apply aK #[_,Z,_,Z,a1,a2,Z,λt ht=>?_];have s3:aa H (upd H t (.tup [.str (aH a1 a2).1,.str (aH a1 a2).2])):=aa.new ht;apply#[_,Z,aH a1 a2,ws,#[t,_,_,Z,.of ax,Z,Z],#[a,ys,Z,.of (s3 _ _ ha),MY (tu.same s3)],?_];let z:=k _ s3;rw[Bool.true_and] at z;rw[aA gE];show Q (.bl _) _;have z:Q (.bl (decide (aH a1 a2∈ws))) (upd H t (.tup [.str (aH a1 a2).1,.str (aH a1 a2).2])):=z;generalize upd H t (.tup [.str (aH a1 a2).1,.str (aH a1 a2).2])=Hz at z ⊢;by_cases hm:aH a1 a2∈ws
      ·simpa [hm] using z
      simpa [hm] using z
 exact k.elim
end
end Ev
namespace L2
open PySem PySem.Spec PyProof.Rows PySem.W
variable{P:Ad}{w:Ag}
theorem _l{k:Key}{key:Aa}(h:(fh P w).is k key=true):RelV (kV k) key:=by
 have e2:wd k key=true:=h;rcases pR e2 with⟨i,t,rfl,rfl⟩|⟨x,t,rfl,rfl⟩
 ·exact#[t,Z]
 exact#[t,Z]
def Itm(d:Addr)(o:Obj)(kvs:List (Key × V)):It:=#[λi H=>H d\.frz o (.dK kvs)/\i<kvs.length,λi H y H'=>∃t k x,y=.ref t/\H t=none/\kvs[i]? = some (k,x)/\H'=upd H t (.tup [kV k,x]),λi H=>H d\.frz o (.dK kvs)/\kvs.length<=i]
variable{elts:List Expr}{kk:Nat}
theorem fa_{K:ai}{pos:Pos}(d it:Addr)(o:Obj)(kvs:List (Key × V)){es:Array DictEntry}{ep:Nat}(ho:o.data=.dict es ep):Turn P w K (.Tuple elts kk pos) (Itm d o kvs) [it] it (λi h=>∃ok ov,IsItemIter h it d i kvs.length ep ok ov) where
 mem:=by simp
 obj:=λi h st b hb=>by
  obtain rfl:b=it:=⇑hb
  let#[ok,ov,q]:=st;exact#[_,q,λv z=>by cases z]
 keep:=λi h h' st k=>by
  let#[ok,ov,q]:=st;exact#[ok,ov,k it Z2 _ q]
 item:=by
  intro X hP hw hK hc i pins s σ H E I hf st hg;subst hP hw hK;let#[hd,hi]:=hg;let#[vs,rel,dat]:=TM I hd ho;obtain⟨⟨k,x⟩,hx⟩:∃p,kvs[i]? = some p:=#[kvs[i],by simp[hi]];let#[u,hu,ru]:=Mq rel i hx;let#[ok,ov,st]:=st;have ZK:it<s.heap.objs.size:=bz st;rw[rel.length] at st;apply wpAny_pyNext_items_item st dat hu λkey h' hk out ht sz kp=>?_;apply#[_,Z,wpAny_letOwnedTupleGo_items (s:={ s with heap:=h' }) out λh2 fI sb=>?_];have nT:s.heap.objs.size≠it:=i5 ZK;have I1:Inv X pins σ (upd H s.heap.objs.size (.tup [kV k,x])) { s with heap:=h2 }:=I.iJ (t':=s.toks) (fp:=[it]) (its:=[key,u]) (λb o hb q=>(sb.2 b ⇑hb).trans (kp b o ⇑hb q)) hf (a_ _) (zl) (.cons (_l hk) (.cons ru .nil)) #[#[_,(sb.2 _ nT).trans ht,Z,_,Z],_,(sb.2 _ nT).trans ht,Z];apply#[.ref _,_,I1,Z,#[_,k,x,Z,I.az.fresh (a_ _),hx,Z],#[_,_,by rw[rel.length];exact fI],λb hb=>?_];have e:b=it:=⇑hb
  rw[aw (λz=>nT (z.symm.trans e))];exact (hf b hb).1
 done:=by
  intro X hP hw hK hc i pins s σ H E I hf st hg;subst hP hw hK;let#[hd,hi]:=hg;let#[vs,rel,dat]:=TM I hd ho;let#[f0,f1,f2,f3,f4,f5]:=hf it Z2;let#[ok,ov,st]:=st;rw[rel.length] at st hi;exact wpAny_pyNext_items_end (I.ok.hd hc) st dat (by simp;omega) λh' eb=>#[Z,I.turned (t':=s.toks) (λb o hb e=>eb b o hb e) f0 f1 f3 f4 f5]
 self:=λA i s Q E st h=>by
  let#[ok,ov,q]:=st;exact kcp_self q h
inductive ny (R:It->Hp->Prop) (x:V) (H1:Hp):Prop
 |mk:∀v d kvs,x=.ref v->H1 v\tj v d->H1 d\.dK kvs->(∀o,R (Itm d o kvs) (upd H1 d (.frz o (.dK kvs))))->ny R x H1
def zk(tv:TE):TI:=λσ H R=>tv σ H λx H1=>ny R x H1
variable{X:Cx}
theorem Ni{p2:Pos}{e:Expr}{tv:TE}(he:PE X e tv):PI X (.Tuple elts kk p2) e (zk tv):=by
 intro pins s σ H R I h;apply aO (he pins s σ H _ I h) λu s1 ⟨x,H1,I1,r1,v,d,kvs,ex,hv,hd,q⟩=>?_;subst ex;cases r1;let#[iv,_,_]:=I1.az v _ hv;let#[o,ho,I2]:=I1.freeze hd;let#[z,_,vs,rel,o',es,ep,nE,c',dt,r]:=EN I1.az hd;rw[ho] at nE;cases nE;apply wpAny_pyIter_items (knd:=fh X.prog X.w) (kvs:=vs) (ep:=ep) iv #[o,es,ho,c',dt,r] ?_;apply#[s1.heap.objs.size,[s1.heap.objs.size],_,_,_,Z,I2.kept (t':=s1.toks) λb o e=>aU _ e,fa_ d _ o kvs dt,?_,λb hb=>?_,q o]
 ·rw[rel.length];exact#[.none,.none,cz _ Z]
 obtain rfl:b=s1.heap.objs.size:=⇑hb
 exact I2.jH (a_ _) (I2.az.fresh (a_ _))
theorem N3{d:Addr}{o:Obj}{kvs:List (Key × V)}{g:TG}{tb:TS}{D:Ends}{σ:St}{H:Hp}(Pv:bZ)(h0:Pv 0 σ H)(hl:∀i σ H,i<=kvs.length->Pv i σ H->H d\.frz o (.dK kvs))
  (hs:∀i k x σ H,kvs[i]? = some (k,x)->Pv i σ H->∀t,H t=none->g (.ref t) σ (upd H t (.tup [kV k,x])) λfZ H2=>tb { D with nx:=Pv (i+1),ct:=Pv (i+1),bk:=D.nx } fZ H2) (hd:∀σ H,Pv kvs.length σ H->D.nx σ H) :
  ∃W:Nat->Nat->St->Hp->Prop,(∃m,W 0 m σ H)/\∀i m σ H,W i m σ H->
   ((Itm d o kvs).stop i H/\D.nx σ H)∨((Itm d o kvs).go i H/\∃N:St->Hp->Prop,(∀aX H',N aX H'->∃m',m'<m/\W (i+1) m' aX H')/\∀x H',(Itm d o kvs).uT i H x H'->g x σ H' λfZ H2=>tb { D with nx:=N,ct:=N,bk:=D.nx } fZ H2):=by
 apply#[λi m σ H=>m=kvs.length - i/\i<=kvs.length/\Pv i σ H,#[kvs.length,by simp,gM _,h0],?_];rintro i m σ H ⟨rfl,hi,p⟩;let q:=hl i σ H hi p;by_cases dZ:i<kvs.length
 ·apply .inr #[#[q,dZ],Pv (i+1),λaX H' p'=>#[kvs.length - (i+1),by omega,Z,dZ,p'],λx H' y=>?_];let#[t,k,x,rfl,ht,hx,rfl]:=y;exact hs i k x σ H hx p t ht
 have e:i=kvs.length:=by omega
 subst e;exact .inl #[#[q,a_ _],hd σ H p]
inductive pY (t:TS) (D:Ends) (σ:St) (H:Hp):Prop
 |mk:∀d kvs,H d\.dK kvs->t { nx:=λmE H1=>∃o,H1 d\.frz o (.dK kvs)/\D.nx mE (upd H1 d (.dK kvs)),rt:=λv H1=>∃o,H1 d\.frz o (.dK kvs)/\D.rt v (upd H1 d (.dK kvs)) } σ H->pY t D σ H
theorem Sf{st:Stmt}{t:TS}(h:PS X st t):PS X st (pY t):=by
 intro pins s σ H D I q;let#[d,kvs,hd,q]:=q
 have nf:∀o u,X.j7 d≠some (.frz o u):=λo u z=>by
  have:=I.base.gU _ _ _ z;rw[hd] at this;cases this
 apply aO (h pins s σ H _ I q) λf s' p=>?_;cases f with
 |next=>
  let#[mE,H1,I1,o,hf,q1]:=p;exact#[mE,_,I1.pU hf nf,q1]
 |brk=>
  let#[mE,H1,I1,q1]:=p;exact False.elim q1
 |cont=>
  let#[mE,H1,I1,q1]:=p;exact False.elim q1
 |ret u=>
  let#[v,mE,H1,I1,r,o,hf,q1]:=p;exact#[v,mE,_,I1.pU hf nf,r,q1]
theorem Uo:∀{ns:List Int} {its:aj},Vals (ns.map V.int) its->∃xs:List (Int × Tok),its.toArray=intItems xs.toArray/\xs.map (·.1)=ns
 |[],_,.nil=>#[[],by unfold intItems;simp,Z]
 |n::ns,_,.cons ⟨t,e⟩ r=>by
  let#[xs,h1,h2]:=Uo r;apply#[(n,t)::xs,?_,by simp[h2]];subst e;apply Array.ext' ?_;let h3:=d5 Array.toList h1;unfold intItems at h3 ⊢;simp at h3 ⊢;exact h3
theorem UT{xs:List (Int × Tok)}:∀n,n<=xs.length->preSum (numAt xs.toArray) n=((xs.map (·.1)).take n).sum
 |0,_=>by simp[preSum]
 |n+1,h=>by
  let ih:=UT (xs:=xs) n Z1;show preSum (numAt xs.toArray) n+numAt xs.toArray n=_;rw[ih,pP,List.sum_append];congr 1;unfold numAt;rw[List.getElem?_toArray,di,aP Z1];simp
inductive xa (K:ai) (xs:ag) (H:Hp) (Q:VK):Prop
 |mk:∀(l:Addr) (ns:List Int),xs=[.ref l]->dX K H l (ns.map V.int)->Q (.int ns.sum) H->xa K xs H Q
theorem ge_(hc:X.calm=true):gn X (.builtin "sum") (xa X.K):=by
 intro pins s σ H xs us Q I r h;let#[l,ns,rfl,hl,q]:=h;let#[u,rfl,ru]:=vals1 r;cases ru;let#[its,rv,p,hz]:=I.list hl;let#[zs,e1,e2]:=Uo rv;let il:=p.isList;rw[e1] at il;apply sum_intListG (I.ok.hd hc) il λh' tk t' k=>?_;apply#[.int ns.sum,H,I.kept (t':=tk) k,#[t',?_],q]
 have:preSum (numAt zs.toArray) zs.toArray.size=ns.sum:=by
  rw[cj,UT _ (a_ _),<- e2,tL Z2]
 rw[this]
end L2
namespace Ev
open PySem L2
structure Fz (d:Addr) (o:Obj) (kvs:List (Key × V)) (H H':Hp):Prop where
 at_:H' d\.frz o (.dK kvs)
 sm:∀b u,b≠d->H b\u->H' b\u
section
variable{d:Addr}{o:Obj}{kvs:List (Key × V)}{H H' H2:Hp}
theorem Fz.start:Fz d o kvs H (upd H d (.frz o (.dK kvs))):=#[ax,λb u ne e=>by rw[aw ne];exact e]
theorem Fz.step(f:Fz d o kvs H H')(s:aa H' H2):Fz d o kvs H H2:=#[s _ _ f.at_,λb u ne e=>s _ _ (f.sm b u ne e)]
theorem Fz.pU(f:Fz d o kvs H H')(hd:H d\.dK kvs):aa H (upd H' d (.dK kvs)):=λb u e=>by
 by_cases z:b=d
 ·subst z;rw[hd] at e;cases e;exact ax
 rw[aw z];exact f.sm b u z e
theorem Fz.xH{K:ai}{CG CW g p:Addr}{hs:Xa}{ts:Xb}{qs:aM}{fp:au}(f:Fz d o kvs H H')(hd:H d\.dK kvs)(G:gq K CG CW H g p hs ts qs fp)(nd:d∉fp):gq K CG CW H' g p hs ts qs fp:=
 G.keep (λb hb u e=>f.sm b u (λz=>nd (z▸hb)) e) λb xs e=>f.sm b _ (bK e hd nofun) e
end
def dW(ns:af)(g:Str->V):List (Key × V):=ns.map λn=>(Sum.inr n,g n)
theorem AF(ns:af)(g:Str->V):(dW ns g).map (·.1)=ns.map Sum.inr:=by
 unfold dW;rw[cg];rfl
theorem jQ(ns:af)(g:Str->V):(dW ns g).length=ns.length:=ak _
variable{n:Str}
theorem AO{ns:af}{g:Str->V}(h:n∈ns):aY (dW ns g) (Sum.inr n)\g n:=by
 induction ns with
 |nil=>cases h
 |cons m ns ih=>
  by_cases e:m=n
  ·subst e;exact AH Z
  have:aY (dW (m::ns) g) (Sum.inr n)=aY (dW ns g) (Sum.inr n):=AE λz=>e (hJ z);rw[this];rcases bU.mp h with z|z
  ·exact absurd z.symm e
  exact ih z
theorem Jb{ns:af}{g k:Str->V}(h:∀n∈ns,g n=k n):dW ns g=dW ns k:=uL λn hn=>by rw[h n hn]
variable{v:V}
theorem RZ{ns:af}{g:Str->V}(h:n∈ns):putK (dW ns g) (Sum.inr n) v=dW ns λm=>if m=n then v else g m:=by
 unfold putK;rw[aI]
 ·unfold dW;rw[cg];apply uL λm _=>?_;by_cases e:m=n
  ·subst e;simp
  have:¬((Sum.inr m:Key)=Sum.inr n):=λz=>e (hJ z);simp[e]
 apply List.any_eq_true.mpr #[(Sum.inr n,g n),bC.mpr #[n,h,Z],by simp]
theorem SA{ns:af}{g:Str->V}(h:n∉ns):putK (dW ns g) (Sum.inr n) v=dW (ns++[n]) λm=>if m=n then v else g m:=by
 rw[wq _ (uN (by
  rw[AF];intro m;let#[x,hx,e]:=bC.mp m;exact h (hJ e▸hx)))]
 unfold dW;rw[eS];congr 1
 ·apply uL λm hm=>?_;have e:¬m=n:=λz=>h (z▸hm);simp[e]
 simp
variable{i:Nat}
theorem Mt{ns:af}{g:Str->V}{k:Key}{x:V}(h:(dW ns g)[i]? = some (k,x)):∃n,ns[i]? = some n/\k=Sum.inr n/\x=g n:=by
 unfold dW at h;rw[di] at h;cases e:ns[i]? with
 |none=>rw[e] at h;cases h
 |some n=>
  rw[e] at h;let h:=cY h;exact#[n,Z,(d5 Prod.fst h).symm,(d5 Prod.snd h).symm]
theorem S_{ns:af}(nd:ns.Nodup)(h:ns[i]? = some n):n∉ns.take i:=by
 let q:=Fy (g:=id) (ts:=ns) (by rw[List.map_id];exact nd) h;rwa [List.map_id] at q
theorem tF{ns:af}(h:ns[i]? = some n):ns.take (i+1)=ns.take i++[n]:=by
 rw[pP,h];rfl
abbrev d7(ns:af)(f:bq):List (Key × V):=dW ns λn=>.str (f n)
def eY(q:Pc):Str × Int:=(q.1,q.2.1)
def ld(f:bq)(ws:Xa)(h:Str):Int:=((ws.filter λx=>decide (f x.1=h)).map (·.2)).sum
theorem RX(f:bq)(ws:Xa)(x:Str × Int)(h:Str):ld f (ws++[x]) h=if h=f x.1 then ld f ws h+x.2 else ld f ws h:=by
 unfold ld;rw[List.filter_append];by_cases e:f x.1=h
 ·rw[aI e.symm,eS,List.sum_append];simp[e]
 rw[aA λz=>e z.symm];simp[e]
theorem R6:∀{l:List Int},(∀x∈l,0<=x)->0<=l.sum
 |[],_=>by simp
 |x::l,h=>by
  rw[List.sum_cons];have:=h x fX;have:=R6 (l:=l) λy hy=>h y (fM _ hy);omega
theorem YI{f:bq}{ws:Xa}{h:Str}(p:∀x∈ws,0<=x.2):0<=ld f ws h:=R6 λx hx=>by
 let#[y,hy,rfl]:=bC.mp hx;exact p y (jS.mp hy).1
theorem g8_{α:Type}{ps:List (Str × α)}(nd:(ps.map (·.1)).Nodup){a b:Str × α}(ha:a∈ps)(hb:b∈ps)(e:a.1=b.1):a=b:=by
 induction ps with
 |nil=>cases ha
 |cons p ps ih=>
  rw[eG,jk] at nd;rcases bU.mp ha with za|ha
  ·rcases bU.mp hb with zb|hb
   ·rw[za,zb]
   rw[za] at e;exact absurd (show p.1∈ps.map (·.1) from bC.mpr #[b,hb,e.symm]) nd.1
  rcases bU.mp hb with zb|hb
  ·rw[zb] at e;exact absurd (show p.1∈ps.map (·.1) from bC.mpr #[a,ha,e]) nd.1
  exact ih nd.2 ha hb
def strOf(hs:Xa)(n:Str):Int:=((hs.find? λh=>decide (h.1=n)).map (·.2)).getD 0
theorem Je{hs:Xa}(h:n∈hs.map (·.1)):(n,strOf hs n)∈hs:=by
 unfold strOf;let#[x,hx,e]:=bC.mp h;cases q:hs.find? λh=>decide (h.1=n) with
 |none=>
  have:=List.find?_eq_none.mp q x hx;simp[e] at this
 |some y=>
  let m:=List.mem_of_find?_eq_some q;have:=List.find?_some q;have e2:y.1=n:=⇑this
  show (n,y.2)∈hs;rw[<- e2];exact m
theorem Tf{hs:Xa}(nd:(hs.map (·.1)).Nodup){s:Int}(h:(n,s)∈hs):strOf hs n=s:=by
 let m:=Je (bC.mpr #[_,h,Z]:n∈hs.map (·.1));exact d5 Prod.snd (g8_ nd m h Z)
def fr(a b:Int):Int × Int:=(a / (Int.gcd a b:Int),b / (Int.gcd a b:Int))
variable{a b:Int}
theorem _x(ha:0<=a)(h:0<b):Int.gcd b (a % b)=Int.gcd a b:=by
 let#[m,rfl]:=tM ha;let#[n,rfl]:=tM (iz h);rw[<- Int.natCast_emod];show Nat.gcd n (m % n)=Nat.gcd m n;rw[Nat.gcd_comm n,<- Nat.gcd_rec,Nat.gcd_comm]
variable{fd:Ae}
section v
theorem ow:bG ["one","other","rest","divisor","left"] md (bg Kh):=bQ
def u0:Sp:=λvs H Q _=>∃a b:Int,vs=[.int a,.int b]/\0<=a/\0<b/\Q (.int (Int.gcd a b)) H
theorem Ym{f:Addr}(F:bx K Bo Bo Kh f fd):!aq bh 1 f fd md u0:=by
 exists F.bP ow;let#[a,b,rfl,ha,hb,k]:=h;refine' #[_,av ?s1 (av ?s2 (av ?s3 ?s4)),?kk]
 case s1=>exact bj 2 ow.nd (pv 0)
 case s2=>exact bj 3 ow.nd (pv 1)
 case s3=>exact IF d6 (fF sW (pv 2) aB) (av (bj 4 ow.nd (bN xR (pv 3) (pv 2))) (av (bj 3 ow.nd (pv 2)) (aF (bj 2 ow.nd (pv 4)))))
 case s4=>exact aF (bu (pv 3))
 apply#[_,Z,_,Z,?_];apply hK_ (λσ H'=>H'=H/\∃(r d:Int) (v4:aL),σ=[some (.int a),some (.int b),some (.int r),some (.int d),v4]/\0<=r/\0<d/\Int.gcd r d=Int.gcd a b) (λσ _=>match σ with | [_,_,some (.int r),_,_]=>r.toNat|_=>0) #[Z,a,b,none,Z,ha,hb,Z] ?_ ?_
 ·rintro σ H' ⟨rfl,r,d,v4,rfl,nD,hd,e⟩;apply#[_,Z,Z,_,Z,?_];apply cu (λc=>?_) (λc=>?_)
  ·have jb:0<r:=by
    have:r≠0:=by
     intro z;subst z;simp at c
    omega
   apply#[_,Z,_,Z,_,_,Z,Z,jb,_,Z,_,Z,?_];let h1:=Int.emod_nonneg d (Int.ne_of_gt jb);let h2:=Int.emod_lt_of_pos d jb;apply#[#[Z,_,_,_,Z,h1,jb,?_],?_]
   ·rw[<- e,Int.gcd_comm (d % r) r,_x (iz hd) jb,Int.gcd_comm]
   show (d % r).toNat<r.toNat;omega
  have jb:r=0:=⇑c
  subst jb;apply#[_,Z,?_]
  have e2:(Int.gcd a b:Int)=d:=by
   rw[<- e,Int.gcd_zero_left];omega
  rw[<- e2];exact k
 intro σ H' Q1 Q2 hq h;let#[x,e,h1,c,h2,h3]:=h;exact#[x,e,h1,c,h2,hq _ _ h3]
end
theorem Yp(hb:0<b)(lX:b<=1000):0<(Int.gcd a b:Int)/\(Int.gcd a b:Int)<1073741824:=by
 have h1:0<Int.gcd a b:=Int.gcd_pos_of_ne_zero_right a Z1;have h2:(Int.gcd a b:Int) ∣ b:=Int.gcd_dvd_right a b;let h3:=Int.le_of_dvd hb h2;omega
section v
structure IU (hs:Xa) (qs:aM) (ns:af) (f:bq):Prop where
 perm:ns.Perm (qs.map (·.1))
 at_:∀n∈ns,f n∈hs.map (·.1)
theorem IB:bG ["goods","stand","piece","hand","names"] xK (bg NI):=bQ
inductive ID (K:ai) (CG CW:Addr) (vs:ag) (H:Hp) (Q:VK) (E:XK):Prop
 |mk:∀(g p d:Addr) (hs:Xa) (ts:Xb) (qs:aM) (fp:au) (ns:af) (f:bq),vs=[.ref g,.ref d]->gq K CG CW H g p hs ts qs fp->d∉fp->H d\.dK (d7 ns f)->IU hs qs ns f->(qs.map (·.1)).Nodup->qs.length<64->(∀d' H',aa H H'->H d'=none->H' d'\.dK (d7 (qs.map (·.1)) f)->Q (.ref d') H')->ID K CG CW vs H Q E
theorem gz_{f CG CW:Addr}(F:bx K "checked_stand" "checked_stand" NI f fd)(B:Bi mg)(T:gh K CG)(TW:Txt K mg CW)(cH:!bW CG 1 "has_piece" nU (E1 K CG CW))(cW:!bW CW 1 "has_hand" nU (js K CW))(cN:!bW CG 1 "names" oR (BA K CG CW)) :
  aq P w K mg base bh 2 f fd xK (ID K CG CW):=by
 exists F.bP IB;let#[g,p,d,hs,ts,qs,fp,ns,f,rfl,G,se,hd,so,nd,bX,k]:=h;let hu:=gf hr;let sz:=cX;refine' #[_,?r0,?kk]
 case' r0=>refine' av ?s1 ?r1
 case s1=>exact b_ (eV (eO (cJ jR (by rfl) B.ja jh %[1,jP (v:=.ty "dict") (by rfl) B.dict tw Z|0]))) gr cm
 case' r1=>refine' av ?s2 ?r2
 case' s2=>refine' Sf (eW d6 Z ?i2 ?g2 ?b2)
 case i2=>exact Ni (IJ (pv 1))
 case g2=>exact oU Z (dC (cy 2 IB.nd) (dC (cy 3 IB.nd) i6))
 case b2=>exact av (b_ (eV (eO (jc cH T.cl hr (pv 0) %[2|0]))) gr cm) (aF (b_ (eV (eO (jc cW TW.cl hr (gG (pv 0) Z) %[3|0]))) gr cm))
 case' r2=>refine' av ?s3 ?r3
 case s3=>exact bj 4 IB.nd (Ax cN T.cl hr (pv 0))
 case' r3=>refine' av ?s4 (aF ?s5)
 case s4=>exact b_ (fF sW (cJ fJ_ (by rfl) B.len gC %[1|0]) (cJ iy (by rfl) B.len gC %[4|0])) gr cm
 case s5=>exact bu (i0 (xY Z) (by rfl) B.dict tw %[iI ["piece","stand"] 1 [1] (dI (pv 4)) (λfp s H=>eN (i:=0) (show (["piece","stand"]:af).Nodup by decide +kernel) Z (Or.inl Z)) (λfp s H=>ji) (λfp s H=>fY %[0,n5 hu (pv 1) (pv 0)|0])|0])
 have X7:ns.length=qs.length:=by rw[so.perm.length_eq,ak]
 apply#[_,Z,_,_,_,_,Z,.dK hd,Z,_,Z,aK ?_];apply#[d,_,hd,?_];apply#[_,Z,d,_,Z,hd,λv hv=>?_];let#[s1,xt]:=aD (o:=tj v d) hv;let G1:=G.same s1;let um:=s1 _ _ hd;generalize upd H v (tj v d)=H1 at s1 xt G1 um ⊢;apply#[v,d,_,Z,xt,um,λo=>?_];apply N3 (λi σ H'=>∃(v2 v3:aL),σ=[some (.ref g),some (.ref d),v2,v3,none]/\Fz d o (d7 ns f) H1 H') #[none,none,Z,Fz.start] (λi σ H' _ ⟨_,_,_,z⟩=>z.at_) ?_ ?_
 ·rintro i ky x σ H2 hx ⟨v2,v3,rfl,fz⟩ t ht;let#[n,hn,rfl,rfl]:=Mt hx;let nm:=cQ hn;let s2:=aa.new (o:=.tup [.str n,.str (f n)]) ht;let zW:=fz.step s2;have e2:upd H2 t (.tup [.str n,.str (f n)]) t\.tup [.str n,.str (f n)]:=ax;show gA _ _ _ _ _ (upd H2 t (.tup [.str n,.str (f n)])) _;generalize upd H2 t (.tup [.str n,.str (f n)])=H3 at s2 zW e2 ⊢;apply#[t,_,Z,.of e2,Z,_,_,Z,_,_,Z,Z,?_];let G3:=zW.xH um G1 se;let#[dx,dw,dy,vs,dG,h1,h2,h3,h4,h5,m1,m2,m3,m4,m5]:=id G3.ex;let#[lZ,d1,l2,d3,wJ,as,ef,w1,_]:=id h2.ex;have ki:(cw p dw dy).lookup ("has_piece":Str)=none:=wz _ _ _ Z0 Z0 Z0;have zE:(fg d1 l2 d3).lookup ("has_hand":Str)=none:=pN _ _ _ Z0 Z0 Z0;apply#[_,Z,g,dx,_,Z,h1,ki,_,Z,g,p,.str n,some n,hs,ts,qs,fp,Z,G3,Z,_,Z,?_];rw[show Du (qs.map (·.1)) (some n)=true from c_ (so.perm.mem_iff.mp nm)];apply aK ?_;apply#[_,Z,g,CG,dx,_,_,Z,h1,T.cl,T.nW,AQ _ _ _,p,lZ,_,Z,w1,zE,_,Z,p,f n,hs,ts,dG,Z,h2,_,Z,?_];rw[c_ (so.at_ n nm)];exact aK #[_,_,Z,zW]
 rintro σ H2 ⟨v2,v3,rfl,fz⟩;apply#[o,fz.at_,?_];let s2:=s1.trans (fz.pU um);have hd2:upd H2 d (.dK (d7 ns f)) d\.dK (d7 ns f):=ax;generalize upd H2 d (.dK (d7 ns f))=H3 at s2 hd2 ⊢;let G3:=G.same s2;let#[dx,dw,dy,vs,dG,h1,h2,h3,h4,h5,m1,m2,m3,m4,m5]:=id G3.ex;apply#[_,Z,g,dx,_,Z,h1,wz _ _ _ Z0 Z0 Z0,g,p,hs,ts,qs,fp,Z,G3,λln uk=>?_];let#[s3,e3]:=aD (o:=.lst ((qs.map (·.1)).map V.str)) uk;let lV:=s3 _ _ hd2;generalize upd H3 ln (.lst ((qs.map (·.1)).map V.str))=H4 at s3 e3 lV ⊢;apply#[_,Z,d,_,Z,lV,_,Z,ln,_,Z,.inl (.of e3),Z,_,Z,?_];rw[jQ,ak,ak,X7];simp only[bne_self_eq_false,decide_true,Bool.not_true];apply aK ?_;let oC:=s2.trans s3;apply#[_,Z,ln,Z,#[_,.of e3],λD hD=>?_];apply iZ (own:=1) (fv:=[some (.ref d)]) (xs:=(qs.map (·.1)).map V.str) Z e_ (λi out H'=>aa H4 H'/\H' D\.lst out/\jd K H' out (d7 ((qs.map (·.1)).take i) f)) #[aa.new hD,ax,.nil] (λi out H' _ ⟨sm,_,_⟩=>.of (sm _ _ e3)) (λout H5 ⟨sm,ip,pa⟩=>?_) (λi y out H' hy ⟨sm,cK,pa⟩=>?_)
 ·rw[ak,eI] at pa;apply#[D,out,_,Z,ip,pa,by rw[jQ,ak];omega,λd' iR=>?_]
  have ke:((d7 (qs.map (·.1)) f).map (·.1)).Nodup:=by
   rw[AF,tN,uK];exact nd.imp λn e=>n (hJ e)
  rw[wC ke];exact k d' _ ((oC.trans sm).trans (aa.new iR)) (oC.free (sm.free iR)) ax
 let#[n,hn,rfl]:=mj hy;have hi:i<(qs.map (·.1)).length:=(bY.mp hn).1;rw[ak] at hi;have nm:n∈ns:=so.perm.mem_iff.mpr (cQ hn);apply#[_,Z,Z,λNx hN=>d_ ?_];apply#[_,Z,_,Z,_,Z,d,.str (f n),Z,?_,zl,λt ht=>?_]
 ·rw[<- AO (g:=λn=>V.str (f n)) nm];exact .k (k:=Sum.inr n) (sm _ _ lV)
 let s5:=aa.new (o:=.tup [.str n,.str (f n)]) ht;let lo:=br pa;rw[jQ,dH,ak] at lo;apply#[out,s5 _ _ cK,by omega,hN _ _ #[fi (sm.trans s5) hD,ax,?_]];have DK:upd H' t (.tup [.str n,.str (f n)]) t\.tup [.str n,.str (f n)]:=ax;have pD:∀{b:Addr} {ys:ag},upd H' t (.tup [.str n,.str (f n)]) b\.tup ys->b≠D:=λhb=>bK hb (s5 _ _ cK) nofun;rw[tF hn];show jd K _ _ (((qs.map (·.1)).take i++[n]).map _);rw[eS];exact gY (Paired.aV pa λy kv ⟨b,z,hb⟩=>#[b,z,by rw[aw (pD (s5 _ _ hb))];exact s5 _ _ hb]) (.cons #[t,Z,by rw[aw (pD DK)];exact DK] .nil)
end
variable{C:Addr}
theorem iq.has{K:ai}{H:Hp}{p:Addr}{hs:Xa}{ts:Xb}{fp:au}(W:iq K C H p hs ts fp){b:Addr}(hb:b∈fp):∃o,H b\o:=by
 let#[dx,d1,l2,d3,zs,as,rfl,h1,h2,h3,h4,h5,h6,h7]:=W.ex;simp only[bU] at hb;rcases hb with rfl|rfl|rfl|rfl|hb
 ·exact#[_,h1]
 ·exact#[_,h2]
 ·exact#[_,h3]
 ·exact#[_,h5]
 let#[i,hi,e]:=gX hb;exact#[_,h7 i ((aS hs)[i]' Z1) b (aP Z1) (by rw[<- e];exact aP hi)]
theorem gq.slim{K:ai}{CG CW:Addr}{H:Hp}{g p:Addr}{hs:Xa}{ts:Xb}{qs:aM}{fp:au}(G:gq K CG CW H g p hs ts qs fp):∃kr,gq K CG CW H g p hs ts qs kr/\∀b∈kr,∃o,H b\o:=by
 let#[dx,dw,dy,vs,dG,h1,h2,h3,h4,h5,m1,m2,m3,m4,m5]:=G.ex;apply#[g::dw::dy::(dG++vs.filterMap λv=>match v with | .ref a=>some a|_=>none),#[dx,dw,dy,vs,dG,h1,h2,h3,h4,h5,by simp,by simp,by simp,λb hb=>by simp[hb],λv hv a z=>?_],λb hb=>?_]
 ·have:a∈vs.filterMap λv=>match v with | .ref a=>some a|_=>none:=xX.mpr #[v,hv,by rw[z]];simp only[bU,d8];exact .inr (.inr (.inr (.inr this)))
 simp only[bU,d8] at hb;rcases hb with rfl|rfl|rfl|hb|hb
 ·exact#[_,h1]
 ·exact#[_,h3]
 ·exact#[_,h4]
 ·exact h2.has hb
 let#[v,hv,e]:=xX.mp hb;let#[i,hi,ev]:=gX hv;let le:=br h5;let w:=dS h5 i hi Z1;rw[ev] at w;cases o:(qs[i]' Z1).2.2 with
 |none=>
  rw[o] at w;rw[show v=.non from w] at e;cases e
 |some ws=>
  rw[o] at w;let#[a,ys,ea,ha,_]:=w;rw[ea] at e;cases e;exact#[_,ha]
section
variable{d d2:Addr}{o:Obj}{kvs:List (Key × V)}{H H' H1:Hp}{u:HO}
theorem Fz.yy(s:aa H H1):Fz d o kvs H (upd H1 d (.frz o (.dK kvs))):=#[ax,λb u ne e=>by rw[aw ne];exact s _ _ e]
theorem Fz.put(f:Fz d o kvs H H')(hn:H d2=none)(ne:d2≠d):Fz d o kvs H (upd H' d2 u):=#[by rw[aw ne.symm];exact f.at_,λb u nb e=>by rw[aw (bp e hn)];exact f.sm b u nb e]
end
variable{CG CW:Addr}
section v
theorem IQ:bG ["goods","placed","hand","found","piece"] nV (bg OO):=bQ
structure AB (K:ai) (CG CW:Addr) (H:Hp) (g p d:Addr) (hs:Xa) (ts:Xb) (qs:aM) (fp:au) (f:bq):Prop where
 G:gq K CG CW H g p hs ts qs fp
 Gd:Good hs ts
 se:d∉fp
 hd:H d\.dK (d7 (qs.map (·.1)) f)
 at_:∀n∈qs.map (·.1),f n∈hs.map (·.1)
 nd:(qs.map (·.1)).Nodup
 bX:qs.length<64
abbrev QC(hs:Xa)(qs:aM)(f:bq):List (Key × V):=dW (aS hs) λh=>.int (ld f (qs.map eY) h)
inductive NX (K:ai) (CG CW:Addr) (vs:ag) (H:Hp) (Q:VK) (E:XK):Prop
 |mk:∀(g p d:Addr) (hs:Xa) (ts:Xb) (qs:aM) (fp:au) (f:bq),vs=[.ref g,.ref d]->AB K CG CW H g p d hs ts qs fp f->(∀d' H',aa H H'->H d'=none->H' d'\.dK (QC hs qs f)->Q (.ref d') H')->NX K CG CW vs H Q E
theorem fq_{f CP:Addr}(F:bx K "loads_at" "loads_at" OO f fd)(B:Bi mg)(T:gh K CG)(TW:Txt K mg CW)(cH:!bW CW 1 "hands" oR (Fs K CW))(cW:!bW CG 2 "weight" ["self","piece"] (N0 K CG CW CP)) :
  aq P w K mg base bh 3 f fd nV (NX K CG CW):=by
 exists F.bP IQ;let#[g,p,d,hs,ts,qs,fp,f,rfl,Pl,k]:=h;let hu:=gf hr;let sz:=cX;have jb:aQ 1 _:=hr.mono (by decide);refine' #[_,?r0,?kk]
 case' r0=>refine' av ?s1 ?r1
 case s1=>exact bj 3 IQ.nd (i0 (xY Z) (by rfl) B.dict tw %[iI ["hand"] 1 [] (dI (Ax cH TW.cl jb (gG (pv 0) Z))) (λfp s H=>eN (i:=0) (show (["hand"]:af).Nodup by decide +kernel) Z (Or.inl Z)) (λfp s H=>ji) (λfp s H=>fY %[0,aB|0])|0])
 case' r1=>refine' av ?s2 ?r2
 case' s2=>refine' Sf (eW d6 Z ?i2 ?g2 (aF ?b2))
 case i2=>exact Ni (IJ (pv 1))
 case g2=>exact oU Z (dC (cy 4 IQ.nd) (dC (cy 2 IQ.nd) i6))
 case b2=>exact uD hu (pv 3) (pv 2) (bN gH (n5 hu (pv 3) (pv 2)) (jc cW T.cl hr (pv 0) %[4|0])) Z
 case r2=>exact aF (bu (pv 3))
 let nl:=Pl.Gd.iO;let h8:=Pl.Gd.h8;let#[dx,dw,dy,vs,dG,h1,h2,h3,h4,h5,m1,m2,m3,m4,m5]:=id Pl.G.ex;let#[lZ,d1,l2,d3,wJ,as,ef,w1,_]:=id h2.ex;have zE:(fg d1 l2 d3).lookup ("hands":Str)=none:=pN _ _ _ Z0 Z0 Z0;apply#[_,Z,g,CG,dx,_,_,Z,h1,T.cl,T.nW,AQ _ _ _,p,lZ,_,Z,w1,zE,p,hs,ts,dG,Z,h2,λlh fV=>?_];let#[s1,e1]:=aD (o:=.lst ((aS hs).map V.str)) fV;generalize upd H lh (.lst ((aS hs).map V.str))=H1 at s1 e1 ⊢;apply#[lh,Z,#[_,.of e1],λD hD=>?_];apply iZ (own:=1) (fv:=[]) (xs:=(aS hs).map V.str) Z e_ (λi out H'=>aa H1 H'/\H' D\.lst out/\jd K H' out (dW ((aS hs).take i) λ_=>.int 0)) #[aa.new hD,ax,.nil] (λi out H' _ ⟨sm,_,_⟩=>.of (sm _ _ e1)) (λout H5 ⟨sm,ip,pa⟩=>?_) (λi y out H' hy ⟨sm,cK,pa⟩=>?_);rotate_left 1
 ·let#[n,hn,rfl]:=mj hy;have hi:i<(aS hs).length:=(bY.mp hn).1;apply#[_,Z,Z,λNx hN=>d_ ?_];apply#[_,Z,zl,λt ht=>?_];let s5:=aa.new (o:=.tup [.str n,.int 0]) ht;let lo:=br pa;rw[jQ,dH] at lo;apply#[out,s5 _ _ cK,by omega,hN _ _ #[fi (sm.trans s5) hD,ax,?_]];have DK:upd H' t (.tup [.str n,.int 0]) t\.tup [.str n,.int 0]:=ax;have pD:∀{b:Addr} {ys:ag},upd H' t (.tup [.str n,.int 0]) b\.tup ys->b≠D:=λhb=>bK hb (s5 _ _ cK) nofun;rw[tF hn];show jd K _ _ (((aS hs).take i++[n]).map _);rw[eS];exact gY (Paired.aV pa λy kv ⟨b,z,hb⟩=>#[b,z,by rw[aw (pD (s5 _ _ hb))];exact s5 _ _ hb]) (.cons #[t,Z,by rw[aw (pD DK)];exact DK] .nil)
 rw[ak,eI] at pa;apply#[D,out,_,Z,ip,pa,by rw[jQ];omega,λd2 hd2=>?_]
 have ke:((dW (aS hs) λ_=>V.int 0).map (·.1)).Nodup:=by
  rw[AF,tN,uK];exact Pl.Gd.rG.imp λn e=>n (hJ e)
 rw[wC ke];let s2:=(s1.trans sm).trans (aa.new (o:=.dK (dW (aS hs) λ_=>V.int 0)) hd2);have e2:upd H5 d2 (.dK (dW (aS hs) λ_=>V.int 0)) d2\.dK (dW (aS hs) λ_=>V.int 0):=ax;have n2:H d2=none:=s1.free (sm.free hd2);show yl _ _ _ _ (upd H5 d2 (.dK (dW (aS hs) λ_=>V.int 0)));generalize upd H5 d2 (.dK (dW (aS hs) λ_=>V.int 0))=H6 at s2 e2 ⊢;have NS:d2≠d:=(bp Pl.hd n2).symm;apply#[d,_,s2 _ _ Pl.hd,?_];apply#[_,Z,d,_,Z,s2 _ _ Pl.hd,λv hv=>?_];let#[s3,xt]:=aD (o:=tj v d) hv;let e3:=s3 _ _ e2;let eZ:=s2.trans s3;generalize upd H6 v (tj v d)=H7 at s3 xt e3 eZ ⊢;apply#[v,d,_,Z,xt,eZ _ _ Pl.hd,λo=>?_];apply N3 (λi σ H'=>∃(v2 v4:aL),σ=[some (.ref g),some (.ref d),v2,some (.ref d2),v4]/\Fz d o (d7 (qs.map (·.1)) f) H H'/\H' d2\.dK (dW (aS hs) λh=>.int (ld f ((qs.take i).map eY) h))) #[none,none,Z,Fz.yy eZ,by rw[aw NS];exact e3] (λi σ H' _ ⟨_,_,_,z,_⟩=>z.at_) ?_ ?_
 ·rintro i ky x σ H8 hx ⟨v2,v4,rfl,fz,e8⟩ t ht;let#[n,hn,rfl,rfl]:=Mt hx
  have hi:i<qs.length:=by
   have:=(bY.mp hn).1;rwa [ak] at this
  have hq:qs[i]? = some (qs[i]'hi):=aP hi
  have en:n=(qs[i]'hi).1:=by
   rw[di,hq] at hn;exact (cY hn).symm
  have fm:f n∈aS hs:=(gF hs).mem_iff.mpr (Pl.at_ n (cQ hn));generalize qs[i]'hi=q at hq en;let s8:=aa.new (o:=.tup [.str n,.str (f n)]) ht;let zW:=fz.step s8;let e9:=s8 _ _ e8;have et:upd H8 t (.tup [.str n,.str (f n)]) t\.tup [.str n,.str (f n)]:=ax;show gA _ _ _ _ _ (upd H8 t (.tup [.str n,.str (f n)])) _;generalize upd H8 t (.tup [.str n,.str (f n)])=H9 at s8 zW e9 et ⊢;apply#[t,_,Z,.of et,Z,_,_,Z,_,_,Z,Z,?_];let G9:=zW.xH Pl.hd Pl.G Pl.se;let#[dx,dw,dy,vs,dG,h1,h2,h3,h4,h5,m1,m2,m3,m4,m5]:=id G9.ex;have ki:(cw p dw dy).lookup ("weight":Str)=none:=wz _ _ _ Z0 Z0 Z0;apply#[_,Z,_,Z,d2,.int (ld f ((qs.take i).map eY) (f n)),Z,?_,_,Z,g,dx,_,Z,h1,ki,_,Z,g,p,.str n,some n,hs,ts,qs,fp,Z,G9,Pl.nd,Z,.inl #[q,cQ hq,d5 some en,?_]]
  ·rw[<- AO (g:=λh=>V.int (ld f ((qs.take i).map eY) h)) fm];exact .k (k:=Sum.inr (f n)) e9
  apply#[_,_,Z,Z,_,Z,_,Z,d2,_,Z,.k (k:=Sum.inr (f n)) e9 (by rw[jQ];omega),?_];apply#[_,_,Z,zW.put n2 NS,?_];rw[ax,RZ fm];congr 2;apply Jb λm _=>?_
  have e5:(qs.take (i+1)).map eY=(qs.take i).map eY++[eY q]:=by
   rw[pP,hq,eS];rfl
  rw[e5,RX];show (if m=f n then V.int (ld f ((qs.take i).map eY) (f n)+q.2.1) else V.int (ld f ((qs.take i).map eY) m))=V.int (if m=f q.1 then _ else _);rw[<- en];by_cases z:m=f n
  ·rw[aI z,aI z,z];rfl
  rw[aA z,aA z]
 rintro σ H8 ⟨v2,v4,rfl,fz,e8⟩;apply#[o,fz.at_,?_];rw[jQ,ak,eI] at e8;exact#[_,Z,k d2 _ (fz.pU Pl.hd) n2 (by rw[aw NS];exact e8)]
end
structure Std (K:ai) (CG CW:Addr) (H:Hp) (g p d:Addr) (hs:Xa) (ts:Xb) (qs:aM) (fp:au) (ns:af) (f:bq):Prop where
 G:gq K CG CW H g p hs ts qs fp
 Gd:Good hs ts
 se:d∉fp
 hd:H d\.dK (d7 ns f)
 ok:IU hs qs ns f
 nd:(qs.map (·.1)).Nodup
 bX:qs.length<64
 wp:∀q∈qs,0<=q.2.1
theorem Std.placed{K:ai}{H H':Hp}{g p d d':Addr}{hs:Xa}{ts:Xb}{qs:aM}{fp:au}{ns:af}{f:bq}(S:Std K CG CW H g p d hs ts qs fp ns f)(s:aa H H')(hn:H d'=none)(hd:H' d'\.dK (d7 (qs.map (·.1)) f)):∃kr,AB K CG CW H' g p d' hs ts qs kr f:=by
 let#[kr,G',has]:=S.G.slim;apply#[kr,G'.same s,S.Gd,λm=>?_,hd,λn hn=>S.ok.at_ n (S.ok.perm.mem_iff.mpr hn),S.nd,S.bX];let#[o,e]:=has d' m;rw[hn] at e;cases e
structure mC (P:Ad) (w:Ag) (K:ai) (mg:Str->Option Aa) (base:Heap) (C:Addr) (k:Nat) (x:Str) (ps:af) (sp:Sp):Prop where
 ex:∃f fd,aq P w K mg base bh k f fd ps sp/\Mk K C f/\mg x\.ref C/\ph K fd ps []
theorem EG{n_:Nat}{X:Cx}{k:Nat}{x:Str}{ps:af}{sp:Sp}{p pos:Pos}{e:Expr}{es:List Expr}{t:TA}(c:mC X.prog X.w X.K X.mg X.base C k x ps sp)(hr:aQ n_ X.A)(ha:PA X (e::es) t)(hg:Gl X x:=by rfl)(rT:(x == ("__debug__":Str))=false:=by decide)(he:starEach (e::es) X.env=(false,eval e X.env)::starEach es X.env:=by rfl)(ig:(backTo pos (starEach es X.env)).any (·.1)=false:=by rfl)(hk:(k+1)<=n_:=by decide):PE X (.Call (.Name x p) (e::es) [] pos) (wN C sp [] E0 t):=by
 let#[f,fd,F,M,m,b]:=c.ex;exact YW M F (hr.mono hk) hg m b .nil nj ha rT he ig
end Ev
namespace L2
open PySem PySem.Spec PyProof.Rows PySem.W
inductive rp (xs:ag) (H:Hp) (Q:VK):Prop
 |mk:∀a kvs,xs=[.ref a]->Rd H a (.dK kvs)->(∀p,H p=none->Q (.ref p) (upd H p (.dK kvs)))->rp xs H Q
variable{X:Cx}
theorem fo_:gn X (.type "dict") rp:=by
 intro pins s σ H xs us Q I r h;let#[a,kvs,rfl,hd,q]:=h;let#[u,rfl,ru]:=vals1 r;cases ru;exact _C I hd λp s' hp I'=>#[.ref p,_,I',Z,q p hp]
inductive q_ (K:ai) (x:V) (y:V) (H:Hp) (Q:VK):Prop
 |mk:∀a b xs,x=.ref a->y=.ref b->dX K H a xs->dX K H b []->Q (.bl (!xs.isEmpty)) H->q_ K x y H Q
theorem M7(hu:X.A.units+0+1<cLine):dJ X (compareOp .NotEq) (q_ X.K):=by
 intro pins s σ H x y v u Q I rx ry h;let#[a,b,xs,rfl,rfl,t,t',hq]:=h;cases xs with
 |nil=>exact Zr gW hu pins s σ H (.ref a) (.ref b) v u Q I rx ry #[[],[],#[a,[],Z,t,.nil],#[b,[],Z,t',.nil],hq]
 |cons z zs=>
  cases rx;cases ry;let#[us,r,pl,_]:=I.list t;let#[vs,r',oH,_]:=I.list t';let l1:=r.length;let l2:=r'.length;exact Jp.gO pl.isList oH.isList (by simp only[cj,bne_iff_ne];simp at l1 l2;omega) Z1 #[.bl true,H,I,Z,hq]
end L2
namespace Ev
open PySem L2
theorem Sg{A:Af}{s:Ab}{ns:af}{f g:bq}{vb:List (Key × Aa)}(rb:KV (d7 ns g) vb):∀(ms:af) (va:List (Key × Aa)),KV (d7 ms f) va->(∀m∈ms,m∈ns)->PySem.W.KeqHits A s vb va (ms.all λn=>decide (f n=g n))
 |[],va,r,_=>by
  cases r;exact .nil
 |m::ms,va,r,h=>by
  cases r with
  |@cons _ q _ VO h1 r=>
   let hm:=h m fX;let#[y,hy,ry]:=eP.some_of (v:=.str (g m)) (o:=valueAt vb (Sum.inr m)) (by rw[<- AO (g:=λn=>V.str (g n)) hm];exact rb.val _);let#[k,v]:=q;let#[e1,e2]:=h1;have e1:(Sum.inr m:Key)=k:=e1;subst e1;let#[t,rfl]:=(show ∃t,v=Value.str (f m) t from e2);let#[u,rfl]:=(show ∃t,y=Value.str (g m) t from ry);let q:=SeqAt.EqAt.str_str (A:=A) (s:=s) (f m) t (g m) u;rw[show (f m == g m)=decide (f m=g m) by by_cases z:f m=g m<;>simp[z]] at q
   exact .hit hy q (Sg rb ms VO r λx hx=>h x (fM _ hx))
def gy(a n:Int):Int:=a / (Int.gcd a n:Int) * n
variable{n:Int}
theorem ZH{a:Int}(ha:0<a)(hn:0<n):gy a n=(Int.lcm a n:Int):=by
 let#[p,rfl]:=tM (iz ha);let#[q,rfl]:=tM (iz hn);show ((p:Int) / ((Nat.gcd p q:Nat):Int)) * (q:Int)=((Nat.lcm p q:Nat):Int);rw[<- Int.natCast_ediv,<- Int.natCast_mul,Nat.div_mul_right_comm (Nat.gcd_dvd_left p q)];rfl
def jB(ns:List Int):Int:=ns.foldl gy 1
theorem IL:∀(ns:List Int) (a:Int),0<a->(∀n∈ns,0<n)->0<ns.foldl gy a/\∀x:Int,0<=x->(ns.foldl gy a ∣ x ↔ a ∣ x/\∀n∈ns,n ∣ x)
 |[],a,ha,_=>#[ha,λx _=>by simp]
 |n::ns,a,ha,h=>by
  let hn:=h n fX;let e:=ZH ha hn
  have p:0<gy a n:=by
   rw[e];have:=Nat.lcm_pos (m:=a.natAbs) (n:=n.natAbs) Z1 Z1;have:0<Int.lcm a n:=this;omega
  let#[h1,h2]:=IL ns (gy a n) p λm hm=>h m (fM _ hm);apply#[h1,λx hx=>(h2 x hx).trans ?_];let#[z,rfl]:=tM hx;rw[e,Int.natCast_dvd_natCast,Int.lcm_dvd_iff];constructor
  ·rintro⟨⟨q1,q2⟩,q3⟩
   exact#[q1,λm hm=>by
    rcases bU.mp hm with rfl|hm
    ·exact q2
    exact q3 m hm]
  rintro⟨q1,q2⟩;exact#[#[q1,q2 n fX],λm hm=>q2 m (fM _ hm)]
variable{ns:List Int}
theorem Ng(h:∀n∈ns,0<n):0<jB ns:=(IL ns 1 (by decide) h).1
theorem hF_(h:∀n∈ns,0<n)(hn:n∈ns):n ∣ jB ns:=
 (((IL ns 1 (by decide) h).2 _ (iz (Ng h))).mp (Int.dvd_refl _)).2 n hn
theorem YN(f:bq)(x:Str × Int)(ws:Xa)(h:Str):ld f (x::ws) h=(if f x.1=h then x.2 else 0)+ld f ws h:=by
 unfold ld;by_cases e:f x.1=h
 ·simp[e]
 simp[e]
theorem QK{f:bq}{h:Str}:∀{ws:Xa},(∀x∈ws,0<=x.2/\x.2<=1000000000)->ld f ws h<=1000000000 * ws.length
 |[],_=>by
  unfold ld;simp
 |x::ws,p=>by
  let h1:=p x fX;let h2:=QK (f:=f) (h:=h) (ws:=ws) λy hy=>p y (fM _ hy);rw[YN,jm];by_cases z:f x.1=h
  ·rw[aI z];omega
  rw[aA z];omega
def fD(hs:Xa):Int:=jB ((aS hs).map (strOf hs))
theorem Aw{hs:Xa}{ts:Xb}(G:Good hs ts){n:Str}(h:n∈aS hs):1<=strOf hs n/\strOf hs n<=1000:=(G.az _ (Je ((gF hs).mem_iff.mp h))).2
variable{i:Nat}
variable{fd:Ae}
section v
theorem u6:bG ["numbers","found","number"] ["numbers"] (bg Kg):=bQ
def Cr(K:ai):Sp:=λvs H Q _=>∃(l:Addr) (ns:List Int),vs=[.ref l]/\dX K H l (ns.map V.int)/\(∀n∈ns,1<=n/\n<=1000)/\Q (.int (jB ns)) H
theorem hZ_(h:ns[i]? = some n):jB (ns.take (i+1))=gy (jB (ns.take i)) n:=by
 unfold jB;rw[pP,h,List.foldl_append];rfl
theorem eh_{y:V}(h:(ns.map V.int)[i]? = some y):∃n,ns[i]? = some n/\y=.int n:=by
 rw[di] at h;cases e:ns[i]? with
 |none=>rw[e] at h;cases h
 |some n=>rw[e] at h;exact#[n,Z,(cY h).symm]
theorem Yq{f:Addr}(F:bx K "least_multiple" "least_multiple" Kg f fd)(cG:!bw 1 Bo md u0):!aq bh 2 f fd ["numbers"] (Cr K):=by
 exists F.bP u6;let#[l,ns,rfl,hl,b,k]:=h;refine' #[_,av ?s1 (av ?s2 (aF ?s3)),?kk]
 case s1=>exact bj 1 u6.nd aB
 case s2=>exact eW d6 Z (dI (pv 0)) (cy 2 u6.nd) (aF (bj 1 u6.nd (bN pL (bN Fl (pv 1) (aZ cG hr %[1,2|0])) (pv 2))))
 case s3=>exact bu (pv 1)
 apply#[_,Z,l,Z,#[_,hl],hX (K:=K) (a:=l) (xs:=ns.map V.int) (λi σ H'=>H'=H/\∃(v2:aL),σ=[some (.ref l),some (.int (jB (ns.take i))),v2]) #[Z,none,Z] (λi σ H' _ ⟨e,_⟩=>by rw[e];exact hl) ?_ ?_]
 ·rintro i y σ H' hy ⟨rfl,v2,rfl⟩;let#[n,hn,rfl]:=eh_ hy;let bn:=b n (cQ hn)
  let p:=Ng (ns:=ns.take i) λm hm=>by
   have:=b m (List.take_subset _ _ hm);omega
  apply#[_,Z,_,Z,_,Z,_,_,Z,iz p,by omega,_,_,Z,Z,Yp Z1 bn.2,_,Z,_,_,Z,Z,.inr #[by omega,by omega],Z,some (.int n),?_];rw[hZ_ hn];rfl
 rintro σ H' ⟨rfl,v2,rfl⟩;apply#[_,Z,?_];rw[ak,eI];exact k
theorem yM:bG ["web"] ["web"] (bg qM):=bQ
inductive Hs (K:ai) (C:Addr) (vs:ag) (H:Hp) (Q:VK) (E:XK):Prop
 |mk:∀(p:Addr) (hs:Xa) (ts:Xb) (fp:au),vs=[.ref p]->iq K C H p hs ts fp->Good hs ts->(∀H',aa H H'->Q (.int (fD hs)) H')->Hs K C vs H Q E
theorem Z_{f CW:Addr}(F:bx K jZ jZ qM f fd)(TW:Txt K mg CW)(cL:!bw 2 "least_multiple" ["numbers"] (Cr K))(cH:!bW CW 1 "hands" oR (Fs K CW))(cS:!bW CW 2 "strength" vY (Jg K CW)):!aq bh 3 f fd ["web"] (Hs K CW):=by
 exists F.bP yM;let#[p,hs,ts,fp,rfl,W,G,k]:=h;let sz:=cX;let nl:=G.iO;let h8:=G.h8;refine' #[_,aF (bu (aZ cL hr %[iI ["hand","web"] 1 [0] (dI (Ax cH TW.cl (hr.mono (by decide)) (pv 0))) (λfp s H=>eN (i:=0) (show (["hand","web"]:af).Nodup by decide +kernel) Z (Or.inl Z)) (λfp s H=>ji) (λfp s H=>?e1)|0])),?kk]
 case e1=>exact jc cS TW.cl hr (pv 1) %[0|0]
 let#[lZ,d1,l2,d3,wJ,as,ef,w1,_]:=id W.ex;apply#[_,Z,p,lZ,_,Z,w1,pN _ _ _ Z0 Z0 Z0,p,hs,ts,fp,Z,W,λlh fV=>?_];let#[s1,e1]:=aD (o:=.lst ((aS hs).map V.str)) fV;generalize upd H lh (.lst ((aS hs).map V.str))=H1 at s1 e1 ⊢;apply#[lh,Z,#[_,.of e1],λD hD=>?_];apply iZ (own:=1) (fv:=[some (.ref p)]) (xs:=(aS hs).map V.str) Z e_ (λi out H'=>aa H1 H'/\H' D\.lst out/\out=(((aS hs).take i).map (strOf hs)).map V.int) #[aa.new hD,ax,Z] (λi out H' _ ⟨sm,_,_⟩=>.of (sm _ _ e1)) (λout H5 ⟨sm,ip,eo⟩=>?_) (λi y out H' hy ⟨sm,cK,eo⟩=>?_)
 ·rw[ak,eI] at eo;rw[eo] at ip;apply#[D,_,Z,.of ip,λn hn=>?_,k H5 (s1.trans sm)];let#[m,hm,rfl]:=bC.mp hn;exact Aw G hm
 let#[n,hn,rfl]:=mj hy;have hi:i<(aS hs).length:=(bY.mp hn).1;apply#[_,Z,Z,λNx hN=>d_ ?_];let W':=(W.same s1).same sm;let#[lZ,d1,l2,d3,wJ,as,ef,w1,_]:=id W'.ex;apply#[_,Z,p,lZ,_,Z,w1,pN _ _ _ Z0 Z0 Z0,_,Z,p,n,strOf hs n,hs,ts,fp,Z,W',G.uj,Je ((gF hs).mem_iff.mp (cQ hn)),?_];apply#[out,cK,by rw[eo,ak,ak,dH];omega,hN _ _ #[fi sm hD,ax,?_]];rw[tF hn,eS,eS,eo];rfl
theorem FE:bG ["goods","placed","multiple","found","hand","load"] nV (bg NH):=bQ
def fJ(hs:Xa)(qs:aM)(f:bq)(h:Str):Int:=ld f (qs.map eY) h * (fD hs / strOf hs h)
inductive OL (K:ai) (CG CW:Addr) (vs:ag) (H:Hp) (Q:VK) (E:XK):Prop
 |mk:∀(g p d:Addr) (hs:Xa) (ts:Xb) (qs:aM) (fp:au) (f:bq),vs=[.ref g,.ref d]->AB K CG CW H g p d hs ts qs fp f->(∀q∈qs,0<=q.2.1/\q.2.1<=1000000000)->(∀d' H',aa H H'->H d'=none->H' d'\.dK (dW (aS hs) λh=>.int (fJ hs qs f h))->Q (.ref d') H')->OL K CG CW vs H Q E
theorem GK{qs:aM}(wp:∀q∈qs,0<=q.2.1/\q.2.1<=1000000000)(bX:qs.length<64)(f:bq)(h:Str):0<=ld f (qs.map eY) h/\ld f (qs.map eY) h<=64000000000:=by
 have p:∀x∈qs.map eY,0<=x.2/\x.2<=1000000000:=λx hx=>by
  let#[q,hq,rfl]:=bC.mp hx;exact wp q hq
 let h1:=QK (f:=f) (h:=h) p;rw[ak] at h1;exact#[YI λx hx=>(p x hx).1,by omega]
theorem gM_{f CG CW:Addr}(F:bx K "levels_at" "levels_at" NH f fd)(T:gh K CG)(TW:Txt K mg CW)(cL:!bw 3 "loads_at" nV (NX K CG CW))(cM:!bw 3 jZ ["web"] (Hs K CW))(cS:!bW CW 2 "strength" vY (Jg K CW)) :
  aq P w K mg base bh 4 f fd nV (OL K CG CW):=by
 exists F.bP FE;let#[g,p,d,hs,ts,qs,fp,f,rfl,Pl,wp,k]:=h;let hu:=gf hr;let sz:=cX;have jD:aQ 2 _:=hr.mono (by decide);refine' #[_,?r0,?kk]
 case' r0=>refine' av ?s0 (av ?s1 (av ?s2 ?r2))
 case s0=>exact bj 2 FE.nd (aZ cM hr %[gG (pv 0) Z|0])
 case s1=>exact bj 3 FE.nd FC
 case' s2=>refine' eW d6 Z ?i2 ?g2 (aF ?b2)
 case i2=>exact Ni (IJ (aZ cL hr %[0,1|0]))
 case g2=>exact oU Z (dC (cy 4 FE.nd) (dC (cy 5 FE.nd) i6))
 case b2=>exact uD hu (pv 3) (pv 4) (bN pL (pv 5) (bN Fl (pv 2) (jc cS TW.cl jD (gG (pv 0) Z) %[4|0]))) Z
 case r2=>exact aF (bu (pv 3))
 let nl:=Pl.Gd.iO;let h8:=Pl.Gd.h8;let#[dx,dw,dy,vs,dG,h1,h2,_]:=id Pl.G.ex;apply#[_,Z,g,CG,dx,_,_,Z,h1,T.cl,T.nW,AQ _ _ _,p,hs,ts,dG,Z,h2,Pl.Gd,λH0 s0=>?_];intro d2 hd2;let s1:=s0.trans (aa.new (o:=.dK []) hd2);have e1:upd H0 d2 (.dK []) d2\.dK []:=ax;have n2:H d2=none:=s0.free hd2;show yl _ _ _ _ (upd H0 d2 (.dK []));generalize upd H0 d2 (.dK [])=H1 at s1 e1 ⊢;have Pl1:AB K CG CW H1 g p d hs ts qs fp f:=#[Pl.G.same s1,Pl.Gd,Pl.se,s1 _ _ Pl.hd,Pl.at_,Pl.nd,Pl.bX];apply#[_,Z,_,Z,g,p,d,hs,ts,qs,fp,f,Z,Pl1,λdl H2 s2 G0 e2=>?_];apply#[dl,_,Z,e2,λv hv=>?_];let#[s3,xt]:=aD (o:=tj v dl) hv;let e3:=s3 _ _ e2;let Kl:=s2.trans s3;generalize upd H2 v (tj v dl)=H3 at s3 xt e3 Kl ⊢;have XQ:H dl=none:=s1.free G0;have Us:d2≠dl:=bp e1 G0;apply#[v,dl,_,Z,xt,e3,λo=>?_];apply N3 (λi σ H'=>∃(v4 v5:aL),σ=[some (.ref g),some (.ref d),some (.int (fD hs)),some (.ref d2),v4,v5]/\aa H H'/\H' dl\.frz o (.dK (QC hs qs f))/\H' d2\.dK (dW ((aS hs).take i) λh=>.int (fJ hs qs f h))) #[none,none,Z,fi (s1.trans Kl) XQ,ax,by rw[aw Us];exact Kl _ _ e1] (λi σ H' _ ⟨_,_,_,_,z,_⟩=>z) ?_ ?_
 ·rintro i ky x σ H8 hx ⟨v4,v5,rfl,s8,f8,e8⟩ t ht;let#[n,hn,rfl,rfl]:=Mt hx;have hi:i<(aS hs).length:=(bY.mp hn).1;have nm:n∈hs.map (·.1):=(gF hs).mem_iff.mp (cQ hn);let sm:=Je nm;let sg:=Aw Pl.Gd (cQ hn);let lo:=GK wp Pl.bX f n;let ss:=aa.new (o:=.tup [.str n,.int (ld f (qs.map eY) n)]) ht;let s9:=s8.trans ss;let e9:=ss _ _ e8;let f9:=ss _ _ f8;have et:upd H8 t (.tup [.str n,.int (ld f (qs.map eY) n)]) t\.tup [.str n,.int (ld f (qs.map eY) n)]:=ax;show gA _ _ _ _ _ (upd H8 t (.tup [.str n,.int (ld f (qs.map eY) n)])) _;generalize upd H8 t (.tup [.str n,.int (ld f (qs.map eY) n)])=H9 at ss s9 e9 f9 et ⊢;apply#[t,_,Z,.of et,Z,_,_,Z,_,_,Z,Z,?_];let G9:=Pl.G.same s9;let#[dx,dw,dy,vs,dG,h1,h2,h3,h4,h5,m1,m2,m3,m4,m5]:=id G9.ex;let#[lZ,d1,l2,d3,wJ,as,ef,w1,_]:=id h2.ex;have zE:(fg d1 l2 d3).lookup ("strength":Str)=none:=pN _ _ _ Z0 Z0 Z0;apply#[_,Z,_,Z,_,Z,g,CG,dx,_,_,Z,h1,T.cl,T.nW,AQ _ _ _,p,lZ,_,Z,w1,zE,_,Z,p,n,strOf hs n,hs,ts,dG,Z,h2,Pl.Gd.uj,sm,?_];apply#[_,_,Z,Z,#[by omega,by omega],_,_,Z,Z,.inl #[by omega,by omega],_,Z,_,Z,d2,_,Z,.k (k:=Sum.inr n) e9 (by rw[jQ,dH];omega),?_];apply#[_,_,Z,fi s9 n2,by rw[aw Us.symm];exact f9,?_];rw[ax,tF hn,SA (S_ Pl.Gd.rG hn)];congr 2;apply Jb λm _=>?_;by_cases z:m=n
  ·subst z;simp[fJ]
  simp[z]
 rintro σ H8 ⟨v4,v5,rfl,s8,f8,e8⟩;rw[jQ,eI] at e8;exact#[_,Z,k d2 H8 s8 n2 e8]
end
end Ev
namespace L2
open PySem PySem.Spec PyProof.Rows PySem.W
variable{vs:List (Key × Aa)}{prog:Ad}{w:Ag}{A:Af}
theorem Uk{d it:Addr}{ep:Nat}(hh:A.handled=none)(lR:d≠it):Walks prog w A it [it,d] [it] vs.length (λi v=>∃k,vs[i]? = some (k,v)) (λi h=>h.IsValIter it d i vs.length ep/\h.DictAt (fh prog w) d vs ep) where
 sub:=λb hb=>by simp at hb;simp[hb]
 frame:=λi h h' st k=>#[st.1.at λo e=>k it Z2 o e,by
  let#[o,es,ho,r]:=st.2;exact#[o,es,k d Z2 o ho,r]]
 item:=by
  intro i s Q E hi st h;obtain⟨⟨k,v⟩,hx⟩:∃p,vs[i]? = some p:=#[vs[i],by simp[hi]];apply wpAny_pyNext_values_item st.1 st.2 hx λh' fw sb=>?_;apply h v h' s.toks #[k,hx] #[fw,?_] λb o hb e=>(sb.2 b ⇑hb).trans e;let#[o,es,ho,r]:=st.2;exact#[o,es,(sb.2 d lR).trans ho,r]
 done:=by
  intro s Q E st h;exact wpAny_pyNext_values_end hh st.1 st.2 Z2 λh' eb=>h h' s.toks λb o hb e=>eb b o ⇑hb e
 self:=λ_ _ _ _ st h=>wpAny_pyIter_valiter st.1 h
theorem Im{ns:List (Key × Int)}(r:KV (ns.map λx=>(x.1,V.int x.2)) vs){i:Nat}{k:Key}{v:Aa}(h:vs[i]? = some (k,v)):∃n t,(ns.map (·.2))[i]? = some n/\v=.int n t:=by
 let hl:=r.length;rw[ak] at hl
 have hi:i<ns.length:=by
  have:=(bY.mp h).1;omega
 let#[u,hu,ru]:=Mq r i (k:=(ns[i]'hi).1) (x:=V.int (ns[i]'hi).2) (by rw[di,aP hi];rfl);rw[h] at hu;let e:=d5 Prod.snd (cY hu);let#[t,rfl]:=(show ∃t,u=Value.int (ns[i]'hi).2 t from ru);exact#[_,t,by rw[di,aP hi];rfl,e]
inductive xg (xs:ag) (H:Hp) (Q:VK):Prop
 |mk:∀(v d:Addr) (ns:List (Key × Int)),xs=[.ref v]->H v\uC v d->Rd H d (.dK (ns.map λx=>(x.1,V.int x.2)))->0<ns.length->(∀m,m∈ns.map (·.2)->(∀a∈ns.map (·.2),a<=m)->Q (.int m) H)->xg xs H Q
inductive xf (xs:ag) (H:Hp) (Q:VK):Prop
 |mk:∀(v d:Addr) (ns:List (Key × Int)),xs=[.ref v]->H v\uC v d->Rd H d (.dK (ns.map λx=>(x.1,V.int x.2)))->0<ns.length->(∀m,m∈ns.map (·.2)->(∀a∈ns.map (·.2),m<=a)->Q (.int m) H)->xf xs H Q
variable{X:Cx}
theorem hi_(hc:X.calm=true):gn X (.builtin "max") xg:=by
 intro pins s σ H xs us Q I r h;let#[v,d,ns,rfl,hv,hd,h0,q]:=h;let#[u,rfl,ru]:=vals1 r;cases ru;let#[z,lR,vs,rel,dd]:=jN I.az hd;let#[ep,dat]:=dd.dictAt;let#[iv,_,_]:=I.az v _ hv;let hl:=rel.length;rw[ak] at hl
 have E2:d<s.heap.objs.size:=by
  let#[o,es,ho,_]:=dat;exact bz ho
 apply call_max_walk (wpAny_pyIter_values (knd:=fh X.prog X.w) (kvs:=vs) (ep:=ep) iv dat ?_);apply⟨s.heap.objs.size,[s.heap.objs.size,d],[s.heap.objs.size],vs.length,λi v=>∃k,vs[i]? = some (k,v),_,_,rfl,Uk (ep:=ep) (I.ok.hd hc) (dR E2),⟨⟨_,cz _ rfl,rfl,rfl⟩,?_⟩,λb hb=>?_,by omega,CmpOf.ints_gt (λi=>((ns.map (·.2))[i]?).getD 0) (λi v ⟨k,hv⟩=>?_),λv' h' tk hP k=>?_⟩
 ·let#[o,es,ho,r]:=dat;exact⟨o,es,aU _ ho,r⟩
 ·have hb:b=s.heap.objs.size∨b=d:=⇑hb
  show b<(s.heap.objs.push _).size;rw[Array.size_push];rcases hb with e|e
  ·rw[e];exact Nat.lt_succ_self _
  rw[e];exact Nat.lt_succ_of_lt E2
 ·let#[n,t,e1,e2]:=Im rel hv;apply⟨t,?_⟩;rw[e1];exact e2
 let#[k',DB]:=hP;let#[n,t,e1,rfl]:=Im rel DB;let#[b1,b2]:=argBest_gt (λi=>((ns.map (·.2))[i]?).getD 0) (vs.length - 1);rw[e1] at b2;apply⟨.int n,H,I.kept (t':=tk) (λb o e=>k b o (λm=>?_) (aU _ e)),⟨t,rfl⟩,q n (cQ e1) λa ha=>?_⟩
 ·have m:b=s.heap.objs.size:=⇑m
  exact absurd m (dR (bz e))
 let#[j,hj,ej]:=gX ha;have:=b2 j (by rw[ak] at hj;omega);rw[aP hj,ej] at this;exact this
theorem h7_(hc:X.calm=true):gn X (.builtin "min") xf:=by
 intro pins s σ H xs us Q I r h;let#[v,d,ns,rfl,hv,hd,h0,q]:=h;let#[u,rfl,ru]:=vals1 r;cases ru;let#[z,lR,vs,rel,dd]:=jN I.az hd;let#[ep,dat]:=dd.dictAt;let#[iv,_,_]:=I.az v _ hv;let hl:=rel.length;rw[ak] at hl
 have E2:d<s.heap.objs.size:=by
  let#[o,es,ho,_]:=dat;exact bz ho
 apply call_min_walk (wpAny_pyIter_values (knd:=fh X.prog X.w) (kvs:=vs) (ep:=ep) iv dat ?_);apply⟨s.heap.objs.size,[s.heap.objs.size,d],[s.heap.objs.size],vs.length,λi v=>∃k,vs[i]? = some (k,v),_,_,rfl,Uk (ep:=ep) (I.ok.hd hc) (dR E2),⟨⟨_,cz _ rfl,rfl,rfl⟩,?_⟩,λb hb=>?_,by omega,CmpOf.ints_lt (λi=>((ns.map (·.2))[i]?).getD 0) (λi v ⟨k,hv⟩=>?_),λv' h' tk hP k=>?_⟩
 ·let#[o,es,ho,r]:=dat;exact⟨o,es,aU _ ho,r⟩
 ·have hb:b=s.heap.objs.size∨b=d:=⇑hb
  show b<(s.heap.objs.push _).size;rw[Array.size_push];rcases hb with e|e
  ·rw[e];exact Nat.lt_succ_self _
  rw[e];exact Nat.lt_succ_of_lt E2
 ·let#[n,t,e1,e2]:=Im rel hv;apply⟨t,?_⟩;rw[e1];exact e2
 let#[k',DB]:=hP;let#[n,t,e1,rfl]:=Im rel DB;let#[b1,b2]:=argBest_lt (λi=>((ns.map (·.2))[i]?).getD 0) (vs.length - 1);rw[e1] at b2;apply⟨.int n,H,I.kept (t':=tk) (λb o e=>k b o (λm=>?_) (aU _ e)),⟨t,rfl⟩,q n (cQ e1) λa ha=>?_⟩
 ·have m:b=s.heap.objs.size:=⇑m
  exact absurd m (dR (bz e))
 let#[j,hj,ej]:=gX ha;have:=b2 j (by rw[ak] at hj;omega);rw[aP hj,ej] at this;exact this
end L2
namespace EvM
open PySem PySem.Spec PyProof.Rows PySem.W
end EvM
namespace L2
open PySem PySem.Spec PyProof.Rows PySem.W
theorem SO{X:Cx}:dJ X (binaryOp .FloorDiv) (rI (λ_ j=>0<j/\j<2 ^ 100) λi j=>.int (i / j)):=A8 λi j _ _ _ _ _ hc q=>by
 have h1:(0:Int)<j:=hc.1;have h2:j<2 ^ 100:=hc.2;apply floordiv_int Z1 (by rw[Int.fdiv_eq_ediv_of_nonneg i Z1];exact q) (.inl (PyProof.noPylong_of_log2 ?_));have:j.natAbs.log2<100:=(Nat.log2_lt Z1).mpr Z1;omega
end L2
namespace Ev
open PySem L2
theorem Yz{La Lb Sa Sb ca cb M:Int}(h1:ca * Sa=M)(h2:cb * Sb=M):(La * Sb - Lb * Sa) * M=Sa * Sb * (La * ca - Lb * cb):=by
 have e1:La * Sb * M=Sa * Sb * (La * ca):=by rw[<- h1];grind
 have e2:Lb * Sa * M=Sa * Sb * (Lb * cb):=by rw[<- h2];grind
 rw[Int.sub_mul,Int.mul_sub,e1,e2]
theorem Z3{a n:Int}(ha:0<a)(hn:0<n)(h2:n<=1000):gy a n<=a * 1000:=by
 unfold gy
 have g:0<(Int.gcd a n:Int):=by
  have:=Int.gcd_pos_of_ne_zero_right a (show n≠0 by omega);omega
 have k1:a / (Int.gcd a n:Int)<=a:=Int.ediv_le_self _ (iz ha);have k0:0<=a / (Int.gcd a n:Int):=Int.ediv_nonneg (iz ha) (iz g);exact Int.mul_le_mul k1 h2 (iz hn) (iz ha)
theorem QX:∀(ns:List Int) (a:Int),0<a->(∀n∈ns,0<n/\n<=1000)->ns.foldl gy a<=a * 1000 ^ ns.length
 |[],a,_,_=>by simp
 |n::ns,a,ha,h=>by
  let hn:=h n fX
  have p:0<gy a n:=by
   have:=(IL [n] a ha ⇑(hn.1)).1;exact this
  let k1:=QX ns (gy a n) p λm hm=>h m (fM _ hm);let k2:=Z3 ha hn.1 hn.2;have e:(0:Int)<=1000 ^ ns.length:=Int.pow_nonneg (by decide);rw[List.foldl_cons,jm,Int.pow_succ];apply Int.le_trans k1 ?_;have:=Int.mul_le_mul_of_nonneg_right k2 e;have e2:a * 1000 * 1000 ^ ns.length=a * (1000 ^ ns.length * 1000):=by grind
  rw[e2] at this;exact this
theorem Av{hs:Xa}{ts:Xb}(G:Good hs ts):0<fD hs/\fD hs<2 ^ 100/\∀n∈aS hs,fD hs / strOf hs n * strOf hs n=fD hs:=by
 have pos:∀m∈(aS hs).map (strOf hs),0<m/\m<=1000:=λm hm=>by
  let#[x,hx,rfl]:=bC.mp hm;have:=Aw G hx;omega
 have oG:∀m∈(aS hs).map (strOf hs),0<m:=λm hm=>(pos m hm).1;apply#[Ng oG,?_,λn hn=>Int.ediv_mul_cancel (hF_ oG (bC.mpr #[_,hn,Z]))];let k:=QX _ 1 (by decide) pos;rw[ak,G.iO,Int.one_mul] at k;let h8:=G.h8
 have k2:(1000:Int) ^ hs.length<=1000 ^ 8:=by
  have:(1000:Nat) ^ hs.length<=1000 ^ 8:=Nat.pow_le_pow_right (by decide) h8
  exact_mod_cast this
 have:fD hs<=1000 ^ 8:=Int.le_trans k k2;have e:(1000:Int) ^ 8<2 ^ 100:=by decide
 omega
theorem Yo{hs:Xa}{ts:Xb}(G:Good hs ts){qs:aM}(wp:∀q∈qs,0<=q.2.1/\q.2.1<=1000000000)(bX:qs.length<64){f:bq}{n:Str}(hn:n∈aS hs):0<=fJ hs qs f n:=
 Int.mul_nonneg (GK wp bX f n).1 (Int.ediv_nonneg (iz (Av G).1) (by have:=Aw G hn;omega))
def Bz(hs:Xa)(qs:aM)(f:bq)(r:Int):Prop:=∃x∈aS hs,∃y∈aS hs,r=fJ hs qs f x - fJ hs qs f y/\∀z∈aS hs,fJ hs qs f z<=fJ hs qs f x/\fJ hs qs f y<=fJ hs qs f z
variable{fd:Ae}
section v
theorem qx:bG ["top","below","divisor"] ["top","below"] (bg qU):=bQ
def qh:Sp:=λvs H Q _=>∃a b:Int,vs=[.int a,.int b]/\0<=a/\0<b/\b<2 ^ 100/\∀t,H t=none->Q (.ref t) (upd H t (.tup [.int (fr a b).1,.int (fr a b).2]))
theorem Zu{f:Addr}(F:bx K "fraction_of" "fraction_of" qU f fd)(cG:!bw 1 Bo md u0):!aq bh 2 f fd ["top","below"] qh:=by
 exists F.bP qx;let#[a,b,rfl,ha,hb,lX,k]:=h
 have g:0<(Int.gcd a b:Int)/\(Int.gcd a b:Int)<2 ^ 100:=by
  have h1:0<Int.gcd a b:=Int.gcd_pos_of_ne_zero_right a Z1;let h3:=Int.le_of_dvd hb (Int.gcd_dvd_right a b);omega
 apply#[_,av (bj 2 qx.nd (aZ cG hr %[0,1|0])) (aF (bu (fY %[bN SO (pv 0) (pv 2),bN SO (pv 1) (pv 2)|0]))),?_];apply#[_,Z,_,Z,a,b,Z,ha,hb,?_];exact#[_,Z,_,Z,_,_,Z,Z,g,_,Z,_,Z,_,_,Z,Z,g,zl,k]
theorem qq:bG ["goods","placed","levels"] nV (bg qD):=bQ
inductive kL (K:ai) (CG CW:Addr) (vs:ag) (H:Hp) (Q:VK) (E:XK):Prop
 |mk:∀(g p d:Addr) (hs:Xa) (ts:Xb) (qs:aM) (fp:au) (f:bq),vs=[.ref g,.ref d]->AB K CG CW H g p d hs ts qs fp f->(∀q∈qs,0<=q.2.1/\q.2.1<=1000000000)->(∀r H',aa H H'->Bz hs qs f r->Q (.int r) H')->kL K CG CW vs H Q E
theorem ZC{f CG CW:Addr}(F:bx K "rise_at" "rise_at" qD f fd)(B:Bi mg)(KP:mg "min"=none)(cV:!bw 4 "levels_at" nV (OL K CG CW)):!aq bh 5 f fd nV (kL K CG CW):=by
 exists F.bP qq;let#[g,p,d,hs,ts,qs,fp,f,rfl,Pl,wp,k]:=h;let nl:=Pl.Gd.iO;let h1:=Pl.Gd.h1;refine' #[_,av ?s1 (aF ?s2),?kk]
 case s1=>exact bj 2 qq.nd (aZ cV hr %[0,1|0])
 case s2=>exact bu (bN Hg (cJ (hi_ Z) (by rfl) B.max PyProof.Rows.Boot.«max» %[NW (pv 2)|0]) (cJ (h7_ Z) (by rfl) KP PyProof.Rows.Boot.«min» %[NW (pv 2)|0]))
 apply#[_,Z,_,Z,g,p,d,hs,ts,qs,fp,f,Z,Pl,wp,λdv H1 s1 n1 e1=>?_]
 have em:((aS hs).map λh=>((Sum.inr h:Key),fJ hs qs f h)).map (·.2)=(aS hs).map (fJ hs qs f):=by
  rw[cg];rfl
 have MU:dW (aS hs) (λh=>V.int (fJ hs qs f h))=((aS hs).map λh=>((Sum.inr h:Key),fJ hs qs f h)).map λx=>(x.1,V.int x.2):=by
  rw[cg];rfl
 rw[MU] at e1;apply#[_,Z,dv,_,Z,e1,λv hv=>?_];let#[s2,ev]:=aD (o:=uC v dv) hv;generalize upd H1 v (uC v dv)=H2 at s2 ev ⊢;apply#[v,dv,(aS hs).map λh=>((Sum.inr h:Key),fJ hs qs f h),Z,ev,.of (s2 _ _ e1),by rw[ak];omega,λm hm mx=>?_];rw[em] at hm mx;apply#[_,Z,dv,_,Z,s2 _ _ e1,λv2 _I=>?_];let#[s3,SS]:=aD (o:=uC v2 dv) _I;generalize upd H2 v2 (uC v2 dv)=H3 at s3 SS ⊢;apply#[v2,dv,(aS hs).map λh=>((Sum.inr h:Key),fJ hs qs f h),Z,SS,.of (s3 _ _ (s2 _ _ e1)),by rw[ak];omega,λm2 Ry mn=>?_];rw[em] at Ry mn;let#[x,hx,rfl]:=bC.mp hm;let#[y,hy,rfl]:=bC.mp Ry;exact#[_,_,Z,Z,k _ H3 (s1.trans (s2.trans s3)) #[x,hx,y,hy,Z,λz hz=>#[mx _ (bC.mpr #[z,hz,Z]),mn _ (bC.mpr #[z,hz,Z])]]]
theorem eh':bG nV nV (bg NY):=bQ
inductive Jf (K:ai) (CG CW:Addr) (vs:ag) (H:Hp) (Q:VK) (E:XK):Prop
 |mk:∀(g p d:Addr) (hs:Xa) (ts:Xb) (qs:aM) (fp:au) (f:bq),vs=[.ref g,.ref d]->AB K CG CW H g p d hs ts qs fp f->(∀q∈qs,0<=q.2.1/\q.2.1<=1000000000)->(∀t r H',aa H H'->Bz hs qs f r->H' t\.tup [.int (fr r (fD hs)).1,.int (fr r (fD hs)).2]->Q (.ref t) H')->Jf K CG CW vs H Q E
theorem ej_{f CG CW:Addr}(F:bx K "spread_at" "spread_at" NY f fd)(T:gh K CG)(cR:!bw 5 "rise_at" nV (kL K CG CW))(cM:!bw 3 jZ ["web"] (Hs K CW))(cF:!bw 2 "fraction_of" ["top","below"] qh):!aq bh 6 f fd nV (Jf K CG CW):=by
 apply F.bP eh' λaN A outer s H vs Q E hr h=>?_;let#[g,p,d,hs,ts,qs,fp,f,rfl,Pl,wp,k]:=h;let mo:=Av Pl.Gd;apply#[_,aF (bu (aZ cF hr %[aZ cR hr %[0,1|0],aZ cM hr %[gG (pv 0) Z|0]|0])),?_];apply#[_,Z,_,Z,g,p,d,hs,ts,qs,fp,f,Z,Pl,wp,λr H1 s1 ir=>?_];let G1:=Pl.G.same s1;let#[dx,dw,dy,vs,dG,h1,h2,_]:=id G1.ex;apply#[_,Z,g,CG,dx,_,_,Z,h1,T.cl,T.nW,AQ _ _ _,p,hs,ts,dG,Z,h2,Pl.Gd,λH2 s2=>?_]
 have r0:0<=r:=by
  let#[x,hx,y,hy,rfl,b]:=ir;have:=(b y hy).1;omega
 exact#[r,fD hs,Z,r0,mo.1,mo.2.1,λt ht=>k t r _ ((s1.trans s2).trans (aa.new ht)) ir ax]
theorem qp:bG xK xK (bg NM):=bQ
inductive OA (K:ai) (CG CW:Addr) (vs:ag) (H:Hp) (Q:VK) (E:XK):Prop
 |mk:∀(g p d:Addr) (hs:Xa) (ts:Xb) (qs:aM) (fp:au) (ns:af) (f:bq),vs=[.ref g,.ref d]->Std K CG CW H g p d hs ts qs fp ns f->(∀q∈qs,0<=q.2.1/\q.2.1<=1000000000)->(∀t r H',aa H H'->Bz hs qs f r->H' t\.tup [.int (fr r (fD hs)).1,.int (fr r (fD hs)).2]->Q (.ref t) H')->OA K CG CW vs H Q E
theorem g0_{f CG CW:Addr}(F:bx K "spread" "spread" NM f fd)(cC:!bw 2 "checked_stand" xK (ID K CG CW))(cL:!bw 6 "spread_at" nV (Jf K CG CW)):!aq bh 7 f fd xK (OA K CG CW):=by
 exists F.bP qp;let#[g,p,d,hs,ts,qs,fp,ns,f,rfl,S,wp,k]:=h;apply#[_,aF (bu (aZ cL hr %[0,aZ cC hr %[0,1|0]|0])),?_];apply#[_,Z,_,Z,_,Z,g,p,d,hs,ts,qs,fp,ns,f,Z,S.G,S.se,S.hd,S.ok,S.nd,S.bX,λd1 H1 s1 n1 e1=>?_];let#[kr,Pl]:=S.placed s1 n1 e1;exact#[g,p,d1,hs,ts,qs,kr,f,Z,Pl,wp,λt r H2 s2 ir e=>k t r H2 (s1.trans s2) ir e]
end
end Ev
namespace hY
open PySem PySem.W PyProof.Rows
inductive Src (h:Heap) (it l:Addr) (i:Nat) (xs:Array Aa):Prop
 |lst (a:h.IsListIter it l i) (b:h.IsList l xs):Src h it l i xs
 |tup (a:h.IsTupleIter it l i) (b:h.IsTuple l xs):Src h it l i xs
variable{h:Heap}{it l:Addr}{i:Nat}{xs:Array Aa}
theorem Src.keep{h':Heap}(x:Src h it l i xs)(k1:∀o,h.get? it\o->h'.get? it\o)(k2:∀o,h.get? l\o->h'.get? l\o):Src h' it l i xs:=by
 cases x with
 |lst a b=>exact .lst (a.at k1) (b.at k2)
 |tup a b=>exact .tup (a.at k1) (by let#[o,e,r]:=b;exact#[o,k2 o e,r])
variable{ys:Array Aa}
theorem n0(a:h.IsList l xs)(b:h.IsTuple l ys):False:=by
 let#[o,e,c,_]:=a;let#[u,f,d,_]:=b;rw[e] at f;cases f;rw[c] at d;simp at d
theorem Src.Q0(x:Src h it l i xs)(b:h.IsList l ys):h.IsListIter it l i:=by
 cases x with
 |lst a _=>exact a
 |tup _ c=>exact (n0 b c).elim
theorem Src.xp(x:Src h it l i xs)(b:h.IsTuple l ys):h.IsTupleIter it l i:=by
 cases x with
 |tup a _=>exact a
 |lst _ c=>exact (n0 c b).elim
theorem Src.lt(x:Src h it l i xs):it<h.objs.size/\l<h.objs.size:=by
 cases x with
 |lst a b=>let#[o,e,_]:=a;let#[u,f,_]:=b;exact#[bz e,bz f]
 |tup a b=>let#[o,e,_]:=a;let#[u,f,_]:=b;exact#[bz e,bz f]
variable{x:Aa}{E Q:Aa->Ab->Prop}{prog:Ad}{w:Ag}{A:Af}{s:Ab}
theorem nextT{t:Addr}(hit:s.heap.IsTupleIter it t i)(ht:s.heap.IsTuple t xs)(hx:xs[i]? = some x)(hQ:∀h',h'.IsTupleIter it t (i+1)->Heap.SameBut it s.heap h'->Q x { s with heap:=h' }):wpAny (model prog w) A (Builtin.SmallTypes.nextOf (.ref it)) Q E s:=by
 let#[o,ho,hc,hd]:=id hit;let#[u,hu,_,n,hv]:=ht;unfold Builtin.SmallTypes.nextOf;apply ae (uE (name:=Str.ofString "__next__") hit.typeIs F.slot_tuple_iterator_next (sf F.slot_tuple_iterator_next hit.typeIs F.entry_tuple_iterator_next ?_ (F.args_tuple_iterator_next_1 _)));apply (show wpAny _ _ (field (.ref it) 0 >>= _) _ _ s from ae (fE ho hd (x:=.ref t) Z ?_));apply (show wpAny _ _ (if (Value.ref t == Value.none)=true then _ else _) _ _ s from ?_);rw[aA (show ¬((Value.ref t == Value.none)=true) from gE)];apply (show wpAny _ _ (field (.ref it) 1 >>= _) _ _ s from ae (fE ho hd (x:=.int i 0) Z ?_));apply (show wpAny _ _ (seqItems? (.ref t) >>= _) _ _ s from ae (l6 hu hv ?_));simp only[x8,hx];apply ae (wpAny_setField ho hd Z2 (aE #[x,Z,aE (hQ _ #[_,Heap.get?_update_self _ ho (Obj.isFreed_of_fields (Obj.data_mapFields hd _)),(Obj.cls_mapFields ..).trans hc,?_] (Heap.SameBut.update ..))]));rw[Obj.data_mapFields hd];simp[rawInt]
theorem Src.next(z:Src s.heap it l i xs)(ne:l≠it)(hx:xs[i]? = some x)(hQ:∀h',Src h' it l (i+1) xs->Heap.SameBut it s.heap h'->Q x { s with heap:=h' }):wpAny (model prog w) A (Builtin.SmallTypes.nextOf (.ref it)) Q E s:=by
 cases z with
 |lst a b=>exact wpAny_nextOf_list_item a b hx λh' a' sb=>hQ h' (.lst a' (b.extBut sb.extBut ne)) sb
 |tup a b=>exact nextT a b hx λh' a' sb=>hQ h' (.tup a' (b.extBut sb.extBut ne)) sb
abbrev Zp(h:Heap)(z TI TO:Addr)(f0:Aa)(f1:Bool):Prop:=h.get? z=some { cls:=.type "zip",dict:=none,data:=.fields (List.toArray [f0,.bool f1,.bool false,.ref TI,.ref TO]),slots:=#[] }
abbrev eX(h:Heap)(T:Addr)(xs:Array Aa):Prop:=h.get? T=some { cls:=.type "tuple",data:=.seq xs }
variable{k:Nat}
theorem E8{T:Addr}{Q:Unit->Ab->Prop}(hT:eX s.heap T xs)(h3:xs.size<=3)(h:∀h',eX h' T (xs.setIfInBounds k x)->Heap.SameBut T s.heap h'->Q () { s with heap:=h' }):wpAny (model prog w) A (updateSeq T (·.setIfInBounds k x)) Q E s:=by
 apply wpAny_updateSeq hT Z (h _ ?_ (Heap.SameBut.update ..)) (hz:=iH h3 (by decide)) (_hz':=by rw[Array.size_setIfInBounds];exact iH h3 (by decide));show Heap.get? _ _=_;rw[Heap.get?_update_self _ hT Z];simp[Obj.mapSeq]
structure oa (h:Heap) (z TI TO i1 i2 i3 l1 l2 l3:Addr) (k:Nat) (xs ys zs:Array Aa):Prop where
 nd:[z,TO,i1,i2,i3].Nodup
 ti:TI∉[z,TO,i1,i2,i3]
 ls:∀l∈[l1,l2,l3],l∉[z,TO,i1,i2,i3]
 hI:eX h TI (List.toArray [.ref i1,.ref i2,.ref i3])
 hO:∃a b c,eX h TO (List.toArray [a,b,c])
 s1:Src h i1 l1 k xs
 s2:Src h i2 l2 k ys
 s3:Src h i3 l3 k zs
variable{i1 i2 i3 l1 l2 l3 z:Addr}{zs:Array Aa}{v y:Aa}
theorem gm_{TI TO:Addr}(D:oa s.heap z TI TO i1 i2 i3 l1 l2 l3 k xs ys zs)(hz:Zp s.heap z TI TO .none false)(hx:xs[k]? = some x)(hy:ys[k]? = some y)(hv:zs[k]? = some v)(hQ:∀h',Zp h' z TI TO (rawInt s.heap.objs.size) false->oa h' z TI TO i1 i2 i3 l1 l2 l3 (k+1) xs ys zs->eX h' s.heap.objs.size (List.toArray [x,y,v])->(∀c o,c∉[z,TO,i1,i2,i3]->s.heap.get? c\o->h'.get? c\o)->Q (.ref s.heap.objs.size) { s with heap:=h' }) :
  wpAny (model prog w) A (Builtin.«zip.__next__» #[[.ref z],[]]) (λfin s'=>∃v,fin=.done (.ret v)/\Q v s') E s:=by
 let#[nd,ti,ls,hI,#[a,b,c,hO],s1,s2,s3]:=D;simp only[jk,bU,fU,or_false,not_or,not_false_eq_true,List.nodup_nil,and_true] at nd ti ls;let#[#[zO,z1,z2,z3],#[O1,O2,O3],#[rK,C4],n23]:=nd;let L1:=ls l1 (.inl Z);let L2:=ls l2 (.inr (.inl Z));let L3:=ls l3 (.inr (.inr Z));apply (show wpAny _ _ (field (.ref z) 2 >>= _) _ _ _ from ae (fE hz Z (x:=.bool false) Z ?_));apply (show wpAny _ _ (field (.ref z) 3 >>= _) _ _ _ from ae (fE hz Z (x:=.ref TI) Z ?_));apply ae (l6 hI Z ?_);apply (show wpAny _ _ (Builtin.SmallTypes.ownedTupleIsFree (.ref z) >>= _) _ _ _ from ae ?_);unfold Builtin.SmallTypes.ownedTupleIsFree;apply ae (fE hz Z (x:=.none) Z (aE ?_));simp only[if_true];apply ae (wpAny_rule (ae (fE hz Z (x:=.ref TO) Z (ae (pJ hz Z2 λh1 iD e1=>ae ?_)))));replace iD:Zp h1 z TI TO .ellipsis false:=iD;have Mj:eX h1 TO (List.toArray [a,b,c]):=e1.extBut _ _ (bJ zO) hO;let s1:=s1.keep (e1.extBut _ · (bJ z1)) (e1.extBut _ · L1.1);let s2:=s2.keep (e1.extBut _ · (bJ z2)) (e1.extBut _ · L2.1);let s3:=s3.keep (e1.extBut _ · (bJ z3)) (e1.extBut _ · L3.1);simp only[List.zipIdx_cons,List.zipIdx_nil,wD,uP];apply ae (ae (wpAny_onRaise (show wpAny _ _ (Builtin.SmallTypes.nextOf (.ref i1) >>= _) _ _ _ from ae (s1.next L1.2.2.1 hx λh2 s1 e2=>aE ?_))));have EK:eX h2 TO (List.toArray [a,b,c]):=e2.extBut _ _ O1 Mj;let s2:=s2.keep (e2.extBut _ · (bJ rK)) (e2.extBut _ · L2.2.2.1);let s3:=s3.keep (e2.extBut _ · (bJ C4)) (e2.extBut _ · L3.2.2.1);apply ae (l6 EK Z (ae (E8 EK (a_ 3) λh3 zU e3=>ae (wpAny_letGo (aE ?_)))));replace zU:eX h3 TO (List.toArray [x,b,c]):=zU;let s1:=s1.keep (e3.extBut _ · (bJ O1)) (e3.extBut _ · L1.2.1);let s2:=s2.keep (e3.extBut _ · (bJ O2)) (e3.extBut _ · L2.2.1);let s3:=s3.keep (e3.extBut _ · (bJ O3)) (e3.extBut _ · L3.2.1);apply ae (ae (wpAny_onRaise (show wpAny _ _ (Builtin.SmallTypes.nextOf (.ref i2) >>= _) _ _ _ from ae (s2.next L2.2.2.2.1 hy λh4 s2 e4=>aE ?_))));have EJ:eX h4 TO (List.toArray [x,b,c]):=e4.extBut _ _ O2 zU;let s1:=s1.keep (e4.extBut _ · rK) (e4.extBut _ · L1.2.2.2.1);let s3:=s3.keep (e4.extBut _ · (bJ n23)) (e4.extBut _ · L3.2.2.2.1);apply ae (l6 EJ Z (ae (E8 EJ (a_ 3) λh5 Mi e5=>ae (wpAny_letGo (aE ?_)))));replace Mi:eX h5 TO (List.toArray [x,y,c]):=Mi;let s1:=s1.keep (e5.extBut _ · (bJ O1)) (e5.extBut _ · L1.2.1);let s2:=s2.keep (e5.extBut _ · (bJ O2)) (e5.extBut _ · L2.2.1);let s3:=s3.keep (e5.extBut _ · (bJ O3)) (e5.extBut _ · L3.2.1);apply ae (ae (wpAny_onRaise (show wpAny _ _ (Builtin.SmallTypes.nextOf (.ref i3) >>= _) _ _ _ from ae (s3.next L3.2.2.2.2 hv λh6 s3 e6=>aE ?_))));have RT:eX h6 TO (List.toArray [x,y,c]):=e6.extBut _ _ O3 Mi;let s1:=s1.keep (e6.extBut _ · C4) (e6.extBut _ · L1.2.2.2.2);let s2:=s2.keep (e6.extBut _ · n23) (e6.extBut _ · L2.2.2.2.2);apply ae (l6 RT Z (ae (E8 RT (a_ 3) λh7 vQ e7=>ae (wpAny_letGo (aE (aE ?_))))));replace vQ:eX h7 TO (List.toArray [x,y,v]):=vQ;let s1:=s1.keep (e7.extBut _ · (bJ O1)) (e7.extBut _ · L1.2.1);let s2:=s2.keep (e7.extBut _ · (bJ O2)) (e7.extBut _ · L2.2.1);let s3:=s3.keep (e7.extBut _ · (bJ O3)) (e7.extBut _ · L3.2.1);have all:∀{c o},c≠TO->c≠i1->c≠i2->c≠i3->h1.get? c\o->h7.get? c\o:=λc2 c3 c4 c5 q=>e7.extBut _ _ c2 (e6.extBut _ _ c5 (e5.extBut _ _ c2 (e4.extBut _ _ c4 (e3.extBut _ _ c2 (e2.extBut _ _ c3 q)))));have zq:Zp h7 z TI TO .ellipsis false:=all zO z1 z2 z3 iD;have Mm:eX h7 TI (List.toArray [.ref i1,.ref i2,.ref i3]):=all ti.2.1 ti.2.2.1 ti.2.2.2.1 ti.2.2.2.2 (e1.extBut _ _ ti.1 hI);have sz:h7.objs.size=s.heap.objs.size:=by rw[e7.1,e6.1,e5.1,e4.1,e3.1,e2.1,e1.1]
 apply ae (l6 vQ Z (ae (wpAny_newTuple ?_)));apply (show wpAny _ _ (Builtin.SmallTypes.ownedTupleHandOut (.ref z) (.ref h7.objs.size) >>= _) _ _ _ from ae ?_);unfold Builtin.SmallTypes.ownedTupleHandOut;have Li:Zp (h7.push { cls:=.type "tuple",data:=.seq (List.toArray [x,y,v]) }) z TI TO .ellipsis false:=aU _ zq;apply ae (pJ Li Z2 λh9 Lh e9=>pJ (show Zp h9 z TI TO (rawInt h7.objs.size) false from Lh) Z2 λhA vH eA=>aE #[_,Z,?_]);have up:∀{c o},c≠z->h7.get? c\o->hA.get? c\o:=λc1 q=>eA.extBut _ _ c1 (e9.extBut _ _ c1 (aU _ q));have hT:eX hA h7.objs.size (List.toArray [x,y,v]):=eA.extBut _ _ (i5 (bz zq)) (e9.extBut _ _ (i5 (bz zq)) (cz _ Z));show Q (.ref h7.objs.size) _;rw[sz] at hT ⊢;have vH:Zp hA z TI TO (rawInt h7.objs.size) false:=vH;rw[sz] at vH;apply hQ hA vH #[?_,?_,?_,up ti.1 Mm,#[_,_,_,up (bJ zO) vQ],s1.keep (λ_=>up (bJ z1)) (λ_=>up L1.1),s2.keep (λ_=>up (bJ z2)) (λ_=>up L2.1),s3.keep (λ_=>up (bJ z3)) (λ_=>up L3.1)] hT λc o hc q=>?_
 ·simp[zO,z1,z2,z3,O1,O2,O3,rK,C4,n23]
 ·simp[ti]
 ·simpa using ls
 simp only[bU,fU,or_false,not_or] at hc;exact up hc.1 (all hc.2.1 hc.2.2.1 hc.2.2.2.1 hc.2.2.2.2 (e1.extBut _ _ hc.1 q))
theorem ended(hh:A.handled=none)(a:s.heap.IsListIter it l i)(b:s.heap.IsList l xs)(hx:xs[i]? = none)(hE:∀h' e,Heap.ExtBut it s.heap h'->(∃o,h'.get? e\o/\o.cls=.type "StopIteration")->E (.ref e) { s with heap:=h' }):wpAny (model prog w) A (Builtin.SmallTypes.nextOf (.ref it)) Q E s:=wpAny_nextOf_list_end hh a b hx hE
theorem hX_{TI TO:Addr}{Q:Fin->Ab->Prop}(hh:A.handled=none)(n1:i1≠z)(n2:l1≠z)(hI:eX s.heap TI (List.toArray [.ref i1,.ref i2,.ref i3]))(a1:s.heap.IsListIter i1 l1 k)(b1:s.heap.IsList l1 xs)(hz:Zp s.heap z TI TO .none false)(hx:xs[k]? = none)(hE:∀h' e,(∀c o,c≠z->c≠i1->s.heap.get? c\o->h'.get? c\o)->(∃o,h'.get? e\o/\o.cls=.type "StopIteration")->E (.ref e) { s with heap:=h' }):wpAny (model prog w) A (Builtin.«zip.__next__» #[[.ref z],[]]) Q E s:=by
 apply (show wpAny _ _ (field (.ref z) 2 >>= _) _ _ _ from ae (fE hz Z (x:=.bool false) Z ?_));apply (show wpAny _ _ (field (.ref z) 3 >>= _) _ _ _ from ae (fE hz Z (x:=.ref TI) Z ?_));apply ae (l6 hI Z ?_);apply (show wpAny _ _ (Builtin.SmallTypes.ownedTupleIsFree (.ref z) >>= _) _ _ _ from ae ?_);unfold Builtin.SmallTypes.ownedTupleIsFree;apply ae (fE hz Z (x:=.none) Z (aE ?_));simp only[if_true];apply ae (wpAny_rule (ae (fE hz Z (x:=.ref TO) Z (ae (pJ hz Z2 λh1 iD e1=>ae ?_)))));replace iD:Zp h1 z TI TO .ellipsis false:=iD;simp only[List.zipIdx_cons,List.zipIdx_nil,wD,uP];apply ae (ae (wpAny_onRaise (show wpAny _ _ (Builtin.SmallTypes.nextOf (.ref i1) >>= _) _ _ _ from ae (ended hh (a1.extBut e1.extBut n1) (b1.extBut e1.extBut n2) hx λh2 e e2 he=>?_))));let#[oe,zC,Ex]:=he;have Dy:Zp h2 z TI TO .ellipsis false:=e2 _ _ (bJ n1) iD;have LZ:e≠z:=λx=>by subst x;rw[Dy] at zC;cases zC;simp at Ex
 exact pJ Dy Z2 λh3 _ e3=>hE h3 e (λc o c1 c3 x=>e3.extBut _ _ c1 (e2 _ _ c3 (e1.extBut _ _ c1 x))) #[oe,e3.extBut _ _ LZ zC,Ex]
variable{Q:Option Aa->Ab->Prop}
theorem gq_{TI TO:Addr}(D:oa s.heap z TI TO i1 i2 i3 l1 l2 l3 k xs ys zs)(hz:Zp s.heap z TI TO .none false)(hx:xs[k]? = some x)(hy:ys[k]? = some y)(hv:zs[k]? = some v)(hQ:∀h',Zp h' z TI TO (rawInt s.heap.objs.size) false->oa h' z TI TO i1 i2 i3 l1 l2 l3 (k+1) xs ys zs->eX h' s.heap.objs.size (List.toArray [x,y,v])->(∀c o,c∉[z,TO,i1,i2,i3]->s.heap.get? c\o->h'.get? c\o)->Q (some (.ref s.heap.objs.size)) { s with heap:=h' }) :
  wpAny (model prog w) A (pyNext (.ref z)) Q E s:=by
 have hT:s.TypeIs (.ref z) "zip":=#[_,hz,Z];unfold pyNext;exact ae (wpAny_attempt (uE (name:=Str.ofString "__next__") hT F.slot_zip_next (sf F.slot_zip_next hT F.entry_zip_next (gm_ D hz hx hy hv λh' a1 a2 a3 a4=>aE (hQ h' a1 a2 a3 a4)) (F.args_zip_next_1 _))))
theorem dC_{TI TO:Addr}(hh:A.handled=none)(n1:i1≠z)(n2:l1≠z)(hI:eX s.heap TI (List.toArray [.ref i1,.ref i2,.ref i3]))(a1:s.heap.IsListIter i1 l1 k)(b1:s.heap.IsList l1 xs)(hz:Zp s.heap z TI TO .none false)(hx:xs[k]? = none)(hQ:∀h',(∀c o,c≠z->c≠i1->s.heap.get? c\o->h'.get? c\o)->Q none { s with heap:=h' }):wpAny (model prog w) A (pyNext (.ref z)) Q E s:=by
 have hT:s.TypeIs (.ref z) "zip":=#[_,hz,Z];unfold pyNext;apply ae (wpAny_attempt (uE (name:=Str.ofString "__next__") hT F.slot_zip_next (sf F.slot_zip_next hT F.entry_zip_next (hX_ hh n1 n2 hI a1 b1 hz hx λh' e hk he=>?_) (F.args_zip_next_1 _))));let#[o,ho,hc]:=he;exact ae (wpAny_isInstance (T:="StopIteration") (b:=true) #[o,ho,hc] isSubtype_stop (aE (hQ _ hk)))
theorem dn_(a b c:Aa):checkTypeCall "zip" #[[a,b,c],[]]=pure ():=by kernel_rfl
theorem dO_(a b c:Aa):checkBuiltinCall "zip.__new__" #[[.type "zip",a,b,c],[]]=pure ():=by kernel_rfl
theorem fm_(a b c d:Aa):argsOk "object.__init__" #[[a,b,c,d],[]]:=by
 unfold argsOk;rw[signature?_of (id:="object.__init__") (n:=['_','_','t','i','n','i','_','_']) (o:=['t','c','e','j','b','o']) (by kernel_rfl) F.owner_object];kernel_rfl
abbrev mF(h:Heap)(l:Addr):Heap:=h.push { cls:=.type "list_iterator",data:=.fields (List.toArray [.ref l,.int 0 0]) }
abbrev oo(h:Heap)(l:Addr):Heap:=h.push { cls:=.type "tuple_iterator",data:=.fields (List.toArray [.ref l,.int 0 0]) }
abbrev BW(h:Heap)(l1 l2 l3:Addr):Heap:=oo (oo (mF h l1) l2) l3
abbrev BV(h:Heap)(l1 l2 l3:Addr):Heap:=(BW h l1 l2 l3).push { cls:=.type "tuple",data:=.seq (List.toArray [.ref h.objs.size,.ref (mF h l1).objs.size,.ref (oo (mF h l1) l2).objs.size]) }
abbrev BU(h:Heap)(l1 l2 l3:Addr):Heap:=(BV h l1 l2 l3).push { cls:=.type "tuple",data:=.seq (List.toArray [.none,.none,.none]) }
abbrev yg(h:Heap)(l1 l2 l3:Addr):Heap:=(BU h l1 l2 l3).push { cls:=.type "zip",data:=.fields (List.toArray [.none,.bool false,.bool false,.ref (BW h l1 l2 l3).objs.size,.ref (BV h l1 l2 l3).objs.size]) }
theorem fC_(l1 l2 l3:Addr)(xs ys zs:Array Aa):Meets (Builtin.«zip.__new__» #[[.type "zip",.ref l1,.ref l2,.ref l3],[]]) (λ_ R s=>s.heap.IsList l1 xs/\s.heap.IsTuple l2 ys/\s.heap.IsTuple l3 zs /\
   R (.ok (.ret (.ref (BU s.heap l1 l2 l3).objs.size))) { s with heap:=yg s.heap l1 l2 l3 }):=
 .of_wp λprog w A R s h=>by
  let#[hp,g,d,tk,os]:=s;let#[a1,a2,a3,h]:=h;let zw:=sub_zip;have b1:Heap.IsList (Shared.heap #[hp,g,d,tk,os]) l1 xs:=a1;have b2:Heap.IsTuple (Shared.heap #[hp.push { cls:=.type "list_iterator",data:=.fields (List.toArray [.ref l1,.int 0 0]) },g,d,tk,os]) l2 ys:=Heap.IsTuple.push a2 _;have b3:Heap.IsTuple (Shared.heap #[(hp.push { cls:=.type "list_iterator",data:=.fields (List.toArray [.ref l1,.int 0 0]) }).push { cls:=.type "tuple_iterator",data:=.fields (List.toArray [.ref l2,.int 0 0]) },g,d,tk,os]) l3 zs:=Heap.IsTuple.push (Heap.IsTuple.push a3 _) _
  wp_walk using wpAny_pyIter_list b1,wpAny_pyIter_tuple b2,wpAny_pyIter_tuple b3
  exact#[_,Z,h]
end hY
namespace L2
open PySem PySem.Spec PyProof.Rows PySem.W hY
def FP(K:ai)(a b c:Addr):It:=
 #[λi H=>∃xs ys zs x y z,dX K H a xs/\fo K H b ys/\fo K H c zs/\xs[i]? = some x/\ys[i]? = some y/\zs[i]? = some z,
  λi H v H'=>∃t x y z,v=.ref t/\H t=none/\(∀xs,dX K H a xs->xs[i]? = some x)/\(∀xs,fo K H b xs->xs[i]? = some y)/\(∀xs,fo K H c xs->xs[i]? = some z)/\H'=upd H t (.tup [x,y,z]),λi H=>∃xs,dX K H a xs/\xs.length=i]
theorem h8_{P:Ad}{w:Ag}{K:ai}{elts:List Expr}{k:Nat}{pos:Pos}(a b c z TI TO i1 i2 i3:Addr)(nd:[z,TO,i1,i2,i3].Nodup)(ti:TI∉[z,TO,i1,i2,i3])(ls:∀l∈[a,b,c],l∉[z,TO,i1,i2,i3]) :
  Turn P w K (.Tuple elts k pos) (FP K a b c) [z,TI,TO,i1,i2,i3] z (λi h=>Zp h z TI TO .none false/\eX h TI (List.toArray [.ref i1,.ref i2,.ref i3])/\(∃x y v,eX h TO (List.toArray [x,y,v]))/\h.IsListIter i1 a i/\h.IsTupleIter i2 b i/\h.IsTupleIter i3 c i) where
 mem:=by simp
 obj:=λi h st q hq=>by
  let#[h1,h2,#[x,y,v,h3],#[o1,e1,c1,d1],#[o2,e2,c2,d2],#[o3,e3,c3,d3]]:=st;simp only[bU,fU,or_false] at hq;rcases hq with rfl|rfl|rfl|rfl|rfl|rfl
  ·exact#[_,h1,λv z=>by cases z]
  ·exact#[_,h2,λv z=>by cases z]
  ·exact#[_,h3,λv z=>by cases z]
  ·exact#[o1,e1,λv z=>by rw[d1] at z;cases z]
  ·exact#[o2,e2,λv z=>by rw[d2] at z;cases z]
  exact#[o3,e3,λv z=>by rw[d3] at z;cases z]
 keep:=λi h h' st kk=>by
  let#[h1,h2,#[x,y,v,h3],s1,s2,s3]:=st;exact#[kk _ Z2 _ h1,kk _ Z2 _ h2,#[x,y,v,kk _ Z2 _ h3],s1.at λo q=>kk _ Z2 o q,s2.at λo q=>kk _ Z2 o q,s3.at λo q=>kk _ Z2 o q]
 item:=by
  intro X hP hw hK hc i pins s σ H E I hf st hg;subst hP hw hK;let#[xs,ys,zs,x,y,v,q1,q2,q3,x1,x2,x3]:=hg;let Gw:=nd;have z1:z≠i1:=by simp at nd;exact nd.1.2.1
  have z2:z≠i2:=by simp at nd;exact nd.1.2.2.1
  have Vi:z≠i3:=by simp at nd;exact nd.1.2.2.2
  have zO:TO≠z:=by simp at nd;exact bJ nd.1.1
  have tz:TI≠z:=by simp at ti;exact ti.1
  let#[h1,h2,h3,s1,s2,s3]:=st;let#[u1,r1,p1,_]:=I.list q1;let#[u2,r2,p2,_]:=I.tuple q2;let#[u3,r3,p3,_]:=I.tuple q3;let#[w1,_G,WH]:=r1.get x1;let#[w2,_F,WG]:=r2.get x2;let#[w3,_E,WE]:=r3.get x3;apply gq_ (l1:=a) (l2:=b) (l3:=c) (xs:=u1.toArray) (ys:=u2.toArray) (zs:=u3.toArray) (x:=w1) (y:=w2) (v:=w3) #[nd,ti,ls,h2,h3,.lst s1 p1.isList,.tup s2 p2,.tup s3 p3] h1 ⇑_G ⇑_F ⇑_E λh' z' D' xp kk=>?_;have lt:∀{d o},s.heap.get? d\o->s.heap.objs.size≠d:=λe=>i5 (bz e);obtain⟨T,eT⟩:∃T,T=s.heap.objs.size:=#[_,Z];have hT:s.heap.objs.size<=T:=Nat.le_of_eq eT.symm;rw[<- eT] at z' xp ⊢;apply#[_,Z,wpAny_letOwnedTupleGo_zip (s:={ s with heap:=h' }) z' λMp z3 e3=>?_]
  have nT:∀{q},q∈[z,TI,TO,i1,i2,i3]->T≠q:=λ{q} hq e=>by
   let#[x,y,v,h3]:=h3;rw[e] at eT;let#[o1,e1,_]:=s1;let#[o2,e2,_]:=s2;let#[o3,e3,_]:=s3;simp only[bU,fU,or_false] at hq;rcases hq with rfl|rfl|rfl|rfl|rfl|rfl
   ·exact lt h1 eT.symm
   ·exact lt h2 eT.symm
   ·exact lt h3 eT.symm
   ·exact lt e1 eT.symm
   ·exact lt e2 eT.symm
   exact lt e3 eT.symm
  have yd:∀{q o},q≠z->h'.get? q\o->Mp.get? q\o:=λhq e=>e3.extBut _ _ hq e;have vF:eX Mp T (List.toArray [w1,w2,w3]):=yd (nT Z2) xp;have I1:Inv X pins σ (upd H T (.tup [x,y,v])) { s with heap:=Mp }:=I.iJ (t':=s.toks) (fp:=[z,TI,TO,i1,i2,i3]) (its:=[w1,w2,w3]) (λq o hq e=>yd (λhz=>hq (by simp[hz])) (kk q o (λhm=>hq (by simp at hm ⊢;rcases hm with h|h|h|h|h<;>simp[h])) e)) hf hT (zl) (.cons WH (.cons WG (.cons WE .nil))) #[#[_,vF,Z,_,Z],_,vF,Z]
  apply#[.ref T,_,I1,Z,#[T,x,y,v,Z,I.az.fresh hT,λys hy=>by rw[I.jz hy q1];exact x1,λys hy=>by rw[I.dM hy q2];exact x2,λys hy=>by rw[I.dM hy q3];exact x3,Z],?_,λq hq=>?_]
  ·let#[_,_,_,j2,#[f1,f2,f3,j3],j4,j5,j6]:=D';apply#[z3,yd tz j2,#[f1,f2,f3,yd zO j3],?_,?_,?_]
   ·exact (j4.Q0 (p1.isList.at λo e=>kk a o (ls a Z2) e)).at λo e=>yd (bJ z1) e
   ·exact (j5.xp (by let#[o,e,r]:=p2;exact#[o,kk b o (ls b Z2) e,r])).at λo e=>yd (bJ z2) e
   exact (j6.xp (by let#[o,e,r]:=p3;exact#[o,kk c o (ls c Z2) e,r])).at λo e=>yd (bJ Vi) e
  rw[aw (λz:q=T=>nT hq z.symm)];exact (hf q hq).1
 done:=by
  intro X hP hw hK hc i pins s σ H E I hf st hg;subst hP hw hK;let#[xs,hq,hx]:=hg;let#[its,rv,p,hz]:=I.list hq;let#[h1,h2,h3,s1,s2,s3]:=st;have:=rv.length;simp only[jk,bU,fU,or_false,not_or,not_false_eq_true,List.nodup_nil,and_true] at nd ti;exact dC_ (I.ok.hd hc) (bJ nd.1.2.1) (by have:=ls a Z2;simp at this;exact this.1) h2 s1 p.isList h1 (by simp;omega) λh' kk=>#[Z,I.gK (t':=s.toks) (fp:=[z,TI,TO,i1,i2,i3]) (λq o hq e=>kk q o (λh=>hq (by simp[h])) (λh=>hq (by simp[h])) e) hf]
 self:=λA i s Q E st h=>wpAny_pyIter_zip st.1 h
end L2
namespace hY
open PySem PySem.W PyProof.Rows
variable{a:Addr}{prog:Ad}{w:Ag}{A:Af}{E:Aa->Ab->Prop}{s:Ab}
theorem alive{o:Obj}{Q:Option Obj->Ab->Prop}(ho:s.heap.get? a\o)(h:Q (some o) s):wpAny (model prog w) A (loadIfAlive a) Q E s:=fun Γ p _=>by
 unfold loadIfAlive;rw[Sem.wp_loadIfAlive,ho];exact (aE (M:=model prog w) (A:=A) h) Γ p (by assumption)
structure mr (h:Heap) (z TI TO i1 i2 l1 l2:Addr) (k:Nat) (xs ys:Array Aa):Prop where
 nd:[z,TO,i1,i2].Nodup
 ti:TI∉[z,TO,i1,i2]
 ls:∀l∈[l1,l2],l∉[z,TO,i1,i2]
 hI:eX h TI (List.toArray [.ref i1,.ref i2])
 hO:∃a b,eX h TO (List.toArray [a,b])
 s1:Src h i1 l1 k xs
 s2:Src h i2 l2 k ys
 hz:Zp h z TI TO .none false∨∃T o f1,T∉[z,TO,i1,i2]/\h.get? T\o/\Zp h z TI TO (rawInt T) f1
variable{i1 i2 l1 l2 z:Addr}{k:Nat}{xs ys:Array Aa}{x y:Aa}
theorem gY_{TI TO:Addr}{Q:Aa->Ab->Prop}(D:mr s.heap z TI TO i1 i2 l1 l2 k xs ys)(hx:xs[k]? = some x)(hy:ys[k]? = some y)(hQ:∀h',mr h' z TI TO i1 i2 l1 l2 (k+1) xs ys->eX h' s.heap.objs.size (List.toArray [x,y])->(∀c o,c∉[z,TO,i1,i2]->s.heap.get? c\o->h'.get? c\o)->Q (.ref s.heap.objs.size) { s with heap:=h' }) :
  wpAny (model prog w) A (Builtin.«zip.__next__» #[[.ref z],[]]) (λfin s'=>∃v,fin=.done (.ret v)/\Q v s') E s:=by
 let#[Gw,JO,K0,hI,#[a,b,hO],s1,s2,hz]:=D;let nd:=Gw;let ti:=JO;let ls:=K0;simp only[jk,bU,fU,or_false,not_or,not_false_eq_true,List.nodup_nil,and_true] at nd ti ls;let#[#[zO,z1,z2],#[O1,O2],rK]:=nd;let L1:=ls l1 (.inl Z);let L2:=ls l2 (.inr Z);have new:∀{c o},s.heap.get? c\o->s.heap.objs.size≠c:=λe=>i5 (bz e)
 have nT:s.heap.objs.size∉[z,TO,i1,i2]:=by
  simp only[bU,fU,or_false,not_or];apply#[?_,new hO,i5 s1.lt.1,i5 s2.lt.1];rcases hz with hz|⟨T,o,f1,hT,e,hz⟩
  ·exact new hz
  exact new hz
 rcases hz with hz|⟨T,o,f1,hT,eT,hz⟩
 ·apply (show wpAny _ _ (field (.ref z) 2 >>= _) _ _ _ from ae (fE hz Z (x:=.bool false) Z ?_));apply (show wpAny _ _ (field (.ref z) 3 >>= _) _ _ _ from ae (fE hz Z (x:=.ref TI) Z ?_));apply ae (l6 hI Z ?_);apply (show wpAny _ _ (Builtin.SmallTypes.ownedTupleIsFree (.ref z) >>= _) _ _ _ from ae ?_);unfold Builtin.SmallTypes.ownedTupleIsFree;apply ae (fE hz Z (x:=.none) Z (aE ?_));simp only[if_true];apply ae (wpAny_rule (ae (fE hz Z (x:=.ref TO) Z (ae (pJ hz Z2 λh1 iD e1=>ae ?_)))));replace iD:Zp h1 z TI TO .ellipsis false:=iD;have Mj:eX h1 TO (List.toArray [a,b]):=e1.extBut _ _ (bJ zO) hO;let s1:=s1.keep (e1.extBut _ · (bJ z1)) (e1.extBut _ · L1.1);let s2:=s2.keep (e1.extBut _ · (bJ z2)) (e1.extBut _ · L2.1);simp only[List.zipIdx_cons,List.zipIdx_nil,wD,uP];apply ae (ae (wpAny_onRaise (show wpAny _ _ (Builtin.SmallTypes.nextOf (.ref i1) >>= _) _ _ _ from ae (s1.next L1.2.2.1 hx λh2 s1 e2=>aE ?_))));have EK:eX h2 TO (List.toArray [a,b]):=e2.extBut _ _ O1 Mj;let s2:=s2.keep (e2.extBut _ · (bJ rK)) (e2.extBut _ · L2.2.2.1);apply ae (l6 EK Z (ae (E8 EK (Nat.le_succ 2) λh3 zU e3=>ae (wpAny_letGo (aE ?_)))));replace zU:eX h3 TO (List.toArray [x,b]):=zU;let s1:=s1.keep (e3.extBut _ · (bJ O1)) (e3.extBut _ · L1.2.1);let s2:=s2.keep (e3.extBut _ · (bJ O2)) (e3.extBut _ · L2.2.1);apply ae (ae (wpAny_onRaise (show wpAny _ _ (Builtin.SmallTypes.nextOf (.ref i2) >>= _) _ _ _ from ae (s2.next L2.2.2.2 hy λh4 s2 e4=>aE ?_))));have EJ:eX h4 TO (List.toArray [x,b]):=e4.extBut _ _ O2 zU;let s1:=s1.keep (e4.extBut _ · rK) (e4.extBut _ · L1.2.2.2);apply ae (l6 EJ Z (ae (E8 EJ (Nat.le_succ 2) λh7 vQ e7=>ae (wpAny_letGo (aE (aE ?_))))));replace vQ:eX h7 TO (List.toArray [x,y]):=vQ;let s1:=s1.keep (e7.extBut _ · (bJ O1)) (e7.extBut _ · L1.2.1);let s2:=s2.keep (e7.extBut _ · (bJ O2)) (e7.extBut _ · L2.2.1);have all:∀{c o},c≠TO->c≠i1->c≠i2->h1.get? c\o->h7.get? c\o:=λc2 c3 c4 q=>e7.extBut _ _ c2 (e4.extBut _ _ c4 (e3.extBut _ _ c2 (e2.extBut _ _ c3 q)));have zq:Zp h7 z TI TO .ellipsis false:=all zO z1 z2 iD;have Mm:eX h7 TI (List.toArray [.ref i1,.ref i2]):=all ti.2.1 ti.2.2.1 ti.2.2.2 (e1.extBut _ _ ti.1 hI);have sz:h7.objs.size=s.heap.objs.size:=by rw[e7.1,e4.1,e3.1,e2.1,e1.1]
  apply ae (l6 vQ Z (ae (wpAny_newTuple ?_)));apply (show wpAny _ _ (Builtin.SmallTypes.ownedTupleHandOut (.ref z) (.ref h7.objs.size) >>= _) _ _ _ from ae ?_);unfold Builtin.SmallTypes.ownedTupleHandOut;have Li:Zp (h7.push { cls:=.type "tuple",data:=.seq (List.toArray [x,y]) }) z TI TO .ellipsis false:=aU _ zq;apply ae (pJ Li Z2 λh9 Lh e9=>pJ (show Zp h9 z TI TO (rawInt h7.objs.size) false from Lh) Z2 λhA vH eA=>aE #[_,Z,?_]);have up:∀{c o},c≠z->h7.get? c\o->hA.get? c\o:=λc1 q=>eA.extBut _ _ c1 (e9.extBut _ _ c1 (aU _ q));have hT:eX hA h7.objs.size (List.toArray [x,y]):=eA.extBut _ _ (i5 (bz zq)) (e9.extBut _ _ (i5 (bz zq)) (cz _ Z));show Q (.ref h7.objs.size) _;have vH:Zp hA z TI TO (rawInt h7.objs.size) false:=vH;rw[sz] at hT vH ⊢;apply hQ hA #[Gw,JO,K0,up ti.1 Mm,#[_,_,up (bJ zO) vQ],s1.keep (λ_=>up (bJ z1)) (λ_=>up L1.1),s2.keep (λ_=>up (bJ z2)) (λ_=>up L2.1),.inr #[_,_,_,nT,hT,vH]] hT λc o hc q=>?_;simp only[bU,fU,or_false,not_or] at hc;exact up hc.1 (all hc.2.1 hc.2.2.1 hc.2.2.2 (e1.extBut _ _ hc.1 q))
 apply (show wpAny _ _ (field (.ref z) 2 >>= _) _ _ _ from ae (fE hz Z (x:=.bool false) Z ?_));apply (show wpAny _ _ (field (.ref z) 3 >>= _) _ _ _ from ae (fE hz Z (x:=.ref TI) Z ?_));apply ae (l6 hI Z ?_);apply (show wpAny _ _ (Builtin.SmallTypes.ownedTupleIsFree (.ref z) >>= _) _ _ _ from ae ?_)
 have free:∀{Q:Bool->Ab->Prop},(∀h',Zp h' z TI TO (rawInt T) true->(∀c o,c≠z->s.heap.get? c\o->h'.get? c\o)->h'.objs.size=s.heap.objs.size->Q false { s with heap:=h' })->wpAny (model prog w) A (Builtin.SmallTypes.ownedTupleIsFree (.ref z)) Q E s:=λ{Q} h=>by
  unfold Builtin.SmallTypes.ownedTupleIsFree;apply ae (fE hz Z (x:=rawInt T) Z ?_);apply (show wpAny _ _ (loadIfAlive (((T:Nat):Int)).toNat >>= _) _ _ _ from ?_);rw[x8];apply ae (alive eT ?_);simp only[Option.isNone_some,pQ,if_false];apply ae (fE hz Z (x:=.bool f1) Z ?_);cases f1 with
  |true=>
   apply wpAny_ite_false (by decide) (aE ?_);exact h _ hz (λc o _ q=>q) Z
  |false=>
   apply wpAny_ite_true (by decide) ?_;apply ae (pJ hz Z2 λh1 iD e1=>aE ?_);exact h h1 iD (λc o hc q=>e1.extBut _ _ hc q) e1.1
 apply free λh1 iD k1 Wn=>?_;simp only[pQ,if_false];let s1:=s1.keep (k1 _ · (bJ z1)) (k1 _ · L1.1);let s2:=s2.keep (k1 _ · (bJ z2)) (k1 _ · L2.1);apply ae ?_;simp only[List.forIn_toArray,wD,uP];apply ae (ae (iX (show wpAny _ _ (Builtin.SmallTypes.nextOf (.ref i1) >>= _) _ _ _ from ae (s1.next L1.2.2.1 hx λh2 s1 e2=>aE (aE ?_)))));let s2:=s2.keep (e2.extBut _ · (bJ rK)) (e2.extBut _ · L2.2.2.1);apply ae (ae (iX (show wpAny _ _ (Builtin.SmallTypes.nextOf (.ref i2) >>= _) _ _ _ from ae (s2.next L2.2.2.2 hy λh4 s2 e4=>aE (aE (aE ?_))))));let s1:=s1.keep (e4.extBut _ · rK) (e4.extBut _ · L1.2.2.2);have sz:h4.objs.size=s.heap.objs.size:=by rw[e4.1,e2.1,Wn]
 apply (show wpAny _ _ (newTuple [x,y] >>= _) _ _ _ from ae (wpAny_newTuple (aE #[_,Z,?_])));have all:∀{c o},c≠i1->c≠i2->h1.get? c\o->h4.get? c\o:=λc3 c4 q=>e4.extBut _ _ c4 (e2.extBut _ _ c3 q);have up:∀{c o},h4.get? c\o->(h4.push { cls:=.type "tuple",data:=.seq (List.toArray [x,y]) }).get? c\o:=λq=>aU _ q;have zS:eX (h4.push { cls:=.type "tuple",data:=.seq (List.toArray [x,y]) }) h4.objs.size (List.toArray [x,y]):=cz _ Z;show Q (.ref h4.objs.size) _;rw[sz] at zS ⊢;simp only[bU,fU,or_false,not_or] at hT;apply hQ _ #[Gw,JO,K0,up (all ti.2.2.1 ti.2.2.2 (k1 _ _ ti.1 hI)),#[_,_,up (all O1 O2 (k1 _ _ (bJ zO) hO))],s1.keep (λ_=>up) (λ_=>up),s2.keep (λ_=>up) (λ_=>up),.inr #[T,_,true,by simp[hT],up (all hT.2.2.1 hT.2.2.2 (k1 _ _ hT.1 eT)),up (all z1 z2 iD)]] zS λc o hc q=>?_;simp only[bU,fU,or_false,not_or] at hc;exact up (all hc.2.2.1 hc.2.2.2 (k1 _ _ hc.1 q))
theorem hQ_{TI TO:Addr}{Q:Fin->Ab->Prop}(hh:A.handled=none)(D:mr s.heap z TI TO i1 i2 l1 l2 k xs ys)(b0:s.heap.IsList l1 xs)(hx:xs[k]? = none)(hE:∀h' e,(∀c o,c∉[z,TO,i1,i2]->s.heap.get? c\o->h'.get? c\o)->(∃o,h'.get? e\o/\o.cls=.type "StopIteration")->E (.ref e) { s with heap:=h' }):wpAny (model prog w) A (Builtin.«zip.__next__» #[[.ref z],[]]) Q E s:=by
 let#[nd,ti,ls,hI,#[a,b,hO],s1,s2,hz]:=D;let a0:=s1.Q0 b0;simp only[jk,bU,fU,or_false,not_or,not_false_eq_true,List.nodup_nil,and_true] at nd ti ls;let#[#[zO,z1,z2],#[O1,O2],rK]:=nd;let L1:=ls l1 (.inl Z);have go:∀(h1:Heap),(∀c o,c≠z->s.heap.get? c\o->h1.get? c\o)->∀(E':Aa->Ab->Prop) (Q':Aa->Ab->Prop),(∀h' e,Heap.ExtBut i1 h1 h'->(∃o,h'.get? e\o/\o.cls=.type "StopIteration")->E' (.ref e) { s with heap:=h' })->wpAny (model prog w) A (Builtin.SmallTypes.nextOf (.ref i1)) Q' E' { s with heap:=h1 }:=λh1 k1 E' Q' h=>ended hh (s:={ s with heap:=h1 }) (a0.at λo q=>k1 _ o (bJ z1) q) (b0.at λo q=>k1 _ o L1.1 q) hx h;rcases hz with hz|⟨T,o,f1,hT,eT,hz⟩
 ·apply (show wpAny _ _ (field (.ref z) 2 >>= _) _ _ _ from ae (fE hz Z (x:=.bool false) Z ?_));apply (show wpAny _ _ (field (.ref z) 3 >>= _) _ _ _ from ae (fE hz Z (x:=.ref TI) Z ?_));apply ae (l6 hI Z ?_);apply (show wpAny _ _ (Builtin.SmallTypes.ownedTupleIsFree (.ref z) >>= _) _ _ _ from ae ?_);unfold Builtin.SmallTypes.ownedTupleIsFree;apply ae (fE hz Z (x:=.none) Z (aE ?_));simp only[if_true];apply ae (wpAny_rule (ae (fE hz Z (x:=.ref TO) Z (ae (pJ hz Z2 λh1 iD e1=>ae ?_)))));replace iD:Zp h1 z TI TO .ellipsis false:=iD;simp only[List.zipIdx_cons,List.zipIdx_nil,wD,uP];apply ae (ae (wpAny_onRaise (show wpAny _ _ (Builtin.SmallTypes.nextOf (.ref i1) >>= _) _ _ _ from ae (go h1 (λc o hc q=>e1.extBut _ _ hc q) _ _ λh2 e e2 he=>?_))));let#[oe,zC,Ex]:=he;have Dy:Zp h2 z TI TO .ellipsis false:=e2 _ _ z1 iD;have LZ:e≠z:=λx=>by subst x;rw[Dy] at zC;cases zC;simp at Ex
  exact pJ Dy Z2 λh3 _ e3=>hE h3 e (λc o hc x=>by
   simp only[bU,fU,or_false,not_or] at hc;exact e3.extBut _ _ hc.1 (e2 _ _ hc.2.2.1 (e1.extBut _ _ hc.1 x))) #[oe,e3.extBut _ _ LZ zC,Ex]
 apply (show wpAny _ _ (field (.ref z) 2 >>= _) _ _ _ from ae (fE hz Z (x:=.bool false) Z ?_));apply (show wpAny _ _ (field (.ref z) 3 >>= _) _ _ _ from ae (fE hz Z (x:=.ref TI) Z ?_));apply ae (l6 hI Z ?_);apply (show wpAny _ _ (Builtin.SmallTypes.ownedTupleIsFree (.ref z) >>= _) _ _ _ from ae ?_)
 have free:∀{Q:Bool->Ab->Prop},(∀h',(∀c o,c≠z->s.heap.get? c\o->h'.get? c\o)->Q false { s with heap:=h' })->wpAny (model prog w) A (Builtin.SmallTypes.ownedTupleIsFree (.ref z)) Q E s:=λ{Q} h=>by
  unfold Builtin.SmallTypes.ownedTupleIsFree;apply ae (fE hz Z (x:=rawInt T) Z ?_);apply (show wpAny _ _ (loadIfAlive (((T:Nat):Int)).toNat >>= _) _ _ _ from ?_);rw[x8];apply ae (alive eT ?_);simp only[Option.isNone_some,pQ,if_false];apply ae (fE hz Z (x:=.bool f1) Z ?_);cases f1 with
  |true=>exact wpAny_ite_false (by decide) (aE (h _ λc o _ q=>q))
  |false=>exact wpAny_ite_true (by decide) (ae (pJ hz Z2 λh1 iD e1=>aE (h h1 λc o hc q=>e1.extBut _ _ hc q)))
 apply free λh1 k1=>?_;simp only[pQ,if_false];apply ae ?_;simp only[List.forIn_toArray,wD,uP];apply ae (ae (iX (show wpAny _ _ (Builtin.SmallTypes.nextOf (.ref i1) >>= _) _ _ _ from ae (go h1 k1 _ _ λh2 e e2 he=>hE h2 e (λc o hc x=>?_) he))));simp only[bU,fU,or_false,not_or] at hc;exact e2 _ _ hc.2.2.1 (k1 _ _ hc.1 x)
theorem mr.ty{TI TO:Addr}(D:mr s.heap z TI TO i1 i2 l1 l2 k xs ys):s.TypeIs (.ref z) "zip":=by
 rcases D.hz with hz|⟨T,o,f1,hT,eT,hz⟩
 ·exact#[_,hz,Z]
 exact#[_,hz,Z]
variable{Q:Option Aa->Ab->Prop}
theorem g7_{TI TO:Addr}(D:mr s.heap z TI TO i1 i2 l1 l2 k xs ys)(hx:xs[k]? = some x)(hy:ys[k]? = some y)(hQ:∀h',mr h' z TI TO i1 i2 l1 l2 (k+1) xs ys->eX h' s.heap.objs.size (List.toArray [x,y])->(∀c o,c∉[z,TO,i1,i2]->s.heap.get? c\o->h'.get? c\o)->Q (some (.ref s.heap.objs.size)) { s with heap:=h' }):wpAny (model prog w) A (pyNext (.ref z)) Q E s:=by
 unfold pyNext;exact ae (wpAny_attempt (uE (name:=Str.ofString "__next__") D.ty F.slot_zip_next (sf F.slot_zip_next D.ty F.entry_zip_next (gY_ D hx hy λh' a2 a3 a4=>aE (hQ h' a2 a3 a4)) (F.args_zip_next_1 _))))
theorem do_{TI TO:Addr}(hh:A.handled=none)(D:mr s.heap z TI TO i1 i2 l1 l2 k xs ys)(b0:s.heap.IsList l1 xs)(hx:xs[k]? = none)(hQ:∀h',(∀c o,c∉[z,TO,i1,i2]->s.heap.get? c\o->h'.get? c\o)->Q none { s with heap:=h' }):wpAny (model prog w) A (pyNext (.ref z)) Q E s:=by
 unfold pyNext;apply ae (wpAny_attempt (uE (name:=Str.ofString "__next__") D.ty F.slot_zip_next (sf F.slot_zip_next D.ty F.entry_zip_next (hQ_ hh D b0 hx λh' e hk he=>?_) (F.args_zip_next_1 _))));let#[o,ho,hc]:=he;exact ae (wpAny_isInstance (T:="StopIteration") (b:=true) #[o,ho,hc] isSubtype_stop (aE (hQ _ hk)))
abbrev BS(h:Heap)(l1 l2:Addr):Heap:=oo (mF h l1) l2
abbrev BR(h:Heap)(l1 l2:Addr):Heap:=(BS h l1 l2).push { cls:=.type "tuple",data:=.seq (List.toArray [.ref h.objs.size,.ref (mF h l1).objs.size]) }
abbrev BQ(h:Heap)(l1 l2:Addr):Heap:=(BR h l1 l2).push { cls:=.type "tuple",data:=.seq (List.toArray [.none,.none]) }
abbrev yf(h:Heap)(l1 l2:Addr):Heap:=(BQ h l1 l2).push { cls:=.type "zip",data:=.fields (List.toArray [.none,.bool false,.bool false,.ref (BS h l1 l2).objs.size,.ref (BR h l1 l2).objs.size]) }
theorem fd_(l1 l2:Addr)(xs ys:Array Aa):Meets (Builtin.«zip.__new__» #[[.type "zip",.ref l1,.ref l2],[]]) (λ_ R s=>s.heap.IsList l1 xs/\s.heap.IsTuple l2 ys/\R (.ok (.ret (.ref (BQ s.heap l1 l2).objs.size))) { s with heap:=yf s.heap l1 l2 }):=
 .of_wp λprog w A R s h=>by
  let#[hp,g,d,tk,os]:=s;let#[a1,a2,h]:=h;let zw:=sub_zip;have b1:Heap.IsList (Shared.heap #[hp,g,d,tk,os]) l1 xs:=a1;have b2:Heap.IsTuple (Shared.heap #[hp.push { cls:=.type "list_iterator",data:=.fields (List.toArray [.ref l1,.int 0 0]) },g,d,tk,os]) l2 ys:=Heap.IsTuple.push a2 _
  wp_walk using wpAny_pyIter_list b1,wpAny_pyIter_tuple b2
  exact#[_,Z,h]
theorem mr.y4{h:Heap}{TI TO:Addr}(D:mr h z TI TO i1 i2 l1 l2 k xs ys){h':Heap}(up:∀c o,h.get? c\o->h'.get? c\o):mr h' z TI TO i1 i2 l1 l2 k xs ys:=by
 let#[nd,ti,ls,hI,#[a,b,hO],s1,s2,hz]:=D;apply#[nd,ti,ls,up _ _ hI,#[a,b,up _ _ hO],s1.keep (up _) (up _),s2.keep (up _) (up _),?_];rcases hz with hz|⟨T,o,f1,hT,eT,hz⟩
 ·exact .inl (up _ _ hz)
 exact .inr #[T,o,f1,hT,up _ _ eT,up _ _ hz]
theorem gI_{Q:Aa->Ab->Prop}(a1:s.heap.IsList l1 xs)(a2:s.heap.IsTuple l2 ys)(h:∀h' z TI TO i1 i2,mr h' z TI TO i1 i2 l1 l2 0 xs ys->Zp h' z TI TO .none false->(∀b∈[z,TO,i1,i2],s.heap.objs.size<=b)->(∀c o,s.heap.get? c\o->h'.get? c\o)->Q (.ref z) { s with heap:=h' }):wpAny (model prog w) A (call (.type "zip") [.ref l1,.ref l2]) Q E s:=by
 apply callType_new F.called_zip (by decide) (F.typeCall_zip_2 _ _) (F.newCall_zip_2 _ _) (λobj=>F.args_object_init_3 obj _ _) F.entry_zip_new (fd_ l1 l2 xs ys) #[a1,a2,?_];have z1:(mF s.heap l1).objs.size=s.heap.objs.size+1:=l5 ..;have z2:(BS s.heap l1 l2).objs.size=s.heap.objs.size+2:=by rw[l5,z1]
 have z3:(BR s.heap l1 l2).objs.size=s.heap.objs.size+3:=by rw[l5,z2]
 have z4:(BQ s.heap l1 l2).objs.size=s.heap.objs.size+4:=by rw[l5,z3]
 have g5:(yf s.heap l1 l2).get? (BQ s.heap l1 l2).objs.size\_:=cz _ Z;have g4:(yf s.heap l1 l2).get? (BR s.heap l1 l2).objs.size\_:=aU _ (cz _ Z);have g3:(yf s.heap l1 l2).get? (BS s.heap l1 l2).objs.size\_:=aU _ (aU _ (cz _ Z));have g2:(yf s.heap l1 l2).get? (mF s.heap l1).objs.size\_:=aU _ (aU _ (aU _ (cz _ Z)));have g1:(yf s.heap l1 l2).get? s.heap.objs.size\_:=aU _ (aU _ (aU _ (aU _ (cz _ Z))));have up:∀c o,s.heap.get? c\o->(yf s.heap l1 l2).get? c\o:=λc o x=>aU _ (aU _ (aU _ (aU _ (aU _ x))));have KZ:l1<s.heap.objs.size:=by let#[_,e,_]:=a1;exact bz e
 have KY:l2<s.heap.objs.size:=by let#[_,e,_]:=a2;exact bz e
 show _/\_;apply#[#[_,g5,Z],h _ (BQ s.heap l1 l2).objs.size (BS s.heap l1 l2).objs.size (BR s.heap l1 l2).objs.size s.heap.objs.size (mF s.heap l1).objs.size #[?_,?_,?_,g3,#[_,_,g4],.lst #[_,g1,Z,Z] (a1.at λo e=>up _ o e),.tup #[_,g2,Z,Z] (by let#[o,e,r]:=a2;exact#[o,up _ o e,r]),.inl g5] g5 ?_ up]
 ·rw[z1,z3,z4];generalize s.heap.objs.size=n;simp
 ·rw[z1,z2,z3,z4];generalize s.heap.objs.size=n;simp
 ·intro l hl hm
  have lt:l<s.heap.objs.size:=by
   simp only[bU,fU,or_false] at hl;rcases hl with rfl|rfl
   ·exact KZ
   exact KY
  simp only[bU,fU,or_false] at hm;rcases hm with rfl|rfl|rfl|rfl
  ·rw[z4] at lt;exact absurd lt (Nat.not_lt.mpr (tI _ _))
  ·rw[z3] at lt;exact absurd lt (Nat.not_lt.mpr (tI _ _))
  ·exact tO _ lt
  rw[z1] at lt;exact absurd lt (Nat.not_lt.mpr (tI _ _))
 intro b hb;simp only[bU,fU,or_false] at hb;rcases hb with rfl|rfl|rfl|rfl
 ·rw[z4];exact tI _ _
 ·rw[z3];exact tI _ _
 ·exact a_ _
 rw[z1];exact tI _ _
theorem du_:typeLookup (.type "zip") "keys"=pure none:=by rw[typeLookup_type,builtinLookup_eq_fast];kernel_rfl
theorem ch_:typeLookup (.type "zip") "__getattr__"=pure none:=by rw[typeLookup_type,builtinLookup_eq_fast];kernel_rfl
theorem dE_:entryFor table "zip.__getattribute__"\Builtin.«object.__getattribute__»:=entryFor_alias (id':="object.__getattribute__") (by kernel_rfl) Z0 Z0 (by kernel_rfl)
theorem cV_(a:Addr)(fs:Array Aa)(u:Tok):Meets (Builtin.«object.__getattribute__» #[[.ref a,.str "keys" u],[]]) (λA R s=>s.heap.get? a=some { cls:=.type "zip",dict:=none,data:=.fields fs,slots:=#[] }/\raisesAttr (.ref a) "keys" A R s):=
 Meets.of_wp λprog w A R s hs=>by
  let#[hp,g,d,tk,os]:=s;let#[hx,hs]:=hs;have hT:(#[hp,g,d,tk,os]:Ab).TypeIs (.ref a) "zip":=#[_,hx,Z];let hm:=du_;unfold Builtin.«object.__getattribute__»
  repeat (any_goals (first|assumption|wp_step))
  repeat (any_goals (first|assumption|wp_step))
  exact wpAny_raiseAttrError hs.1 hs.2 (attrMsg_fits Z0 (by size_fits))
variable{fs:Array Aa}
theorem fz_{tk:Tok}{R:Result->Ab->Prop}(hx:s.heap.get? a=some { cls:=.type "zip",dict:=none,data:=.fields fs,slots:=#[] })(h:raisesAttr (.ref a) "keys" A R s) :
  codeAny (model prog w) A (.call (.builtin "zip.__getattribute__") #[[.ref a,.str "keys" tk],[]]) R s:=by
 apply codeAny_call_builtin F.slot_zip_getattribute.plain dE_ (F.slot_zip_getattribute.check _ _ _ _ _ _ _ _ #[_,hx,Z] (F.args_zip_getattribute_2 _ _) ?_);exact cV_ a fs tk prog w A R s #[hx,h]
theorem vq(hx:s.heap.get? a=some { cls:=.type "zip",dict:=none,data:=.fields fs,slots:=#[] })(hA:A.handled=none)(h:∀h' tk,(∀b o,s.heap.get? b\o->h'.get? b\o)->Q none { s with heap:=h',toks:=tk }):wpAny (model prog w) A (getAttr? (.ref a) "keys") Q E s:=by
 let#[hp,g,d,tk,os]:=s;have ty:∀h_,(#[hp,g,d,h_,os]:Ab).TypeIs (.ref a) "zip":=λ_=>#[_,hx,Z];let f1:=sub_AttributeError;let f2:=F.slot_zip_getattribute.lookup;let f3:=F.slot_zip_getattribute.bind (.ref a);let f4:=ch_;unfold getAttr? getAttrBy? getAttrBy
 repeat (any_goals (first|assumption|exact ty _|wp_step))
 apply fz_ hx #[hA,λh' h_ e vI=>?_];let#[t',u',he]:=vI.there;apply (show wpAny _ _ (getattributeRaised _ _ _ _ _ _ _) _ _ _ from ?_);unfold getattributeRaised
 repeat (any_goals (first|assumption|wp_step))
 exact h _ _ vI.keeps
variable{Q:Aa->Ab->Prop}
section
variable{prog:Ad}{w:Ag}{K:Type}[DecidableEq K]{knd:PySem.KeyKind prog w K}{A:Af}
theorem Zy{TI TO d:Addr}(hd:d∉[z,TO,i1,i2])(hh:A.handled=none){xs ys:aj}(rest:List K):∀(i:Nat) (kvs:List (K × Aa)) (s:Ab) (R:Result->Ab->Prop) (tk:Tok),i+rest.length=xs.length->i+rest.length=ys.length->
  (∀(j:Nat) k,rest[j]? = some k->∃v,xs[i+j]? = some v/\knd.is k v=true)->mr s.heap z TI TO i1 i2 l1 l2 i xs.toArray ys.toArray->s.heap.IsList l1 xs.toArray->s.heap.DictOf knd d kvs->kvs.length+rest.length<=1000->
  (∀h' h_,h'.DictOf knd d (eD kvs (rest.zip (ys.drop i)))->(∀b o,b≠d->b∉[z,TO,i1,i2]->s.heap.get? b\o->h'.get? b\o)->R (.ok (.ret .none)) { s with heap:=h',toks:=h_ })->
  codeAny (model prog w) A (.builtin "dict.update.loop" #[[.ref d,.ref z,.int i tk,.none],[]]) R s:=by
 induction rest with
 |nil=>
  intro i kvs s R tk e1 e2 hk D b0 pe hz hR;apply codeAny_builtin Ja ?_;rw[Around.under_plainId xW _,Hj];apply ae (do_ hh D b0 (by simp at e1 ⊢;omega) λh' kp=>?_);exact ae (m:=Builtin.Dict.addKeywords d []) (aE (aE (hR h' s.toks (Fv pe λo q=>kp _ _ hd q) λb o _ hb q=>kp b o hb q)))
 |cons k rest ih=>
  intro i kvs s R tk e1 e2 hk D b0 pe hz hR;simp only[jm] at e1 e2 hz;let#[v,hv,kv]:=hk 0 k Z;have hy:ys[i]? = some ys[i]:=aP Z1;apply codeAny_builtin Ja ?_;rw[Around.under_plainId xW _,Hj];apply ae (g7_ D (x:=v) (y:=ys[i]) ⇑hv ⇑hy λh1 D1 hT kp=>?_);apply ae (iX (ae (wpAny_tryCatch ?_)));unfold Builtin.Dict.pairItems;apply ae (wpAny_typeOf (T:="tuple") #[_,hT,Z] ?_);rw[aI (by decide)];unfold seqItems?;apply ae (ae (wpAny_load hT (aE (aE ?_))));apply (show wpAny _ _ (holding [v,ys[i]] (dictSet d v ys[i])) _ _ _ from iX (wpAny_dictSet_pairs kv (Fv pe λo q=>kp _ _ hd q) (λh2 hd2 vK=>?_) (by have:=cX;omega)));have c1:((i:Int)+1)=((i+1:Nat):Int):=by omega
  have ndT:s.heap.objs.size≠d:=by
   let#[o,es,ep,ho,_]:=pe;exact i5 (bz ho)
  apply aE #[plainId_quiet xW _,?_];have dY:∀{c o},c≠d->h1.get? c\o->h2.get? c\o:=λhc q=>vK.extBut _ _ hc q;let#[nd,ti,ls,hI,#[a,b,hO],s1,s2,Rh]:=D1;have dn:∀{c},c∈[z,TO,i1,i2]->c≠d:=λhc e=>hd (by rw[<- e];exact hc)
  have rH:∀{c xs},h1.IsTuple c xs->c≠d:=λ{c xs} q e=>by
   let#[o,ho,hc,_]:=q;let#[o2,es,ep,fq,ko,_]:=pe;let fq:=kp _ _ hd fq;subst e;rw[ho] at fq;cases fq;let xD:=ko.1;rw[hc] at xD;exact absurd xD (by decide)
  have rJ:∀{c xs},h1.IsList c xs->c≠d:=λ{c xs} q e=>by
   let#[o,ho,hc,_]:=q;let#[o2,es,ep,fq,ko,_]:=pe;let fq:=kp _ _ hd fq;subst e;rw[ho] at fq;cases fq;let xD:=ko.1;rw[hc] at xD;exact absurd xD (by decide)
  have ld:∀{it l k zs},Src h1 it l k zs->l≠d:=λq=>by
   cases q with
   |lst _ b=>exact rJ b
   |tup _ b=>exact rH b
  have D2:mr h2 z TI TO i1 i2 l1 l2 (i+1) xs.toArray ys.toArray:=by
   apply#[nd,ti,ls,dY (rH #[_,hI,Z,_,Z]) hI,#[a,b,dY (dn Z2) hO],s1.keep (λ_=>dY (dn Z2)) (λ_=>dY (ld s1)),s2.keep (λ_=>dY (dn Z2)) (λ_=>dY (ld s2)),?_];rcases Rh with hz|⟨T,o,f1,zS,eT,hz⟩
   ·exact .inl (dY (dn Z2) hz)
   by_cases c:T=d
   ·let#[o2,es,ep,fq,_]:=hd2;exact .inr #[T,o2,f1,zS,by rw[c];exact fq,dY (dn Z2) hz]
   exact .inr #[T,o,f1,zS,dY c eT,dY (dn Z2) hz]
  rw[c1]
  apply ih (i+1) (stored kvs k ys[i]) _ R 0 Z1 Z1 (λj k' hj=>?_) D2 (b0.at λo q=>dY (rJ (b0.at λo q=>kp _ _ (ls _ Z2) q)) (kp _ _ (ls _ Z2) q)) hd2 (by have:=Um kvs k ys[i];omega) λh' h_ iR K7=>hR h' h_ (by
   have e:ys.drop i=ys[i]::ys.drop (i+1):=List.drop_eq_getElem_cons Z1;rw[e];exact iR) λb o h3 h4 q=>K7 b o h3 h4 (dY h3 (kp b o h4 q))
  let#[v,e,r]:=hk (j+1) k' hj;exact#[v,by rw[<- e];congr 1;omega,r]
theorem f9_{TI TO:Addr}{xs ys:aj}{ks:List K}(hh:A.handled=none)(D:mr s.heap z TI TO i1 i2 l1 l2 0 xs.toArray ys.toArray)(hz:Zp s.heap z TI TO .none false)(b0:s.heap.IsList l1 xs.toArray)(e1:ks.length=xs.length)(e2:ks.length=ys.length)(hk:∀(j:Nat) k,ks[j]? = some k->∃v,xs[j]? = some v/\knd.is k v=true)(nO:ks.length<=1000)(h:∀h' h_,h'.DictOf knd s.heap.objs.size (eD [] (ks.zip ys))->(∀b o,b∉[z,TO,i1,i2]->s.heap.get? b\o->h'.get? b\o)->Q (.ref s.heap.objs.size) { s with heap:=h',toks:=h_ }) :
  wpAny (model prog w) A (call (.type "dict") [.ref z]) Q E s:=by
 apply callType_codes (Q₁:=λobj aJ=>obj=.ref s.heap.objs.size/\aJ={ s with heap:=s.heap.push { cls:=.type "dict",data:=.dict #[] } }) F.kt_called_dict (F.kt_typeCall_dict_1 _) F.entry_dict_init (kt_code_dict_new _ #[Z,Z]) ?_;rintro obj aJ ⟨rfl,rfl⟩;have iQ:(s.heap.push { cls:=.type "dict",data:=.dict #[] }).DictOf knd s.heap.objs.size []:=Heap.DictOf.new s.heap;have z1:Zp (s.heap.push { cls:=.type "dict",data:=.dict #[] }) z TI TO .none false:=aU _ hz;apply#[iQ.typeIs,F.args_dict_init_2 _ _,?_];unfold Builtin.«dict.__init__» Builtin.Dict.selfAndRest;apply ae (ae (wpAny_notOrdered_dict iQ.typeIs ?_));apply (show wpAny _ _ (pure (s.heap.objs.size,[Value.ref z])) _ _ _ from aE ?_);apply (show wpAny _ _ (Builtin.Dict.updateFrom "dict.__init__" s.heap.objs.size (.ref z) [] .none) _ _ _ from ?_);unfold Builtin.Dict.updateFrom;apply ae (wpAny_typeOf (T:="zip") #[_,z1,Z] ?_);rw[aI (by decide)];apply ae (vq z1 hh λh2 V9 k2=>?_);simp only[Option.isNone_none,if_true];have z2:IsZip h2 z TI TO .none:=k2 _ _ z1;apply ae (wpAny_rule (ae (wpAny_pyIter_zip z2 ?_)));apply aE #[plainId_quiet xW _,?_];have all:∀c o,s.heap.get? c\o->h2.get? c\o:=λc o q=>k2 _ _ (aU _ q)
 have lt:∀{b},b∈[z,TO,i1,i2]->b<s.heap.objs.size:=λ{b} hb=>by
  let#[nd,ti,ls,hI,#[a,b,hO],s1,s2,Rh]:=D;simp only[bU,fU,or_false] at hb;rcases hb with rfl|rfl|rfl|rfl
  ·exact bz hz
  ·exact bz hO
  ·exact s1.lt.1
  exact s2.lt.1
 apply Zy (A:=A.in1) (knd:=knd) (d:=s.heap.objs.size) (xs:=xs) (ys:=ys) (λhm=>tO _ (lt hm)) hh ks 0 [] _ _ 0 Z1 Z1 (λj k hj=>by simpa using hk j k hj) (D.y4 all) (b0.at λo q=>all _ _ q) (Fv iQ λo q=>k2 _ _ q) ⇑nO λh' h_ iR kp=>#[Z,h h' h_ ⇑iR λb o hb q=>kp b o (dR (bz q)) hb (all _ _ q)]
end
theorem gZ_{l3:Addr}{zs:Array Aa}(a1:s.heap.IsList l1 xs)(a2:s.heap.IsTuple l2 ys)(a3:s.heap.IsTuple l3 zs)(h:∀h' z TI TO i1 i2 i3,[z,TO,i1,i2,i3].Nodup->TI∉[z,TO,i1,i2,i3]->(∀b∈[z,TI,TO,i1,i2,i3],s.heap.objs.size<=b)->Zp h' z TI TO .none false->eX h' TI (List.toArray [.ref i1,.ref i2,.ref i3])->eX h' TO (List.toArray [.none,.none,.none])->h'.IsListIter i1 l1 0->h'.IsTupleIter i2 l2 0->h'.IsTupleIter i3 l3 0->(∀c o,s.heap.get? c\o->h'.get? c\o)->Q (.ref z) { s with heap:=h' }):wpAny (model prog w) A (call (.type "zip") [.ref l1,.ref l2,.ref l3]) Q E s:=by
 apply callType_new F.called_zip (by decide) (dn_ _ _ _) (dO_ _ _ _) (λobj=>fm_ obj _ _ _) F.entry_zip_new (fC_ l1 l2 l3 xs ys zs) #[a1,a2,a3,?_];have z1:(mF s.heap l1).objs.size=s.heap.objs.size+1:=l5 ..;have z2:(oo (mF s.heap l1) l2).objs.size=s.heap.objs.size+2:=by rw[l5,z1]
 have z3:(BW s.heap l1 l2 l3).objs.size=s.heap.objs.size+3:=by rw[l5,z2]
 have z4:(BV s.heap l1 l2 l3).objs.size=s.heap.objs.size+4:=by rw[l5,z3]
 have z5:(BU s.heap l1 l2 l3).objs.size=s.heap.objs.size+5:=by rw[l5,z4]
 have g6:(yg s.heap l1 l2 l3).get? (BU s.heap l1 l2 l3).objs.size\_:=cz _ Z;have g5:(yg s.heap l1 l2 l3).get? (BV s.heap l1 l2 l3).objs.size\_:=aU _ (cz _ Z);have g4:(yg s.heap l1 l2 l3).get? (BW s.heap l1 l2 l3).objs.size\_:=aU _ (aU _ (cz _ Z));have g3:(yg s.heap l1 l2 l3).get? (oo (mF s.heap l1) l2).objs.size\_:=aU _ (aU _ (aU _ (cz _ Z)));have g2:(yg s.heap l1 l2 l3).get? (mF s.heap l1).objs.size\_:=aU _ (aU _ (aU _ (aU _ (cz _ Z))));have g1:(yg s.heap l1 l2 l3).get? s.heap.objs.size\_:=aU _ (aU _ (aU _ (aU _ (aU _ (cz _ Z)))));show _/\_;apply#[#[_,g6,Z],h _ (BU s.heap l1 l2 l3).objs.size (BW s.heap l1 l2 l3).objs.size (BV s.heap l1 l2 l3).objs.size s.heap.objs.size (mF s.heap l1).objs.size (oo (mF s.heap l1) l2).objs.size ?_ ?_ ?_ g6 g4 g5 #[_,g1,Z,Z] #[_,g2,Z,Z] #[_,g3,Z,Z] λc o x=>aU _ (aU _ (aU _ (aU _ (aU _ (aU _ x)))))]
 ·rw[z1,z2,z4,z5];generalize s.heap.objs.size=n;simp
 ·rw[z1,z2,z3,z4,z5];generalize s.heap.objs.size=n;simp
 intro b hb;simp only[bU,fU,or_false] at hb;rcases hb with rfl|rfl|rfl|rfl|rfl|rfl
 ·rw[z5];exact tI _ _
 ·rw[z3];exact tI _ _
 ·rw[z4];exact tI _ _
 ·exact a_ _
 ·rw[z1];exact tI _ _
 rw[z2];exact tI _ _
end hY
namespace L2
open PySem PySem.Spec PySem.Calls PyProof.Rows PySem.W hY
inductive rN (K:ai) (R:It->Hp->Prop) (vs:ag) (H1:Hp):Prop
 |mk:∀a b c xs ys zs,vs=[.ref a,.ref b,.ref c]->dX K H1 a xs->fo K H1 b ys->fo K H1 c zs->R (FP K a b c) H1->rN K R vs H1
def Dv(K:ai)(ta:TA):TI:=λσ H R=>ta σ H λvs H1=>rN K R vs H1
variable{X:Cx}{p2:Pos}{a:Expr}{es:List Expr}{ta:TA}
theorem ZF{elts:List Expr}{kk:Nat}{p pos:Pos}(hg:Gl X "zip")(hm:X.mg "zip"=none)(ha:PA X (a::es) ta)(hs:starEach (a::es) X.env=(false,eval a X.env)::starEach es X.env:=by rfl)(ig:(backTo pos (starEach es X.env)).any (·.1)=false:=by rfl):PI X (.Tuple elts kk p2) (.Call (.Name "zip" p) (a::es) [] pos) (Dv X.K ta):=by
 intro pins s σ H R I h;apply Call_ (wm I hg hm boot_zip (By (aO (ha pos pins s σ H _ I h) λus s1 ⟨vs,H1,I1,r1,q1⟩=>?_) hs ig));let#[a,b,c,xs,ys,zs,e,q1,q2,q3,q]:=q1;subst e;cases r1 with
 |cons ra rr=>
 cases rr with
 |cons rb rr=>
 cases rr with
 |cons rc rr=>
 cases rr;cases ra;cases rb;cases rc;let#[u1,_,p1,_]:=I1.list q1;let#[u2,_,p2,_]:=I1.tuple q2;let#[u3,_,p3,_]:=I1.tuple q3;have KZ:a<s1.heap.objs.size:=by let#[_,e,_]:=p1.isList;exact bz e
 have KY:b<s1.heap.objs.size:=by let#[_,e,_]:=p2;exact bz e
 have X2:c<s1.heap.objs.size:=by let#[_,e,_]:=p3;exact bz e
 apply gZ_ p1.isList p2 p3 λh' z TI TO i1 i2 i3 nd ti new hz hI hO WC s2 s3 kp=>?_;apply wpAny_pyIter_zip hz ?_;apply#[z,[z,TI,TO,i1,i2,i3],_,_,H1,Z,I1.kept (t':=s1.toks) kp,h8_ a b c z TI TO i1 i2 i3 nd ti λl hl hm=>?_,#[hz,hI,#[_,_,_,hO],WC,s2,s3],λd hd=>I1.jH (new d hd) (I1.az.fresh (new d hd)),q];have hm:s1.heap.objs.size<=l:=new l (by simp at hm ⊢;rcases hm with h|h|h|h|h<;>simp[h])
 simp only[bU,fU,or_false] at hl;rcases hl with rfl|rfl|rfl
 ·exact Nat.not_lt.mpr hm KZ
 ·exact Nat.not_lt.mpr hm KY
 exact Nat.not_lt.mpr hm X2
theorem _w{K:ai}{a b c:Addr}{xs ys zs:ag}{g:TG}{tb:TS}{D:Ends}{σ:St}{H:Hp}(l2:ys.length=xs.length)(l3:zs.length=xs.length)(Pv:bZ)(h0:Pv 0 σ H)(hl:∀i σ H,i<=xs.length->Pv i σ H->dX K H a xs/\fo K H b ys/\fo K H c zs)
  (hs:∀i x y z σ H,xs[i]? = some x->ys[i]? = some y->zs[i]? = some z->Pv i σ H->∀t,H t=none->g (.ref t) σ (upd H t (.tup [x,y,z])) λfZ H2=>tb { D with nx:=Pv (i+1),ct:=Pv (i+1),bk:=D.nx } fZ H2) (hd:∀σ H,Pv xs.length σ H->D.nx σ H) :
  ∃W:Nat->Nat->St->Hp->Prop,(∃m,W 0 m σ H)/\∀i m σ H,W i m σ H->
   ((FP K a b c).stop i H/\D.nx σ H)∨((FP K a b c).go i H/\∃N:St->Hp->Prop,(∀aX H',N aX H'->∃m',m'<m/\W (i+1) m' aX H')/\∀x H',(FP K a b c).uT i H x H'->g x σ H' λfZ H2=>tb { D with nx:=N,ct:=N,bk:=D.nx } fZ H2):=by
 apply#[λi m σ H=>m=xs.length - i/\i<=xs.length/\Pv i σ H,#[xs.length,by simp,gM _,h0],?_];rintro i m σ H ⟨rfl,hi,p⟩;let#[q1,q2,q3]:=hl i σ H hi p;by_cases dZ:i<xs.length
 ·apply .inr #[#[xs,ys,zs,xs[i],ys[i]' Z1,zs[i]' Z1,q1,q2,q3,by simp[dZ],by simp[l2,dZ],by simp[l3,dZ]],Pv (i+1),λaX H' p'=>#[xs.length - (i+1),by omega,Z,dZ,p'],λv H' y=>?_];let#[t,x,y,z,rfl,ht,y1,y2,y3,rfl]:=y;exact hs i x y z σ H (y1 xs q1) (y2 ys q2) (y3 zs q3) p t ht
 have e:i=xs.length:=by omega
 subst e;exact .inl #[#[xs,q1,Z],hd σ H p]
inductive TH (K:ai) (Q:VK) (vs:ag) (H1:Hp):Prop
 |mk:∀(l t:Addr) (ns:af) (ys:ag),vs=[.ref l,.ref t]->dX K H1 l (ns.map V.str)->fo K H1 t ys->ys.length=ns.length->ns.length<=1000->(∀d,H1 d=none->Q (.ref d) (upd H1 d (.dK (wo [] ((ns.zip ys).map λp=>(Sum.inr p.1,p.2))))))->TH K Q vs H1
def p_(K:ai)(ta:TA):TE:=λσ H Q=>ta σ H λvs H1=>TH K Q vs H1
theorem QZ:∀{ns:af} {ys:ag} {us:aj},Vals ys us->KV ((ns.zip ys).map λp=>((Sum.inr p.1:Key),p.2)) ((ns.map Sum.inr).zip us)
 |[],_,_,_=>by simp only[List.zip_nil_left,List.map_nil];exact Paired.nil
 |_::_,_,_,.nil=>by simp only[List.zip_nil_right,List.map_nil];exact Paired.nil
 |n::ns,y::ys,u::us,.cons r t=>.cons #[Z,r] (QZ t)
theorem fe_{p1 oG oF:Pos}(gD:Gl X "dict")(mD:X.mg "dict"=none)(gZ:Gl X "zip")(mZ:X.mg "zip"=none)(ha:PA X (a::es) ta)(hc:X.calm=true:=by rfl)(h1:starEach (a::es) X.env=(false,eval a X.env)::starEach es X.env:=by rfl)(h2:starEach [.Call (.Name "zip" p2) (a::es) [] oF] X.env=(false,eval (.Call (.Name "zip" p2) (a::es) [] oF) X.env)::starEach [] X.env:=by rfl)(h3:(backTo oG (starEach [] X.env)).any (·.1)=false:=by rfl)(h4:(backTo oF (starEach es X.env)).any (·.1)=false:=by rfl):PE X (.Call (.Name "dict" p1) [.Call (.Name "zip" p2) (a::es) [] oF] [] oG) (p_ X.K ta):=by
 intro pins s σ H Q I h;apply wpAny_Call_Name_kw (wm I gD mD tw ?_ (by decide) (by decide));apply By ?_ h2 h3;rw[h2];apply (show wpAny _ _ (spliced ((false,eval (.Call (.Name "zip" p2) (a::es) [] oF) X.env)::backTo oG (starEach [] X.env))) _ _ s from Calls.spliced_cons ?_);apply wpAny_Call_Name_kw (wm I gZ mZ boot_zip ?_ (by decide) (by decide));apply By (aO (ha oF pins s σ H _ I h) λus s1 ⟨vs,H1,I1,r1,q1⟩=>?_) h1 h4;let#[l,t,ns,ys,e,sq,Ws,ly,nO,q]:=q1;subst e;cases r1 with
 |cons ra rr=>
 cases rr with
 |cons rb rr=>
 cases rr;cases ra;cases rb;let#[u1,v1,p1,_]:=I1.list sq;let#[u2,v2,p2,_]:=I1.tuple Ws;let e1:=v1.length;let e2:=v2.length;rw[ak] at e1;apply gI_ p1.isList p2 λh' z TI TO i1 i2 D hz new kp=>?_;have I2:Inv X pins σ H1 { s1 with heap:=h' }:=I1.kept (t':=s1.toks) kp;apply Calls.spliced_nil ?_;apply f9_ (knd:=fh X.prog X.w) (s:={ s1 with heap:=h' }) (ks:=ns.map Sum.inr) (I1.ok.hd hc) D hz (p1.isList.at λo e=>kp _ _ e) (by rw[ak];omega) (by rw[ak];omega) (λj k hj=>?_) (by rw[ak];exact nO) λgT tk hd Ys=>?_
 ·rw[di,BJ] at hj;let#[n,hn,rfl]:=hj;let#[u,hu,ru]:=v1.get (i:=j) (x:=V.str n) (by rw[di,hn];rfl);exact#[u,hu,Ai (k:=Sum.inr n) ru]
 have hk:∀b o,s1.heap.get? b\o->gT.get? b\o:=λb o e=>Ys b o (λhm=>Nat.not_lt.mpr (new b hm) (bz e)) (kp _ _ e);have fresh:s1.heap.objs.size<=h'.objs.size:=Nat.le_of_lt (Nat.lt_of_le_of_lt (new z Z2) (bz hz));let big:=I2.big;apply#[.ref h'.objs.size,_,I1.laid (t':=tk) hk fresh (Hx ?_ (beq_eq_false_iff_ne.mpr (bJ (dR big))) (KV.eD (QZ v2) .nil) hd),Z,q _ (I1.az.fresh fresh)];show (wo [] ((ns.zip ys).map λp=>((Sum.inr p.1:Key),p.2))).length<=sizeLine;have:=OU ((ns.zip ys).map λp=>((Sum.inr p.1:Key),p.2)) [];rw[ak,List.length_zip] at this;have:=cX;simp only[List.length_nil] at *;omega
end L2
namespace hY
open PySem PySem.W PyProof.Rows
variable{prog:Ad}{w:Ag}{A:Af}
theorem N4(hh:A.handled=none)(it l:Addr)(ne:l≠it)(xs:Array Aa):Draws prog w A it [it,l] xs.size (λi v=>xs[i]? = some v) λi h=>h.IsTupleIter it l i/\h.IsTuple l xs where
 live:=λi h ⟨⟨o,e,_⟩,_⟩=>#[o,e]
 frame:=λi h h' ⟨a,b⟩ k=>#[a.at λo e=>k it Z2 o e,by let#[o,e,r]:=b;exact#[o,k l Z2 o e,r]]
 item:=λi s Q E hi ⟨a,b⟩ h=>nextT a b (Array.getElem?_eq_getElem hi) λh' a' sb=>h _ h' s.toks (Array.getElem?_eq_getElem hi) #[a',b.extBut sb.extBut ne] sb
 done:=λs Q E ⟨a,b⟩ hE=>by
  let#[o,ho,hc,hd]:=id a;let#[u,hu,_,n,hv]:=b;have hx:xs[xs.size]? = none:=Array.getElem?_eq_none (a_ _);unfold Builtin.SmallTypes.nextOf;apply ae (uE (name:=Str.ofString "__next__") a.typeIs F.slot_tuple_iterator_next (sf F.slot_tuple_iterator_next a.typeIs F.entry_tuple_iterator_next ?_ (F.args_tuple_iterator_next_1 _)));apply (show wpAny _ _ (field (.ref it) 0 >>= _) _ _ s from ae (fE ho hd (x:=.ref l) Z ?_));apply (show wpAny _ _ (if (Value.ref l == Value.none)=true then _ else _) _ _ s from ?_);rw[aA (show ¬((Value.ref l == Value.none)=true) from gE)];apply (show wpAny _ _ (field (.ref it) 1 >>= _) _ _ s from ae (fE ho hd (x:=.int xs.size 0) Z ?_));apply (show wpAny _ _ (seqItems? (.ref l) >>= _) _ _ s from ae (l6 hu hv ?_));simp only[x8,hx];apply ae (wpAny_rule (ae (wpAny_setField ho hd Z2 ?_)));apply (show wpAny _ _ (newExc (.type "StopIteration") [] >>= _) _ _ _ from ae ?_);simp only[newExc,newTuple];apply ae (pI ?_ (by size_fits));apply ae (m:=firstArgMember _ _) (wpAny_of_eq (a:=Value.none) (by first|rfl|(simp only[firstArgMember];rfl)) ?_);apply pI ?_ (by size_fits);simp only[raiseNew];apply ae (wpAny_handled ?_)
  first|rw[show A.in1.handled=none from hh]|rw[hh]
  apply ae (aE (wpAny_throw ?_));exact hE _ _ (((Heap.SameBut.update ..).extBut.push _).push _) #[_,cz _ Z,Z]
variable{s:Ab}
theorem et_(l:Addr)(xs:Array Aa):Meets (Builtin.«enumerate.__new__» #[[.type "enumerate",.ref l],[]]) (λ_ R s=>s.heap.IsTuple l xs /\
   R (.ok (.ret (.ref (oo s.heap l).objs.size))) { s with heap:=(oo s.heap l).push { cls:=.type "enumerate",data:=.fields (List.toArray [.none,.bool false,.ref s.heap.objs.size,rawInt 0,.none,.none]) } }):=
 .of_wp λprog w A R s h=>by
  let#[hp,g,d,tk,os]:=s;let#[a,h]:=h;let zw:=sub_enumerate;let#[o,ho,hc,n,hd]:=id a;have hL:Heap.IsTuple (Shared.heap #[hp,g,d,tk,os]) l xs:=a
  wp_walk using AutoSeq1.wpAny_loadPart' ho
  apply wpAny_stack_any λst=>aE ?_;split
  ·rename_i c _ _ _ _ _
   cases (c == Value.type "enumerate")
   ·wp_walk using AutoSeq1.wpAny_loadPart' ho,wpAny_pyIter_tuple hL
    exact#[_,Z,h]
   wp_walk using AutoSeq1.wpAny_loadPart' ho,wpAny_pyIter_tuple hL
   exact#[_,Z,h]
  wp_walk using AutoSeq1.wpAny_loadPart' ho,wpAny_pyIter_tuple hL
  exact#[_,Z,h]
variable{E:Aa->Ab->Prop}
theorem fF_{l:Addr}{xs:Array Aa}{Q:Aa->Ab->Prop}(hL:s.heap.IsTuple l xs)
  (h:∀h',IsEnum h' (s.heap.objs.size+1) s.heap.objs.size 0 .none->h'.IsTupleIter s.heap.objs.size l 0->(∀b o,s.heap.get? b\o->h'.get? b\o)->Q (.ref (s.heap.objs.size+1)) { s with heap:=h' }) :
  wpAny (model prog w) A (call (.type "enumerate") [.ref l]) Q E s:=by
 apply callType_new F.called_enumerate (by decide) (F.typeCall_enumerate_1 _) (F.newCall_enumerate_1 _) (λobj=>F.args_object_init_2 obj _) F.entry_enumerate_new (et_ l xs) #[hL,?_];have hz:(oo s.heap l).objs.size=s.heap.objs.size+1:=l5 ..;have g2:((oo s.heap l).push { cls:=.type "enumerate",data:=.fields (List.toArray [.none,.bool false,.ref s.heap.objs.size,rawInt 0,.none,.none]) }).get? (oo s.heap l).objs.size\_:=cz _ Z;have g1:((oo s.heap l).push { cls:=.type "enumerate",data:=.fields (List.toArray [.none,.bool false,.ref s.heap.objs.size,rawInt 0,.none,.none]) }).get? s.heap.objs.size\_:=aU _ (cz _ Z);show _/\_;rw[hz] at g2 ⊢;exact#[#[_,g2,Z],h _ g2 #[_,g1,Z,Z] λb o x=>aU _ (aU _ x)]
end hY
namespace L2
open PySem PySem.Spec PyProof.Rows PySem.W hY
def tY(K:ai)(a:Addr):It:=
 #[λi H=>∃xs x,fo K H a xs/\xs[i]? = some x,λi H y H'=>∃t x,y=.ref t/\H t=none/\(∀xs,fo K H a xs->xs[i]? = some x)/\H'=upd H t (.tup [.int i,x]),λi H=>∃xs,fo K H a xs/\xs.length=i]
variable{elts:List Expr}{pos:Pos}
theorem fA_{P:Ad}{w:Ag}{K:ai}{k:Nat}(a e it:Addr)(h1:e≠it)(h2:a≠e)(h3:a≠it):Turn P w K (.Tuple elts k pos) (tY K a) [e,it] e (λi h=>(∃old,IsEnum h e it i old)/\h.IsTupleIter it a i) where
 mem:=by simp
 obj:=λi h st b hb=>by
  let#[#[old,q],o,e2,c,d]:=st;rcases bU.mp hb with rfl|hb
  ·exact#[_,q,λv z=>by cases z]
  obtain rfl:b=it:=⇑hb
  exact#[o,e2,λv z=>by rw[d] at z;cases z]
 keep:=λi h h' st kk=>by
  let#[#[old,q],fI]:=st;exact#[#[old,kk e Z2 _ q],fI.at λo q2=>kk it Z2 o q2]
 item:=by
  intro X hP hw hK hc i pins s σ H E I hf st hg;subst hP hw hK;let#[xs,x,hq,hx]:=hg;let#[its,rv,p,hz]:=I.tuple hq;let#[u,hu,ru]:=rv.get hx;have p:s.heap.IsTuple a its.toArray:=p;let W:=WalksT.enumerateD (A:=X.A) (N4 (prog:=X.prog) (w:=X.w) (A:=X.A.in1) (I.ok.hd hc) it a h3 its.toArray) e h1 (by simp[h1,bJ h2]) Z2
  have hi:i<its.toArray.size:=by
   simp only[cj];exact (bY.mp hu).1
  let#[old,he]:=st.1;apply wpAny_pyNext_enum_itemD (N4 (prog:=X.prog) (w:=X.w) (A:=X.A.in1) (I.ok.hd hc) it a h3 its.toArray) he #[st.2,p] hi h1 (by simp[h1,bJ h2]) λx' h' t vI ho fw Mh hsz hk=>?_
  have ex:x'=u:=by
   rw[List.getElem?_toArray,hu] at vI;exact (cY vI).symm
  subst ex;have L0:e<s.heap.objs.size:=bz he;have LQ:it<s.heap.objs.size:=by let#[_,x,_]:=st.2;exact bz x
  have mid:(∃x,IsEnumOut h' e it ((i:Int)+1) x s.heap.objs.size)/\(h'.IsTupleIter it a (i+1)/\h'.IsTuple a its.toArray)/\s.heap.objs.size≠e/\s.heap.objs.size≠it:=#[#[_,ho],fw,i5 L0,i5 LQ];have kk:∀b o,b∉[e,it]->s.heap.get? b\o->h'.get? b\o:=λb o hb x=>hk b o (λe'=>hb (by simp[e'])) (λe'=>hb (by simp[e'])) x;have xp:h'.IsTuple s.heap.objs.size (List.toArray [.int i t,x']):=#[_,Mh,Z,_,Z];obtain⟨T,eT⟩:∃T,T=s.heap.objs.size:=#[_,Z];obtain⟨tk,GM⟩:∃tk,tk=t+1:=#[_,Z];rw[<- eT] at xp mid Mh ⊢;have hT:s.heap.objs.size<=T:=Nat.le_of_eq eT.symm;rw[<- GM];apply#[_,Z,W.go elts k pos i T { s with heap:=h',toks:=tk } _ _ mid λgT fw K8=>?_];have nT:T∉[e,it]:=W.apart i T h' mid
  have vF:gT.IsTuple T (List.toArray [.int i t,x']):=by
   let#[o,q,r]:=xp;exact#[o,K8 T o nT q,r]
  have I1:Inv X pins σ (upd H T (.tup [.int i,x])) { s with heap:=gT,toks:=tk }:=I.iJ (t':=tk) (fp:=[e,it]) (its:=[.int i t,x']) (λb o hb q=>K8 b o hb (kk b o hb q)) hf hT (zl) (.cons #[t,Z] (.cons ru .nil)) #[vF,_,K8 T _ nT Mh,Z];apply#[.ref T,_,I1,Z,#[T,x,Z,I.az.fresh hT,λys hy=>by rw[I.dM hy hq];exact hx,Z],#[?_,fw.2.1],λb hb=>?_]
  ·let#[old,q]:=fw.1;exact#[old,by simpa using q]
  rw[aw (λz:b=T=>nT (by rw[<- z];exact hb))];exact (hf b hb).1
 done:=by
  intro X hP hw hK hc i pins s σ H E I hf st hg;subst hP hw hK;let#[xs,hq,hx]:=hg;let#[its,rv,p,hz]:=I.tuple hq;have p:s.heap.IsTuple a its.toArray:=p;let W:=WalksT.enumerateD (A:=X.A) (N4 (prog:=X.prog) (w:=X.w) (A:=X.A.in1) (I.ok.hd hc) it a h3 its.toArray) e h1 (by simp[h1,bJ h2]) Z2
  have hn:its.toArray.size=i:=by
   have:=rv.length;simp only[cj];omega
  apply W.done s _ _ (by rw[hn];exact#[st.1,st.2,p]) λh' tk kk=>#[Z,I.gK (t':=tk) (fp:=[e,it]) kk hf]
 self:=λA i s Q E st h=>by
  let#[old,q]:=st.1;exact wpAny_pyIter_enum q h
inductive nB (K:ai) (R:It->Hp->Prop) (vs:ag) (H1:Hp):Prop
 |mk:∀a,vs=[.ref a]->(∃xs,fo K H1 a xs)->R (tY K a) H1->nB K R vs H1
def zo(K:ai)(ta:TA):TI:=λσ H R=>ta σ H λvs H1=>nB K R vs H1
variable{X:Cx}
theorem _K{kk:Nat}{p2:Pos}{a:Expr}{ta:TA}{p:Pos}(hg:Gl X "enumerate")(hm:X.mg "enumerate"=none)(ha:PA X [a] ta)(hs:starEach [a] X.env=[(false,eval a X.env)]:=by rfl):PI X (.Tuple elts kk p2) (.Call (.Name "enumerate" p) [a] [] pos) (zo X.K ta):=by
 intro pins s σ H R I h;apply Call_ (wm I hg hm boot_enumerate (By (aO (ha pos pins s σ H _ I h) λus s1 ⟨vs,H1,I1,r1,q1⟩=>?_) hs Z));let#[l,e,#[xs,hq],q]:=q1;subst e;cases r1 with
 |cons r rr=>
  cases rr;cases r;let#[its,rv,pl,hz]:=I1.tuple hq;have pl:s1.heap.IsTuple l its.toArray:=pl;have ll:l<s1.heap.objs.size:=by let#[_,e,_]:=pl;exact bz e
  apply fF_ pl λh' he hi kp=>?_;apply wpAny_pyIter_enum he ?_;apply#[s1.heap.objs.size+1,[s1.heap.objs.size+1,s1.heap.objs.size],_,_,H1,Z,I1.kept (t':=s1.toks) kp,fA_ l _ _ (Nat.succ_ne_self _) (dR (Nat.lt_succ_of_lt ll)) (dR ll),#[#[_,he],hi],λb hb=>?_,q]
  have e:s1.heap.objs.size<=b:=by
   rcases bU.mp hb with rfl|hb
   ·exact Nat.le_succ _
   obtain rfl:b=s1.heap.objs.size:=⇑hb
   exact a_ _
  exact I1.jH e (I1.az.fresh e)
theorem gG_{K:ai}{a:Addr}{xs:ag}{g:TG}{tb:TS}{D:Ends}{σ:St}{H:Hp}(Pv:bZ)(h0:Pv 0 σ H)(hl:∀i σ H,i<=xs.length->Pv i σ H->fo K H a xs)
  (hs:∀i x σ H,xs[i]? = some x->Pv i σ H->∀t,H t=none->g (.ref t) σ (upd H t (.tup [.int i,x])) λfZ H2=>tb { D with nx:=Pv (i+1),ct:=Pv (i+1),bk:=D.nx } fZ H2) (hd:∀σ H,Pv xs.length σ H->D.nx σ H) :
  ∃W:Nat->Nat->St->Hp->Prop,(∃m,W 0 m σ H)/\∀i m σ H,W i m σ H->
   ((tY K a).stop i H/\D.nx σ H)∨((tY K a).go i H/\∃N:St->Hp->Prop,(∀aX H',N aX H'->∃m',m'<m/\W (i+1) m' aX H')/\∀x H',(tY K a).uT i H x H'->g x σ H' λfZ H2=>tb { D with nx:=N,ct:=N,bk:=D.nx } fZ H2):=by
 apply#[λi m σ H=>m=xs.length - i/\i<=xs.length/\Pv i σ H,#[xs.length,by simp,gM _,h0],?_];rintro i m σ H ⟨rfl,hi,p⟩;let q:=hl i σ H hi p;by_cases dZ:i<xs.length
 ·apply .inr #[#[xs,xs[i],q,by simp[dZ]],Pv (i+1),λaX H' p'=>#[xs.length - (i+1),by omega,Z,dZ,p'],λx H' y=>?_];let#[t,x,rfl,ht,y,rfl]:=y;exact hs i x σ H (y xs q) p t ht
 have e:i=xs.length:=by omega
 subst e;exact .inl #[#[xs,q,Z],hd σ H p]
def yq(tk tv:TE):TE:=λσ H Q=>∀p,H p=none->tk σ (upd H p (.dT [])) λx H1=>tv σ H1 λy H2=>H2 p\.dT []/\∃b k,x=.ref b/\H2 b\.tup (k.map kV)/\Q (.ref p) (upd H2 p (.dT [(k,y)]))
theorem Tj{k v:Expr}{tk tv:TE}(hu:X.A.units+1<cLine)(hk:PE X k tk)(hv:PE X v tv):PE X (.Dict [some k] [v] pos) (yq tk tv):=by
 intro pins s σ H Q I q;let hn:=I.az.fresh (a_ s.heap.objs.size);let I1:=I.laid (a:=s.heap.objs.size) (o:=.dT []) (h':=s.heap.push { cls:=.type "dict",data:=.dict #[] }) (t':=s.toks) (λ_ _ q=>aU _ q) (a_ _) (SQ s.heap I.big);let shape:=zip_pairTrees [some k] [v] X.env pos Z Z;rw[arm_eval_Dict,shape,dictDisplay_pairs (pairTrees [some k] [v] X.env pos) (by intro e;exact absurd (d5 List.length e) (by rw[pairTrees_length [some k] [v] X.env pos Z Z];exact Nat.one_ne_zero)) (by rw[pairTrees_length [some k] [v] X.env pos Z Z];exact (by decide:1<17))];apply ae (wpAny_standAt (ae ?_));unfold subDict;apply ae (wpAny_alloc (ae (iX ?_)));rw[aI (by rw[pairTrees_length [some k] [v] X.env pos Z Z];exact (by decide:1<=15))];apply ae (pairTrees_cons_walk (aO (hk pins _ σ _ _ I1 (q _ hn)) λu s2 ⟨x,H2,I2,rx,q2⟩=>aO (hv pins s2 σ H2 _ I2 q2) λr s3 ⟨y,H3,I3,ry,e,b,kk,ex,eb,q3⟩=>pairTrees_nil_walk ?_));subst ex;cases rx;let#[z,hd,xs,rel,dd]:=QP I3.az e;cases rel;apply iX ?_;apply ae ?_;simp only[wD,uP];apply ae (ae (wpAny_dictSet_heap (hsz:=by simp) (show (tupleKind (fh X.prog X.w)).room X.A from Nat.lt_of_succ_lt hu) (Bt I3.az eb) dd λh' xQ hs=>aE (aE (aE (aE (aE ?_))))));let#[ob,es,ep,hq,h2,h3,h4,_,h5]:=xQ;apply#[.ref s.heap.objs.size,_,MZ (ob:=.dT [(kk,y)]) I3 (by rw[e];exact True.intro) hs #[ob,hq] #[zl,hd,_,(KT.put (H:=H3) (kvs:=[]) (xs:=[]) .nil kk eb ry).keeps λc ys ec=>?_,ob,es,ep,hq,h2,h3,h4,h5],Z,q3];rw[aw (bK ec e nofun)];exact ec
open PySem.Builtin PySem.Builtin.Str
theorem To:∀{ss:af} {us:aj},Vals (ss.map V.str) us->StrsAre us ss
 |[],_,.nil=>.nil
 |x::ss,_,.cons r rs=>by
  let#[t,rfl]:=r;exact .cons x t (To rs)
end L2
namespace hY
open PySem PySem.W PyProof.Rows
end hY
namespace L2
open PySem PySem.Spec PyProof.Rows PySem.W hY
section
variable{X:Cx}{o i e value:Expr}{pos pos' JM:Pos}{td ty tv:TE}
end
section
variable{X:Cx}{CX:uR}{k:Nat}{f C:Addr}{fd:Ae}{ps ks:af}{sp:Sp}{E:XK}{m:Str}{pos apos:Pos}{e o:Expr}{es:List Expr}{Ba:List Keyword}{ta:TE}{t tk:TA}{g:aj->aj->aj}{gV:ag->ag->ag}
end
structure FunD (K:ai) (x qual:Str) (st:Stmt) (f:Addr) (fd:Ae):Prop where
 ex:∃(oc:Aa) (od:Option Addr) (T:Addr) (kV doc pm:Aa) (an:Option Addr) (aN ct:Aa) (ka:Array (Option Aa)) (o:Obj) (n:Nat),
  fd=PySem.W.fnOf x qual (jL st) (iF st) (bg st) (.ref T) kV doc pm an aN ct/\K.lookup f=some #[oc,od,.func fd,ka]/\PySem.W.codeIn K aN qual=true/\K.lookup T\o/\o.data=.seq (List.toArray [.none]) n
open AutoSeq1 (wpAny_loadPart')
variable{prog:Ad}{w:Ag}
theorem cX_(r:Addr)(o:Obj)(hc:o.cls=.type "dict_values")(φ:aj->Ab->Prop) :
  MeetsIn prog w (Builtin.«tuple.__new__» #[[.type "tuple",.ref r],[]]) (λA R s=>s.heap.get? r\o/\A.handled=none/\(∀(A':Af) (E':Aa->Ab->Prop) (Rr:aj->Ab->Prop),A'.handled=none->(∀vs s1,φ vs s1->Rr vs s1)->wpAny (model prog w) A' (collect (.ref r)) Rr E' s)/\∀vs s1,φ vs s1->vs.length<=sizeLine/\R (.ok (.ret (.ref s1.heap.objs.size))) { s1 with heap:=s1.heap.push { cls:=.type "tuple",data:=.seq vs.toArray } }):=
 .of_wp λA R s h=>by
  let#[hp,g,d,tk,os]:=s;let#[ht,hh,col,h]:=h;let zw:=sub_tuple_self;let RF:=init_tuple_lookup;let hmh:=madeHere_tuple;have hT:Shared.TypeIs #[hp,g,d,tk,os] (.ref r) "dict_values":=#[o,ht,hc];have N5:∀{Rr:aj->Ab->Prop} {E':Aa->Ab->Prop},(∀vs s1,φ vs s1->Rr vs s1)->wpAny (model prog w) A.in1 (collect (.ref r)) Rr E' #[hp,g,d,tk,os]:=λh=>col A.in1 _ _ hh h
  wp_walk using oV ht,wpAny_typeOf hT,N5
  intro vs s1 hv;let#[hz,h]:=h vs s1 hv;apply (show wpAny _ _ (Builtin.Tuple.tupleExact vs.toArray >>= λv=>ret v) _ _ _ from ?_);unfold Builtin.Tuple.tupleExact;apply ae (pI ?_ (by show vs.toArray.size<=sizeLine;simpa using hz));exact aE #[_,Z,h]
inductive w_ (xs:ag) (H:Hp) (Q:VK):Prop
 |mk:∀v d kvs,xs=[.ref v]->H v\uC v d->H d\.dK kvs->(∀l,H l=none->Q (.ref l) (upd H l (.tup (kvs.map (·.2)))))->w_ xs H Q
variable{X:Cx}
theorem fW_(hc:X.calm=true):gn X (.type "tuple") w_:=by
 intro pins s σ H xs us Q I r h;let#[v,d,kvs,rfl,hv,hd,q]:=h;let#[u,rfl,ru]:=vals1 r;cases ru;let#[z,hdn,vs,rel,dd]:=jN I.az (.inl hd);let#[ep,dat]:=dd.dictAt;let#[iv,_,_]:=I.az v _ hv;let hl:=rel.length;let#[o,ho,oc,_]:=id iv
 have col:∀(A':Af) (E':Aa->Ab->Prop) (Rr:aj->Ab->Prop),A'.handled=none->(∀ws s1,(Inv X pins σ H s1/\Vals (kvs.map (·.2)) ws)->Rr ws s1)->wpAny (model X.prog X.w) A' (collect (.ref v)) Rr E' s:=λA' E' Rr hh q=>by
  apply kdu_collect (kdl_values (knd:=fh X.prog X.w) (kvs:=vs) (ep:=ep)) hh #[iv,dat] Z1 λh' tk acc k a=>q _ _ #[I.kept k,?_];have a':ItemsOf (λi v=>∃k,vs[i]? = some (k,v)) acc (kvs.map (·.2)).length:=by rw[ak,hl];exact a
  apply Ji a' λj v ⟨k,e⟩ y hy=>?_;rw[di] at hy;cases e3:kvs[j]? with
  |none=>rw[e3] at hy;cases hy
  |some kv=>
   rw[e3] at hy;let#[u,hu,ru]:=Mq rel j (k:=kv.1) (x:=kv.2) e3;rw[e] at hu;let hu:=cY hu;have g2:v=u:=d5 Prod.snd hu;cases (cY hy:kv.2=y);rw[g2];exact ru
 apply callType_newIn F.called_tuple (by decide) (F.typeCall_tuple_1 _) (F.newCall_tuple_1 _) (λobj=>F.args_object_init_2 obj _) F.entry_tuple_new
  (cX_ v o oc λws s1=>Inv X pins σ H s1/\Vals (kvs.map (·.2)) ws) #[ho,I.ok.hd hc,col,λws s1 ⟨I1,r1⟩=>#[?_,#[_,cz _ Z,Z],?_]]
 ·rw[<- r1.length,ak];exact z
 exact#[.ref s1.heap.objs.size,_,I1.laid (t':=s1.toks) (λb o e=>aU _ e) (a_ _) (show ft X.prog X.w _ _ _ (.tup (kvs.map (·.2))) from #[by rw[ak];exact z,ws,r1,IsTup.new _ _,_,cz _ Z,Z]),Z,q _ (I1.az.fresh (a_ _))]
theorem hV_{A:Af}{E:Aa->Ab->Prop}{s:Ab}{t b:Addr}{ws:aj}{Q:Aa->Ab->Prop}(ht:IsTup s.heap t #[])(hb:IsTup s.heap b ws.toArray)(h:Q (.ref b) s):wpAny (model prog w) A (binaryOp .Add (.ref t) (.ref b)) Q E s:=by
 let#[#[cls,dd,data,sl],ho,hc,n,hd]:=id ht;let#[#[N7,Ij,data2,F3],fq,ko,n2,hd2]:=id hb;simp only at hc hd ko hd2;subst hc hd ko hd2;exact concat_meets #[_,ho,Z] #[_,fq,Z] noFill_tuple_add seq_tuple_add PySem.F.slot_tuple_add PySem.F.entry_tuple_add (PySem.F.args_tuple_add_2 _ _) (tuple_addW0 t b #[] ws.toArray n n2 dd Ij sl F3 Z) #[ho,fq,h]
inductive xi (x:V) (y:V) (H:Hp) (Q:VK):Prop
 |mk:∀a b xs ys,x=.ref a->y=.ref b->H a\.tup xs->H b\.tup ys->xs.length+ys.length<=sizeLine->(∀p H',aa H H'->H' p\.tup (xs++ys)->Q (.ref p) H')->xi x y H Q
theorem Ig:dJ X (binaryOp .Add) xi:=by
 intro pins s σ H x y v u Q I rx ry h;let#[a,b,xs,ys,rfl,rfl,ha,hb,hz,q]:=h;cases rx;cases ry;let#[its,r1,p1,_]:=I.tuple (.of ha);let#[ie,r2,p2,_]:=I.tuple (.of hb);by_cases z:its=[]
 ·subst z;let e:=r1.nv.mp rfl;exact hV_ p1 p2 ⟨.ref b,H,I,rfl,q _ _ (aa.refl H) (by rw[e];exact hb)⟩
 apply HT.v_ p1 p2 z (λz2=>⟨.ref a,H,I,rfl,q _ _ (aa.refl H) ?_⟩) (λz2=>?_) (by rw[<- r1.length,<- r2.length];exact hz)
 ·rw[r2.nv.mp z2,List.append_nil];exact ha
 apply⟨.ref s.heap.objs.size,_,I.laid (t':=s.toks) (o:=.tup (xs++ys)) (λb ob q=>aU _ q) (a_ _) ?_,rfl,q _ _ (aa.new (I.az.fresh (a_ _))) ax⟩;exact⟨by rw[d9];exact hz,_,r1.append r2,IsTup.new _ _,_,cz _ rfl,rfl⟩
end L2
namespace hY
open PySem PySem.W PyProof.Rows
variable{prog:Ad}{w:Ag}
theorem fs_(d:Addr)(es:Array DictEntry)(ep:Nat)(hd:(d == sysModules)=false):MeetsIn prog w (Builtin.«dict.__len__» ⟨[.ref d],[]⟩) (λ_ R s=>Raw s.heap d es ep/\R (.ok (.ret (.int es.size s.toks))) { s with toks:=s.toks+1 }):=
 .of_wp λA R s ⟨hm,h⟩=>by
  let#[o,ho,hc,jE]:=hm;apply (show wpAny _ _ (dictSize d >>= _) _ _ s from ?_);unfold dictSize;apply ae (ae (wpAny_dictEntries ho jE (aE ?_)));apply (show wpAny _ _ (Builtin.Dict.pendingCount d >>= _) _ _ s from ae (wpAny_pendingCount_other hd ?_));apply wpAny_ret_mkInt ?_;rw[Nat.add_zero];exact h
theorem gW_{A:Af}{E:Aa->Ab->Prop}{s:Ab}{d:Addr}{es:Array DictEntry}{ep:Nat}{Q:Aa->Ab->Prop}(hd:(d == sysModules)=false)(hm:Raw s.heap d es ep)(hfit:(es.size:Int)<2 ^ 63)(h:Q (.int es.size (s.toks+1)) { s with toks:=s.toks+1+1 }):wpAny (model prog w) A (call (.builtin "len") [.ref d]) Q E s:=by
 apply Calls.call_function_entry kind_len plain_len entry_len (args_len1 _) ?_;unfold Builtin.«len»;apply ae (m:=oneArg "len" _) (aE ?_);apply ae (m:=callSpecial? (.ref d) (Str.ofString "__len__")) (uE (name:=Str.ofString "__len__") hm.ty F.slot_dict_len (call_meetsIn F.slot_dict_len hm.ty F.entry_dict_len (F.args_dict_len_1 _) (fs_ d es ep hd) #[hm,?_]));apply (show wpAny _ _ _ _ _ { s with toks:=s.toks+1 } from ae (iX (aE ?_)));apply ae (wpAny_letGo ?_);apply (show wpAny _ _ (if ((es.size:Nat):Int)<0 then _ else _) _ _ _ from ?_);rw[aA Z1];apply (show wpAny _ _ (if ((es.size:Nat):Int) ≥ 2 ^ 63 then _ else _) _ _ _ from ?_);rw[aA Z1];exact ae (wpAny_mkInt (aE #[_,Z,h]))
end hY
namespace L2
open PySem PySem.Spec PyProof.Rows PySem.W hY
inductive UG (xs:ag) (H:Hp) (Q:VK):Prop
 |mk:∀a kvs,xs=[V.ref a]->H a\.dT kvs->Q (.int kvs.length) H->UG xs H Q
theorem Ug{X:Cx}:gn X (.builtin "len") UG:=by
 intro pins s σ H xs us Q I r h;let#[a,kvs,rfl,ha,q]:=h;let#[u,rfl,ru]:=vals1 r;cases ru;let#[z,hd,xs,rel,o,es,ep,ho,hc,jE,vN,nd]:=I.az a _ ha
 have l1:es.size=xs.length:=by
  have:=d5 List.length vN;simpa using this
 let l2:=br rel;let sz:=cX;apply gW_ (es:=es) (ep:=ep) hd ⟨o,ho,hc,jE⟩ Z1 ⟨.int kvs.length,H,I.tok _,⟨_,by rw[l2,<- l1]⟩,q⟩
end L2
namespace Ev
open PySem L2
abbrev ao:=af
def sK(s:ao):aC:=s.map Sum.inr
abbrev sV(s:ao):ag:=s.map V.str
theorem qO(s:ao):(sK s).map kV=sV s:=by
 unfold sK;rw[cg];rfl
variable{a:ao}
theorem My{b:ao}(h:sK a=sK b):a=b:=by
 unfold sK at h;exact List.map_inj_right (λx y e=>hJ e) |>.mp h
inductive Wk (N:ao->ao->Prop) (s0:ao):Nat->ao->Prop
 |z:Wk N s0 0 s0
 |s {k:Nat} {a b:ao}:Wk N s0 k a->N a b->Wk N s0 (k+1) b
def Ds(N:ao->ao->Prop)(s0:ao)(k:Nat)(s:ao):Prop:=Wk N s0 k s/\∀j,j<k->¬Wk N s0 j s
variable{N:ao->ao->Prop}{s0:ao}
theorem Wk.ds:∀{k:Nat} {s:ao},Wk N s0 k s->∃j,j<=k/\Ds N s0 j s:=λ{k s} h=>by
 induction k using Nat.strongRecOn with
 |_ k ih=>
  by_cases c:∃j,j<k/\Wk N s0 j s
  ·let#[j,hj,hw]:=c;let#[i,hi,d]:=ih j hj hw;exact#[i,by omega,d]
  exact#[k,a_ _,h,λj hj hw=>c #[j,hj,hw]]
variable{s:ao}
theorem Ds.prev{k:Nat}(h:Ds N s0 (k+1) s):∃a,Ds N s0 k a/\N a s:=by
 let#[hw,hn]:=h;cases hw with
 |@s _ a _ ha xG=>exact#[a,#[ha,λj hj hw=>hn (j+1) Z1 (.s hw xG)],xG]
theorem Ds.down:∀{k:Nat} {s:ao},Ds N s0 k s->∀i,i<=k->∃t,Ds N s0 i t
 |0,s,h,i,hi=>#[s,by rw[show i=0 by omega];exact h]
 |k+1,s,h,i,hi=>by
  by_cases c:i=k+1
  ·exact#[s,by rw[c];exact h]
  let#[a,ha,_]:=h.prev;exact ha.down i Z1
variable{j:Nat}
theorem Ds.inj{k:Nat}(h:Ds N s0 j s)(h2:Ds N s0 k s):j=k:=by
 rcases Nat.lt_trichotomy j k with c|c|c
 ·exact absurd h.1 (h2.2 j c)
 ·exact c
 exact absurd h2.1 (h.2 k c)
structure Bf (N:ao->ao->Prop) (s0:ao) (k:Nat) (ks nw:List ao):Prop where
 nd:ks.Nodup
 nn:nw.Nodup
 all:∀s,s∈ks ↔ ∃j,j<=k/\Wk N s0 j s
 new:∀s,s∈nw ↔ Ds N s0 k s
structure Wd (old seen ks fd:List ao):Prop where
 nd:ks.Nodup
 nf:fd.Nodup
 all:∀s,s∈ks ↔ s∈old∨s∈seen
 new:∀s,s∈fd ↔ s∈seen/\s∉old
variable{old:List ao}
theorem Wd.start(nd:old.Nodup):Wd old [] old []:=#[nd,.nil,by simp,by simp]
variable{fd ks seen:List ao}
theorem Wd.skip(h:Wd old seen ks fd)(ha:a∈ks):Wd old (seen++[a]) ks fd:=by
 apply#[h.nd,h.nf,λs=>?_,λs=>?_]
 ·rw[h.all,d8,eU];apply#[λx=>x.imp id .inl,λx=>?_];rcases x with x|x|rfl
  ·exact .inl x
  ·exact .inr x
  exact (h.all _).mp ha
 rw[h.new,d8,eU];apply#[λ⟨x,y⟩=>#[.inl x,y],λ⟨x,y⟩=>#[?_,y]];rcases x with x|rfl
 ·exact x
 exact ((h.all _).mp ha).resolve_left y
theorem Wd.add(h:Wd old seen ks fd)(ha:a∉ks):Wd old (seen++[a]) (ks++[a]) (fd++[a]):=by
 have no:a∉old:=λx=>ha ((h.all _).mpr (.inl x));have nf:a∉fd:=λx=>ha ((h.all _).mpr (.inr ((h.new _).mp x).1));apply#[?_,?_,λs=>?_,λs=>?_]
 ·rw[List.nodup_append];exact#[h.nd,by simp,λx hx y hy e=>ha (by rw[<- eU.mp hy,<- e];exact hx)]
 ·rw[List.nodup_append];exact#[h.nf,by simp,λx hx y hy e=>nf (by rw[<- eU.mp hy,<- e];exact hx)]
 ·rw[d8,d8,h.all];constructor
  ·rintro ((x|x)|x)
   ·exact .inl x
   ·exact .inr (.inl x)
   exact .inr (.inr x)
  rintro (x|x|x)
  ·exact .inl (.inl x)
  ·exact .inl (.inr x)
  exact .inr x
 rw[d8,d8,h.new,eU];constructor
 ·rintro (⟨x,y⟩|rfl)
  ·exact#[.inl x,y]
  exact#[.inr Z,no]
 rintro⟨x|x,y⟩
 ·exact .inl #[x,y]
 exact .inr x
theorem Bf.start:Bf N s0 0 [s0] [s0]:=by
 have w0:∀s,Wk N s0 0 s ↔ s=s0:=λs=>#[λh=>by cases h;rfl,λh=>by rw[h];exact .z];apply#[by simp,by simp,λs=>?_,λs=>?_]
 ·rw[eU,<- w0];exact#[λh=>#[0,a_ _,h],λ⟨j,hj,h⟩=>by rw[show j=0 by omega] at h;exact h]
 rw[eU,<- w0];exact#[λh=>#[h,λj hj=>by omega],λh=>h.1]
theorem Bf.next{k:Nat}{nw iP:List ao}(B:Bf N s0 k ks nw)(W:Wd ks seen iP fd)(hs:∀s,s∈seen ↔ ∃a∈nw,N a s):Bf N s0 (k+1) iP fd:=by
 have key:∀s,Wk N s0 (k+1) s->(∃j,j<=k/\Wk N s0 j s)∨s∈seen:=λs h=>by
  cases h with
  |@s _ a _ ha xG=>
   by_cases c:∃j,j<k/\Wk N s0 j a
   ·let#[j,hj,hw]:=c;exact .inl #[j+1,by omega,.s hw xG]
   exact .inr ((hs s).mpr #[a,(B.new a).mpr #[ha,λj hj hw=>c #[j,hj,hw]],xG])
 have sw:∀s,s∈seen->Wk N s0 (k+1) s:=λs h=>by
  let#[a,ha,hn]:=(hs s).mp h;exact .s ((B.new a).mp ha).1 hn
 apply#[W.nd,W.nf,λs=>?_,λs=>?_]
 ·rw[W.all,B.all];constructor
  ·rintro (⟨j,hj,h⟩|h)
   ·exact#[j,by omega,h]
   exact#[k+1,a_ _,sw s h]
  rintro⟨j,hj,h⟩;by_cases c:j=k+1
  ·rw[c] at h;exact key s h
  exact .inl #[j,by omega,h]
 rw[W.new,B.all];constructor
 ·rintro⟨h,n⟩;exact#[sw s h,λj hj hw=>n #[j,by omega,hw]]
 rintro⟨h,n⟩;have no:¬∃j,j<=k/\Wk N s0 j s:=λ⟨j,hj,hw⟩=>n j Z1 hw;exact#[(key s h).resolve_left no,no]
theorem Bf.last{k:Nat}(B:Bf N s0 k ks [])(h:Ds N s0 j s):j<k:=by
 by_cases c:j<k
 ·exact c
 let#[t,ht]:=h.down k Z1;exact absurd ((B.new t).mpr ht) Z2
def oX(ns:af):Nat->List ao
 |0=>[[]]
 |n+1=>ns.flatMap λh=>(oX ns n).map (h::·)
theorem Ta(ns:af):∀n,(oX ns n).length=ns.length ^ n
 |0=>rfl
 |n+1=>by
  unfold oX;rw[List.length_flatMap];have:(ns.map λh=>((oX ns n).map (h::·)).length)=ns.map λ_=>ns.length ^ n:=uL λh _=>by rw[ak,Ta ns n]
  rw[this,List.map_const',List.sum_replicate_nat,Nat.pow_succ,Nat.mul_comm]
theorem Tc{ns:af}:∀{n:Nat} {s:ao},s.length=n->(∀h∈s,h∈ns)->s∈oX ns n
 |0,s,e,_=>by rw[List.length_eq_zero_iff.mp e];exact eU.mpr Z
 |n+1,[],e,_=>by cases e
 |n+1,h::s,e,hm=>by
  unfold oX;rw[List.mem_flatMap];exact#[h,hm h Z2,bC.mpr #[s,Tc ⇑e (λx hx=>hm x (by simp[hx])),Z]]
variable{ns:af}
theorem IH{n:Nat}{l:List ao}(nd:l.Nodup)(h:∀s∈l,s.length=n/\∀x∈s,x∈ns):l.length<=ns.length ^ n:=by
 rw[<- Ta];exact List.Nodup.length_le_of_subset nd λs hs=>Tc (h s hs).1 (h s hs).2
def r6(hs:Xa)(ts:Xb)(q:Pc)(h:Str):af:=(near (aS hs) (bM ts) h).filter λo=>Bj hs ts q.2.2 (some h) (some o)
structure Mv (hs:Xa) (ts:Xb) (qs:aM) (a b:ao) (m:Str × Str × Str):Prop where
 ex:∃(k:Nat) (q:Pc) (h h':Str),qs[k]? = some q/\a[k]? = some h/\h'∈r6 hs ts q h/\b=a.set k h'/\m=(q.1,h,h')
def Nx(hs:Xa)(ts:Xb)(qs:aM)(a b:ao):Prop:=∃m,Mv hs ts qs a b m
structure Vs (hs:Xa) (qs:aM) (a:ao):Prop where
 len:a.length=qs.length
 g_:∀h∈a,h∈aS hs
theorem Nx.vs{hs:Xa}{ts:Xb}{qs:aM}{b:ao}(h:Nx hs ts qs a b)(v:Vs hs qs a):Vs hs qs b:=by
 let#[m,k,q,x,y,h1,h2,h3,rfl,_]:=h;apply#[by rw[List.length_set];exact v.len,λz hz=>?_];rcases List.mem_or_eq_of_mem_set hz with h|rfl
 ·exact v.g_ z h
 exact (jS.mp (jS.mp h3).1).1
theorem Wk.vs{hs:Xa}{ts:Xb}{qs:aM}(v:Vs hs qs s0):∀{k:Nat} {s:ao},Wk (Nx hs ts qs) s0 k s->Vs hs qs s:=λh=>by
 induction h with
 |z=>exact v
 |s _ n ih=>exact n.vs ih
inductive wF (hs:Xa) (ts:Xb) (qs:aM):ao->List (Str × Str × Str)->ao->Prop
 |nil {a:ao}:wF hs ts qs a [] a
 |cons {a b c:ao} {m:Str × Str × Str} {ms:List (Str × Str × Str)}:Mv hs ts qs a b m->wF hs ts qs b ms c->wF hs ts qs a (m::ms) c
def ML(hs:Xa)(qs:aM)(f:bq)(a b:Int):Prop:=∀x∈aS hs,∀y∈aS hs,b * (fJ hs qs f x - fJ hs qs f y)<=a * fD hs
variable{a b r:Int}
theorem Y_{hs:Xa}{qs:aM}{f:bq}(R:Bz hs qs f r)(hb:0<b):ML hs qs f a b ↔ b * r<=a * fD hs:=by
 let#[x,hx,y,hy,rfl,up]:=R;constructor
 ·exact λh=>h x hx y hy
 intro h z hz u hu;let h1:=(up z hz).1;let h2:=(up u hu).2;have:b * (fJ hs qs f z - fJ hs qs f u)<=b * (fJ hs qs f x - fJ hs qs f y):=Int.mul_le_mul_of_nonneg_left Z1 Z1;omega
theorem hR_{M:Int}(hr:0<=r)(hM:0<M):a * (fr r M).2<(fr r M).1 * b ↔ a * M<r * b:=by
 have g0:0<(Int.gcd r M:Int):=by
  have:Int.gcd r M≠0:=λe=>by
   have:=Int.gcd_eq_zero_iff.mp e;omega
  omega
 have e1:(fr r M).1 * (Int.gcd r M:Int)=r:=Int.ediv_mul_cancel (Int.gcd_dvd_left ..);have e2:(fr r M).2 * (Int.gcd r M:Int)=M:=Int.ediv_mul_cancel (Int.gcd_dvd_right ..);have h1:a * (fr r M).2 * (Int.gcd r M:Int)=a * M:=by rw[Int.mul_assoc,e2]
 have h2:(fr r M).1 * b * (Int.gcd r M:Int)=r * b:=by rw[Int.mul_right_comm,e1]
 rw[<- h1,<- h2];exact#[λh=>Int.mul_lt_mul_of_pos_right h g0,λh=>Int.lt_of_mul_lt_mul_right h (iz g0)]
def nR(ns:af)(s:ao):bq:=λn=>((ns.zip s).lookup n).getD n
theorem Bu(nd:ns.Nodup){k:Nat}{n h:Str}(hn:ns[k]? = some n)(hh:s[k]? = some h):nR ns s n=h:=by
 unfold nR
 have:(ns.zip s).lookup n\h:=by
  induction ns generalizing s k with
  |nil=>cases hn
  |cons m ns ih=>
   cases s with
   |nil=>cases hh
   |cons x s=>
    cases k with
    |zero=>
     cases cY hn;cases cY hh;simp[List.lookup]
    |succ k=>
     have hn:ns[k]? = some n:=⇑hn
     have hh:s[k]? = some h:=⇑hh
     have ne:(n == m)=false:=by
      rw[beq_eq_false_iff_ne];intro e;subst e;exact (jk.mp nd).1 (cQ hn)
     rw[List.zip_cons_cons,pO,ne];exact ih (jk.mp nd).2 hn hh
 rw[this];rfl
theorem QY(nd:ns.Nodup)(hl:s.length=ns.length):((ns.zip (sV s)).map λp=>((Sum.inr p.1:Key),p.2))=d7 ns (nR ns s):=by
 apply List.ext_getElem? ?_;intro k;unfold d7 dW;rw[di,di];by_cases c:k<ns.length
 ·have h1:ns[k]? = some ns[k]:=aP c;have h2:s[k]? = some (s[k]' Z1):=aP Z1
  have h3:(ns.zip (sV s))[k]? = some (ns[k],V.str (s[k]' Z1)):=by
   rw[List.getElem?_zip_eq_some];exact#[h1,by rw[di,h2];rfl]
  rw[h3,h1,Option.map_some,Option.map_some];dsimp only;rw[Bu nd h1 h2]
 rw[List.getElem?_eq_none (by rw[List.length_zip];omega),List.getElem?_eq_none Z1];rfl
end Ev
namespace L2
open PySem PySem.Spec PyProof.Rows PySem.W
theorem Tu{i:Int}(h:-(2 ^ 250)<i/\i<2 ^ 250):Builtin.Int.intBits i<=250:=by
 rw[intBits_le_iff];omega
def FU(i j:Int):Prop:=(-(2 ^ 250)<i/\i<2 ^ 250)/\(-(2 ^ 250)<j/\j<2 ^ 250)
theorem SB{X:Cx}:dJ X (binaryOp .Mult) (rI FU λi j=>.int (i * j)):=A8 λi j _ _ _ _ _ hc q=>mul_int q (by
 let h1:=Tu hc.1;let h2:=Tu hc.2;let e:=bitsLine_eq;unfold IntMulOk Builtin.Int.intTooBig;have z:¬((Builtin.Int.intBits i:Int)+(Builtin.Int.intBits j:Int) > (bitsLine:Int)):=by omega
 simp[z])
end L2
namespace Ev
open PySem L2
variable{f0:Addr}{fd:Ae}
section v
theorem ql:bG ["thing","least"] ["thing","least"] (bg NC):=bQ
def Np:Sp:=λvs H Q _=>∃i a:Int,vs=[.int i,.int a]/\Q (.bl (decide (a<=i))) H
theorem gk_(F:bx K "is_whole_from" "is_whole_from" NC f0 fd)(cI:!bw 1 "is_whole" fW mO):!aq bh 2 f0 fd ["thing","least"] Np:=by
 exists F.bP ql;let#[i,a,rfl,k]:=h;apply#[_,aF (bu (s_ (aZ cI hr %[0|0]) (uF (wk xJ (pv 1) (pv 0))))),?_];exact#[_,Z,i,Z,_,Z,df #[_,Z,_,Z,_,_,Z,Z,k]]
structure pB (l:Int × Int):Prop where
 b1:1<=l.2
 b2:l.2<2 ^ 200
 a1:-(2 ^ 200)<l.1
 a2:l.1<2 ^ 200
 g:Int.gcd l.1 l.2=1
abbrev gJ(H:Hp)(t:Addr)(x:Int × Int):Prop:=H t=some (.tup [.int x.1,.int x.2])
theorem yP:bG fW fW (bg qP):=bQ
def qf:Sp:=λvs H Q _=>∃(t:Addr) (l:Int × Int),vs=[.ref t]/\gJ H t l/\pB l/\Q (.bl true) H
theorem _k{f:Addr}(F:bx K "is_fraction" "is_fraction" qP f fd)(B:Bi mg)(KQ:mg "abs"=none)(cI:!bw 1 "is_whole" fW mO)(cF:!bw 2 "is_whole_from" ["thing","least"] Np)(cG:!bw 1 Bo md u0):!aq bh 3 f fd fW qf:=by
 exists F.bP yP;let#[t,l,rfl,ht,lo,k]:=h;refine' #[_,av ?s1 (av ?s2 (aF ?s3)),?kk]
 case s1=>exact b_ (oT (eV (eO (cJ jR (by rfl) B.ja jh %[0,jP (v:=.ty "tuple") (by rfl) B.tuple uI Z|0]))) (pK (fF sW (cJ iy (by rfl) B.len gC %[0|0]) aB))).pt (aF (bu iV)) cm
 case s2=>exact b_ (oT (eV (eO (aZ cI hr %[bo cZ (pv 0) aB|0]))) (pK (eV (eO (aZ cF hr %[bo cZ (pv 0) aB,aB|0]))))).pt (aF (bu iV)) cm
 case s3=>exact bu (wk G7 (aZ cG hr %[cJ hI_ (by rfl) KQ PyProof.Rows.Boot.«abs» %[bo cZ (pv 0) aB|0],bo cZ (pv 0) aB|0]) aB)
 apply#[_,Z,_,_,_,_,Z,.tup ht,Z,_,Z,aK ?_];apply#[_,Z,t,_,Z,.inr (.of ht),Z,_,Z,?_];apply Aq (show V.int ((2:Nat):Int)=V.int 2 from Z) ?_;apply#[_,Z,t,_,_,_,Z,Z,.of ht,Z,l.1,Z,_,Z,aK ?_];apply#[_,Z,t,_,_,_,Z,Z,.of ht,Z,l.2,1,Z,_,Z,?_];rw[c_ lo.b1];apply aK ?_;apply#[_,Z,t,_,_,_,Z,Z,.of ht,Z,l.1,Z,_,Z,t,_,_,_,Z,Z,.of ht,Z,_,l.2,Z,?_,lo.b1,?_]
 ·split<;>omega
 have e:Int.gcd (if l.1<0 then -l.1 else l.1) l.2=1:=by
  split
  ·rw[Int.neg_gcd];exact lo.g
  exact lo.g
 rw[e];exact#[Z,k]
theorem yN:bG md md (bg qN):=bQ
def Sm(x:Int × Int):Prop:=(-(2 ^ 250)<x.1/\x.1<2 ^ 250)/\(-(2 ^ 250)<x.2/\x.2<2 ^ 250)
inductive kX (vs:ag) (H:Hp) (Q:VK) (E:XK):Prop
 |mk:∀(t u:Addr) (x y:Int × Int),vs=[.ref t,.ref u]->gJ H t x->gJ H u y->Sm x->Sm y->Q (.bl (decide (x.1 * y.2<y.1 * x.2))) H->kX vs H Q E
theorem YZ{f:Addr}(F:bx K "is_less" "is_less" qN f fd):!aq bh 1 f fd md kX:=by
 exists F.bP yN;let#[t,u,x,y,rfl,ht,hu,sx,sy,k]:=h;refine' #[_,aF ?s1,?kk]
 case s1=>exact bu (wk QR (bN SB (bo cZ (pv 0) aB) (bo cZ (pv 1) aB)) (bN SB (bo cZ (pv 1) aB) (bo cZ (pv 0) aB)))
 apply#[_,Z,t,_,_,_,Z,Z,.of ht,Z,_,Z,u,_,_,_,Z,Z,.of hu,Z,_,_,Z,Z,#[sx.1,sy.2],?_];exact#[_,Z,u,_,_,_,Z,Z,.of hu,Z,_,Z,t,_,_,_,Z,Z,.of ht,Z,_,_,Z,Z,#[sy.1,sx.2],_,_,Z,Z,k]
theorem yS:bG fW fW (bg qX):=bQ
def qi:Sp:=λvs H Q _=>∃(t:Addr) (l:Int × Int),vs=[.ref t]/\gJ H t l/\pB l/\Q .non H
theorem ZE{f:Addr}(F:bx K "check_limit" "check_limit" qX f fd)(cF:!bw 3 "is_fraction" fW qf):!aq bh 4 f fd fW qi:=by
 exists F.bP yS;let#[t,l,rfl,ht,lo,k]:=h;apply#[_,aF (b_ (eV (eO (aZ cF hr %[0|0]))) gr cm),?_];exact#[_,Z,t,l,Z,ht,lo,_,Z,aK k]
structure Gs (K:ai) (CG CW:Addr) (H:Hp) (g p:Addr) (hs:Xa) (ts:Xb) (qs:aM) (fp:au):Prop where
 G:gq K CG CW H g p hs ts qs fp
 Gd:Good hs ts
 nd:(qs.map (·.1)).Nodup
 bX:qs.length<64
 wp:∀q∈qs,0<=q.2.1/\q.2.1<=1000000000
theorem Gs.same{CG CW:Addr}{H H':Hp}{g p:Addr}{hs:Xa}{ts:Xb}{qs:aM}{fp:au}(G:Gs K CG CW H g p hs ts qs fp)(s:aa H H'):Gs K CG CW H' g p hs ts qs fp:=#[G.G.same s,G.Gd,G.nd,G.bX,G.wp]
theorem Gs.placed{CG CW:Addr}{H H':Hp}{g p d:Addr}{hs:Xa}{ts:Xb}{qs:aM}{fp:au}{f:bq}(G:Gs K CG CW H g p hs ts qs fp)(s:aa H H')(hn:H d=none)(hd:H' d\.dK (d7 (qs.map (·.1)) f))(at_:∀n∈qs.map (·.1),f n∈hs.map (·.1)):∃kr,AB K CG CW H' g p d hs ts qs kr f:=by
 let#[kr,G',h]:=G.G.slim;apply#[kr,G'.same s,G.Gd,λhm=>?_,hd,at_,G.nd,G.bX];let#[o,e]:=h d hm;rw[hn] at e;cases e
theorem Vs.at_{hs:Xa}{qs:aM}{s:ao}(v:Vs hs qs s)(nd:(qs.map (·.1)).Nodup):∀n∈qs.map (·.1),nR (qs.map (·.1)) s n∈hs.map (·.1):=λn hn=>by
 let#[k,hk,e]:=gX hn;have hl:k<s.length:=by rw[v.len];simpa using hk
 rw[Bu nd (k:=k) (by rw[aP hk,e]) (aP hl)];exact (gF hs).mem_iff.mp (v.g_ _ (kD hl))
abbrev fS(qs:aM)(s:ao):bq:=nR (qs.map (·.1)) s
theorem yH:bG ["goods","hands"] ["goods","hands"] (bg qF):=bQ
inductive kQ (K:ai) (CG CW:Addr) (vs:ag) (H:Hp) (Q:VK) (E:XK):Prop
 |mk:∀(g p t:Addr) (hs:Xa) (ts:Xb) (qs:aM) (fp:au) (s:ao),vs=[.ref g,.ref t]->Gs K CG CW H g p hs ts qs fp->H t\.tup (sV s)->s.length=qs.length->(∀d H',aa H H'->H d=none->H' d\.dK (d7 (qs.map (·.1)) (fS qs s))->Q (.ref d) H')->kQ K CG CW vs H Q E
theorem ZI{f CG CW:Addr}(F:bx K "placed_by" "placed_by" qF f fd)(B:Bi mg)(mZ:mg "zip"=none)(T:gh K CG)(cN:!bW CG 1 "names" oR (BA K CG CW)):!aq bh 2 f fd ["goods","hands"] (kQ K CG CW):=by
 exists F.bP yH;let#[g,p,t,hs,ts,qs,fp,s,rfl,G,ht,hl,k]:=h;let bX:=G.bX;apply#[_,aF (bu (fe_ (by rfl) B.dict (by rfl) mZ %[Ax cN T.cl (hr.mono (by decide)) (pv 0),1|0])),?_];let#[dx,dw,dy,vs,dG,h1,_]:=id G.G.ex;apply#[_,Z,g,dx,_,Z,h1,wz _ _ _ Z0 Z0 Z0,g,p,hs,ts,qs,fp,Z,G.G,λl gm=>?_];let#[s1,e1]:=aD (o:=.lst ((qs.map (·.1)).map V.str)) gm;generalize upd H l (.lst ((qs.map (·.1)).map V.str))=H1 at s1 e1 ⊢;apply#[_,Z,l,t,qs.map (·.1),sV s,Z,.of e1,.of (s1 _ _ ht),by rw[ak,ak];exact hl,by rw[ak];omega,λd hd=>?_];rw[QY G.nd (by rw[ak];exact hl)]
 have ke:((d7 (qs.map (·.1)) (fS qs s)).map (·.1)).Nodup:=by
  rw[AF,tN,uK];exact G.nd.imp λn e=>n (hJ e)
 rw[wC ke];exact k d _ (s1.trans (aa.new hd)) (s1.free hd) ax
theorem Sh{hs:Xa}{ts:Xb}{qs:aM}{f:bq}{r:Int}(G:Good hs ts)(wp:∀q∈qs,0<=q.2.1/\q.2.1<=1000000000)(bX:qs.length<64)(R:Bz hs qs f r):0<=r/\r<2 ^ 140:=by
 let#[x,hx,y,hy,rfl,up]:=R;let h1:=(up y hy).1;let h2:=Yo G wp bX (f:=f) hy
 have h3:fJ hs qs f x<=64000000000 * fD hs:=by
  unfold fJ;let l1:=GK wp bX f x;let mo:=Av G;let so:=Aw G hx;have q:fD hs / strOf hs x<=fD hs:=Int.ediv_le_self _ (iz mo.1);have q0:0<=fD hs / strOf hs x:=Int.ediv_nonneg (iz mo.1) Z1;exact Int.le_trans (Int.mul_le_mul_of_nonneg_left q l1.1) (Int.mul_le_mul_of_nonneg_right l1.2 (iz mo.1))
 let mo:=Av G;omega
theorem QM{r M:Int}(hr:0<=r)(jD:r<2 ^ 140)(hM:0<M)(hM2:M<2 ^ 100):0<=(fr r M).1/\(fr r M).1<2 ^ 140/\1<=(fr r M).2/\(fr r M).2<2 ^ 100/\Int.gcd (fr r M).1 (fr r M).2=1:=by
 have g0:0<Int.gcd r M:=by
  rcases Nat.eq_zero_or_pos (Int.gcd r M) with e|e
  ·have:=Int.gcd_eq_zero_iff.mp e;omega
  exact e
 have g1:0<(Int.gcd r M:Int):=by omega
 have e2:(fr r M).2 * (Int.gcd r M:Int)=M:=Int.ediv_mul_cancel (Int.gcd_dvd_right ..);have p1:0<=(fr r M).1:=Int.ediv_nonneg hr (iz g1);have p2:(fr r M).1<=r:=Int.ediv_le_self _ hr;have p3:(fr r M).2<=M:=Int.ediv_le_self _ (iz hM)
 have p4:1<=(fr r M).2:=by
  by_cases c:1<=(fr r M).2
  ·exact c
  have:(fr r M).2 * (Int.gcd r M:Int)<=0 * (Int.gcd r M:Int):=Int.mul_le_mul_of_nonneg_right Z1 (iz g1);omega
 exact#[p1,by omega,p4,by omega,Int.gcd_ediv_gcd_ediv_gcd g0]
noncomputable def fK (hs:Xa) (qs:aM) (s:ao) (l:Int × Int):Bool:=@decide (ML hs qs (fS qs s) l.1 l.2) (Classical.propDecidable _)
theorem SC{hs:Xa}{qs:aM}{s:ao}{l:Int × Int}:fK hs qs s l=true ↔ ML hs qs (fS qs s) l.1 l.2:=by
 unfold fK;exact @decide_eq_true_iff _ (Classical.propDecidable _)
theorem qu:bG og og (bg Ny):=bQ
inductive On (K:ai) (CG CW:Addr) (vs:ag) (H:Hp) (Q:VK) (E:XK):Prop
 |mk:∀(g p t lt:Addr) (hs:Xa) (ts:Xb) (qs:aM) (fp:au) (s:ao) (l:Int × Int),vs=[.ref g,.ref t,.ref lt]->Gs K CG CW H g p hs ts qs fp->H t\.tup (sV s)->Vs hs qs s->gJ H lt l->pB l->(∀H',aa H H'->Q (.bl (fK hs qs s l)) H')->On K CG CW vs H Q E
theorem gX_{f CG CW:Addr}(F:bx K "is_even" "is_even" Ny f fd)(cL:!bw 1 "is_less" md kX)(cS:!bw 6 "spread_at" nV (Jf K CG CW))(cP:!bw 2 "placed_by" ["goods","hands"] (kQ K CG CW)):!aq bh 7 f fd og (On K CG CW):=by
 exists F.bP qu;let#[g,p,t,lt,hs,ts,qs,fp,s,l,rfl,G,ht,v,hl,lo,k]:=h;apply#[_,aF (bu (Ra (aZ cL hr %[2,aZ cS hr %[0,aZ cP hr %[0,1|0]|0]|0]))),?_];apply#[_,Z,_,Z,_,Z,_,Z,g,p,t,hs,ts,qs,fp,s,Z,G,ht,v.len,λd H1 s1 n1 e1=>?_];let#[MF,Pl]:=G.placed s1 n1 e1 (v.at_ G.nd);apply#[g,p,d,hs,ts,qs,MF,fS qs s,Z,Pl,G.wp,λu r H2 s2 R e2=>?_];let rl:=Sh G.Gd G.wp G.bX R;let mo:=Av G.Gd;let fb:=QM rl.1 rl.2 mo.1 mo.2.1;apply#[lt,u,l,fr r (fD hs),Z,s2 _ _ (s1 _ _ hl),e2,?_,?_,?_]
 ·have:=lo.a1;have:=lo.a2;have:=lo.b1;have:=lo.b2;exact#[#[by omega,by omega],by omega,by omega]
 ·exact#[#[by omega,by omega],by omega,by omega]
 let kk:=k H2 (s1.trans s2)
 have e:(!decide (l.1 * (fr r (fD hs)).2<(fr r (fD hs)).1 * l.2))=fK hs qs s l:=by
  rw[Bool.eq_iff_iff,SC,Y_ R (by have:=lo.b1;omega),Bool.not_eq_true',decide_eq_false_iff_not,hR_ rl.1 mo.1,Int.not_lt,Int.mul_comm]
 apply#[_,Z,?_];rw[e];exact kk
end
structure BN (H:Hp) (d:Addr) (hs:Xa) (ts:Xb) (ns:af) (q:Pc) (ad:Str->Addr):Prop where
 at_:H d\.dK (dW ns λh=>.ref (ad h))
 is:∀h∈ns,H (ad h)\.lst ((r6 hs ts q h).map V.str)
def FS(H:Hp)(d:Addr)(hs:Xa)(ts:Xb)(q:Pc):Prop:=∃ad,BN H d hs ts (aS hs) q ad
variable{q:Pc}
theorem BN.same{H H':Hp}{d:Addr}{hs:Xa}{ts:Xb}{ns:af}{ad:Str->Addr}(h:BN H d hs ts ns q ad)(s:aa H H'):BN H' d hs ts ns q ad:=#[s _ _ h.at_,λx hx=>s _ _ (h.is x hx)]
theorem FS.same{H H':Hp}{d:Addr}{hs:Xa}{ts:Xb}(h:FS H d hs ts q)(s:aa H H'):FS H' d hs ts q:=by
 let#[ad,h]:=h;exact#[ad,h.same s]
def wI(H:Hp)(l d:Addr)(hs:Xa)(ts:Xb)(q:Pc):Prop:=∃ad,BN H d hs ts (aS hs) q ad/\∀x∈aS hs,ad x≠l
theorem wI.same{H H':Hp}{l d:Addr}{hs:Xa}{ts:Xb}(h:wI H l d hs ts q)(s:aa H H'):wI H' l d hs ts q:=by
 let#[ad,h,n]:=h;exact#[ad,h.same s,n]
def tZ(H:Hp)(l:Addr)(hs:Xa)(ts:Xb)(qs:aM):Prop:=∃ds:au,H l\.lst (ds.map V.ref)/\Paired (λd q=>FS H d hs ts q) ds qs
theorem tZ.same{H H':Hp}{l:Addr}{hs:Xa}{ts:Xb}{qs:aM}(h:tZ H l hs ts qs)(s:aa H H'):tZ H' l hs ts qs:=by
 let#[ds,h1,h2]:=h;exact#[ds,s _ _ h1,Paired.aV h2 λd q x=>x.same s]
section v
theorem Bv:bG ["goods","web","found","piece","exits","one"] ["goods"] (bg lK):=bQ
inductive M6 (K:ai) (CG CW:Addr) (vs:ag) (H:Hp) (Q:VK) (E:XK):Prop
 |mk:∀(g p:Addr) (hs:Xa) (ts:Xb) (qs:aM) (fp:au),vs=[.ref g]->Gs K CG CW H g p hs ts qs fp->(∀l H',aa H H'->H l=none->tZ H' l hs ts qs->Q (.ref l) H')->M6 K CG CW vs H Q E
theorem hP_{f CG CW CP:Addr}(F:bx K "exits_of" "exits_of" lK f fd)(T:gh K CG)(TW:Txt K mg CW)(cN:!bW CG 1 "names" oR (BA K CG CW))(cH:!bW CW 1 "hands" oR (Fs K CW))(cE:!bW CW 2 "neighbours" vY (NK K CW))(cM:!bW CG 3 "may_go" ["self","piece","one","other"] (k6 K CG CW CP)):!aq bh 4 f fd ["goods"] (M6 K CG CW):=by
 exists F.bP Bv;let#[g,p,hs,ts,qs,fp,rfl,G,k]:=h;let hu:=gf hr;let sz:=cX;let bX:=G.bX;let nl:=G.Gd.iO;let h8:=G.Gd.h8;let rG:=G.Gd.rG;have jb:aQ 1 _:=hr.mono (by decide);have jD:aQ 2 _:=hr.mono (by decide);have Bb:aQ 3 _:=hr.mono (by decide);refine' #[_,av ?s1 (av ?s2 (av ?s3 (aF ?s4))),?kk]
 case s1=>exact bj 1 Bv.nd (gG (pv 0) Z)
 case s2=>exact bj 2 Bv.nd (fN bO)
 case' s3=>refine' eW d6 Z ?i3 ?g3 (av ?b1 (av ?b2 (aF ?b3)))
 case i3=>exact dI (Ax cN T.cl jb (pv 0))
 case g3=>exact cy 3 Bv.nd
 case b1=>exact bj 4 Bv.nd FC
 case' b2=>refine' eW d6 Z ?i4 ?g4 (aF ?b4)
 case i4=>exact dI (Ax cH TW.cl jb (pv 1))
 case g4=>exact cy 5 Bv.nd
 case' b4=>refine' uD hu (pv 4) (pv 5) (iI ["other","goods","one","piece"] 1 [0,5,3] (dI (jc cE TW.cl jD (pv 1) %[5|0])) (λfp s H=>?g5) (λfp s H=>?c5) (λfp s H=>?e5)) Z
 case g5=>exact eN (i:=0) (show (["other","goods","one","piece"]:af).Nodup by decide +kernel) Z (Or.inl Z)
 case c5=>exact Ft (eO (jc cM T.cl Bb (pv 1) %[3,2,0|0]))
 case e5=>exact pv 0
 case b3=>exact ml (pA oW wa wb uJ (pv 2) %[4|0])
 case s4=>exact bu (pv 2)
 let#[dx,dw,dy,vs,dG,h1,h2,_]:=id G.G.ex;have gno:(cw p dw dy).lookup ("names":Str)=none:=wz _ _ _ Z0 Z0 Z0;have gnm:(cw p dw dy).lookup ("may_go":Str)=none:=wz _ _ _ Z0 Z0 Z0;apply#[_,Z,g,CG,dx,_,_,Z,h1,T.cl,T.nW,AQ _ _ _,?_];apply#[zl,λl hl=>?_];let#[s1,e1]:=aD (o:=.lst []) hl;generalize upd H l (.lst [])=H1 at s1 e1 ⊢;apply#[_,Z,g,dx,_,Z,s1 _ _ h1,gno,g,p,hs,ts,qs,fp,Z,G.G.same s1,λln uk=>?_];let#[s2,e2]:=aD (o:=.lst ((qs.map (·.1)).map V.str)) uk;have nln:H ln=none:=s1.free uk;have X8:ln≠l:=(bp e1 uk).symm;let el:=s2 _ _ e1;let mR:=s1.trans s2;generalize upd H1 ln (.lst ((qs.map (·.1)).map V.str))=H2 at s2 e2 el mR ⊢
 let Iv:bZ:=λi σ H'=>∃(v3 v4 v5:aL) (ds:au),σ=[some (.ref g),some (.ref p),some (.ref l),v3,v4,v5]/\aa H H'/\H' ln\.lst ((qs.map (·.1)).map V.str)/\H' l\.lst (ds.map V.ref)/\Paired (λd q=>wI H' l d hs ts q) ds (qs.take i)
 apply#[ln,Z,#[_,.of e2],hX (K:=K) (a:=ln) (xs:=(qs.map (·.1)).map V.str) Iv #[none,none,none,[],Z,mR,e2,el,.nil] (λi σ H' _ ⟨_,_,_,_,_,_,q,_⟩=>.of q) ?_ ?_]
 ·rintro i y σ H3 hy ⟨v3,v4,v5,ds,rfl,eZ,e3,uv,pd⟩;let#[n,hn,rfl]:=mj hy;rw[di,BJ] at hn;let#[q,hq,rfl]:=hn;let qm:=cQ hq;have hi:i<qs.length:=(bY.mp hq).1;intro d hd;let s4:=aa.new (o:=.dK []) hd;have e4:upd H3 d (.dK []) d\.dK (dW [] λh=>.ref d):=ax;have dn:H d=none:=eZ.free hd;let oC:=eZ.trans s4;let iE:=s4 _ _ uv;let SV:=s4 _ _ e3;let CK:=Paired.aV (G:=λa q=>wI (upd H3 d (.dK [])) l a hs ts q/\a≠d) pd λa q x=>#[x.same s4,by let#[ad,x,_]:=x;exact bp x.at_ hd];have dl:d≠l:=(bp uv hd).symm;have dln:d≠ln:=(bp e3 hd).symm;generalize upd H3 d (.dK [])=H4 at s4 e4 oC iE SV CK ⊢;let W4:=h2.same oC;let#[lZ,d1,l2,d3,wJ,as,ef,w1,_]:=id h2.ex;have VE:(fg d1 l2 d3).lookup ("hands":Str)=none:=pN _ _ _ Z0 Z0 Z0;have VF:(fg d1 l2 d3).lookup ("neighbours":Str)=none:=pN _ _ _ Z0 Z0 Z0;apply#[_,Z,p,lZ,_,Z,oC _ _ w1,VE,p,hs,ts,dG,Z,W4,λlh fV=>?_];let#[s5,e5]:=aD (o:=.lst ((aS hs).map V.str)) fV;let oB:=oC.trans s5;have hn5:H lh=none:=oC.free fV;have Yc:lh≠d:=(bp e4 fV).symm;let Tz:=s5 _ _ e4;let r_:=s5 _ _ iE;let SU:=s5 _ _ SV;let Qa:=Paired.aV (G:=λa q=>wI (upd H4 lh (.lst ((aS hs).map V.str))) l a hs ts q/\a≠d) CK λa q x=>#[x.1.same s5,x.2];generalize upd H4 lh (.lst ((aS hs).map V.str))=H5 at s5 e5 oB Tz r_ SU Qa ⊢
  let Iw:bZ:=λj σ H'=>∃(v5:aL) (ad:Str->Addr),σ=[some (.ref g),some (.ref p),some (.ref l),some (.str q.1),some (.ref d),v5]/\aa H H'/\H' ln\.lst ((qs.map (·.1)).map V.str)/\H' l\.lst (ds.map V.ref)/\H' lh\.lst ((aS hs).map V.str)/\Paired (λa q=>wI H' l a hs ts q/\a≠d) ds (qs.take i)/\BN H' d hs ts ((aS hs).take j) q ad/\∀x∈(aS hs).take j,ad x≠l
  apply#[lh,Z,#[_,.of e5],hX (K:=K) (a:=lh) (xs:=(aS hs).map V.str) Iw #[_,_,Z,oB,SU,r_,e5,Qa,#[Tz,by simp],by simp] (λj σ H' _ ⟨_,_,_,_,_,_,z,_⟩=>.of z) ?_ ?_]
  ·rintro j y σ H6 hy ⟨JC,ad,rfl,iL,MR,ur,e6,Gk,ex,Hk⟩;let#[h,hh,rfl]:=mj hy;let hm:=cQ hh;have hj:j<(aS hs).length:=(bY.mp hh).1;let lU:=(gF hs).mem_iff.mp hm;let Lz:=S_ rG hh;let W6:=h2.same iL;apply#[_,Z,p,lZ,_,Z,iL _ _ w1,VF,_,Z,p,h,hs,ts,dG,Z,W6,rG,lU,λlx kj=>?_];let#[s7,e7]:=aD (o:=.lst ((near (aS hs) (bM ts) h).map V.str)) kj;generalize upd H6 lx (.lst ((near (aS hs) (bM ts) h).map V.str))=H7 at s7 e7 ⊢;have XI:(near (aS hs) (bM ts) h).length<=8:=iH (AV ..) Z1;apply#[lx,Z,#[_,.of e7],λD hD=>?_];apply iZ (own:=1) (fv:=[some (.ref g),some (.str h),some (.str q.1)]) (xs:=(near (aS hs) (bM ts) h).map V.str) Z e_ (λi out H'=>aa H7 H'/\H' D\.lst out/\out=(((near (aS hs) (bM ts) h).take i).filter λo=>Bj hs ts q.2.2 (some h) (some o)).map V.str) #[aa.new hD,ax,Z] (λi out H' _ ⟨sm,_,_⟩=>.of (sm _ _ e7)) (λout H8 ⟨sm,hD8,eo⟩=>?_) (λi' y out H' hy ⟨sm,cK,eo⟩=>?_)
   ·rw[ak,eI] at eo;let A5:=s7.trans sm;let EV:=ex.same A5;have Dn:H6 D=none:=s7.free hD;apply#[_,Z,_,Z,d,_,Z,.k (k:=Sum.inr h) EV.at_ (by rw[jQ,dH];omega),?_];have Dd:D≠d:=λz=>by rw[z,ex.at_] at Dn;cases Dn
    apply#[_,λx=>if x=h then D else ad x,Z,fi (iL.trans A5) dn,by rw[aw dln.symm];exact A5 _ _ MR,by rw[aw dl.symm];exact A5 _ _ ur,by rw[aw Yc];exact A5 _ _ e6,Paired.aV Gk λa q ⟨⟨O_,x,xl⟩,ne⟩=>#[#[O_,?_,xl],ne],#[?_,λx hx=>?_],λx hx=>?_]
    ·let x:=x.same A5;exact#[by rw[aw ne];exact x.at_,λz hz=>by rw[aw (bK (x.is z hz) EV.at_ (by intro e;cases e))];exact x.is z hz]
    ·rw[ax,tF hh,SA Lz];exact d5 (λz=>some (HO.dK z)) (Jb λn _=>by split<;>rfl)
    ·rw[tF hh] at hx;rcases d8.mp hx with hx|hx
     ·have:x≠h:=λe=>Lz (by rw[<- e];exact hx);rw[aA this,aw (bK (EV.is x hx) EV.at_ (by intro e;cases e))];exact EV.is x hx
     rw[eU.mp hx,aI Z,aw Dd,hD8,eo];rfl
    rw[tF hh] at hx;rcases d8.mp hx with hx|hx
    ·have:x≠h:=λe=>Lz (by rw[<- e];exact hx);show (if x=h then D else ad x)≠l;rw[aA this];exact Hk x hx
    rw[eU.mp hx];show (if h=h then D else ad h)≠l;rw[aI Z];exact λz=>by rw[z,ur] at Dn;cases Dn
   let#[o,ho,rfl]:=mj hy;apply#[_,Z,Z,λNx hN=>?_];let G':=G.G.same (((iL.trans s7)).trans sm);let lY:=(iL.trans s7).trans sm _ _ h1;apply#[_,Z,g,dx,_,Z,lY,gnm,_,Z,_,Z,_,Z,g,p,.str q.1,.str h,.str o,some q.1,some h,some o,hs,ts,qs,fp,Z,G',G.nd,rG,Z,.inl #[q,qm,Z,Z,Z,λH9 s9=>#[_,Z,?_]]]
   have lo:out.length<=8:=by
    rw[eo,ak];exact iH (AV ..) (iH (by rw[dH];exact Nat.min_le_right ..) XI)
   apply cu (λc=>?_) (λc=>?_)
   ·apply#[_,Z,out,s9 _ _ cK,by omega,hN _ _ #[fi (sm.trans s9) hD,ax,?_]];rw[I_ _ ho,eS,<- eo];rw[aI c];rfl
   apply hN out _ #[sm.trans s9,s9 _ _ cK,?_];rw[I_ _ ho,eS,<- eo,aA c];simp
  rintro σ H6 ⟨JC,ad,rfl,iL,MR,ur,e6,Gk,ex,Hk⟩;rw[ak,eI] at ex Hk;let lp:=br Gk;rw[dH] at lp;apply#[_,Z,.inl #[Z,_,.of ur],_,Z,l,_,_,Z,Z,ur,by rw[ak];omega,?_];have pl:∀{a q},wI H6 l a hs ts q->wI (upd H6 l (.lst (ds.map V.ref++[.ref d]))) l a hs ts q:=λ{a q} ⟨O_,x,xl⟩=>#[O_,#[by rw[aw (bK x.at_ ur (by intro e;cases e))];exact x.at_,λz hz=>by rw[aw (xl z hz)];exact x.is z hz],xl];apply#[_,_,_,ds++[d],Z,fi iL hl,by rw[aw X8];exact MR,?_,?_]
  ·rw[ax,eS];rfl
  rw[uO,hq];exact gY (Paired.aV Gk λa q x=>pl x.1) (.cons (pl #[ad,ex,Hk]) .nil)
 rintro σ H3 ⟨v3,v4,v5,ds,rfl,eZ,e3,uv,pd⟩;rw[ak,ak,eI] at pd;exact#[_,Z,k l H3 eZ hl #[ds,uv,Paired.aV pd λa q ⟨ad,x,_⟩=>#[ad,x]]]
end
abbrev lD:Stmt:=l_ Iu 0
abbrev lC:Stmt:=l_ Iu 1
abbrev M8:Stmt:=l_ Iu 2
abbrev qE:Stmt:=l_ Iu 3
theorem Uc(f:Str)(u v:V):∀fs:List (Str × V),ay f v (ay f u fs)=ay f v fs
 |[]=>by
  show ay f v [(f,u)]=[(f,v)];show (if f=f then _ else _)=_;rw[aI Z]
 |(g,x)::r=>by
  by_cases c:g=f
  ·rw[show ay f u ((g,x)::r)=(g,u)::r from aI c,show ay f v ((g,u)::r)=(g,v)::r from aI c,show ay f v ((g,x)::r)=(g,v)::r from aI c]
  rw[show ay f u ((g,x)::r)=(g,x)::ay f u r from aA c,show ay f v ((g,x)::ay f u r)=(g,x)::ay f v (ay f u r) from aA c,show ay f v ((g,x)::r)=(g,x)::ay f v r from aA c,Uc f u v r]
def bV(x a n:Addr):List (Str × V):=ay "newest" (.ref n) (ay pH (.ref a) (ay jM (.ref x) []))
theorem W0:¬((jM:Str)=pH):=by decide +kernel
theorem WZ:¬((jM:Str)="newest"):=by decide +kernel
theorem WW:¬((pH:Str)="newest"):=by decide +kernel
theorem Y1(x a n:Addr):(bV x a n).lookup (jM:Str)\.ref x:=by
 unfold bV;rw[gg,aA WZ,gg,aA W0,gg,aI Z]
theorem Ik(x a n:Addr):(bV x a n).lookup (pH:Str)\.ref a:=by
 unfold bV;rw[gg,aA WW,gg,aI Z]
theorem MS(x a n:Addr):(bV x a n).lookup ("newest":Str)\.ref n:=by
 unfold bV;rw[gg,aI Z]
theorem Nd(x a n:Addr){m:Str}(h1:¬m=jM)(h2:¬m=pH)(h3:¬m="newest"):(bV x a n).lookup m=none:=by
 unfold bV;rw[gg,aA h3,gg,aA h2,gg,aA h1]
 all_goals rfl
structure oY (K:ai) (CR:Addr):Prop where
 cl:mB K CR
 nX:l9 K CR jM
 nA:l9 K CR pH
 nN:l9 K CR "newest"
def iu(H:Hp):ag->List ao->Prop:=Paired λy s=>∃t,y=.ref t/\H t\.tup (sV s)
theorem iu.keep{H H':Hp}{ys:ag}{l:List ao}(h:iu H ys l)(k:∀b xs,H b\.tup xs->H' b\.tup xs):iu H' ys l:=Paired.aV h λy s ⟨t,e,ht⟩=>#[t,e,k _ _ ht]
def U9(H:Hp)(v:V):Option ao->Prop
 |none=>v=.non
 |some q=>∃b,v=.ref b/\H b\.tup (sV q)
def fH(H:Hp):List (aC × V)->List (ao × Option ao)->Prop:=Paired λkv e=>kv.1=sK e.1/\U9 H kv.2 e.2
variable{kvs:List (aC × V)}
theorem fH.keep{H H':Hp}{pa:List (ao × Option ao)}(h:fH H kvs pa)(k:∀b xs,H b\.tup xs->H' b\.tup xs):fH H' kvs pa:=Paired.aV h λkv e ⟨h1,h2⟩=>#[h1,by
 cases z:e.2 with
 |none=>rw[z] at h2;exact h2
 |some q=>
  rw[z] at h2;let#[b,e1,hb]:=h2;exact#[b,e1,k _ _ hb]]
theorem fH.keys{H:Hp}:∀{kvs:List (aC × V)} {pa:List (ao × Option ao)},fH H kvs pa->kvs.map (·.1)=(pa.map (·.1)).map sK
 |_,_,.nil=>rfl
 |_,_,.cons h t=>by
  rw[eG,eG,eG,h.1,fH.keys t]
theorem fH.none{H:Hp}{pa:List (ao × Option ao)}(h:fH H kvs pa){s:ao}(hs:s∉pa.map (·.1)):aY kvs (sK s)=none:=uN (by
 rw[h.keys];intro hm;let#[x,hx,e]:=bC.mp hm;rw[<- My e] at hs;exact hs hx)
theorem fH.isSome{H:Hp}{pa:List (ao × Option ao)}(h:fH H kvs pa)(s:ao):(aY kvs (sK s)).isSome=decide (s∈pa.map (·.1)):=by
 by_cases c:s∈pa.map (·.1)
 ·rw[c_ c];exact Jd (by rw[h.keys];exact bC.mpr #[s,c,Z])
 rw[eF c,h.none c];rfl
theorem fH.get{H:Hp}:∀{kvs:List (aC × V)} {pa:List (ao × Option ao)},fH H kvs pa->(pa.map (·.1)).Nodup->∀{e:ao × Option ao},e∈pa->∃v,aY kvs (sK e.1)\v/\U9 H v e.2
 |_,_,.nil,_,_,he=>by cases he
 |_,_,.cons (a:=kv) (b:=e0) h t,nd,e,he=>by
  rw[eG,jk] at nd;rcases bU.mp he with rfl|he
  ·exact#[kv.2,by unfold aY;rw[x5];simp[h.1],h.2]
  let#[v,h1,h2]:=fH.get t nd.2 he;apply#[v,?_,h2]
  have ne:¬kv.1=sK e.1:=λz=>by
   rw[h.1] at z;exact nd.1 (by rw[My z];exact bC.mpr #[e,he,Z])
  unfold aY at h1 ⊢;rw[x5];simp[ne,h1]
theorem wq{k:aC}{v:V}(h:aY kvs k=none):putK kvs k v=kvs++[(k,v)]:=by
 unfold putK;rw[BC,h];rfl
def tX(N:ao->ao->Prop)(s0:ao)(pa:List (ao × Option ao)):Prop:=∀e∈pa,(e.1=s0/\e.2=none)∨∃q d,e.2\q/\Ds N s0 d q/\Ds N s0 (d+1) e.1/\N q e.1
structure xO (CR:Addr) (H:Hp) (r a x n:Addr) (hs:Xa) (ts:Xb) (qs:aM) (pa:List (ao × Option ao)) (nw:List ao):Prop where
 ins:∃dx,H r\.ins CR dx (bV x a n)
 ex:tZ H x hs ts qs
 ah:∃kvs,H a\.dT kvs/\fH H kvs pa
 ne:∃ys,H n\.lst ys/\iu H ys nw
theorem xO.same{CR:Addr}{H H':Hp}{r a x n:Addr}{hs:Xa}{ts:Xb}{qs:aM}{pa:List (ao × Option ao)}{nw:List ao}(R:xO CR H r a x n hs ts qs pa nw)(s:aa H H'):xO CR H' r a x n hs ts qs pa nw:=by
 let#[#[dx,h1],h2,#[kvs,h3,h4],#[ys,h5,h6]]:=R;exact#[#[dx,s _ _ h1],h2.same s,#[kvs,s _ _ h3,h4.keep λb xs e=>s _ _ e],#[ys,s _ _ h5,h6.keep λb xs e=>s _ _ e]]
section v
theorem mP:bG ["self","goods","placed","first"] ["self","goods","placed"] (bg lD):=bQ
inductive M5 (K:ai) (CG CW CR:Addr) (vs:ag) (H:Hp) (Q:VK) (E:XK):Prop
 |mk:∀(r dx g p d:Addr) (hs:Xa) (ts:Xb) (qs:aM) (fp:au) (f:bq),vs=[.ref r,.ref g,.ref d]->H r\.ins CR dx []->Gs K CG CW H g p hs ts qs fp->H d\.dK (d7 (qs.map (·.1)) f)->(∀a x n H',(∀b o,H b\o->b≠r->H' b\o)->H a=none->xO CR H' r a x n hs ts qs [((qs.map (·.1)).map f,none)] [(qs.map (·.1)).map f]->Q .non H')->M5 K CG CW CR vs H Q E
theorem _W{f CG CW CR:Addr}(F:bx K "__init__" "Reach.__init__" lD f fd)(T:oY K CR)(B:Bi mg)(cE:!bw 4 "exits_of" ["goods"] (M6 K CG CW)):!aq bh 5 f fd ["self","goods","placed"] (M5 K CG CW CR):=by
 exists F.bP mP;let#[r,dx,g,p,d,hs,ts,qs,fp,f,rfl,nD,G,hd,k]:=h;let hu:=gf hr;refine' #[_,av ?s1 (av ?s2 (av ?s3 (aF ?s4))),?kk]
 case s1=>exact bj 3 mP.nd (i0 (fW_ Z) (by rfl) B.tuple uI %[NW (pv 2)|0])
 case s2=>exact uH (pv 0) (aZ cE hr %[1|0]) Z
 case s3=>exact uH (pv 0) (Tj hu (pv 3) uG) Z
 case s4=>exact uH (pv 0) (fN %[3|0]) Z
 apply#[_,Z,d,_,Z,hd,λv hv=>?_];let#[s1,e1]:=aD (o:=uC v d) hv;generalize upd H v (uC v d)=H1 at s1 e1 ⊢;apply#[v,d,_,Z,e1,s1 _ _ hd,λt ht=>?_]
 have ev:(d7 (qs.map (·.1)) f).map (·.2)=sV ((qs.map (·.1)).map f):=by
  simp only[d7,dW,sV,cg];rfl
 rw[ev];obtain⟨s0,Ro⟩:∃s0,s0=(qs.map (·.1)).map f:=#[_,Z];rw[<- Ro];rw[<- Ro] at k;let#[s2,e2]:=aD (o:=.tup (sV s0)) ht;let mR:=s1.trans s2;generalize upd H1 t (.tup (sV s0))=H2 at s2 e2 mR ⊢;apply#[_,Z,g,p,hs,ts,qs,fp,Z,G.same mR,λx H3 s3 nx ex=>?_];let eZ:=mR.trans s3;apply#[_,Z,r,CR,dx,[],Z,eZ _ _ nD,T.cl,T.nX,by show 0<1000;decide,?_];have FX:∀{b o},H3 b\o->b≠r->upd H3 r (.ins CR dx (ay jM (.ref x) [])) b\o:=λe ne=>by rw[aw ne];exact e
 have r4:upd H3 r (.ins CR dx (ay jM (.ref x) [])) r\.ins CR dx (ay jM (.ref x) []):=ax
 have pf:∀{b},upd H3 r (.ins CR dx (ay jM (.ref x) [])) b=none->H3 b=none:=λ{b} e=>by
  by_cases z:b=r
  ·rw[z,ax] at e;cases e
  rw[aw z] at e;exact e
 generalize upd H3 r (.ins CR dx (ay jM (.ref x) []))=H4 at FX r4 pf ⊢;let Bb:=eZ _ _ nD;have tr:t≠r:=bK (s3 _ _ e2) Bb nofun;have e4:H4 t\.tup (sV s0):=FX (s3 _ _ e2) tr;intro a ha;let#[s5,e5]:=aD (o:=.dT []) ha;have an:H a=none:=eZ.free (pf ha);have ar:a≠r:=(bp r4 ha).symm;generalize upd H4 a (.dT [])=H5 at s5 e5 ⊢;apply#[_,Z,e5,t,sK s0,Z,by rw[qO];exact s5 _ _ e4,_,Z,?_];have ta:t≠a:=bK (s5 _ _ e4) e5 nofun;have JG:∀{b o},H5 b\o->b≠a->upd H5 a (.dT [(sK s0,.non)]) b\o:=λe ne=>by rw[aw ne];exact e
 have e6:upd H5 a (.dT [(sK s0,.non)]) a\.dT [(sK s0,.non)]:=ax
 have Hd:∀{b},upd H5 a (.dT [(sK s0,.non)]) b=none->H5 b=none:=λ{b} e=>by
  by_cases z:b=a
  ·rw[z,ax] at e;cases e
  rw[aw z] at e;exact e
 generalize upd H5 a (.dT [(sK s0,.non)])=H6 at JG e6 Hd ⊢;apply#[r,CR,dx,_,Z,JG (s5 _ _ r4) ar.symm,T.cl,T.nA,by show 1<1000;decide,?_];have JF:∀{b o},H6 b\o->b≠r->upd H6 r (.ins CR dx (ay pH (.ref a) (ay jM (.ref x) []))) b\o:=λe ne=>by rw[aw ne];exact e
 have r7:upd H6 r (.ins CR dx (ay pH (.ref a) (ay jM (.ref x) []))) r\.ins CR dx (ay pH (.ref a) (ay jM (.ref x) [])):=ax
 have ES:∀{b},upd H6 r (.ins CR dx (ay pH (.ref a) (ay jM (.ref x) []))) b=none->H6 b=none:=λ{b} e=>by
  by_cases z:b=r
  ·rw[z,ax] at e;cases e
  rw[aw z] at e;exact e
 generalize upd H6 r (.ins CR dx (ay pH (.ref a) (ay jM (.ref x) [])))=H7 at JF r7 ES ⊢
 have e47:∀{b o},H3 b\o->b≠r->H7 b\o:=λ{b o} e ne=>by
  let e4':=s5 _ _ (FX e ne)
  have ba:b≠a:=λz=>by
   have:=FX e ne;rw[z,ha] at this;cases this
  exact JF (JG e4' ba) ne
 apply#[_,Z,zl,λn hn=>?_];let#[s8,e8]:=aD (o:=.lst [.ref t]) hn;have nr:n≠r:=(bp r7 hn).symm;generalize upd H7 n (.lst [.ref t])=H8 at s8 e8 ⊢;apply#[_,Z,r,CR,dx,_,Z,s8 _ _ r7,T.cl,T.nN,by show 2<1000;decide,?_];have FW:∀{b o},H8 b\o->b≠r->upd H8 r (.ins CR dx (bV x a n)) b\o:=λe ne=>by rw[aw ne];exact e
 have r9:upd H8 r (.ins CR dx (bV x a n)) r\.ins CR dx (bV x a n):=ax;show Q .non (upd H8 r (.ins CR dx (bV x a n)));generalize upd H8 r (.ins CR dx (bV x a n))=H9 at FW r9 ⊢;have EY:∀{b o},H3 b\o->b≠r->H9 b\o:=λe ne=>FW (s8 _ _ (e47 e ne)) ne;apply k a x n H9 (λb o e ne=>EY (eZ _ _ e) ne) an #[#[dx,r9],?_,#[_,FW (s8 _ _ (JF e6 ar)) ar,.cons #[Z,Z] .nil],#[_,FW e8 nr,.cons #[t,Z,EY (s3 _ _ e2) tr] .nil]];let#[ds,x1,x2]:=ex
 have Ky:∀{b o},H3 b\o->(∀C dx fs,o≠.ins C dx fs)->b≠r:=λe no z=>by
  rw[z,Bb] at e;cases e;exact no _ _ _ Z
 exact#[ds,EY x1 (Ky x1 (by intro _ _ _ z;cases z)),Paired.aV x2 λd q ⟨ad,y1,y2⟩=>#[ad,EY y1 (Ky y1 (by intro _ _ _ z;cases z)),λh hh=>EY (y2 h hh) (Ky (y2 h hh) (by intro _ _ _ z;cases z))]]
end
theorem T9{s:ao}{i:Nat}(h:i<s.length)(o:Str):(sV s).take i++[V.str o]++(sV s).drop (i+1)=sV (s.set i o):=by
 show (s.map V.str).take i++[V.str o]++(s.map V.str).drop (i+1)=(s.set i o).map V.str;rw[List.set_eq_take_append_cons_drop,aI h,eS,eG,List.map_take,List.map_drop,List.append_assoc];rfl
def Jm(hs:Xa)(ts:Xb)(qs:aM)(s:ao)(i:Nat)(b:ao):Prop:=∃(k:Nat) (q:Pc) (h h':Str),k<i/\qs[k]? = some q/\s[k]? = some h/\h'∈r6 hs ts q h/\b=s.set k h'
theorem Zx{hs:Xa}{ts:Xb}{qs:aM}{s b:ao}:Jm hs ts qs s s.length b ↔ Nx hs ts qs s b:=by
 constructor
 ·rintro⟨k,q,h,h',_,h1,h2,h3,h4⟩;exact#[_,k,q,h,h',h1,h2,h3,h4,Z]
 rintro⟨m,k,q,h,h',h1,h2,h3,h4,_⟩;exact#[k,q,h,h',(bY.mp h2).1,h1,h2,h3,h4]
theorem tZ.at_{H:Hp}{l:Addr}{hs:Xa}{ts:Xb}{qs:aM}(h:tZ H l hs ts qs){k:Nat}(hq:qs[k]? = some q):∃(ds:au) (d:Addr),H l\.lst (ds.map V.ref)/\(ds.map V.ref)[k]? = some (.ref d)/\FS H d hs ts q:=by
 let#[ds,h1,h2]:=h;have hk:k<qs.length:=(bY.mp hq).1;let hl:=br h2;have:=dS h2 k Z1 hk;rw[aP hk] at hq;cases hq;exact#[ds,ds[k]' Z1,h1,by rw[di,aP Z1];rfl,this]
section v
theorem E7:bG ["self","hands","found","place","one","other"] Bp (bg lC):=bQ
inductive NJ (CR:Addr) (vs:ag) (H:Hp) (Q:VK) (E:XK):Prop
 |mk:∀(r dx t x a n:Addr) (hs:Xa) (ts:Xb) (qs:aM) (s:ao),vs=[.ref r,.ref t]->H r\.ins CR dx (bV x a n)->tZ H x hs ts qs->H t\.tup (sV s)->Vs hs qs s->(aS hs).length<=8->qs.length<64->(∀l ys L H',aa H H'->H l=none->H' l\.lst ys->iu H' ys L->(∀b,b∈L ↔ Nx hs ts qs s b)->L.length<=512->Q (.ref l) H')->NJ CR vs H Q E
theorem hO_{f CR:Addr}(F:bx K "one_move_on" "Reach.one_move_on" lC f fd)(T:oY K CR)(B:Bi mg):!aq bh 1 f fd Bp (NJ CR):=by
 exists F.bP E7;let#[r,dx,t,x,a,n,hs,ts,qs,s,rfl,_V,ex,ht,v,n8,P6,k]:=h;let hu:=gf hr;let sz:=cX;let vl:=v.len;refine' #[_,av ?s1 (av ?s2 (aF ?s3)),?kk]
 case s1=>exact bj 2 E7.nd (fN bO)
 case' s2=>refine' eW d6 Z ?i2 ?g2 (aF ?b2)
 case i2=>exact _K (by rfl) B.enum %[1|0]
 case g2=>exact oU Z (dC (cy 3 E7.nd) (dC (cy 4 E7.nd) i6))
 case' b2=>refine' eW d6 Z ?i3 ?g3 (aF ?b3)
 case i3=>exact dI (n5 hu (bo fL (gG (pv 0) Z) (pv 3)) (pv 4))
 case g3=>exact cy 5 E7.nd
 case b3=>exact ml (pA oW wa wb uJ (pv 2) %[bN Ig (bN Ig (AD Hy (pv 1) AR (AN (pv 3))) (fY %[5|0])) (AD Hy (pv 1) (AN (bN gH (pv 3) aB)) AR)|0])
 case s3=>exact bu (pv 2)
 apply#[zl,λl hl=>?_];let#[s1,e1]:=aD (o:=.lst []) hl;generalize upd H l (.lst [])=H1 at s1 e1 ⊢;apply#[_,Z,t,Z,#[_,.of (s1 _ _ ht)],?_]
 let Iv:bZ:=λi σ H'=>∃(v3 v4 v5:aL) (ys:ag) (L:List ao),σ=[some (.ref r),some (.ref t),some (.ref l),v3,v4,v5]/\aa H H'/\H' l\.lst ys/\iu H' ys L/\(∀b,b∈L ↔ Jm hs ts qs s i b)/\L.length<=8 * i
 apply gG_ (xs:=sV s) Iv #[none,none,none,[],[],Z,s1,e1,.nil,λb=>by simp[Jm],by simp] (λi σ H' _ ⟨_,_,_,_,_,_,sm,_⟩=>.of (sm _ _ ht)) ?_ ?_
 ·rintro i y σ H2 hy ⟨v3,v4,v5,ys,L,rfl,s2,e2,sp,mem,len⟩ tt DD;let#[h,hh,rfl]:=mj hy;have hi:i<s.length:=(bY.mp hh).1;have hq:qs[i]? = some (qs[i]' Z1):=aP Z1;obtain⟨q,eq⟩:∃q,q=qs[i]' Z1:=#[_,Z];rw[<- eq] at hq;let hm:=v.g_ h (cQ hh);let#[s3,e3]:=aD (o:=.tup [.int i,.str h]) DD;let eZ:=s2.trans s3;let uv:=s3 _ _ e2;let qj:=sp.keep λb xs e=>s3 _ _ e;show gA _ _ _ _ _ (upd H2 tt (.tup [.int i,.str h])) _;generalize upd H2 tt (.tup [.int i,.str h])=H3 at s3 e3 eZ uv qj ⊢;apply#[tt,_,Z,.of e3,Z,_,_,Z,_,_,Z,Z,?_];let#[ds,d,x1,x2,ad,x3,x4]:=ex.at_ hq;apply#[_,Z,r,CR,dx,_,_,Z,eZ _ _ _V,T.cl,T.nX,Y1 _ _ _,_,Z,x,_,i,.ref d,Z,Z,.of (eZ _ _ x1),L2.dQ x2,_,Z,d,.ref (ad h),Z,?_,ad h,Z,#[_,.of (eZ _ _ (x4 h hm))],?_]
  ·have:=eR.k (k:=.inr h) (eZ _ _ x3);rw[AO (g:=λn=>V.ref (ad n)) hm] at this;exact this
  let Iw:bZ:=λj σ H'=>∃(v5:aL) (ys:ag) (L:List ao),σ=[some (.ref r),some (.ref t),some (.ref l),some (.int i),some (.str h),v5]/\aa H H'/\H' l\.lst ys/\iu H' ys L/\(∀b,b∈L ↔ Jm hs ts qs s i b∨∃o∈(r6 hs ts q h).take j,b=s.set i o)/\L.length<=8 * i+j
  have el8:(r6 hs ts q h).length<=8:=iH (AV ..) (iH (AV ..) n8);apply hX (K:=K) (a:=ad h) (xs:=(r6 hs ts q h).map V.str) Iw #[_,ys,L,Z,eZ,uv,qj,λb=>by rw[mem];simp,by omega] (λj σ H' _ ⟨_,_,_,_,sm,_⟩=>.of (sm _ _ (x4 h hm))) ?_ ?_
  ·rintro j y σ H4 hy ⟨JC,ys,L,rfl,s4,iE,gj,fB,lQ⟩;let#[o,ho,rfl]:=mj hy;have hj:j<(r6 hs ts q h).length:=(bY.mp ho).1;let vz:=br gj;let pb:=s4 _ _ ht;apply#[_,Z,.inl #[Z,_,.of iE],?_];apply#[_,Z,_,Z,_,Z,t,_,Z,.of pb,?_,λp1 xv=>?_]
   ·rw[HT.er,HT.dU,ak];omega
   rw[Tw];let#[s5,e5]:=aD (o:=.tup ((sV s).take i)) xv;generalize upd H4 p1 (.tup ((sV s).take i))=H5 at s5 e5 ⊢;apply#[_,Z,zl,λp2 kh=>?_];let#[s6,e6]:=aD (o:=.tup [.str o]) kh;generalize upd H5 p2 (.tup [.str o])=H6 at s6 e6 ⊢;apply#[p1,p2,_,_,Z,Z,s6 _ _ e5,e6,by rw[dH,ak,jU];omega,λp3 H7 s7 e7=>?_];let w9:=(s5.trans s6).trans s7;apply#[_,Z,_,Z,_,_,Z,Z,_,Z,t,_,Z,.of (w9 _ _ pb),?_,λp4 DW=>?_]
   ·rw[show ((i:Int)+1)=((i+1:Nat):Int) by omega,HT.dU,ak];omega
   rw[show ((i:Int)+1)=((i+1:Nat):Int) by omega,NZ];let#[s8,e8]:=aD (o:=.tup ((sV s).drop (i+1))) DW;generalize upd H7 p4 (.tup ((sV s).drop (i+1)))=H8 at s8 e8 ⊢;apply#[p3,p4,_,_,Z,Z,s8 _ _ e7,e8,by rw[d9,dH,ak,jU,x6,ak];omega,λp5 H9 s9 e9=>?_];rw[T9 hi] at e9;let yW:=(w9.trans s8).trans s9;let Aj:=yW _ _ iE;apply#[l,_,_,Z,Z,Aj,by omega,?_]
   have kt:∀b xs,H9 b\.tup xs->upd H9 l (.lst (ys++[.ref p5])) b\.tup xs:=λb xs e=>by
    rw[aw (bK e Aj nofun)];exact e
   apply#[_,_,L++[s.set i o],Z,fi (s4.trans yW) hl,ax,gY ((gj.keep λb xs e=>yW _ _ e).keep kt) (.cons #[p5,Z,kt _ _ e9] .nil),λb=>?_,by rw[d9,jU];omega];rw[d8,fB,eU,tF ho];constructor
   ·rintro ((x|⟨z,hz,e⟩)|e)
    ·exact .inl x
    ·exact .inr #[z,d8.mpr (.inl hz),e]
    exact .inr #[o,by simp,e]
   rintro (x|⟨z,hz,e⟩)
   ·exact .inl (.inl x)
   rcases d8.mp hz with hz|hz
   ·exact .inl (.inr #[z,hz,e])
   rw[eU.mp hz] at e;exact .inr e
  rintro σ H4 ⟨JC,ys,L,rfl,s4,iE,gj,fB,lQ⟩;rw[ak] at fB lQ;apply#[_,_,_,ys,L,Z,s4,iE,gj,λb=>?_,by omega];rw[fB,eI];constructor
  ·rintro (⟨k',q',h',o',k1,k2⟩|⟨o,ho,e⟩)
   ·exact#[k',q',h',o',by omega,k2]
   exact#[i,q,h,o,by omega,hq,hh,ho,e]
  rintro⟨k',q',h',o',k1,k2,k3,k4,k5⟩;by_cases c:k'=i
  ·subst c;rw[hq] at k2;rw[hh] at k3;cases k2;cases k3;exact .inr #[o',k4,k5]
  exact .inl #[k',q',h',o',by omega,k2,k3,k4,k5]
 rintro σ H2 ⟨v3,v4,v5,ys,L,rfl,s2,e2,sp,mem,len⟩;rw[ak] at mem len;exact#[_,Z,k l ys L H2 s2 hl e2 sp (λb=>(mem b).trans Zx) Z1]
end
def A0(r a:Addr)(H H':Hp):Prop:=∀b o,H b\o->b≠r->b≠a->H' b\o
theorem bc.gN{a:Addr}{H H':Hp}{o:HO}(b:bc a H H')(ha:H a\o)(no:∀xs,o≠.tup xs):∀c xs,H c\.tup xs->H' c\.tup xs:=λc xs e=>b _ _ e λz=>by
 rw[z,ha] at e;cases e;exact no _ Z
theorem tZ.but{a:Addr}{H H':Hp}{l:Addr}{hs:Xa}{ts:Xb}{qs:aM}(h:tZ H l hs ts qs)(b:bc a H H')(ha:H a\.dT kvs):tZ H' l hs ts qs:=by
 have k:∀{c o},H c\o->o≠.dT kvs->H' c\o:=λe ne=>b _ _ e λz=>by
  rw[z,ha] at e;cases e;exact ne Z
 let#[ds,h1,h2]:=h;exact#[ds,k h1 nofun,Paired.aV h2 λd q ⟨ad,x1,x2⟩=>#[ad,k x1 nofun,λy hy=>k (x2 y hy) nofun]]
section v
theorem Iy:bG ["self","most","found","hands","after"] ["self","most"] (bg M8):=bQ
def More(N:ao->ao->Prop)(s0:ao)(m:Nat):Prop:=∃l:List ao,l.Nodup/\(∀s∈l,∃j,Wk N s0 j s)/\m<l.length
inductive Nq (CR:Addr) (vs:ag) (H:Hp) (Q:VK) (E:XK):Prop
 |mk:∀(r x a n:Addr) (hs:Xa) (ts:Xb) (qs:aM) (pa:List (ao × Option ao)) (nw:List ao) (s0:ao) (k m:Nat),vs=[.ref r,.int m]->xO CR H r a x n hs ts qs pa nw->Bf (Nx hs ts qs) s0 k (pa.map (·.1)) nw->tX (Nx hs ts qs) s0 pa->(∀s∈nw,Vs hs qs s)->(aS hs).length<=8->qs.length<64->m<=1000000->pa.length<=1000000->(∀H',A0 r a H H'->More (Nx hs ts qs) s0 m->Q (.bl false) H')->(∀n' oI ue H',A0 r a H H'->H n'=none->xO CR H' r a x n' hs ts qs oI ue->Bf (Nx hs ts qs) s0 (k+1) (oI.map (·.1)) ue->tX (Nx hs ts qs) s0 oI->oI.length=pa.length+ue.length->(oI.length<=m∨ue=[])->Q (.bl true) H')->Nq CR vs H Q E
theorem gL_{f CR:Addr}(F:bx K "widen" "Reach.widen" M8 f fd)(T:oY K CR)(B:Bi mg)(cM:!bW CR 1 "one_move_on" Bp (NJ CR)):!aq bh 2 f fd ["self","most"] (Nq CR):=by
 exists F.bP Iy;let#[r,x,a,n,hs,ts,qs,pa,nw,s0,k,m,rfl,R,bf,po,vv,n8,P6,m6,p6,kF,kT]:=h;let hu:=gf hr;let sz:=cX;refine' #[_,av ?s1 (av ?s2 (av ?s3 (aF ?s4))),?kk]
 case s1=>exact bj 2 Iy.nd (fN bO)
 case' s2=>refine' eW d6 Z ?i2 ?g2 (aF ?b2)
 case i2=>exact dI (gG (pv 0) Z)
 case g2=>exact cy 3 Iy.nd
 case' b2=>refine' eW d6 Z ?i3 ?g3 (aF ?b3)
 case i3=>exact dI (jc cM T.cl hr (pv 0) %[3|0])
 case g3=>exact cy 4 Iy.nd
 case' b3=>refine' b_ (tE (IX hu (pv 4) (gG (pv 0) Z))) (av ?c1 (av ?c2 (aF ?c3))) cm
 case c1=>exact b_ (fF Yi (cJ Ug (by rfl) B.len gC %[gG (pv 0) Z|0]) (pv 1)) (aF (bu iV)) cm
 case c2=>exact uD hu (gG (pv 0) Z) (pv 4) (pv 3) Z
 case c3=>exact ml (pA oW wa wb uJ (pv 2) %[4|0])
 case s3=>exact uH (pv 0) (pv 2) Z
 case s4=>exact bu iV
 let#[#[dx,nD],ex,#[kvs,nL,O9],#[Jt,GV,Kd]]:=R;apply#[zl,λl hl=>?_];let#[s1,e1]:=aD (o:=.lst []) hl;generalize upd H l (.lst [])=H1 at s1 e1 ⊢;apply#[_,Z,r,CR,dx,_,_,Z,s1 _ _ nD,T.cl,T.nN,MS _ _ _,n,Z,#[_,.of (s1 _ _ GV)],?_];have uc:∀{b:Addr} {H':Hp},bc a H H'->∀c xs,H c\.tup xs->H' c\.tup xs:=λbt=>bc.gN bt nL (by intro xs z;cases z);have Ko:r≠a:=bK nD nL nofun;have XE:n≠a:=bK GV nL nofun
 let J:List ao->Hp->Prop:=λseen H'=>∃(kvs:List (aC × V)) (oI:List (ao × Option ao)) (fs:ag) (fd:List ao),bc a H H'/\H' a\.dT kvs/\fH H' kvs oI/\H' l\.lst fs/\iu H' fs fd/\Wd (pa.map (·.1)) seen (oI.map (·.1)) fd/\tX (Nx hs ts qs) s0 oI/\oI.length=pa.length+fd.length/\(oI.length<=m∨fd=[])
 let Iv:bZ:=λi σ H'=>∃(v3 v4:aL) (seen:List ao),σ=[some (.ref r),some (.int m),some (.ref l),v3,v4]/\J seen H'/\(∀b,b∈seen ↔ ∃h∈nw.take i,Nx hs ts qs h b)
 let X_:=br Kd;apply hX (K:=K) (a:=n) (xs:=Jt) Iv #[none,none,[],Z,#[kvs,pa,[],[],bc.of s1,s1 _ _ nL,O9.keep λb xs e=>s1 _ _ e,e1,.nil,Wd.start bf.nd,po,by simp,.inr Z],by simp] (λi σ H' _ ⟨_,_,_,_,⟨_,_,_,_,bt,_⟩,_⟩=>.of (bt _ _ GV XE)) ?_ ?_
 ·rintro i y σ H2 hy ⟨v3,v4,seen,rfl,⟨Do,Kw,Sq,MJ,wg,nK,O8,Ho,yF,Jx,Kt,ln2,Kx⟩,mem⟩;have hi:i<Jt.length:=(bY.mp hy).1
  obtain⟨h,hh,t,rfl,ht⟩:∃h,nw[i]? = some h/\∃t,y=.ref t/\H t\.tup (sV h):=by
   have:=dS Kd i hi Z1;rw[aP hi] at hy;cases hy;exact#[nw[i]' Z1,aP Z1,this]
  let hm:=cQ hh;let rR:=(bf.new h).mp hm;let xu:=uc (b:=a) wg _ _ ht;let jD:=wg _ _ nD Ko;apply#[_,Z,r,dx,_,Z,jD,Nd _ _ _ Z0 Z0 Z0,_,Z,r,dx,t,x,a,n,hs,ts,qs,h,Z,jD,ex.but wg nL,xu,vv h hm,n8,P6,λl3 mI L H3 s3 oK e3 qj ic Dk=>?_];have QE:l3≠l:=λz=>by rw[z,Ho] at oK;cases oK
  have GG:l3≠a:=λz=>by rw[z,nK] at oK;cases oK
  have l3n:H l3=none:=by
   cases z:H l3 with
   |none=>rfl
   |some o=>
    have:=wg _ _ z GG;rw[oK] at this;cases this
  let Dj:=br qj
  let Iw:bZ:=λj σ H'=>∃(v4:aL) (dA:List ao),σ=[some (.ref r),some (.int m),some (.ref l),some (.ref t),v4]/\H' l3\.lst mI/\iu H' mI L/\H' t\.tup (sV h)/\J dA H'/\(∀b,b∈dA ↔ b∈seen∨b∈L.take j)
  apply#[l3,Z,#[_,.of e3],?_];apply hX (K:=K) (a:=l3) (xs:=mI) Iw ?_ ?_ ?_ ?_
  ·exact#[_,seen,Z,e3,qj,s3 _ _ xu,#[Do,Kw,Sq,MJ,wg.trans (bc.of s3),s3 _ _ nK,O8.keep λb xs e=>s3 _ _ e,s3 _ _ Ho,yF.keep λb xs e=>s3 _ _ e,Jx,Kt,ln2,Kx],λb=>#[.inl,λz=>z.elim id λw=>absurd w (fU)]]
  ·rintro j σ H' _ ⟨_,_,_,e,_⟩;exact .of e
  ·rintro j y σ H4 hy ⟨VT,dA,rfl,e4,gj,pb,⟨gQ,CL,So,Sy,I0,jF,BI,iE,yD,B2,P7,X6,Xt⟩,fB⟩;have hj:j<mI.length:=(bY.mp hy).1
   obtain⟨b,hb,u,rfl,Ri⟩:∃b,L[j]? = some b/\∃u,y=.ref u/\H4 u\.tup (sV b):=by
    have:=dS gj j hj Z1;rw[aP hj] at hy;cases hy;exact#[L[j]' Z1,aP Z1,this]
   let GO:=I0 _ _ nD Ko;have bL:Nx hs ts qs h b:=(ic b).mp (cQ hb)
   have tk:∀c,c∈L.take (j+1) ↔ c∈L.take j∨c=b:=λc=>by
    rw[uO,hb];simp
   have hK:H4 u\.tup ((sK b).map kV):=by rw[qO];exact Ri
   apply#[_,Z,_,Z,r,CR,dx,_,_,Z,GO,T.cl,T.nA,Ik _ _ _,a,_,Z,.t jF hK,_,Z,?_];rw[BI.isSome];by_cases c:b∈CL.map (·.1)
   ·rw[c_ c];apply aK ?_;apply#[_,dA++[b],Z,e4,gj,pb,#[gQ,CL,So,Sy,I0,jF,BI,iE,yD,B2.skip c,P7,X6,Xt],λz=>?_];rw[d8,fB,tk,eU,or_assoc]
   rw[eF c];apply df ?_;let lk:=br BI;let lf:=br yD;apply#[_,Z,r,CR,dx,_,_,Z,GO,T.cl,T.nA,Ik _ _ _,a,_,Z,jF,_,Z,_,_,Z,Z,_,Z,?_]
   have O7:∀z∈CL.map (·.1),∃j,Wk (Nx hs ts qs) s0 j z:=λz hz=>by
    rcases (B2.all z).mp hz with y|y
    ·let#[j,_,w]:=(bf.all z).mp y;exact#[j,w]
    rcases (fB z).mp y with y|y
    ·let#[h',rQ,nx]:=(mem z).mp y;exact#[_,.s ((bf.new h').mp (List.mem_of_mem_take rQ)).1 nx]
    exact#[_,.s rR.1 ((ic z).mp (List.mem_of_mem_take y))]
   apply cu (λc2=>?_) (λc2=>?_)
   ·apply kF H4 (λc o e n1 n2=>I0 _ _ e n2) #[CL.map (·.1)++[b],?_,λz hz=>?_,?_]
    ·rw[List.nodup_append];exact#[B2.nd,by simp,λx hx y hy e=>c (by rw[<- eU.mp hy,<- e];exact hx)]
    ·rcases d8.mp hz with hz|hz
     ·exact O7 z hz
     rw[eU.mp hz];exact#[_,.s rR.1 bL]
    have:(m:Int)<=(gQ.length:Int):=sk c2;rw[d9,ak,jU];omega
   have lt:gQ.length<m:=by
    have:¬(m:Int)<=(gQ.length:Int):=of_decide_eq_false ⇑c2;omega
   apply#[_,Z,_,Z,r,CR,dx,_,_,Z,GO,T.cl,T.nA,Ik _ _ _,_,Z,a,_,Z,.t jF hK Z1,?_];rw[wq (BI.none c)];have UW:bc a H (upd H4 a (.dT (gQ++[(sK b,.ref t)]))):=I0.trans bc.upd;have k5:∀{c o},H4 c\o->c≠a->upd H4 a (.dT (gQ++[(sK b,.ref t)])) c\o:=λe ne=>by rw[aw ne];exact e
   have t5:∀c xs,H4 c\.tup xs->upd H4 a (.dT (gQ++[(sK b,.ref t)])) c\.tup xs:=λc xs e=>k5 e (bK e jF nofun);have e5:upd H4 a (.dT (gQ++[(sK b,.ref t)])) a\.dT (gQ++[(sK b,.ref t)]):=ax;have la:l≠a:=bK iE jF nofun;generalize upd H4 a (.dT (gQ++[(sK b,.ref t)]))=H5 at UW k5 t5 e5 ⊢;let r_:=k5 iE la;apply#[_,Z,.inl #[Z,_,.of r_],_,Z,l,_,_,Z,Z,r_,by omega,?_]
   have t6:∀c xs,H5 c\.tup xs->upd H5 l (.lst (So++[.ref u])) c\.tup xs:=λc xs e=>by
    rw[aw (bK e r_ nofun)];exact e
   let A3:=λc xs e=>t6 c xs (t5 c xs e);have kb:¬∃j,j<=k/\Wk (Nx hs ts qs) s0 j b:=λz=>c ((B2.all b).mpr (.inl ((bf.all b).mpr z)));apply#[_,dA++[b],Z,by rw[aw QE];exact k5 e4 GG,gj.keep A3,A3 _ _ pb,#[_,CL++[(b,some h)],_,Sy++[b],λc o e ne=>?_,by rw[aw la.symm];exact e5,gY (BI.keep A3) (.cons #[Z,t,Z,A3 _ _ pb] .nil),ax,gY (yD.keep A3) (.cons #[u,Z,A3 _ _ Ri] .nil),?_,?_,?_,?_],λz=>?_]
   ·rw[aw (bp e hl)];exact UW _ _ e ne
   ·rw[eS];exact B2.add c
   ·intro e he;rcases d8.mp he with he|he
    ·exact P7 e he
    rw[eU.mp he];exact .inr #[h,k,Z,rR,#[.s rR.1 bL,λj hj w=>kb #[j,by omega,w]],bL]
   ·rw[d9,d9,jU,jU];omega
   ·left
    rw[d9,jU];omega
   rw[d8,fB,tk,eU,or_assoc]
  rintro σ H4 ⟨VT,dA,rfl,e4,gj,pb,jj,fB⟩;apply#[_,_,dA,Z,jj,λb=>?_];rw[fB,mem,show mI.length=L.length from Dj,eI,ic,uO,hh];simp only[Option.toList_some,d8,eU];constructor
  ·rintro (⟨h',rQ,nx⟩|nx)
   ·exact#[h',.inl rQ,nx]
   exact#[h,.inr Z,nx]
  rintro⟨h',rQ|rfl,nx⟩
  ·exact .inl #[h',rQ,nx]
  exact .inr nx
 rintro σ H2 ⟨v3,v4,seen,rfl,⟨Do,Kw,Sq,MJ,wg,nK,O8,Ho,yF,Jx,Kt,ln2,Kx⟩,mem⟩;let jD:=wg _ _ nD Ko;apply#[_,Z,_,Z,r,CR,dx,_,Z,jD,T.cl,T.nN,?_,?_]
 ·show 3<1000;decide
 have ef:ay "newest" (V.ref l) (bV x a n)=bV x a l:=Uc _ _ _ _;rw[ef];have k3:∀{c o},H2 c\o->c≠r->upd H2 r (.ins CR dx (bV x a l)) c\o:=λe ne=>by rw[aw ne];exact e
 have ni:∀{c o},H2 c\o->(∀C dx fs,o≠.ins C dx fs)->upd H2 r (.ins CR dx (bV x a l)) c\o:=λe no=>k3 e λz=>by
  rw[z,jD] at e;cases e;exact no _ _ _ Z
 let#[ds,x1,x2]:=ex.but wg nL;apply kT l Kw MJ _ (λc o e n1 n2=>by rw[aw n1];exact wg _ _ e n2) hl #[#[dx,ax],#[ds,ni x1 (by intro _ _ _ z;cases z),Paired.aV x2 λd q ⟨ad,y1,y2⟩=>#[ad,ni y1 (by intro _ _ _ z;cases z),λh hh=>ni (y2 h hh) (by intro _ _ _ z;cases z)]],#[_,ni nK (by intro _ _ _ z;cases z),O8.keep λb xs e=>ni e (by intro _ _ _ z;cases z)],#[_,ni Ho (by intro _ _ _ z;cases z),yF.keep λb xs e=>ni e (by intro _ _ _ z;cases z)]] (bf.next Jx λb=>?_) Kt ln2 Kx;rw[mem,X_,eI]
end
def Cn(N:ao->ao->Prop):List ao->Prop
 |[]=>True
 |[_]=>True
 |a::b::r=>N a b/\Cn N (b::r)
structure Row (N:ao->ao->Prop) (a s:ao) (k:Nat) (row:List ao):Prop where
 cn:Cn N row
 hd:row.head? = some a
 lt:row.getLast? = some s
 len:row.length=k+1
variable{N:ao->ao->Prop}
theorem Row.one{s:ao}:Row N s s 0 [s]:=#[trivial,Z,Z,Z]
theorem Row.more{a b s:ao}{k:Nat}{row:List ao}(h:Row N b s k row)(n:N a b):Row N a s (k+1) (a::row):=by
 cases row with
 |nil=>cases h.hd
 |cons c r=>
  have e:c=b:=cY h.hd;subst e;exact#[#[n,h.cn],Z,by rw[List.getLast?_cons_cons];exact h.lt,by rw[jm,h.len]]
theorem Ui{α β:Type}{F:α->β->Prop}:∀{l:List α} {m:List β},Paired F l m->Paired F l.reverse m.reverse
 |_,_,.nil=>.nil
 |_,_,.cons h t=>by
  rw[List.reverse_cons,List.reverse_cons];exact gY (Ui t) (.cons h .nil)
section v
theorem Ip:bG ["self","hands","row","there"] Bp (bg qE):=bQ
inductive kP (CR:Addr) (vs:ag) (H:Hp) (Q:VK) (E:XK):Prop
 |mk:∀(r x a n t:Addr) (hs:Xa) (ts:Xb) (qs:aM) (pa:List (ao × Option ao)) (nw:List ao) (s0 s:ao) (k:Nat),vs=[.ref r,.ref t]->xO CR H r a x n hs ts qs pa nw->H t\.tup (sV s)->Ds (Nx hs ts qs) s0 k s->(pa.map (·.1)).Nodup->(∀j z,j<=k->Wk (Nx hs ts qs) s0 j z->z∈pa.map (·.1))->tX (Nx hs ts qs) s0 pa->k<1000000->(∀l ys row H',aa H H'->H l=none->H' l\.lst ys->iu H' ys row->Row (Nx hs ts qs) s0 s k row->Q (.ref l) H')->kP CR vs H Q E
theorem _j{f CR:Addr}(F:bx K "row_to" "Reach.row_to" qE f fd)(T:oY K CR):!aq bh 1 f fd Bp (kP CR):=by
 exists F.bP Ip;let#[r,x,a,n,t,hs,ts,qs,pa,nw,s0,s,k,rfl,R,ht,ds,nd,all,po,p6,kk]:=h;let hu:=gf hr;let sz:=cX;refine' #[_,av ?s1 (av ?s2 (av ?s3 (av ?s4 (aF ?s5)))),?kk]
 case s1=>exact bj 2 Ip.nd (fN bO)
 case s2=>exact bj 3 Ip.nd (pv 1)
 case' s3=>refine' IF d6 ?c1 (av ?b1 (aF ?b2))
 case c1=>exact tE (YS (pv 3))
 case b1=>exact ml (pA oW wa wb uJ (pv 2) %[3|0])
 case b2=>exact bj 3 Ip.nd (n5 hu (gG (pv 0) Z) (pv 3))
 case s4=>exact ml (Zq oW PySem.F.slot_list_reverse PySem.F.type_list_reverse ft_ (pv 2))
 case s5=>exact bu (pv 2)
 let#[#[dx,nD],ex,#[kvs,nL,O9],#[Jt,GV,Kd]]:=R;apply#[zl,λl hl=>?_];let#[s1,e1]:=aD (o:=.lst []) hl;generalize upd H l (.lst [])=H1 at s1 e1 ⊢;apply#[_,Z,?_]
 let Iv:bZ:=λm σ H'=>∃(v:V) (ys:ag) (wr:List ao),σ=[some (.ref r),some (.ref t),some (.ref l),some v]/\aa H H'/\H' l\.lst ys/\iu H' ys wr.reverse/\wr.length<=k+1/\((v=.non/\m=0/\Row (Nx hs ts qs) s0 s k wr)∨∃u z,v=.ref u/\H u\.tup (sV z)/\m+wr.length=k+1/\0<m/\Ds (Nx hs ts qs) s0 (m - 1) z/\((wr=[]/\z=s)∨∃b,Nx hs ts qs z b/\∃j,wr.length=j+1/\Row (Nx hs ts qs) b s j wr))
 apply#[Iv,#[k+1,.ref t,[],[],Z,s1,e1,.nil,by simp,.inr #[t,s,Z,ht,by simp,by omega,by simpa using ds,.inl #[Z,Z]]],?_];rintro m σ H2 ⟨v,ys,wr,rfl,s2,e2,yF,lw,cs⟩;let vz:=br yF;rw[List.length_reverse] at vz;rcases cs with⟨rfl,rfl,row⟩|⟨u,z,rfl,hz,lm,m0,dz,cs⟩
 ·apply#[_,Z,_,Z,aK ?_];apply#[_,Z,.inl #[Z,_,.of e2],l,_,Z,Z,e2,?_]
  have t3:∀c xs,H2 c\.tup xs->upd H2 l (.lst ys.reverse) c\.tup xs:=λc xs e=>by
   rw[aw (bK e e2 nofun)];exact e
  let qj:=Ui (yF.keep t3);rw[List.reverse_reverse] at qj;exact#[_,Z,kk l _ wr _ (fi s2 hl) hl ax qj row]
 apply#[_,Z,_,Z,df #[λaX H'=>∃m',m'<m/\Iv m' aX H',λ_ _ h=>h,?_]];apply#[_,Z,.inl #[Z,_,.of e2],_,Z,l,_,_,Z,Z,e2,by omega,?_]
 have t3:∀c xs,H2 c\.tup xs->upd H2 l (.lst (ys++[.ref u])) c\.tup xs:=λc xs e=>by
  rw[aw (bK e e2 nofun)];exact e
 have s3:aa H (upd H2 l (.lst (ys++[.ref u]))):=fi s2 hl;have e3:upd H2 l (.lst (ys++[.ref u])) l\.lst (ys++[.ref u]):=ax;let qj:=gY (yF.keep t3) (.cons #[u,Z,s3 _ _ hz] .nil:iu (upd H2 l (.lst (ys++[.ref u]))) [.ref u] [z]);generalize upd H2 l (.lst (ys++[.ref u]))=H3 at s3 e3 qj ⊢;have Vh:z∈pa.map (·.1):=all _ z Z1 dz.1;let#[e,he,rfl]:=bC.mp Vh;let#[v',gv,Gj]:=O9.get nd he;apply#[_,Z,r,CR,dx,_,_,Z,s3 _ _ nD,T.cl,T.nA,Ik _ _ _,_,Z,a,v',Z,?_,?_]
 ·rw[<- gv];exact .t (s3 _ _ nL) (by rw[qO];exact s3 _ _ hz)
 have i9:∃j,(e.1::wr).length=j+1/\Row (Nx hs ts qs) e.1 s j (e.1::wr):=by
  rcases cs with⟨rfl,rfl⟩|⟨b,nb,j,lj,rj⟩
  ·exact#[0,Z,.one]
  exact#[j+1,by rw[jm,lj],rj.more nb]
 have Cs:iu H3 (ys++[.ref u]) (e.1::wr).reverse:=by rw[List.reverse_cons];exact qj
 have lc:(e.1::wr).length=wr.length+1:=jm;rcases po e he with⟨e0,en⟩|⟨q,d,eq,dq,de,nq⟩
 ·rw[en] at Gj
  have dz0:m - 1=0:=by
   rw[e0] at dz;exact dz.inj #[.z,λj hj=>by omega]
  let#[j,lj,rj]:=i9;apply#[0,by omega,v',_,e.1::wr,Z,s3,e3,Cs,by omega,.inl #[Gj,Z,?_]];rw[<- e0];have:j=k:=by omega
  rw[<- this];exact rj
 rw[eq] at Gj;let#[b,rfl,hb]:=Gj;let dm:=dz.inj de;apply#[m - 1,by omega,_,_,e.1::wr,Z,s3,e3,Cs,by omega,.inr #[b,q,Z,hb,by omega,by omega,?_,.inr #[e.1,nq,i9]]];rw[show m - 1 - 1=d by omega];exact dq
end
theorem Zb{hs:Xa}{ts:Xb}(G:Good hs ts){h h':Str}(m:h'∈r6 hs ts q h):h≠h':=by
 intro e;subst e;let m2:=(jS.mp (jS.mp m).1).2;let#[t,ht,et]:=IK.mp (sk m2);let g:=(G.tok t ht).2.2;have e1:aH h h=(h,h):=by rcases Bw h h with e|e<;>exact e
 rw[e1] at et;rcases Bw t.1 t.2 with e|e
 ·rw[e] at et;exact g ((d5 Prod.fst et).trans (d5 Prod.snd et).symm)
 rw[e] at et;exact g ((d5 Prod.snd et).trans (d5 Prod.fst et).symm)
def j0(H:Hp):ag->List (Str × Str × Str)->Prop:=Paired λy m=>∃t,y=.ref t/\H t\.tup [.str m.1,.str m.2.1,.str m.2.2]
theorem QS{hs:Xa}{ts:Xb}{qs:aM}:∀{ms:List (Str × Str × Str)} {row:List ao} {a s:ao},row.length=ms.length+1->(∀(j:Nat) m,ms[j]? = some m->∃x y,row[j]? = some x/\row[j+1]? = some y/\Mv hs ts qs x y m)->row.head? = some a->row.getLast? = some s->wF hs ts qs a ms s
 |[],[],_,_,hl,_,_,_=>by cases hl
 |[],[x],a,s,_,_,h1,h2=>by
  cases cY h1;cases cY h2;exact .nil
 |[],_::_::_,_,_,hl,_,_,_=>by simp at hl
 |m::ms,[],_,_,hl,_,_,_=>by cases hl
 |m::ms,[x],_,_,hl,_,_,_=>by simp at hl
 |m::ms,x::y::r,a,s,hl,hm,h1,h2=>by
  cases cY h1;let#[x',y',e1,e2,mv]:=hm 0 m Z;cases cY e1;cases cY e2;apply .cons mv (QS ⇑hl (λj m' hj=>hm (j+1) m' hj) Z ?_);rw[List.getLast?_cons_cons] at h2;exact h2
section v
theorem Iq:bG ["goods","hands","after","piece","one","other"] ["goods","hands","after"] (bg qJ):=bQ
inductive kU (K:ai) (CG CW:Addr) (vs:ag) (H:Hp) (Q:VK) (E:XK):Prop
 |mk:∀(g p t u:Addr) (hs:Xa) (ts:Xb) (qs:aM) (fp:au) (a b:ao) (m:Str × Str × Str),vs=[.ref g,.ref t,.ref u]->Gs K CG CW H g p hs ts qs fp->H t\.tup (sV a)->H u\.tup (sV b)->a.length=qs.length->Mv hs ts qs a b m->(∀x H',aa H H'->H' x\.tup [.str m.1,.str m.2.1,.str m.2.2]->Q (.ref x) H')->kU K CG CW vs H Q E
theorem _i{f CG CW:Addr}(F:bx K "move_between" "move_between" qJ f fd)(mZ:mg "zip"=none)(T:gh K CG)(cN:!bW CG 1 "names" oR (BA K CG CW)):!aq bh 2 f fd ["goods","hands","after"] (kU K CG CW):=by
 exists F.bP Iq;let#[g,p,t,u,hs,ts,qs,fp,a,b,m,rfl,G,ht,hu,la,mv,k]:=h;have jb:aQ 1 _:=hr.mono (by decide);refine' #[_,av ?s1 (aF ?s2),?kk]
 case' s1=>refine' eW d6 Z ?i1 ?g1 (aF ?b1)
 case i1=>exact ZF (by rfl) mZ %[Ax cN T.cl jb (pv 0),1,2|0]
 case g1=>exact oU Z (dC (cy 3 Iq.nd) (dC (cy 4 Iq.nd) (dC (cy 5 Iq.nd) i6)))
 case b1=>exact b_ (fF sW (pv 4) (pv 5)) (aF (bu (fY %[3,4,5|0]))) cm
 case s2=>exact bu uG
 let#[k0,q,h,h',q1,q2,q3,rfl,rfl]:=mv;let ne:=Zb G.Gd q3;have hk:k0<qs.length:=(bY.mp q1).1;let#[dx,dw,dy,vs,dG,h1,_]:=id G.G.ex;apply#[_,Z,g,dx,_,Z,h1,wz _ _ _ Z0 Z0 Z0,g,p,hs,ts,qs,fp,Z,G.G,λl hl=>?_];let#[s1,e1]:=aD (o:=.lst ((qs.map (·.1)).map V.str)) hl;generalize upd H l (.lst ((qs.map (·.1)).map V.str))=H1 at s1 e1 ⊢;apply#[_,Z,_,Z,l,t,u,_,_,_,Z,.of e1,.of (s1 _ _ ht),.of (s1 _ _ hu),?_]
 let Iv:bZ:=λi σ H'=>∃(v3 v4 v5:aL),σ=[some (.ref g),some (.ref t),some (.ref u),v3,v4,v5]/\aa H1 H'/\i<=k0
 apply _w (by rw[ak,ak,ak];exact la) (by rw[ak,ak,ak,List.length_set];exact la) Iv #[none,none,none,Z,aa.refl _,gM _] (λi σ H' _ ⟨_,_,_,_,sm,_⟩=>#[.of (sm _ _ e1),.of (sm _ _ (s1 _ _ ht)),.of (sm _ _ (s1 _ _ hu))]) ?_ ?_
 ·rintro i x y z σ H2 hx hy hz ⟨v3,v4,v5,rfl,s2,le⟩ tt DD;let#[n,hn,rfl]:=mj hx;let#[o1,ui,rfl]:=mj hy;let#[o2,fq,rfl]:=mj hz;let#[s3,e3]:=aD (o:=.tup [.str n,.str o1,.str o2]) DD;show gA _ _ _ _ _ (upd H2 tt (.tup [.str n,.str o1,.str o2])) _;generalize upd H2 tt (.tup [.str n,.str o1,.str o2])=H3 at s3 e3 ⊢;apply#[tt,_,Z,.of e3,Z,_,_,Z,_,_,Z,_,_,Z,Z,?_];apply#[_,Z,_,Z,Z,_,Z,?_];by_cases c:i=k0
  ·subst c;rw[q2] at ui;cases ui;rw[List.getElem?_set_self Z1] at fq;cases fq;rw[di,q1] at hn;cases hn;rw[eF (λz:V.str h=V.str h'=>ne (V.str.inj z))];apply df #[_,Z,_,Z,_,Z,zl,λx hx=>?_];exact k x _ (((s1.trans s2).trans s3).trans (aa.new hx)) ax
  rw[List.getElem?_set_ne (bJ c),ui] at fq;cases fq;rw[c_ Z];exact aK #[_,_,_,Z,s2.trans s3,by omega]
 rintro σ H2 ⟨v3,v4,v5,rfl,s2,le⟩;rw[ak,ak] at le;omega
theorem yK:bG ["goods","row"] ["goods","row"] (bg qK):=bQ
inductive kW (K:ai) (CG CW:Addr) (vs:ag) (H:Hp) (Q:VK) (E:XK):Prop
 |mk:∀(g p l:Addr) (ys:ag) (hs:Xa) (ts:Xb) (qs:aM) (fp:au) (a s:ao) (n:Nat) (row:List ao),vs=[.ref g,.ref l]->Gs K CG CW H g p hs ts qs fp->H l\.lst ys->iu H ys row->Row (Nx hs ts qs) a s n row->(∀z∈row,z.length=qs.length)->n<1000000->(∀x zs ms H',aa H H'->H x=none->H' x\.lst zs->j0 H' zs ms->wF hs ts qs a ms s->ms.length=n->Q (.ref x) H')->kW K CG CW vs H Q E
theorem QL{N:ao->ao->Prop}:∀{row:List ao},Cn N row->∀{j:Nat} {x y:ao},row[j]? = some x->row[j+1]? = some y->N x y
 |[],_,_,_,_,h,_=>by cases h
 |[_],_,j,_,_,_,h=>by simp at h
 |a::b::r,c,0,x,y,h1,h2=>by
  cases cY h1;cases cY h2;exact c.1
 |a::b::r,c,j+1,x,y,h1,h2=>QL c.2 ⇑h1 ⇑h2
theorem LK{H:Hp}{ys:ag}{l:List ao}(h:iu H ys l){j:Nat}{s:ao}(hs:l[j]? = some s):∃t,ys[j]? = some (.ref t)/\H t\.tup (sV s):=by
 have hj:j<l.length:=(bY.mp hs).1;let hl:=br h;let#[t,e,ht]:=dS h j Z1 hj;rw[aP hj] at hs;cases hs;exact#[t,by rw[aP Z1,e],ht]
theorem _n{f CG CW:Addr}(F:bx K "moves_along" "moves_along" qK f fd)(B:Bi mg)(cB:!bw 2 "move_between" ["goods","hands","after"] (kU K CG CW)):!aq bh 3 f fd ["goods","row"] (kW K CG CW):=by
 exists F.bP yK;let#[g,p,l,ys,hs,ts,qs,fp,a,s,n,row,rfl,G,hl,sp,Gf,vl,n6,k]:=h;let sz:=cX;let vz:=br sp;let lr:=Gf.len;refine' #[_,aF (bu (iI ["k","goods","row"] 1 [0,1] (wB (by rfl) B.range %[bN Hg (cJ iy (by rfl) B.len gC %[1|0]) aB|0]) (λfp s H=>?g1) (λfp s H=>ji) (λfp s H=>?e1))),?kk]
 case g1=>exact eN (i:=0) (show (["k","goods","row"]:af).Nodup by decide +kernel) Z (Or.inl Z)
 case e1=>exact aZ cB hr %[1,bo (ug (K:=K) oE fL) (pv 2) (pv 0),bo (ug (K:=K) oE fL) (pv 2) (bN gH (pv 0) aB)|0]
 apply#[_,Z,l,_,Z,.inl (.of hl),_,_,Z,Z,_,Z,by show (-(2 ^ 62):Int)<=(ys.length:Int) - 1;omega,by show (ys.length:Int) - 1<2 ^ 62;omega,λD hD=>?_];apply Il (own:=1) (fv:=[some (.ref g),some (.ref l)]) Z e_ n (λi out H'=>aa H H'/\H' D\.lst out/\∃ms,j0 H' out ms/\ms.length=i/\∀(j:Nat) m,ms[j]? = some m->∃x y,row[j]? = some x/\row[j+1]? = some y/\Mv hs ts qs x y m) #[aa.new hD,ax,[],.nil,Z,by simp] (λout H' ⟨sm,cK,ms,mv,lm,tr⟩=>?_) (λi out H' hi ⟨sm,cK,ms,mv,lm,tr⟩=>?_)
 ·apply#[?_,k D out ms H' sm hD cK mv (QS Z1 tr Gf.hd Gf.lt) lm];show ((ys.length:Int) - 1).toNat<=n;omega
 apply#[by show i<((ys.length:Int) - 1).toNat;omega,?_];rintro x H2 ⟨rfl,rfl⟩;rw[Int.zero_add];apply#[_,Z,Z,λNx' hN=>d_ ?_];have h1:row[i]? = some (row[i]' Z1):=aP Z1;have h2:row[i+1]? = some (row[i+1]' Z1):=aP Z1;obtain⟨x1,e1⟩:∃x,x=row[i]' Z1:=#[_,Z];obtain⟨x2,e2⟩:∃x,x=row[i+1]' Z1:=#[_,Z];rw[<- e1] at h1;rw[<- e2] at h2;let#[t1,y1,uh]:=LK sp h1;let#[t2,y2,xu]:=LK sp h2;let#[m,mm]:=QL Gf.cn h1 h2;apply#[_,Z,_,Z,_,Z,l,_,i,.ref t1,Z,Z,.of (sm _ _ hl),L2.dQ y1,_,Z,_,Z,_,_,Z,Z,l,_,((i:Int)+1),.ref t2,Z,Z,.of (sm _ _ hl),?_,g,p,t1,t2,hs,ts,qs,fp,x1,x2,m,Z,G.same sm,sm _ _ uh,sm _ _ xu,vl _ (cQ h1),mm,λz H3 s3 e3=>?_]
 ·rw[show ((i:Int)+1)=((i+1:Nat):Int) by omega];exact L2.dQ y2
 let lo:=br mv;apply#[out,s3 _ _ cK,by omega,hN _ _ #[fi (sm.trans s3) hD,ax,ms++[m],?_,by rw[d9,lm];rfl,λj m' hj=>?_]]
 ·have tD:∀{c xs},H3 c\.tup xs->upd H3 D (.lst (out++[.ref z])) c\.tup xs:=λe=>by
   rw[aw (bK e (s3 _ _ cK) nofun)];exact e
  exact gY (Paired.aV mv λy m ⟨t,e,ht⟩=>#[t,e,tD (s3 _ _ ht)]) (.cons #[z,Z,tD e3] .nil)
 by_cases c:j<ms.length
 ·rw[xZ c] at hj;exact tr j m' hj
 have:j=ms.length:=by
  have:=(bY.mp hj).1;rw[d9,jU] at this;omega
 subst this;rw[AW (a_ _),Nat.sub_self] at hj;cases cY hj;rw[lm];exact#[x1,x2,h1,h2,mm]
end
theorem QN{hs:Xa}{ts:Xb}{qs:aM}:∀{row:List ao} {a:ao},Cn (Nx hs ts qs) row->row.head? = some a->Vs hs qs a->∀z∈row,Vs hs qs z
 |[],_,_,_,_,_,hz=>by cases hz
 |[x],a,_,h,v,z,hz=>by
  cases cY h;rw[eU.mp hz];exact v
 |x::y::r,a,c,h,v,z,hz=>by
  cases cY h;rcases bU.mp hz with rfl|hz
  ·exact v
  exact QN c.2 Z (c.1.vs v) z hz
section v
theorem Iz:bG ["goods","stand","limit","most","placed","reach","hands"] jX (bg M_):=bQ
structure Ap (H:Hp) (d:Addr) (hs:Xa) (qs:aM) (fp:au) (s0:ao) (ns:af) (f:bq):Prop where
 hd:H d\.dK (d7 ns f)
 se:d∉fp
 ok:IU hs qs ns f
 s0:s0=(qs.map (·.1)).map f
inductive FH (K:ai) (CG CW:Addr) (vs:ag) (H:Hp) (Q:VK) (E:XK):Prop
 |mk:∀(g p d lt:Addr) (hs:Xa) (ts:Xb) (qs:aM) (fp:au) (s0:ao) (ns:af) (f:bq) (l:Int × Int) (m:Nat),vs=[.ref g,.ref d,.ref lt,.int m]->Gs K CG CW H g p hs ts qs fp->Ap H d hs qs fp s0 ns f->gJ H lt l->pB l->1<=m->m<1000000->(∀t x ys ms s H',aa H H'->H x=none->H' t\.tup [.str "moves",.ref x]->H' x\.lst ys->j0 H' ys ms->wF hs ts qs s0 ms s->Ds (Nx hs ts qs) s0 ms.length s->fK hs qs s l=true->(∀j z,j<ms.length->Ds (Nx hs ts qs) s0 j z->fK hs qs z l=false)->Q (.ref t) H')->(∀t H',aa H H'->H' t\.tup [.str "none"]->(∀j z,Ds (Nx hs ts qs) s0 j z->fK hs qs z l=false)->Q (.ref t) H')->(∀t H',aa H H'->H' t\.tup [.str "more"]->More (Nx hs ts qs) s0 m->Q (.ref t) H')->FH K CG CW vs H Q E
theorem Ap.vs{H:Hp}{d:Addr}{hs:Xa}{qs:aM}{fp:au}{s0:ao}{ns:af}{f:bq}(S:Ap H d hs qs fp s0 ns f):Vs hs qs s0:=by
 apply⟨by rw[S.s0,ak,ak],λh hh=>?_⟩;rw[S.s0] at hh;let#[n,hn,rfl]:=bC.mp hh;exact (gF hs).mem_iff.mpr (S.ok.at_ n (S.ok.perm.mem_iff.mpr hn))
theorem h1_{CG CW CR:Addr}(F:bx K "fewest_moves" "fewest_moves" M_ f0 fd)(B:Bi mg)(T:oY K CR)(cL:!bw 4 "check_limit" fW qi)(cS:!bw 2 "checked_stand" xK (ID K CG CW))(cF:!bw 2 "is_whole_from" ["thing","least"] Np)(cR:!mC CR 5 "Reach" ["self","goods","placed"] (M5 K CG CW CR))(cE:!bw 7 "is_even" og (On K CG CW))(cA:!bw 3 "moves_along" ["goods","row"] (kW K CG CW))(cT:!bW CR 1 "row_to" Bp (kP CR))(cW:!bW CR 2 "widen" ["self","most"] (Nq CR)):!aq bh 8 f0 fd jX (FH K CG CW):=by
 exists F.bP Iz;let#[g,p,d,lt,hs,ts,qs,fp,s0,ns,f,l,m,rfl,G,S,hl,lo,m1,m6,kM,kN,kO]:=h;let hu:=gf hr;let sz:=cX;have n8:(aS hs).length<=8:=by rw[G.Gd.iO];exact G.Gd.h8
 have jb:aQ 1 _:=hr.mono (by decide);have jD:aQ 2 _:=hr.mono (by decide);have GO:aQ 4 _:=hr.mono (by decide);refine' #[_,av ?s1 (av ?s2 (av ?s3 (av ?s4 (av ?s5 (aF ?s6))))),?kk]
 case s1=>exact ml (aZ cL hr %[2|0])
 case s2=>exact bj 4 Iz.nd (aZ cS hr %[0,1|0])
 case s3=>exact b_ (eV (eO (aZ cF hr %[3,aB|0]))) gr cm
 case s4=>exact bj 5 Iz.nd (EG cR hr %[0,4|0])
 case' s5=>refine' IF d6 ?c5 (av ?b1 (aF ?b2))
 case c5=>exact fF (M7 (nZ hr 0)) (gG (pv 5) Z) (fN bO)
 case' b1=>refine' eW d6 Z ?i1 ?g1 (aF ?e1)
 case i1=>exact dI (gG (pv 5) Z)
 case g1=>exact cy 6 Iz.nd
 case e1=>exact b_ (eO (aZ cE hr %[0,6,2|0])) (aF (bu (fY %[sZ,aZ cA hr %[0,jc cT T.cl jb (pv 5) %[6|0]|0]|0]))) cm
 case b2=>exact b_ (eV (eO (jc cW T.cl jD (pv 5) %[3|0]))) (aF (bu (i0 OT (by rfl) B.tuple uI %[fN %[sZ|0]|0]))) cm
 case s6=>exact bu (i0 OT (by rfl) B.tuple uI %[fN %[sZ|0]|0])
 apply#[_,Z,lt,l,Z,hl,lo,?_];apply#[_,Z,_,Z,g,p,d,hs,ts,qs,fp,ns,f,Z,G.G,S.se,S.hd,S.ok,G.nd,G.bX,λd1 H1 s1 n1 e1=>?_];apply#[_,Z,m,1,Z,_,Z,?_];rw[c_ (show (1:Int)<=(m:Int) by omega)];apply aK ?_;apply#[_,Z,_,Z,λr dx nD hdx ne=>?_];have s2:aa H1 (upd (upd H1 dx (.own r)) r (.ins CR dx [])):=(aa.new hdx).trans (aa.new (by rw[aw ne.symm];exact nD));have e2:upd (upd H1 dx (.own r)) r (.ins CR dx []) r\.ins CR dx []:=ax;have rn:H r=none:=s1.free nD;generalize upd (upd H1 dx (.own r)) r (.ins CR dx [])=H2 at s2 e2 ⊢;let mR:=s1.trans s2;apply#[r,dx,g,p,d1,hs,ts,qs,fp,f,Z,e2,G.same mR,s2 _ _ e1,λa x n H3 k3 an R3=>#[Z,?_]];have vW:(qs.map (·.1)).map f=s0:=S.s0.symm;rw[vW] at R3;have an0:H a=none:=mR.free an;have eZ:aa H H3:=λb o e=>k3 b o (mR _ _ e) (bp e rn);let v0:=S.vs
 let N:ao->ao->Prop:=Nx hs ts qs
 let Iv:bZ:=λq σ H'=>∃(v6:aL) (n:Addr) (pa:List (ao × Option ao)) (nw:List ao) (k:Nat),σ=[some (.ref g),some (.ref d),some (.ref lt),some (.int m),some (.ref d1),some (.ref r),v6]/\aa H H'/\xO CR H' r a x n hs ts qs pa nw/\Bf N s0 k (pa.map (·.1)) nw/\tX N s0 pa/\pa.length<=m/\(nw≠[]->k+1<=pa.length)/\(∀j z,j<k->Ds N s0 j z->fK hs qs z l=false)/\q=(m - pa.length)+(if nw=[] then 0 else 1)
 apply#[Iv,#[_,_,n,[(s0,none)],[s0],0,Z,eZ,R3,Bf.start,?_,by simpa using m1,by simp,λj z hj=>by omega,Z],?_]
 ·intro e he;rw[eU.mp he];exact .inl #[Z,Z]
 rintro q σ H4 ⟨v6,n,pa,nw,k,rfl,s4,R,bf,po,pm,kp,ev,rfl⟩;let#[#[Ib,vL],ex4,#[gQ,jF,BI],#[A1,zF,gj]]:=id R;let l4:=br gj;have B6:∀z∈nw,Vs hs qs z:=λz hz=>((bf.new z).mp hz).1.vs v0;apply#[_,Z,r,CR,Ib,_,_,Z,vL,T.cl,T.nN,MS _ _ _,zl,λb hb=>?_];let#[s5,e5]:=aD (o:=.lst []) hb;generalize upd H4 b (.lst [])=H5 at s5 e5 ⊢;apply#[n,b,A1,Z,Z,.of (s5 _ _ zF),.of e5,_,Z,?_];let oB:=s4.trans s5;by_cases c:nw=[]
 ·have ye:A1=[]:=List.length_eq_zero_iff.mp (by rw[l4,c];rfl);rw[ye];apply aK ?_;apply#[zl,λl1 gm=>?_];let#[s6,e6]:=aD (o:=.lst [.str "none"]) gm;generalize upd H5 l1 (.lst [.str "none"])=H6 at s6 e6 ⊢;apply#[l1,_,Z,.inl #[.of e6,λt ht=>?_]];apply kN t _ ((oB.trans s6).trans (aa.new ht)) ax λj z dz=>?_;rw[c] at bf;exact ev j z (bf.last dz) dz
 have ye:A1.isEmpty=false:=by
  cases A1 with
  |nil=>
   cases nw with
   |nil=>exact absurd Z c
   |cons _ _=>cases l4
  |cons _ _=>rfl
 rw[ye];let kpa:=kp c;apply df #[λaX H'=>∃q',q'<(m - pa.length)+(if nw=[] then 0 else 1)/\Iv q' aX H',λ_ _ h=>h,?_];rw[aA c];apply#[_,Z,r,CR,Ib,_,_,Z,s5 _ _ vL,T.cl,T.nN,MS _ _ _,n,Z,#[_,.of (s5 _ _ zF)],?_]
 let Iw:bZ:=λi σ H'=>∃(v6:aL),σ=[some (.ref g),some (.ref d),some (.ref lt),some (.int m),some (.ref d1),some (.ref r),v6]/\aa H4 H'/\∀(j:Nat) z,j<i->nw[j]? = some z->fK hs qs z l=false
 apply hX (K:=K) (a:=n) (xs:=A1) Iw ?_ ?_ ?_ ?_
 ·exact#[_,Z,s5,λj z hj=>by omega]
 ·rintro i σ H' _ ⟨_,_,sm,_⟩;exact .of (sm _ _ zF)
 ·rintro i y σ H6 hy ⟨VS,rfl,s6,MK⟩;have hi:i<A1.length:=(bY.mp hy).1;have hz:nw[i]? = some (nw[i]' Z1):=aP Z1;obtain⟨z,ez⟩:∃z,z=nw[i]' Z1:=#[_,Z];rw[<- ez] at hz;let#[t,yt,ht]:=LK gj hz;rw[hy] at yt;cases yt;let zm:=cQ hz;let zd:=(bf.new z).mp zm;let iL:=s4.trans s6;apply#[_,Z,_,Z,_,Z,g,p,t,lt,hs,ts,qs,fp,z,l,Z,G.same iL,s6 _ _ ht,B6 z zm,iL _ _ hl,lo,λH7 s7=>#[_,Z,?_]];let w9:=s6.trans s7;let qY:=s4.trans w9;apply cu (λcc=>?_) (λcc=>?_)
  ·apply#[_,Z,_,Z,r,Ib,_,Z,w9 _ _ vL,Nd _ _ _ Z0 Z0 Z0,_,Z,r,x,a,n,t,hs,ts,qs,pa,nw,s0,z,k,Z,R.same w9,w9 _ _ ht,zd,bf.nd,λj u hj wu=>(bf.all u).mpr #[j,hj,wu],po,by omega,λl8 Vn row H8 s8 n8' e8 Wu Kn=>?_];apply#[g,p,l8,Vn,hs,ts,qs,fp,s0,z,k,row,Z,(G.same qY).same s8,e8,Wu,Kn,λu vJ=>(QN Kn.cn Kn.hd v0 u vJ).len,by omega,λx9 zs ms H9 s9 n9 e9 mv tr lm=>#[zl,λt9 DJ=>?_]];let WA:=s8.trans s9;let Ge:=qY.trans WA;let sA:=aa.new (o:=.tup [.str "moves",.ref x9]) DJ;apply kM t9 x9 zs ms z _ (Ge.trans sA) (qY.free (s8.free n9)) ax (sA _ _ e9) (Paired.aV mv λy m ⟨t,e,ht⟩=>#[t,e,sA _ _ ht]) tr (by rw[lm];exact zd) cc λj u hj du=>ev j u Z1 du
  apply#[_,Z,w9,λj u hj vJ=>?_];by_cases c2:j=i
  ·subst c2;rw[hz] at vJ;cases vJ;simpa using cc
  exact MK j u Z1 vJ
 rintro σ H6 ⟨VS,rfl,s6,MK⟩;let iL:=s4.trans s6
 have evk:∀j z,j<k+1->Ds N s0 j z->fK hs qs z l=false:=λj z hj dz=>by
  by_cases c2:j=k
  ·subst c2;let#[i,hi,e]:=gX ((bf.new z).mpr dz);exact MK i z Z1 (by rw[aP hi,e])
  exact ev j z Z1 dz
 have sN:∀{H7:Hp},A0 r a H6 H7->aa H H7:=λb7 b o e=>b7 b o (iL _ _ e) (bp e rn) (bp e an0);apply#[_,Z,r,Ib,_,Z,s6 _ _ vL,Nd _ _ _ Z0 Z0 Z0,_,Z,r,x,a,n,hs,ts,qs,pa,nw,s0,k,m,Z,R.same s6,bf,po,B6,n8,G.bX,by omega,by omega,λH7 b7 more=>#[_,Z,df ?_],λn' oI ue H7 b7 nn R7 bf7 Xi vC Qj=>#[_,Z,aK ?_]]
 ·apply#[zl,λl1 gm=>?_];let#[s8,e8]:=aD (o:=.lst [.str "more"]) gm;generalize upd H7 l1 (.lst [.str "more"])=H8 at s8 e8 ⊢;apply#[l1,_,Z,.inl #[.of e8,λt ht=>?_]];exact kO t _ (((sN b7).trans s8).trans (aa.new ht)) ax more
 apply#[_,?_,_,n',oI,ue,k+1,Z,sN b7,R7,bf7,Xi,?_,?_,evk,Z]
 ·split
  ·rename_i c3
   rw[c3] at vC;simp at vC;omega
  rename_i c3
  have:1<=ue.length:=by
   cases ue with
   |nil=>exact absurd Z c3
   |cons _ _=>simp
  rcases Qj with o|o
  ·omega
  exact absurd o c3
 ·rcases Qj with o|o
  ·exact o
  rw[o] at vC;simp at vC;omega
 intro c3
 have:1<=ue.length:=by
  cases ue with
  |nil=>exact absurd Z c3
  |cons _ _=>simp
 omega
end
structure j9 (ts:Xb) (p:Pc):Prop where
 g:j8 ts p
 sub:∀ws,p.2.2\ws->∀w∈ws,w∈ts
theorem UQ:∀us:Xb,Paired (λw u=>w=u∨w=(u.2,u.1)) us us
 |[]=>.nil
 |u::us=>.cons (.inl Z) (UQ us)
variable{f:Addr}
section v
theorem AC:bG [gB,uB,"_law_most",xN,"_law_k","_law_name_here","_law_some","_law_weight","_law_ways"] tR (bg OG):=bQ
inductive Oz (K:ai) (vs:ag) (H:Hp) (Q:VK) (E:XK):Prop
 |mk:∀(l lt:Addr) (m:Nat) (zs:ag) (ts:Xb),vs=[.ref l,.ref lt,.int m]->m<=8->dD H l->H lt\.lst zs->bR K H zs (ts.map kT)->lt≠l->ts.length<64->(∀t∈ts,wc t)->(ts.map kO).Nodup->(∀(a:Addr) (ys:ag) (ps:aM) (H':Hp),bc l H H'->dD H' l->H a=none->H' a\.lst ys->iY K H' ys ps->(∀p∈ps,j9 ts p)->(ps.map (·.1)).Nodup->ps.length<=m->Q (.ref a) H')->Oz K vs H Q E
theorem fh_(F:bx K "_law_pieces" "_law_pieces" OG f fd)(B:Bi mg)(cD:!bw 1 uA vZ xU)(cN:!bw 2 "_law_name" [gB] Nc):!aq bh 3 f fd tR (Oz K):=by
 exists F.bP AC;let#[l,lt,m,zs,ts,rfl,m8,st,dZ,tu,zf,bX,good,nd,k]:=h;let sz:=cX;let lz:=br tu;rw[ak] at lz;refine' #[_,av ?s1 (av ?s2 (aF ?s3)),?kk]
 case s1=>exact bj 3 AC.nd (fN bO)
 case' s2=>refine' eW d6 Z ?i2 ?g2 (av ?b1 (aF ?b2))
 case i2=>exact wB (by rfl) B.range %[aZ cD hr %[0,bN gH (pv 2) aB|0]|0]
 case g2=>exact cy 4 AC.nd
 case b1=>exact bj 5 AC.nd (aZ cN hr %[0|0])
 case' b2=>refine' b_ (fF (TY gW (nZ hr 0)) (pv 5) (iI [sX] 1 [] (dI (pv 3)) (λfp s H=>?g3) (λfp s H=>ji) (λfp s H=>?e3)) (by with_unfolding_all rfl)) (av ?c1 (av ?c2 (av ?c3 (aF ?c4)))) cm
 case g3=>exact eN (i:=0) (show ([sX]:af).Nodup by decide +kernel) Z (Or.inl Z)
 case e3=>exact bo (ug (K:=K) ju cZ) (pv 0) aB
 case c1=>exact bj 6 AC.nd (fN %[bN gH aB (aZ cD hr %[0,aB|0]),bN gH aB (aZ cD hr %[0,aB|0]),bN gH aB (aZ cD hr %[0,bN Zf aB aB|0])|0])
 case c2=>exact bj 7 AC.nd (bo fL (pv 6) (aZ cD hr %[0,aB|0]))
 case' c3=>refine' M0 (i:=8) ["_law_tie",gB] 1 [0] AC.nd Z (Or.inl Z) (dI (pv 1)) (λfp s H=>?g4) (λfp s H=>?t4) (λfp s H=>?e4)
 case g4=>exact eN (i:=0) (show (["_law_tie",gB]:af).Nodup by decide +kernel) Z (Or.inl Z)
 case t4=>exact Ft (fF Lc (aZ cD hr %[1,aB|0]) aB)
 case e4=>exact pv 0
 case c4=>exact ml (pA oW wa wb uJ (pv 3) %[fY %[5,7,bo fL (fN %[uG,uG,8|0]) (aZ cD hr %[0,aB|0])|0]|0])
 case s3=>exact bu (pv 3)
 apply#[zl,λa ha=>?_];let#[Jv,lT]:=st.some;have gd:l≠a:=bp lT ha;let#[s1,e1]:=aD (o:=.lst []) ha;let qd:=st.same s1;generalize upd H a (.lst [])=H1 at s1 e1 qd ⊢;apply#[_,Z,_,Z,_,_,Z,Z,l,(m:Int)+1,Z,by omega,by omega,qd,λr H2 r0 rm b2 fI=>?_];apply#[_,Z,by show (-(2 ^ 62):Int)<=r;omega,by show r<(2 ^ 62:Int);omega,?_]
 let Iv:bZ:=λi σ H'=>∃(v4 v5 v6 v7 v8:aL) (ys:ag) (ps:aM),σ=[some (.ref l),some (.ref lt),some (.int m),some (.ref a),v4,v5,v6,v7,v8]/\bc l H H'/\dD H' l/\H' a\.lst ys/\Paired (λy p=>∃t v,y=.ref t/\H' t\.tup [.str p.1,.int p.2.1,v]/\bT K H' v p.2.2/\v≠.ref a) ys ps/\(∀p∈ps,j9 ts p)/\(ps.map (·.1)).Nodup/\ps.length<=i
 apply AI (lo:=0) (n:=r.toNat) Iv #[none,none,none,none,none,[],[],Z,(bc.of s1).trans b2,fI,b2 _ _ e1 gd.symm,.nil,by simp,.nil,a_ _] ?_ ?_
 ·rintro i σ H3 hi ⟨v4,v5,v6,v7,v8,ys,ps,rfl,b3,iB,jG,Gp,gp,rq,le⟩;let ly:=br Gp;apply#[_,Z,l,Z,iB,λx H4 nx b4 ib=>?_];let#[Vu,zI]:=iB.some;let jF:=b4 _ _ jG gd.symm
  have Gm:∀{Ha Hb:Hp},bc l Ha Hb->dD Ha l->∀{y p},(∃t v,y=V.ref t/\Ha t\.tup [.str p.1,.int p.2.1,v]/\bT K Ha v p.2.2/\v≠.ref a)->∃t v,y=V.ref t/\Hb t\.tup [.str (p:Pc).1,.int p.2.1,v]/\bT K Hb v p.2.2/\v≠.ref a:=by
   intro Ha Hb bb sb y p h;let#[t,v,e,ht,wy,na]:=h;let#[xs,e2]:=sb.some;exact#[t,v,e,bb _ _ ht (bK ht e2 nofun),wy.but bb sb,na]
  let Qi:=Paired.aV Gp λy p h=>Gm b4 iB h;apply#[_,Z,_,Z,a,Z,#[_,.of jF],λD hD=>?_];apply iZ (own:=1) (fv:=[]) (xs:=ys) Z e_ (λi out H'=>aa H4 H'/\H' D\.lst out/\out=((ps.take i).map (·.1)).map V.str) #[aa.new hD,ax,Z] (λi out H' _ ⟨sm,_,_⟩=>.of (sm _ _ jF)) (λout H5 ⟨s5,ip,eo⟩=>?_) (λj y out H' hy ⟨sm,cK,eo⟩=>?_);rotate_left 1
  ·have hj:j<ys.length:=(bY.mp hy).1;let#[t,v,e,ht,_]:=dS Qi j hj Z1;rw[aP hj] at hy;cases hy;rw[e];have hp:ps[j]? = some (ps[j]' Z1):=aP Z1;apply#[_,Z,Z,λNx hN=>d_ ?_];apply#[_,Z,t,_,0,_,Z,Z,.of (sm _ _ ht),L2.dQ (j:=0) Z,out,cK,?_,hN _ _ #[fi sm hD,ax,?_]]
   ·rw[eo,ak,ak,dH];omega
   rw[tH _ hp,eS,eo];rfl
  rw[ly,eI] at eo;subst eo;have b5:bc l H H5:=(b3.trans b4).trans (bc.of s5);let g8:=ib.same s5;let EH:=s5 _ _ jF;let Qh:=Paired.aV Qi λy p h=>Gm (bc.of s5) ib h;apply#[x,_,Z,T4 ip,_,Z,?_];apply cu (λc=>?_) (λc=>?_)
  ·have KG:x∉ps.map (·.1):=⇑c
   apply#[_,Z,l,3,Z,by decide,by decide,g8,λr1 H6 q0 q1 b6 iK=>#[_,_,Z,Z,?_]];apply#[_,Z,l,9,Z,by decide,by decide,iK,λr2 H7 q2 q3 b7 i7=>#[_,_,Z,Z,?_]];apply#[_,Z,_,_,Z,Z,#[by decide,by decide,by decide],l,_,Z,by decide,by decide,i7,λr3 H8 q4 q5 b8 yA=>#[_,_,Z,Z,?_]];have q5:r3<1000000000:=q5;apply#[zl,λp hp=>?_];let#[s9,e9]:=aD (o:=.lst [.int (1+r1),.int (1+r2),.int (1+r3)]) hp;let uZ:=yA.same s9
   have pl:p≠l:=by
    let#[xs,e]:=yA.some;exact (bp e hp).symm
   have BE:bc l H5 (upd H8 p (.lst [.int (1+r1),.int (1+r2),.int (1+r3)])):=((b6.trans b7).trans b8).trans (bc.of s9);generalize upd H8 p (.lst [.int (1+r1),.int (1+r2),.int (1+r3)])=H9 at s9 e9 uZ BE ⊢;apply#[_,Z,_,Z,l,3,Z,by decide,by decide,uZ,λr4 HA q6 q7 bA J_=>?_];let#[y,hy,wt,ew,w1,w2]:=Em (p:=λy:V=>∃n:Int,y=.int n/\1<=n/\n<=1000000000) (a:=V.int (1+r1)) (b:=.int (1+r2)) (c:=.int (1+r3)) q6 q7 #[_,Z,by omega,by omega] #[_,Z,by omega,by omega] #[_,Z,by omega,by omega];subst ew;apply#[p,_,_,_,Z,Z,.of (bA _ _ e9 pl),hy,?_];let O0:=BE.trans bA;have RC:bc l H HA:=b5.trans O0;let Ea:=RC _ _ dZ zf;let V0:=jT tu RC lT;apply#[_,Z,lt,Z,#[_,.of Ea],λD2 uq=>?_]
   have Pr:D2≠l:=by
    let#[xs,e]:=J_.some;exact (bp e uq).symm
   apply iZ (own:=1) (fv:=[some (.ref l)]) (xs:=zs) Z e_ (λi out H'=>∃us:Xb,bc l HA H'/\dD H' l/\H' D2\.lst out/\bR K H' out (us.map kT)/\us.Sublist (ts.take i)) #[[],bc.of (aa.new uq),J_.same (aa.new uq),ax,.nil,List.nil_sublist _] (λi out H' _ ⟨_,b,_⟩=>.of (b _ _ Ea zf)) (λVo HB ⟨us,bB,yz,G8,VZ,sub⟩=>?_) (λi x out H' hx ⟨us,b,stx,hDx,PJ,sub⟩=>?_);rotate_left 1
   ·let#[t,ht,p,rfl,hp]:=uM V0 hx;apply#[_,Z,Z,λNx hN=>?_];apply#[_,Z,l,3,Z,by decide,by decide,stx,λr2 H4 q0 q1 b4 ib=>#[_,_,Z,Z,_,Z,?_]];let#[Vr,kj]:=stx.some;let yj:=jT PJ b4 kj;let iS:=b4 _ _ hDx Pr;let#[Vy,e1]:=J_.some;have ig:p≠l:=bK hp e1 nofun;apply cu (λc2=>?_) (λc2=>?_)
    ·let lo:=br PJ;rw[ak] at lo;let ls:=sub.length_le;rw[dH] at ls;let DW:=b4 _ _ (b _ _ hp ig) ig;apply#[_,Z,out,iS,by omega,hN _ _ #[us++[t],λb' o e ne=>?_,?_,ax,?_,?_]]
     ·rw[aw (bp e uq)];exact b4 _ _ (b _ _ e ne) ne
     ·unfold dD;rw[aw Pr.symm];exact ib
     ·rw[eS];exact IP (fQ_ yj DW) iS
     rw[pP,ht];exact sub.append (List.Sublist.refl _)
    apply hN _ _ #[us,b.trans b4,ib,iS,yj,sub.trans ?_];rw[pP];exact List.sublist_append_left _ _
   rw[lz,eI] at sub;let OZ:=O0.trans bB;let RQ:=OZ _ _ EH gd.symm;let Xo:=Paired.aV Qh λy p h=>Gm OZ g8 h
   have D2a:D2≠a:=λz=>by
    have:=O0 _ _ EH gd.symm;rw[<- z,uq] at this;cases this
   apply#[_,Z,.inl #[Z,_,.of RQ],_,Z,_,Z,_,Z,zl,λlx kj=>?_];let#[sC,eC]:=aD (o:=.lst [.non,.non,.ref D2]) kj;let stC:=yz.same sC
   have Df:lx≠l:=by
    let#[xs,e]:=yz.some;exact (bp e kj).symm
   generalize upd HB lx (.lst [.non,.non,.ref D2])=HC at sC eC stC ⊢;apply#[_,Z,l,3,Z,by decide,by decide,stC,λr5 HD q8 q9 bD J9=>?_];have FD:bc l HB HD:=(bc.of sC).trans bD;let VX:=jT VZ FD (yz.some.choose_spec);let hDD:=FD _ _ G8 Pr;let#[v,hv,o,wy,fresh,gw,gs]:=Em (p:=λv:V=>∃o,bT K HD v o/\v≠.ref a/\(∀ws,o\ws->E3 ts ws)/\∀ws,o\ws->∀w∈ws,w∈ts) (a:=V.non) (b:=.non) (c:=.ref D2) q8 q9 #[none,Z,nofun,(λws z=>by cases z),(λws z=>by cases z)] #[none,Z,nofun,(λws z=>by cases z),(λws z=>by cases z)] #[some us,#[D2,Vo,Z,hDD,VX],(λz=>D2a (V.ref.inj z)),(λws z=>by cases z;exact YX good nd sub (UQ us)),(λws z w hw=>by cases z;exact sub.subset hw)];apply#[lx,_,_,_,Z,Z,.of (bD _ _ eC Df),hv,zl,λt ht=>?_];let haD:=FD _ _ RQ gd.symm;let#[sE,eE]:=aD (o:=.tup [.str x,.int wt,v]) ht;let A7:=Paired.aV Xo λy p h=>Gm (FD.trans (bc.of sE)) yz h;let PV:=J9.same sE;let PD:=wy.same sE;let bE:=(b5.trans OZ).trans (FD.trans (bc.of sE));let Bh:=sE _ _ haD;generalize upd HD t (.tup [.str x,.int wt,v])=HE at sE eE A7 PV PD bE Bh ⊢;apply#[a,_,_,Z,Z,Bh,by omega,?_];apply#[_,_,_,_,_,_,ps++[(x,wt,o)],Z,λb' o' e ne=>?_,?_,ax,?_,?_,?_,?_]
   ·rw[aw (bp e ha)];exact bE _ _ e ne
   ·unfold dD;rw[aw gd];exact PV
   ·exact gY (Paired.aV A7 λy p ⟨t',v,e,DT,wy,na⟩=>#[t',v,e,by rw[aw (bK DT Bh nofun)];exact DT,wy.put Bh na,na]) (.cons #[t,v,Z,by rw[aw (bK eE Bh nofun)];exact eE,PD.put Bh fresh,fresh] .nil)
   ·intro q hq;rcases d8.mp hq with hq|hq
    ·exact gp q hq
    rw[eU.mp hq];exact#[#[nx,w1,w2,gw],gs]
   ·rw[eS,List.nodup_append];exact#[rq,by simp,λa1 h1 a2 h2 e=>KG (by rw[<- (eU.mp h2:a2=x),<- e];exact h1)]
   rw[d9,jU];omega
  exact#[_,_,_,_,_,ys,ps,Z,b5,g8,EH,Qh,gp,rq,by omega]
 rintro σ H3 ⟨v4,v5,v6,v7,v8,ys,ps,rfl,b3,iB,jG,Gp,gp,rq,le⟩;exact#[_,Z,k a ys ps H3 b3 iB ha jG (Paired.aV Gp λy p ⟨t,v,e,ht,wy,_⟩=>#[t,v,e,ht,wy]) gp rq Z1]
end
section v
theorem qt:bG oj oj (bg Nu):=bQ
inductive OB (K:ai) (vs:ag) (H:Hp) (Q:VK) (E:XK):Prop
 |mk:∀(l lh lp:Addr) (yh yp:ag) (hs:Xa) (ps:aM),vs=[.ref l,.ref lh,.ref lp]->dD H l->H lh\.lst yh->bR K H yh (hs.map kH)->lh≠l->1<=hs.length->hs.length<=8->H lp\.lst yp->iY K H yp ps->lp≠l->(ps.map (·.1)).Nodup->ps.length<=8->(∀d f H',bc l H H'->dD H' l->H d=none->H' d\.dK (d7 (ps.map (·.1)) f)->(∀n∈ps.map (·.1),f n∈hs.map (·.1))->Q (.ref d) H')->OB K vs H Q E
theorem gD_(F:bx K "_law_stand" "_law_stand" Nu f fd)(B:Bi mg)(cD:!bw 1 uA vZ xU):!aq bh 2 f fd oj (OB K):=by
 exists F.bP qt;let#[l,lh,lp,yh,yp,hs,ps,rfl,st,fV,th,vB,h1,h8,km,pc,Dh,nd,p8,k]:=h;let sz:=cX;let ze:=br th;rw[ak] at ze;let De:=br pc;refine' #[_,aF (bu (i0 (xY Z) (by rfl) B.dict tw %[iI [sX,jg,gB] 1 [1,0] (dI (pv 2)) (λfp s H=>?g1) (λfp s H=>ji) (λfp s H=>?e1)|0])),?kk]
 case g1=>exact eN (i:=0) (show ([sX,jg,gB]:af).Nodup by decide +kernel) Z (Or.inl Z)
 case e1=>exact fY %[bo (ug (K:=K) ju cZ) (pv 0) aB,bo (ug (K:=K) ju cZ) (bo (ug (K:=K) oE fL) (pv 1) (aZ cD hr %[2,cJ (xS (K:=K) IZ iy) (by rfl) B.len gC %[1|0]|0])) aB|0]
 let#[Jv,lT]:=st.some;apply#[_,Z,lp,Z,#[_,.of km],λD hD=>?_];have Dl:D≠l:=(bp lT hD).symm;apply iZ (own:=1) (fv:=[some (.ref lh),some (.ref l)]) (xs:=yp) Z e_ (λi out H'=>∃hh:ao,bc l H H'/\dD H' l/\H' D\.lst out/\hh.length=i/\(∀h∈hh,h∈hs.map (·.1))/\jd K H' out ((((ps.map (·.1)).take i).zip (sV hh)).map λp=>(Sum.inr p.1,p.2))) #[[],bc.of (aa.new hD),st.same (aa.new hD),ax,Z,by simp,by simp;exact .nil] (λi out H' _ ⟨_,b,_⟩=>.of (b _ _ km Dh)) (λout H5 ⟨hh,b5,g8,ip,K1,mem,pa⟩=>?_) (λi y out H' hy ⟨hh,b,stx,cK,Yd,mem,pa⟩=>?_)
 ·rw[De] at K1;have lt:(ps.map (·.1)).take yp.length=ps.map (·.1):=by rw[De];exact tL Z2
  rw[lt] at pa;have ln:(ps.map (·.1)).length=ps.length:=ak _;rw[QY nd (by rw[ln];exact K1)] at pa;apply#[D,out,_,Z,ip,pa,by rw[jQ,ln];omega,λd hd=>?_]
  have ke:((d7 (ps.map (·.1)) (nR (ps.map (·.1)) hh)).map (·.1)).Nodup:=by
   rw[AF,tN,uK];exact nd.imp λn e=>n (hJ e)
  rw[wC ke];apply k d (nR (ps.map (·.1)) hh) _ (b5.trans (bc.of (aa.new hd))) (g8.same (aa.new hd)) (b5.free g8 hd) ax λn hn=>?_;let#[j,hj,e]:=gX hn;have Ej:j<hh.length:=by rw[K1,<- ln];exact hj
  rw[Bu nd (k:=j) (by rw[aP hj,e]) (aP Ej)];exact mem _ (kD Ej)
 have hi:i<yp.length:=(bY.mp hy).1;let#[t,v,e,ht,_]:=dS pc i hi Z1;rw[aP hi] at hy;cases hy;rw[e];have hp:ps[i]? = some (ps[i]' Z1):=aP Z1;obtain⟨pz,ep⟩:∃p,p=ps[i]' Z1:=#[_,Z];rw[<- ep] at hp ht;have tl:t≠l:=bK ht lT nofun;apply#[_,Z,Z,λNx hN=>d_ ?_];apply#[_,Z,t,_,0,_,Z,Z,.of (b _ _ ht tl),L2.dQ (j:=0) Z,_,Z,_,Z,_,Z,lh,_,Z,.inl (.of (b _ _ fV vB)),l,(yh.length:Int),Z,by omega,by omega,stx,λr H2 r0 r1 b2 fI=>?_];let#[r,rfl]:=tM r0;have Rq:r<yh.length:=by omega
 let#[u,eu,hu]:=dS th r Rq (by rw[ak];omega);let bb:=b.trans b2;have hh':(hs.map kH)[r]'(by rw[ak];omega)=kH (hs[r]' Z1):=List.getElem_map ..;rw[hh'] at hu;let zu:=zB (bb _ _ hu (bK hu lT nofun));apply#[lh,_,r,.ref u,Z,Z,.of (bb _ _ fV vB),L2.dQ (by rw[aP Rq,eu]),u,_,0,_,Z,Z,.of zu,L2.dQ (j:=0) Z,zl,λz hz=>?_];let#[s3,e3]:=aD (o:=.tup [.str pz.1,.str (hs[r]' Z1).1]) hz;let iB:=fI.same s3;let kq:=s3 _ _ (b2 _ _ cK Dl);generalize upd H2 z (.tup [.str pz.1,.str (hs[r]' Z1).1])=H3 at s3 e3 iB kq ⊢;let lo:=br pa;rw[ak,List.length_zip,dH,ak,ak] at lo
 have tD:∀{c xs},H3 c\.tup xs->upd H3 D (.lst (out++[.ref z])) c\.tup xs:=λe=>by
  rw[aw (bK e kq nofun)];exact e
 let#[Vr,kj]:=stx.some;apply#[out,kq,by omega,hN _ _ #[hh++[(hs[r]' Z1).1],λc o e ne=>?_,?_,ax,by rw[d9,Yd];rfl,λh hm=>?_,?_]]
 ·rw[aw (bp e hD)];exact s3 _ _ (bb _ _ e ne)
 ·unfold dD;rw[aw Dl.symm];exact iB
 ·rcases d8.mp hm with hm|hm
  ·exact mem h hm
  rw[eU.mp hm];exact bC.mpr #[_,kD Z1,Z]
 have ez:((ps.map (·.1)).take (i+1)).zip (sV (hh++[(hs[r]' Z1).1]))=((ps.map (·.1)).take i).zip (sV hh)++[(pz.1,V.str (hs[r]' Z1).1)]:=by
  rw[tF (n:=pz.1) (by rw[di,hp];rfl)];show _=_;rw[show sV (hh++[(hs[r]' Z1).1])=sV hh++[V.str (hs[r]' Z1).1] from eS,List.zip_append (by rw[dH,ak,ak];omega)];rfl
 rw[ez,eS];apply gY (Paired.aV pa λy p ⟨c,e,hc⟩=>#[c,e,tD (s3 _ _ (b2 _ _ hc (bK hc kj nofun)))]) (.cons #[z,Z,tD e3] .nil)
theorem OI:bG [jg,kC,"_law_spot",xN,"_law_k"] tS (bg NG):=bQ
def jA(ss:aM)(s:ao)(h:Str):Int:=ld (fS ss s) (ss.map eY) h
inductive Of (K:ai) (vs:ag) (H:Hp) (Q:VK) (E:XK):Prop
 |mk:∀(lh lp t:Addr) (yh yp:ag) (hs:Xa) (ss:aM) (s:ao),vs=[.ref lh,.ref lp,.ref t]->H lh\.lst yh->bR K H yh (hs.map kH)->(hs.map (·.1)).Nodup->hs.length<=8->H lp\.lst yp->iY K H yp ss->(ss.map (·.1)).Nodup->ss.length<=8->H t\.tup (sV s)->s.length=ss.length->(∀h∈s,h∈hs.map (·.1))->(∀d H',aa H H'->H d=none->H' d\.dK (dW (hs.map (·.1)) λh=>.int (jA ss s h))->Q (.ref d) H')->Of K vs H Q E
theorem g4_(F:bx K "_law_loads" "_law_loads" NG f fd)(B:Bi mg):!aq bh 1 f fd tS (Of K):=by
 exists F.bP OI;let#[lh,lp,t,yh,yp,hs,ss,s,rfl,fV,th,uj,h8,km,pc,nd,p8,ht,ls,g_,k]:=h;let hu:=gf hr;let sz:=cX;let ze:=br th;rw[ak] at ze;let De:=br pc;refine' #[_,av ?s1 (av ?s2 (aF ?s3)),?kk]
 case' s1=>refine' bj 3 OI.nd (i0 (xY Z) (by rfl) B.dict tw %[iI Bl 2 [] (dI (pv 0)) (λfp s H=>?g1) (λfp s H=>ji) (λfp s H=>?e1)|0])
 case g1=>exact AM (n:=2) (dC (eN (i:=0) (show (Bl:af).Nodup by decide +kernel) Z (Or.inl Z)) (dC (eN (i:=1) (show (Bl:af).Nodup by decide +kernel) Z (Or.inl Z)) i6))
 case e1=>exact fY %[0,aB|0]
 case' s2=>refine' eW d6 Z ?i2 ?g2 (aF ?b2)
 case i2=>exact wB (by rfl) B.range %[cJ iy (by rfl) B.len gC %[1|0]|0]
 case g2=>exact cy 4 OI.nd
 case b2=>exact uD hu (pv 3) (bo cZ (pv 2) (pv 4)) (bN gH (n5 hu (pv 3) (bo cZ (pv 2) (pv 4))) (bo cZ (bo fL (pv 1) (pv 4)) aB)) Z
 case s3=>exact bu (pv 3)
 apply#[_,Z,lh,Z,#[_,.of fV],λD hD=>?_];apply iZ (own:=2) (fv:=[]) (xs:=yh) Z vR (λi out H'=>aa H H'/\H' D\.lst out/\jd K H' out (dW ((hs.map (·.1)).take i) λ_=>.int 0)) #[aa.new hD,ax,.nil] (λi out H' _ ⟨sm,_,_⟩=>.of (sm _ _ fV)) (λout H5 ⟨sm,ip,pa⟩=>?_) (λi y out H' hy ⟨sm,cK,pa⟩=>?_);rotate_left 1
 ·let#[h,hh,p,rfl,hp]:=uM th hy;apply#[_,#[p,_,_,Z,.of (sm _ _ (zB hp)),Z],Z,λNx hN=>d_ ?_];apply#[_,Z,zl,λz hz=>?_];let#[s3,e3]:=aD (o:=.tup [.str h.1,.int 0]) hz;generalize upd H' z (.tup [.str h.1,.int 0])=H3 at s3 e3 ⊢;have hi:i<hs.length:=(bY.mp hh).1;let lo:=br pa;rw[jQ,dH,ak] at lo
  have tD:∀{c xs},H3 c\.tup xs->upd H3 D (.lst (out++[.ref z])) c\.tup xs:=λe=>by
   rw[aw (bK e (s3 _ _ cK) nofun)];exact e
  apply#[out,s3 _ _ cK,by omega,hN _ _ #[fi (sm.trans s3) hD,ax,?_]];rw[tF (n:=h.1) (by rw[di,hh];rfl)];show jd K _ _ (((hs.map (·.1)).take i++[h.1]).map _);rw[eS];exact gY (Paired.aV pa λy p ⟨c,e,hc⟩=>#[c,e,tD (s3 _ _ hc)]) (.cons #[z,Z,tD e3] .nil)
 have lt:(hs.map (·.1)).take yh.length=hs.map (·.1):=tL (by rw[ak];omega);rw[lt] at pa;apply#[D,out,_,Z,ip,pa,by rw[jQ,ak];omega,λd hd=>?_]
 have ke:((dW (hs.map (·.1)) λ_=>V.int 0).map (·.1)).Nodup:=by
  rw[AF,tN,uK];exact uj.imp λn e=>n (hJ e)
 rw[wC ke];let#[s6,e6]:=aD (o:=.dK (dW (hs.map (·.1)) λ_=>V.int 0)) hd;have dn:H d=none:=sm.free hd;let iL:=sm.trans s6;generalize upd H5 d (.dK (dW (hs.map (·.1)) λ_=>V.int 0))=H6 at s6 e6 iL ⊢;apply#[_,Z,lp,_,Z,.inl (.of (iL _ _ km)),_,Z,by show (-(2 ^ 62):Int)<=(yp.length:Int);omega,by show (yp.length:Int)<2 ^ 62;omega,?_]
 let Iv:bZ:=λi σ H'=>∃(v4:aL),σ=[some (.ref lh),some (.ref lp),some (.ref t),some (.ref d),v4]/\aa H H'/\H' d\.dK (dW (hs.map (·.1)) λh=>.int (ld (fS ss s) ((ss.take i).map eY) h))
 apply AI (lo:=0) (n:=((yp.length:Nat):Int).toNat) Iv #[none,Z,iL,e6] ?_ ?_
 ·rintro i σ H7 hi ⟨v4,rfl,s7,e7⟩;rw[Int.zero_add];have hi:i<ss.length:=by omega
  let#[u,v,eu,vJ,_]:=dS pc i Z1 hi;have GN:s[i]? = some (s[i]' Z1):=aP Z1;obtain⟨h,eh⟩:∃h,h=s[i]' Z1:=#[_,Z];obtain⟨q,eq⟩:∃q,q=ss[i]:=#[_,Z];have hq:ss[i]? = some q:=by rw[eq];exact aP hi
  rw[<- eh] at GN;rw[<- eq] at vJ;have hm:h∈hs.map (·.1):=g_ h (cQ GN);have Ez:ix (sV s) (i:Int)\.str h:=L2.dQ (by rw[di,GN];rfl);let Rl:=s7 _ _ ht;have ff:fS ss s q.1=h:=Bu nd (k:=i) (by rw[di,hq];rfl) GN;apply#[_,Z,_,Z,_,Z,t,_,i,_,Z,Z,.of Rl,Ez,d,.int (ld (fS ss s) ((ss.take i).map eY) h),Z,?_,?_]
  ·have:=eR.k (k:=.inr h) e7;rw[AO (g:=λh=>V.int (ld (fS ss s) ((ss.take i).map eY) h)) hm] at this;exact this
  apply#[_,Z,_,Z,lp,_,i,.ref u,Z,Z,.of (s7 _ _ km),L2.dQ (by rw[aP Z1,eu]),u,_,1,_,Z,Z,.of (s7 _ _ vJ),L2.dQ (j:=1) Z,_,_,Z,Z,?_];apply#[_,Z,_,Z,_,Z,t,_,i,_,Z,Z,.of Rl,Ez,d,_,Z,.k (k:=Sum.inr h) e7 (by rw[jQ,ak];omega),?_];apply#[_,Z,fi s7 dn,?_];rw[ax,RZ hm];apply d5 (λz=>some (HO.dK z)) (Jb λn _=>?_);rw[tH _ hq,RX];show (if n=h then _ else _)=V.int (if n=fS ss s q.1 then _ else _);rw[ff];by_cases c:n=h
  ·rw[aI c,aI c,c];rfl
  rw[aA c,aA c]
 rintro σ H7 ⟨v4,rfl,s7,e7⟩;have:ss.take ((yp.length:Nat):Int).toNat=ss:=tL Z1;rw[this] at e7;exact#[_,Z,k d H7 s7 dn e7]
end
structure fj (ts:Xb) (ss qs:aM):Prop where
 qs:qs=ss.map o9
 dr:∀p∈ss,j9 ts p
 nd:(ss.map (·.1)).Nodup
theorem fj.vw{ts:Xb}{ss qs:aM}(S:fj ts ss qs):qs.map (·.1)=ss.map (·.1):=by
 rw[S.qs,cg];rfl
theorem fj.ws{ts:Xb}{ss qs:aM}(S:fj ts ss qs):qs.map eY=ss.map eY:=by
 rw[S.qs,cg];rfl
theorem fj.wp{ts:Xb}{ss qs:aM}(S:fj ts ss qs):∀q∈qs,0<=q.2.1/\q.2.1<=1000000000:=λq hq=>by
 rw[S.qs] at hq;let#[p,hp,rfl]:=bC.mp hq;let g:=(S.dr p hp).g;let h1:=g.w1;let h2:=g.w2;exact#[by show 0<=p.2.1;omega,h2]
theorem fj.len{ts:Xb}{ss qs:aM}(S:fj ts ss qs):qs.length=ss.length:=by rw[S.qs,ak]
theorem Ms{ts:Xb}{ss qs:aM}(S:fj ts ss qs)(s:ao)(h:Str):jA ss s h=ld (fS qs s) (qs.map eY) h:=by
 unfold jA fS;rw[S.vw,S.ws]
theorem Ti{hs:Xa}{ts:Xb}{ss qs:aM}(G:Good hs ts)(S:fj ts ss qs)(s:ao)(l:Int × Int):fK hs qs s l=true ↔ ∀a∈hs,∀b∈hs,¬(l.1 * a.2 * b.2<l.2 * (jA ss s a.1 * b.2 - jA ss s b.1 * a.2)):=by
 rw[SC];let mo:=Av G
 have one:∀a∈hs,∀b∈hs,(¬(l.1 * a.2 * b.2<l.2 * (jA ss s a.1 * b.2 - jA ss s b.1 * a.2)) ↔ l.2 * (fJ hs qs (fS qs s) a.1 - fJ hs qs (fS qs s) b.1)<=l.1 * fD hs):=λa ha b hb=>by
  have am:a.1∈aS hs:=(gF hs).mem_iff.mpr (bC.mpr #[a,ha,Z]);have bm:b.1∈aS hs:=(gF hs).mem_iff.mpr (bC.mpr #[b,hb,Z]);have ea:strOf hs a.1=a.2:=Tf G.uj ha;have eb:strOf hs b.1=b.2:=Tf G.uj hb;let sa:=Aw G am;let sb:=Aw G bm;let ma:=mo.2.2 _ am;let mb:=mo.2.2 _ bm;rw[ea] at sa ma;rw[eb] at sb mb;let alg:=Yz (La:=ld (fS qs s) (qs.map eY) a.1) (Lb:=ld (fS qs s) (qs.map eY) b.1) ma mb
  have e1:fJ hs qs (fS qs s) a.1=ld (fS qs s) (qs.map eY) a.1 * (fD hs / a.2):=by
   unfold fJ;rw[ea]
  have e2:fJ hs qs (fS qs s) b.1=ld (fS qs s) (qs.map eY) b.1 * (fD hs / b.2):=by
   unfold fJ;rw[eb]
  rw[Ms S,Ms S,e1,e2,Int.not_lt];have U4:0<a.2 * b.2:=Int.mul_pos Z1 Z1
  have k1:l.2 * (ld (fS qs s) (qs.map eY) a.1 * b.2 - ld (fS qs s) (qs.map eY) b.1 * a.2) * fD hs=a.2 * b.2 * (l.2 * (ld (fS qs s) (qs.map eY) a.1 * (fD hs / a.2) - ld (fS qs s) (qs.map eY) b.1 * (fD hs / b.2))):=by
   rw[Int.mul_assoc,alg]
   grind
  have k2:l.1 * a.2 * b.2 * fD hs=a.2 * b.2 * (l.1 * fD hs):=by grind
  constructor
  ·intro h;have:=Int.mul_le_mul_of_nonneg_right h (iz mo.1);rw[k1,k2] at this;exact Int.le_of_mul_le_mul_left this U4
  intro h;have:=Int.mul_le_mul_of_nonneg_left h (iz U4);rw[<- k1,<- k2] at this;exact Int.le_of_mul_le_mul_right this mo.1
 constructor
 ·intro h a ha b hb;exact (one a ha b hb).mpr (h _ ((gF hs).mem_iff.mpr (bC.mpr #[a,ha,Z])) _ ((gF hs).mem_iff.mpr (bC.mpr #[b,hb,Z])))
 intro h x hx y hy;let#[a,ha,rfl]:=bC.mp ((gF hs).mem_iff.mp hx);let#[b,hb,rfl]:=bC.mp ((gF hs).mem_iff.mp hy);exact (one a ha b hb).mp (h a ha b hb)
section v
theorem AJ:bG [jg,kC,"_law_spot","_law_limit_here",xN,"_law_one","_law_strength","_law_other","_law_more","_law_over"] om (bg lH):=bQ
inductive IR (K:ai) (vs:ag) (H:Hp) (Q:VK) (E:XK):Prop
 |mk:∀(lh lp t lt:Addr) (yh yp:ag) (hs:Xa) (ts:Xb) (ss qs:aM) (s:ao) (l:Int × Int),vs=[.ref lh,.ref lp,.ref t,.ref lt]->H lh\.lst yh->bR K H yh (hs.map kH)->Good hs ts->H lp\.lst yp->iY K H yp ss->fj ts ss qs->ss.length<=8->H t\.tup (sV s)->Vs hs qs s->gJ H lt l->pB l->(∀H',aa H H'->Q (.bl (fK hs qs s l)) H')->IR K vs H Q E
theorem ZX(F:bx K "_law_even" "_law_even" lH f fd)(cL:!bw 1 "_law_loads" tS (Of K)):!aq bh 2 f fd om (IR K):=by
 exists F.bP AJ;let#[lh,lp,t,lt,yh,yp,hs,ts,ss,qs,s,l,rfl,fV,th,G,km,pc,S,s8,ht,v,hl,lo,k]:=h;let hu:=gf hr;let ze:=br th;rw[ak] at ze;have g_:∀h∈s,h∈hs.map (·.1):=λh hh=>(gF hs).mem_iff.mp (v.g_ h hh);refine' #[_,av ?s1 (av ?s2 (aF ?s3)),?kk]
 case s1=>exact bj 4 AJ.nd (aZ cL hr %[0,1,2|0])
 case' s2=>refine' eW d6 Z (dI (pv 0)) ?g2 (aF ?b2)
 case g2=>exact oU Z (dC (cy 5 AJ.nd) (dC (cy 6 AJ.nd) i6))
 case' b2=>refine' eW d6 Z (dI (pv 0)) ?g3 (av ?c1 (aF ?c2))
 case g3=>exact oU Z (dC (cy 7 AJ.nd) (dC (cy 8 AJ.nd) i6))
 case c1=>exact bj 9 AJ.nd (bN Hg (bN pL (n5 hu (pv 4) (pv 5)) (pv 8)) (bN pL (n5 hu (pv 4) (pv 7)) (pv 6)))
 case c2=>exact b_ (fF Lc (bN pL (bo cZ (pv 3) aB) (pv 9)) (bN pL (bN pL (bo cZ (pv 3) aB) (pv 6)) (pv 8))) (aF (bu iV)) cm
 case s3=>exact bu iV
 apply#[_,Z,_,Z,_,Z,lh,lp,t,yh,yp,hs,ss,s,Z,fV,th,G.uj,G.h8,km,pc,S.nd,s8,ht,by rw[v.len,S.len],g_,λd H1 s1 n1 e1=>?_];let PP:=th.same s1
 have Qx:∀n,0<=jA ss s n/\jA ss s n<=64000000000:=λn=>by
  rw[Ms S];exact GK S.wp (by rw[S.len];omega) _ _
 let X:(Str × Int)->(Str × Int)->Prop:=λa b=>l.1 * a.2 * b.2<l.2 * (jA ss s a.1 * b.2 - jA ss s b.1 * a.2)
 let Iv:bZ:=λi σ H'=>∃(v5 v6 v7 v8 v9:aL),σ=[some (.ref lh),some (.ref lp),some (.ref t),some (.ref lt),some (.ref d),v5,v6,v7,v8,v9]/\H'=H1/\∀a∈hs.take i,∀b∈hs,¬X a b
 apply#[_,Z,lh,Z,#[_,.of (s1 _ _ fV)],?_];apply hX (K:=K) (a:=lh) (xs:=yh) Iv ?_ ?_ ?_ ?_
 ·exact#[none,none,none,none,none,Z,Z,by simp]
 ·rintro i σ H' _ ⟨_,_,_,_,_,_,rfl,_⟩;exact .of (s1 _ _ fV)
 ·rintro i y σ H2 hy ⟨v5,v6,v7,v8,v9,rfl,rfl,no⟩;let#[a,ha,p,rfl,hp]:=uM PP hy;let am:=cQ ha;have an:a.1∈hs.map (·.1):=bC.mpr #[a,am,Z];let ga:=G.az a am;apply#[p,_,Z,.of (zB hp),Z,_,_,Z,_,_,Z,Z,?_]
  let Iw:bZ:=λj σ H'=>∃(v7 v8 v9:aL),σ=[some (.ref lh),some (.ref lp),some (.ref t),some (.ref lt),some (.ref d),some (.str a.1),some (.int a.2),v7,v8,v9]/\H'=H2/\∀b∈hs.take j,¬X a b
  apply#[_,Z,lh,Z,#[_,.of (s1 _ _ fV)],?_];apply hX (K:=K) (a:=lh) (xs:=yh) Iw ?_ ?_ ?_ ?_
  ·exact#[_,_,_,Z,Z,by simp]
  ·rintro j σ H' _ ⟨_,_,_,_,rfl,_⟩;exact .of (s1 _ _ fV)
  ·rintro j y σ H3 hy ⟨v7,v8,v9,rfl,rfl,Gr⟩;let#[b,hb,q,rfl,hq]:=uM PP hy;let bm:=cQ hb;have bn:b.1∈hs.map (·.1):=bC.mpr #[b,bm,Z];let gb:=G.az b bm;let la:=Qx a.1;let lb:=Qx b.1;let ga1:=ga.2.1;let ga2:=ga.2.2;let gb1:=gb.2.1;let gb2:=gb.2.2
   have dg:∀{n},n∈hs.map (·.1)->eR H3 d (.str n) (some (.int (jA ss s n))):=λ{n} hn=>by
    have:=eR.k (k:=.inr n) e1;rw[AO (g:=λh=>V.int (jA ss s h)) hn] at this;exact this
   apply#[q,_,Z,.of (zB hq),Z,_,_,Z,_,_,Z,Z,?_];apply#[_,Z,_,Z,d,_,Z,dg an,_,Z,_,_,Z,Z,.inr #[by omega,by omega],_,Z,_,Z,d,_,Z,dg bn,_,Z,_,_,Z,Z,.inr #[by omega,by omega],_,_,Z,Z,?_];have m1:0<=jA ss s a.1 * b.2/\jA ss s a.1 * b.2<=64000000000 * 1000:=#[Int.mul_nonneg la.1 Z1,Int.mul_le_mul la.2 gb2 Z1 (by decide)];have m2:0<=jA ss s b.1 * a.2/\jA ss s b.1 * a.2<=64000000000 * 1000:=#[Int.mul_nonneg lb.1 Z1,Int.mul_le_mul lb.2 ga2 Z1 (by decide)];apply#[_,Z,lt,_,1,_,Z,Z,.of (s1 _ _ hl),L2.dQ (j:=1) Z,_,Z,_,_,Z,Z,.inr #[by omega,by omega],?_];apply#[_,Z,lt,_,0,_,Z,Z,.of (s1 _ _ hl),L2.dQ (j:=0) Z,_,Z,_,_,Z,Z,.inr #[by omega,by omega],_,Z,_,_,Z,Z,.inr #[by omega,by omega],_,_,Z,Z,_,Z,?_];apply cu (λc=>?_) (λc=>?_)
   ·have hx:X a b:=sk c;let kk:=k H3 s1
    have:fK hs qs s l=false:=by
     rw[<- Bool.not_eq_true,Ti G S];exact λh=>h a am b bm hx
    rw[this] at kk;exact kk
   have hx:¬X a b:=λh=>absurd h (Int.not_lt.mpr ⇑c);apply#[_,_,_,Z,Z,λz hz=>?_];rw[uO,hb] at hz;rcases d8.mp hz with hz|hz
   ·exact Gr z hz
   have:z=b:=⇑hz
   rw[this];exact hx
  rintro σ H3 ⟨v7,v8,v9,rfl,rfl,Gr⟩;rw[ze,eI] at Gr;apply#[_,_,_,_,_,Z,Z,λz hz=>?_];rw[uO,ha] at hz;rcases d8.mp hz with hz|hz
  ·exact no z hz
  have:z=a:=⇑hz
  rw[this];exact Gr
 rintro σ H2 ⟨v5,v6,v7,v8,v9,rfl,rfl,no⟩;rw[ze,eI] at no;let kk:=k H2 s1;rw[(Ti G S s l).mpr no] at kk;exact kk
end
end Ev
namespace L2
open PySem PySem.Spec PyProof.Rows PySem.W yc hY
def Kq(K:ai){D:Type}[DecidableEq D](R:Rp D)(neg:Bool):V->V->Hp->VK->Prop:=λx y H Q=>∃(d:D) (es:List D) (a:Addr) (ys:ag),R H x d/\y=.ref a/\fo K H a ys/\Paired (R H) ys es/\Q (.bl (if neg then !decide (d∈es) else decide (d∈es))) H
theorem Zh{X:Cx}{n:Nat}{D:Type}[DecidableEq D]{R:Rp D}(c:t7 X n R)(hu:X.A.units+n+1<cLine):dJ X (compareOp .In) (Kq X.K R false):=by
 intro pins s σ H x y v u Q I rx ry h;let#[d,es,a,ys,hx,rfl,t,q,hq]:=h;cases ry;let#[us,r,pl,_]:=I.tuple t;let#[f,h1,h2]:=Mw c I (A:=X.A.in1) rx hx (by show X.A.units+1+n<cLine;omega) r q;apply SeqAt.in_tupleAt f (AU pl) (λw hw=>h1 w ⇑hw) #[.bl _,H,I,Z,?_];rw[show us.toArray.any f=us.any f by simp,h2];exact hq
end L2
namespace Ev
open PySem L2
def iC(t:Str × Str)(h:Str):Str:=if t.1=h then t.2 else t.1
theorem NU{ts:Xb}{a b:Str}:aH a b∈bM ts ↔ (a,b)∈ts∨(b,a)∈ts:=by
 rw[IK];constructor
 ·rintro⟨⟨x,y⟩,ht,e⟩;rcases Rb (a:=x) (b:=y) (c:=a) (d:=b) (by show kT (aH x y)=kT (aH a b);rw[<- e]) with⟨rfl,rfl⟩|⟨rfl,rfl⟩
  ·exact .inl ht
  exact .inr ht
 rintro (h|h)
 ·exact#[_,h,Z]
 exact#[_,h,Oj _ _]
def gx(ts:Xb)(p:Pc):Xb:=p.2.2.getD ts
variable{h h':Str}
theorem _g{ws:Xb}(g:∀t∈ws,wc t):(∃t∈ws,(h=t.1∨h=t.2)/\h'=iC t h) ↔ (h,h')∈ws∨(h',h)∈ws:=by
 constructor
 ·rintro⟨⟨x,y⟩,ht,e,rfl⟩;let ne:=(g _ ht).2.2;rcases e with rfl|rfl
  ·left
   rw[show iC (h,y) h=y from aI Z];exact ht
  right
  rw[show iC (x,h) h=x from aA ne];exact ht
 rintro (ht|ht)
 ·exact#[_,ht,.inl Z,(aI Z).symm]
 exact#[_,ht,.inr Z,(aA (g _ ht).2.2).symm]
theorem Zz{hs:Xa}{ts:Xb}(G:Good hs ts){p:Pc}(d:j9 ts p)(hm:h∈aS hs):h'∈r6 hs ts (o9 p) h ↔ ∃t∈gx ts p,(h=t.1∨h=t.2)/\h'=iC t h:=by
 have gw:∀t∈gx ts p,t∈ts:=λt ht=>by
  unfold gx at ht;cases e:p.2.2 with
  |none=>
   rw[e] at ht;exact ht
  |some ws=>
   rw[e] at ht;exact d.sub ws e t ht
 rw[_g λt ht=>G.tok t (gw t ht)]
 have jx:∀{o},o∈near (aS hs) (bM ts) h ↔ (h,o)∈ts∨(o,h)∈ts:=λ{o}=>by
  unfold near;rw[jS,decide_eq_true_iff,NU];apply#[λz=>z.2,λz=>#[?_,z]];rcases z with z|z
  ·exact (gF hs).mem_iff.mpr (G.uc _ z).2
  exact (gF hs).mem_iff.mpr (G.uc _ z).1
 unfold r6;rw[jS,jx];let lU:=(gF hs).mem_iff.mp hm;constructor
 ·rintro⟨h1,h2⟩;cases e:p.2.2 with
  |none=>
   unfold gx;rw[e];exact h1
  |some ws=>
   have e2:(o9 p).2.2\bM ws:=by
    show p.2.2.map bM=_;rw[e];rfl
   rw[e2] at h2;let h3:=(Bool.and_eq_true_iff.mp h2).2;have h4:aH h h'∈bM ws:=sk h3;unfold gx;rw[e];exact NU.mp h4
 intro z;have zt:(h,h')∈ts∨(h',h)∈ts:=z.imp (gw _) (gw _);apply#[zt,?_]
 have LP:h'∈hs.map (·.1):=by
  rcases zt with y|y
  ·exact (G.uc _ y).2
  exact (G.uc _ y).1
 have td:Br hs ts (some h) (some h')=true:=by
  show (decide _&&(decide _&&decide _))=true;rw[c_ lU,c_ LP,c_ (jx.mpr zt)];rfl
 unfold Bj;rw[td,Bool.true_and];cases e:p.2.2 with
 |none=>
  have e2:(o9 p).2.2=none:=by
   show p.2.2.map bM=_;rw[e];rfl
  rw[e2]
 |some ws=>
  have e2:(o9 p).2.2\bM ws:=by
   show p.2.2.map bM=_;rw[e];rfl
  rw[e2];unfold gx at z;rw[e] at z;exact c_ (NU.mpr z)
abbrev Me:=(Str × Str × Str) × ao
def Ar(H:Hp):ag->List Me->Prop:=Paired λy e=>∃t m u,y=.ref t/\H t\.tup [.ref m,.ref u]/\H m\.tup [.str e.1.1,.str e.1.2.1,.str e.1.2.2]/\H u\.tup (sV e.2)
variable{H':Hp}{ys:ag}
theorem Ar.keep{H:Hp}{L:List Me}(h:Ar H ys L)(k:∀b xs,H b\.tup xs->H' b\.tup xs):Ar H' ys L:=Paired.aV h λy e ⟨t,m,u,e1,e2,e3,e4⟩=>#[t,m,u,e1,k _ _ e2,k _ _ e3,k _ _ e4]
def Pj(hs:Xa)(ts:Xb)(qs:aM)(s:ao)(i:Nat)(e:Me):Prop:=∃(k:Nat) (q:Pc) (h h':Str),k<i/\qs[k]? = some q/\s[k]? = some h/\h'∈r6 hs ts q h/\e=((q.1,h,h'),s.set k h')
theorem Y9{hs:Xa}{ts:Xb}{qs:aM}{s:ao}{e:Me}:Pj hs ts qs s qs.length e ↔ Mv hs ts qs s e.2 e.1:=by
 constructor
 ·rintro⟨k,q,h,h',_,h1,h2,h3,rfl⟩;exact#[k,q,h,h',h1,h2,h3,Z,Z]
 rintro⟨k,q,h,h',h1,h2,h3,h4,h5⟩;exact#[k,q,h,h',(bY.mp h1).1,h1,h2,h3,Prod.ext h5 h4]
variable{f:Addr}{fd:Ae}
section v
theorem we:bG [kC,uB,"_law_spot",xN,"_law_k","_law_name_here","_law_weight","_law_ways","_law_tie","_law_other","_law_later"] oi (bg NV):=bQ
inductive II (K:ai) (vs:ag) (H:Hp) (Q:VK) (E:XK):Prop
 |mk:∀(lp lt t:Addr) (yp zs:ag) (hs:Xa) (ts:Xb) (ss qs:aM) (s:ao),vs=[.ref lp,.ref lt,.ref t]->H lp\.lst yp->iY K H yp ss->H lt\.lst zs->bR K H zs (ts.map kT)->Good hs ts->fj ts ss qs->ss.length<=8->H t\.tup (sV s)->Vs hs qs s->(∀l ys L H',aa H H'->H l=none->H' l\.lst ys->Ar H' ys L->(∀e,e∈L ↔ Mv hs ts qs s e.2 e.1)->L.length<=512->Q (.ref l) H')->II K vs H Q E
theorem gr_(F:bx K "_law_moves" "_law_moves" NV f fd)(B:Bi mg):!aq bh 1 f fd oi (II K):=by
 exists F.bP we;let#[lp,lt,t,yp,zs,hs,ts,ss,qs,s,rfl,km,pc,dZ,tu,G,S,s8,ht,v,k]:=h;let sz:=cX;let De:=br pc;let vl:=v.len;let sl:=S.len;let wW:=G.wW;let lz:=br tu;rw[ak] at lz;refine' #[_,av ?s1 (av ?s2 (aF ?s3)),?kk]
 case s1=>exact bj 3 we.nd (fN bO)
 case' s2=>refine' eW d6 Z ?i2 ?g2 (av ?b1 (aF ?b2))
 case i2=>exact wB (by rfl) B.range %[cJ iy (by rfl) B.len gC %[0|0]|0]
 case g2=>exact cy 4 we.nd
 case b1=>exact HY (bo fL (pv 0) (pv 4)) (oU Z (dC (cy 5 we.nd) (dC (cy 6 we.nd) (dC (cy 7 we.nd) i6))))
 case' b2=>refine' eW d6 Z (dI (bo fL (fN %[7,1|0]) (i0 T3 (by rfl) B.int Mu %[wk Q9 (pv 7) uG|0]))) ?g3 (aF ?b3)
 case g3=>exact cy 8 we.nd
 case' b3=>refine' b_ (fF (Zh gW (nZ hr 0)) (bo cZ (pv 2) (pv 4)) (pv 8) (by with_unfolding_all rfl)) (av ?c1 (av ?c2 (aF ?c3))) cm
 case c1=>exact bj 9 we.nd (bo fL (fN %[bo cZ (pv 8) aB,bo cZ (pv 8) aB|0]) (i0 T3 (by rfl) B.int Mu %[wk G7 (bo cZ (pv 8) aB) (bo cZ (pv 2) (pv 4))|0]))
 case c2=>exact bj 10 we.nd (bN Ig (bN Ig (AD Hy (pv 2) AR (AN (pv 4))) (fY %[9|0])) (AD Hy (pv 2) (AN (bN gH (pv 4) aB)) AR))
 case c3=>exact ml (pA oW wa wb uJ (pv 3) %[fY %[fY %[5,bo cZ (pv 2) (pv 4),9|0],10|0]|0])
 case s3=>exact bu (pv 3)
 apply#[zl,λl hl=>?_];let#[s1,e1]:=aD (o:=.lst []) hl;generalize upd H l (.lst [])=H1 at s1 e1 ⊢;apply#[_,Z,lp,_,Z,.inl (.of (s1 _ _ km)),_,Z,by show (-(2 ^ 62):Int)<=(yp.length:Int);omega,by show (yp.length:Int)<2 ^ 62;omega,?_]
 let Iv:bZ:=λi σ H'=>∃(v4 v5 v6 v7 v8 v9 v10:aL) (ys:ag) (L:List Me),σ=[some (.ref lp),some (.ref lt),some (.ref t),some (.ref l),v4,v5,v6,v7,v8,v9,v10]/\aa H H'/\H' l\.lst ys/\Ar H' ys L/\(∀e,e∈L ↔ Pj hs ts qs s i e)/\L.length<=64 * i
 apply AI (lo:=0) (n:=((yp.length:Nat):Int).toNat) Iv ?_ ?_ ?_
 ·exact#[none,none,none,none,none,none,none,[],[],Z,s1,e1,.nil,λe=>#[λz=>absurd z fU,λ⟨_,_,_,_,z,_⟩=>absurd z (Nat.not_lt_zero _)],gM _]
 ·rintro i σ H2 hi ⟨v4,v5,v6,v7,v8,v9,v10,ys,L,rfl,s2,e2,me,mem,len⟩;have hi:i<yp.length:=by omega
  let#[tp,wv,ep,hp,wy]:=dS pc i hi Z1;have Ls:ss[i]? = some (ss[i]' Z1):=aP Z1;obtain⟨p,epp⟩:∃p,p=ss[i]' Z1:=#[_,Z];rw[<- epp] at hp wy Ls;have hq:qs[i]? = some (o9 p):=by rw[S.qs,di,Ls];rfl
  have Rn:i<s.length:=by omega
  obtain⟨h,eh⟩:∃h,h=s[i]:=#[_,Z];have hh:s[i]? = some h:=by rw[aP Rn,eh]
  have hV:(sV s)[i]? = some (.str h):=by rw[di,hh];rfl
  let hm:=v.g_ h (cQ hh);let dp:=S.dr p (cQ Ls);let ex:=λ{h'}=>Zz G dp (h':=h') hm;rw[show (0:Int)+(i:Nat)=(i:Int) by omega];apply#[_,Z,_,Z,lp,_,i,_,Z,Z,.of (s2 _ _ km),L2.dQ (by rw[aP hi,ep]),?_];apply#[tp,_,Z,.of (s2 _ _ hp),Z,_,_,Z,_,_,Z,_,_,Z,Z,?_]
  obtain⟨la,BP,j,hj,gd,tl,GF⟩:∃(la:Addr) (BP:ag) (j:Nat),(if decide (wv=V.non)=true then (1:Int) else 0)=(j:Int)/\[wv,V.ref lt][j]? = some (.ref la)/\(H la\.lst BP/\bR K H BP ((gx ts p).map kT))/\(gx ts p).length<64:=by
   unfold gx;cases e:p.2.2 with
   |none=>
    rw[e] at wy;have wy:wv=.non:=wy;subst wy;exact#[lt,zs,1,Z,Z,#[dZ,tu],wW]
   |some ws=>
    rw[e] at wy;let#[a,ys,rfl,ha,ta]:=wy;let wl:=(dp.g.ws ws e).len;exact#[a,ys,0,Z,Z,#[ha,ta],by show ws.length<64;omega]
  let#[Ec,tl]:=tl;apply#[_,Z,_,Z,zl,λlx kj=>?_];let#[s3,e3]:=aD (o:=.lst [wv,.ref lt]) kj;let eZ:=s2.trans s3;let uv:=s3 _ _ e2;let C6:=me.keep λb xs e=>s3 _ _ e;generalize upd H2 lx (.lst [wv,.ref lt])=H3 at s3 e3 eZ uv C6 ⊢;apply#[_,Z,Z,.inr #[_,Z,?_]];rw[hj];apply#[lx,_,j,_,Z,Z,.of e3,L2.dQ gd,la,Z,#[_,.of (eZ _ _ Ec)],?_];let Dc:=br tl;rw[ak] at Dc
  let Iw:bZ:=λj σ H'=>∃(v8 v9 v10:aL) (ys:ag) (L:List Me),σ=[some (.ref lp),some (.ref lt),some (.ref t),some (.ref l),some (.int i),some (.str p.1),some (.int p.2.1),some wv,v8,v9,v10]/\aa H H'/\H' l\.lst ys/\Ar H' ys L/\(∀e,e∈L ↔ Pj hs ts qs s i e∨∃u∈(gx ts p).take j,(h=u.1∨h=u.2)/\e=((p.1,h,iC u h),s.set i (iC u h)))/\L.length<=64 * i+j
  apply hX (K:=K) (a:=la) (xs:=BP) Iw ?_ ?_ ?_ ?_
  ·exact#[_,_,_,ys,L,Z,eZ,uv,C6,λe=>(mem e).trans #[.inl,λz=>z.elim id λ⟨_,z,_⟩=>absurd z fU],by omega]
  ·rintro j σ H' _ ⟨_,_,_,_,_,_,sm,_⟩;exact .of (sm _ _ Ec)
  ·rintro j y σ H4 hy ⟨v8,v9,v10,ys,L,rfl,s4,iE,C5,fB,lQ⟩;let#[u,hu,c,rfl,hc]:=uM tl hy;have G4:H4 c\.tup [.str u.1,.str u.2]:=s4 _ _ hc;let pb:=s4 _ _ ht;have Ej:j<BP.length:=(bY.mp hy).1;let vz:=br C5
   have tk:∀z,z∈(gx ts p).take (j+1) ↔ z∈(gx ts p).take j∨z=u:=λz=>by
    rw[uO,hu];simp
   apply#[_,Z,_,Z,t,_,i,_,Z,Z,.of pb,L2.dQ hV,_,Z,h,[u.1,u.2],c,_,Z,Z,.of G4,.cons Z (.cons Z .nil),_,Z,?_];apply cu (λcd=>?_) (λcd=>?_)
   ·have lU:h=u.1∨h=u.2:=⇑cd
    have ho:[V.str u.1,V.str u.2][(if u.1=h then 1 else 0:Nat)]? = some (.str (iC u h)):=by
     unfold iC;by_cases z:u.1=h
     ·rw[aI z,aI z];rfl
     rw[aA z,aA z];rfl
    have hz:(if decide (V.str u.1=V.str h)=true then (1:Int) else 0)=((if u.1=h then 1 else 0:Nat):Int):=by
     by_cases z:u.1=h
     ·rw[aI z,z];simp
     rw[aA z,aA (by intro y;exact z (V.str.inj (sk y)))];rfl
    apply#[_,Z,c,_,0,_,Z,Z,.of G4,L2.dQ (j:=0) Z,_,Z,c,_,1,_,Z,Z,.of G4,L2.dQ (j:=1) Z,zl,λlo Rz=>?_];let#[sA,eA]:=aD (o:=.lst [.str u.1,.str u.2]) Rz;generalize upd H4 lo (.lst [.str u.1,.str u.2])=HA at sA eA ⊢;apply#[_,Z,c,_,0,_,Z,Z,.of (sA _ _ G4),L2.dQ (j:=0) Z,_,Z,_,Z,t,_,i,_,Z,Z,.of (sA _ _ pb),L2.dQ hV,Z,.inr #[_,Z,?_]];rw[hz];apply#[lo,_,_,_,Z,Z,.of eA,L2.dQ ho,?_];let Rk:=sA _ _ pb;apply#[_,Z,_,Z,_,Z,t,_,Z,.of Rk,?_,λp1 xv=>?_]
    ·rw[HT.er,HT.dU,ak];omega
    rw[Tw];let#[s5,e5]:=aD (o:=.tup ((sV s).take i)) xv;generalize upd HA p1 (.tup ((sV s).take i))=H5 at s5 e5 ⊢;apply#[_,Z,zl,λp2 kh=>?_];let#[s6,e6]:=aD (o:=.tup [.str (iC u h)]) kh;generalize upd H5 p2 (.tup [.str (iC u h)])=H6 at s6 e6 ⊢;apply#[p1,p2,_,_,Z,Z,s6 _ _ e5,e6,by rw[dH,ak,jU];omega,λp3 H7 s7 e7=>?_];let P4:=(s5.trans s6).trans s7;apply#[_,Z,_,Z,_,_,Z,Z,_,Z,t,_,Z,.of (P4 _ _ Rk),?_,λp4 DW=>?_]
    ·rw[show ((i:Int)+1)=((i+1:Nat):Int) by omega,HT.dU,ak];omega
    rw[show ((i:Int)+1)=((i+1:Nat):Int) by omega,NZ];let#[o7,e8]:=aD (o:=.tup ((sV s).drop (i+1))) DW;generalize upd H7 p4 (.tup ((sV s).drop (i+1)))=H8 at o7 e8 ⊢;apply#[p3,p4,_,_,Z,Z,o7 _ _ e7,e8,by rw[d9,dH,ak,jU,x6,ak];omega,λp5 H9 s9 e9=>?_];rw[T9 Rn] at e9;let yW:=sA.trans ((P4.trans o7).trans s9);let Aj:=yW _ _ iE;apply#[_,Z,.inl #[Z,_,.of Aj],_,Z,_,Z,_,Z,t,_,i,_,Z,Z,.of (yW _ _ pb),L2.dQ hV,_,Z,zl,λm rQ=>?_];let#[sB,eB]:=aD (o:=.tup [.str p.1,.str h,.str (iC u h)]) rQ;generalize upd H9 m (.tup [.str p.1,.str h,.str (iC u h)])=HB at sB eB ⊢;apply#[_,Z,zl,λx hx=>?_];let#[sC,eC]:=aD (o:=.tup [.ref m,.ref p5]) hx;generalize upd HB x (.tup [.ref m,.ref p5])=HC at sC eC ⊢;let yV:=sB.trans sC;let Kk:=yW.trans yV;let SW:=Kk _ _ iE;apply#[l,_,_,Z,Z,SW,by omega,?_]
    have kt:∀b xs,HC b\.tup xs->upd HC l (.lst (ys++[.ref x])) b\.tup xs:=λb xs e=>by
     rw[aw (bK e SW nofun)];exact e
    apply#[_,_,_,_,L++[((p.1,h,iC u h),s.set i (iC u h))],Z,fi (s4.trans Kk) hl,ax,gY ((C5.keep λb xs e=>Kk _ _ e).keep kt) (.cons #[x,m,p5,Z,kt _ _ eC,kt _ _ (sC _ _ eB),kt _ _ (yV _ _ e9)] .nil),λe=>?_,by rw[d9,jU];omega];rw[d8,fB,eU];constructor
    ·rintro ((z|⟨z,Dz,r⟩)|z)
     ·exact .inl z
     ·exact .inr #[z,(tk z).mpr (.inl Dz),r]
     exact .inr #[u,(tk u).mpr (.inr Z),lU,z]
    rintro (z|⟨z,Dz,r⟩)
    ·exact .inl (.inl z)
    rcases (tk z).mp Dz with Dz|rfl
    ·exact .inl (.inr #[z,Dz,r])
    exact .inr r.2
   have ki:¬(h=u.1∨h=u.2):=⇑cd
   apply#[_,_,_,ys,L,Z,s4,iE,C5,λe=>(fB e).trans #[λz=>z.imp id λ⟨x,hx,r⟩=>#[x,(tk x).mpr (.inl hx),r],λz=>z.imp id λ⟨x,hx,r⟩=>?_],by omega];rcases (tk x).mp hx with hx|rfl
   ·exact#[x,hx,r]
   exact absurd r.1 ki
  rintro σ H4 ⟨v8,v9,v10,ys,L,rfl,s4,iE,C5,fB,lQ⟩;apply#[_,_,_,_,_,_,_,ys,L,Z,s4,iE,C5,λe=>(fB e).trans ?_,by omega];rw[Dc,eI];constructor
  ·rintro (⟨k',q',h1,h2,z1,z2⟩|⟨x,hx,r,rfl⟩)
   ·exact#[k',q',h1,h2,by omega,z2]
   exact#[i,_,h,_,by omega,hq,hh,ex.mpr #[x,hx,r,Z],Z]
  rintro⟨k',q',h1,h2,z1,z2,z3,z4,z5⟩;by_cases ck:k'=i
  ·subst ck;rw[hq] at z2;cases cY z2;rw[hh] at z3;cases cY z3;let#[x,hx,r,rfl]:=ex.mp z4;exact .inr #[x,hx,r,z5]
  exact .inl #[k',q',h1,h2,by omega,z2,z3,z4,z5]
 rintro σ H2 ⟨v4,v5,v6,v7,v8,v9,v10,ys,L,rfl,s2,e2,me,mem,len⟩;have:((yp.length:Nat):Int).toNat=qs.length:=by omega
 rw[this] at mem len;exact#[_,Z,k l ys L H2 s2 hl e2 me (λe=>(mem e).trans Y9) Z1]
end
theorem hS_{α:Type}{xs:List α}(h:0<xs.length):ix xs (-1)=xs[xs.length - 1]?:=by
 unfold ix vE;rw[aA (by decide),aI Z1];show xs[((xs.length:Int) + -1).toNat]? = _;congr 1;omega
def kn(ks:List ao):List (aC × V):=ks.map λs=>(sK s,.bl true)
theorem RY(ks:List ao):(kn ks).map (·.1)=ks.map sK:=by
 unfold kn;rw[cg];rfl
variable{ks:List ao}
theorem R5{s:ao}(hs:s∉ks):aY (kn ks) (sK s)=none:=uN (by
 rw[RY];intro hm;let#[x,hx,e]:=bC.mp hm;rw[<- My e] at hs;exact hs hx)
theorem Zw(ks:List ao)(s:ao):(aY (kn ks) (sK s)).isSome=decide (s∈ks):=by
 by_cases c:s∈ks
 ·rw[c_ c];exact Jd (by rw[RY];exact bC.mpr #[s,c,Z])
 rw[eF c,R5 c];rfl
theorem Yx{s:ao}(hs:s∉ks):putK (kn ks) (sK s) (.bl true)=kn (ks++[s]):=by
 rw[wq (R5 hs)];unfold kn;rw[eS];rfl
theorem sY{K:ai}{H:Hp}{ps:aM}(h:iY K H ys ps)(s:aa H H'):iY K H' ys ps:=Paired.aV h λy p ⟨t,v,e,ht,wy⟩=>#[t,v,e,s _ _ ht,wy.same s]
def gi(H:Hp):ag->List (List ao)->Prop:=Paired λy L=>∃a zs,y=.ref a/\H a\.lst zs/\iu H zs L
theorem gi.keep{H H':Hp}:∀{ys:ag} {LL:List (List ao)},gi H ys LL->(∀a,V.ref a∈ys->∀xs,H a\.lst xs->H' a\.lst xs)->(∀b xs,H b\.tup xs->H' b\.tup xs)->gi H' ys LL
 |_,_,.nil,_,_=>.nil
 |_,_,.cons ⟨a,zs,e,h1,h2⟩ t,kl,kt=>.cons #[a,zs,e,kl a (by rw[e];exact fX) _ h1,h2.keep kt] (gi.keep t (λa m=>kl a (fM _ m)) kt)
variable{LL:List (List ao)}
theorem gi.same{H:Hp}(h:gi H ys LL)(s:aa H H'):gi H' ys LL:=h.keep (λ_ _ _ e=>s _ _ e) λ_ _ e=>s _ _ e
structure gI (N:ao->ao->Prop) (s0:ao) (LL:List (List ao)):Prop where
 is:∀(j:Nat) L,LL[j]? = some L->L.Nodup/\∀s,s∈L ↔ Ds N s0 j s
 last:∃n,LL.length=n+1/\LL[n]? = some []
 ne:∀(j:Nat) L,j+1<LL.length->LL[j]? = some L->L≠[]
variable{N:ao->ao->Prop}{s0:ao}
theorem gI.mem(h:gI N s0 LL){j:Nat}{s:ao}(d:Ds N s0 j s):∃L,LL[j]? = some L/\s∈L:=by
 let#[n,hn,hl]:=h.last
 have hj:j<n:=by
  by_cases c:j<n
  ·exact c
  let#[t,ht]:=d.down n Z1;exact absurd (((h.is n _ hl).2 t).mpr ht) fU
 have hx:LL[j]? = some (LL[j]' Z1):=aP Z1;exact#[_,hx,((h.is j _ hx).2 s).mpr d]
theorem gI.flat(h:gI N s0 LL):LL.flatten.Nodup:=by
 rw[tN,List.pairwise_flatten];apply#[λL hL=>?_,?_]
 ·let#[j,hj,e]:=gX hL;exact tN.mp (h.is j L (by rw[aP hj,e])).1
 rw[List.pairwise_iff_getElem];intro i j hi hj lt;intro s h1 t h2 e;subst e;let d1:=((h.is i _ (aP hi)).2 s).mp h1;let d2:=((h.is j _ (aP hj)).2 s).mp h2;have:=d1.inj d2;omega
theorem gI.all(h:gI N s0 LL)(s:ao):s∈LL.flatten ↔ ∃j,Wk N s0 j s:=by
 rw[List.mem_flatten];constructor
 ·rintro⟨L,hL,hs⟩;let#[j,hj,e]:=gX hL;exact#[j,(((h.is j L (by rw[aP hj,e])).2 s).mp hs).1]
 rintro⟨j,w⟩;let#[i,_,d]:=w.ds;let#[L,hL,hs]:=h.mem d;exact#[L,cQ hL,hs]
theorem gI.vp(h:gI N s0 LL){m:Nat}(hm:LL.flatten.length<=m):¬More N s0 m:=λ⟨l,nd,al,lt⟩=>by
 have:=List.Nodup.length_le_of_subset nd λs hs=>(h.all s).mpr (al s hs);omega
section v
theorem AS:bG [kC,uB,"_law_spot","_law_most","_law_known","_law_layers_here","_law_layer","_law_one","_law_move","_law_later"] tU (bg NN):=bQ
inductive Nr (K:ai) (vs:ag) (H:Hp) (Q:VK) (E:XK):Prop
 |mk:∀(lp lt t:Addr) (m:Nat) (yp zs:ag) (hs:Xa) (ts:Xb) (ss qs:aM) (s:ao),vs=[.ref lp,.ref lt,.ref t,.int m]->H lp\.lst yp->iY K H yp ss->H lt\.lst zs->bR K H zs (ts.map kT)->Good hs ts->fj ts ss qs->ss.length<=8->H t\.tup (sV s)->Vs hs qs s->(aS hs).length ^ qs.length<=m->m<=1000000->(∀l ys LL H',aa H H'->H l=none->H' l\.lst ys->gi H' ys LL->(∀b,V.ref b∈ys->H b=none)->gI (Nx hs ts qs) s LL->LL.flatten.length<=m->Q (.ref l) H')->Nr K vs H Q E
theorem fZ_(F:bx K "_law_layers" "_law_layers" NN f fd)(B:Bi mg)(cM:!bw 1 "_law_moves" oi (II K)):!aq bh 2 f fd tU (Nr K):=by
 exists F.bP AS;let#[lp,lt,t,m,yp,zs,hs,ts,ss,qs,s,rfl,km,pc,dZ,tu,G,S,s8,ht,v,bm,m6,k]:=h;let hu:=gf hr;let sz:=cX;refine' #[_,av ?s1 (av ?s2 (av ?s3 (aF ?s4))),?kk]
 case s1=>exact bj 4 AS.nd (Tj hu (pv 2) iV)
 case s2=>exact bj 5 AS.nd (fN %[fN %[2|0]|0])
 case' s3=>refine' IF d6 (PW.pt (QU ?w1 (R9 ?w2))) (av ?b1 (av ?b2 (aF ?b3)))
 case w1=>exact fF (M7 (nZ hr 0)) (bo fL (pv 5) (K_ MA aB)) (fN bO)
 case w2=>exact fF xJ (cJ Ug (by rfl) B.len gC %[4|0]) (pv 3)
 case b1=>exact bj 6 AS.nd (fN bO)
 case' b2=>refine' eW d6 Z (dI (bo fL (pv 5) (K_ MA aB))) ?g2 (aF ?c1)
 case g2=>exact cy 7 AS.nd
 case' c1=>refine' eW d6 Z (dI (aZ cM hr %[0,1,7|0])) ?g3 (aF ?c2)
 case g3=>exact oU Z (dC (cy 8 AS.nd) (dC (cy 9 AS.nd) i6))
 case' c2=>refine' b_ (tE (IX hu (pv 9) (pv 4))) (av ?d1 (aF ?d2)) cm
 case d1=>exact uD hu (pv 4) (pv 9) iV Z
 case d2=>exact ml (pA oW wa wb uJ (pv 6) %[9|0])
 case b3=>exact ml (pA oW wa wb uJ (pv 5) %[6|0])
 case s4=>exact bu (pv 5)
 intro d hd;have hK:∀{H':Hp},H' t\.tup (sV s)->H' t\.tup ((sK s).map kV):=λe=>by rw[qO];exact e
 apply#[_,Z,ax,t,sK s,Z,by rw[aw (bp ht hd)];exact hK ht,?_];have s1:aa H (upd (upd H d (.dT [])) d (.dT [(sK s,.bl true)])):=fi (aa.new hd) hd;have e1:upd (upd H d (.dT [])) d (.dT [(sK s,.bl true)]) d\.dT (kn [s]):=ax;generalize upd (upd H d (.dT [])) d (.dT [(sK s,.bl true)])=H1 at s1 e1 ⊢;apply#[_,Z,zl,λa0 nL=>?_];let#[s2,e2]:=aD (o:=.lst [.ref t]) nL;have a0n:H a0=none:=s1.free nL;let S1:=s2 _ _ e1;let mR:=s1.trans s2;generalize upd H1 a0 (.lst [.ref t])=H2 at s2 e2 S1 mR ⊢;apply#[zl,λl hl=>?_];let#[s3,e3]:=aD (o:=.lst [.ref a0]) hl;have ln:H l=none:=mR.free hl;have a0l:a0≠l:=bp e2 hl;let S0:=s3 _ _ S1;let S5:=s3 _ _ e2;let eZ:=mR.trans s3;generalize upd H2 l (.lst [.ref a0])=H3 at s3 e3 S0 S5 eZ ⊢
 let N:ao->ao->Prop:=Nx hs ts qs
 let Wv:bZ:=λn σ H'=>∃(v6 v7 v8 v9:aL) (k:Nat) (ys:ag) (LL:List (List ao)) (ks nw:List ao),σ=[some (.ref lp),some (.ref lt),some (.ref t),some (.int m),some (.ref d),some (.ref l),v6,v7,v8,v9]/\aa H H'/\H' d\.dT (kn ks)/\H' l\.lst ys/\gi H' ys LL/\(∀b,V.ref b∈ys->H b=none/\b≠l)/\LL.length=k+1/\LL[k]? = some nw/\(∀(j:Nat) L,LL[j]? = some L->L.Nodup/\∀s',s'∈L ↔ Ds N s j s')/\Bf N s k ks nw/\(∀s'∈ks,Vs hs qs s')/\n=(aS hs).length ^ qs.length - ks.length+(if nw=[] then 0 else 1)/\k+(if nw=[] then 0 else 1)<=ks.length/\∀(j:Nat) L,j<k->LL[j]? = some L->L≠[]
 apply#[Wv,#[_,none,none,none,none,0,[.ref a0],[[s]],[s],[s],Z,eZ,S0,e3,.cons #[a0,_,Z,S5,.cons #[t,Z,eZ _ _ ht] .nil] .nil,?_,Z,Z,?_,Bf.start,?_,Z,?_,λj L z=>absurd z (Nat.not_lt_zero _)],?_]
 ·intro b hb;cases V.ref.inj (eU.mp hb);exact#[a0n,a0l]
 ·intro j L hj;cases j with
  |zero=>
   cases cY hj;exact#[by simp,(Bf.start (N:=N) (s0:=s)).new]
  |succ j=>cases hj
 ·intro s' hs';rw[eU.mp hs'];exact v
 ·simp
 rintro n σ H4 ⟨v6,v7,v8,v9,kk,ys,LL,ks,nw,rfl,s4,ed4,iE,KW,pf,lQ,vy,Q3,Fx,Jy,hn,kle,ne4⟩;let kB:=IH (ns:=aS hs) (n:=qs.length) Fx.nd λs' hs'=>#[(Jy s' hs').len,(Jy s' hs').g_];let GC:=br KW;have hk:kk<ys.length:=by omega
 let#[an,yn,S3,han,gj]:=dS KW kk hk Z1;rw[aP Z1] at vy;rw[cY vy] at gj
 have nF:ix ys (-1)\.ref an:=by
  rw[hS_ Z1,show ys.length - 1=kk by omega,aP hk,S3]
 have anm:V.ref an∈ys:=by rw[<- S3];exact kD hk
 let Gy:=br gj;apply#[_,Z,_,Z,l,ys,_,_,Z,Z,.of iE,nF,zl,λle hle=>?_];let#[s5,e5]:=aD (o:=.lst []) hle;let oB:=s4.trans s5;let Hr:=s5 _ _ ed4;let r_:=s5 _ _ iE;let GB:=KW.same s5;let rW:=s5 _ _ han;let PZ:=gj.keep λb xs e=>s5 _ _ e;generalize upd H4 le (.lst [])=H5 at s5 e5 oB Hr r_ GB rW PZ ⊢;apply#[an,le,yn,Z,Z,.of rW,.of e5,_,Z,?_];by_cases cn:nw=[]
 ·have Ju:yn=[]:=by
   rw[cn] at Gy;exact List.length_eq_zero_iff.mp Gy
  rw[Ju];apply aK (aK #[_,Z,?_]);rw[cn] at Fx;have ok:gI (Nx hs ts qs) s LL:=#[Q3,#[kk,lQ,by rw[aP Z1];exact vy.trans (by rw[cn])],λj L z=>ne4 j L Z1];apply k l ys LL H5 oB ln r_ GB (λb hb=>(pf b hb).1) ok (iH (IH ok.flat λs' hs'=>?_) bm);let#[j,wj]:=(ok.all s').mp hs';exact#[(wj.vs v).len,(wj.vs v).g_]
 have Ju:yn.isEmpty=false:=by
  cases yn with
  |nil=>exact absurd (List.length_eq_zero_iff.mp Gy.symm) cn
  |cons _ _=>rfl
 rw[Ju];apply df #[_,Z,d,_,Z,Hr,_,Z,_,_,Z,Z,_,Z,?_];have lk:(kn ks).length=ks.length:=ak _;rw[aA cn] at hn kle;have ct:decide (((kn ks).length:Int)<=(m:Int))=true:=c_ Z1;rw[ct];apply df #[λaX H'=>∃m',m'<n/\Wv m' aX H',λ_ _ h=>h,?_];apply#[zl,λla gd=>?_];let#[s6,e6]:=aD (o:=.lst []) gd;have QD:H la=none:=oB.free gd;have K5:la≠l:=(bp r_ gd).symm;have ana:an≠la:=bp rW gd;have O6:an≠l:=(pf an anm).2;have and_:an≠d:=bK rW Hr nofun
 have fra:∀b,V.ref b∈ys->b≠la:=λb hb=>by
  let#[i,hi,ei]:=gX hb;let#[a',Vg,e',h',_]:=dS GB i hi Z1;rw[ei] at e';cases e';exact bp h' gd
 let iL:=oB.trans s6;let SZ:=s6 _ _ Hr;let ur:=s6 _ _ r_;let Qv:=GB.same s6;let zP:=s6 _ _ rW;let PY:=PZ.keep λb xs e=>s6 _ _ e;generalize upd H5 la (.lst [])=H6 at s6 e6 iL SZ ur Qv zP PY ⊢
 let J:List ao->Hp->Prop:=λseen H'=>∃(iP fd:List ao) (fs:ag),aa H H'/\H' d\.dT (kn iP)/\H' l\.lst ys/\gi H' ys LL/\H' an\.lst yn/\iu H' yn nw/\H' la\.lst fs/\iu H' fs fd/\Wd ks seen iP fd/\(∀s'∈iP,Vs hs qs s')/\iP.length=ks.length+fd.length
 let Iv:bZ:=λi σ H'=>∃(v7 v8 v9:aL) (seen:List ao),σ=[some (.ref lp),some (.ref lt),some (.ref t),some (.int m),some (.ref d),some (.ref l),some (.ref la),v7,v8,v9]/\J seen H'/\(∀b,b∈seen ↔ ∃h∈nw.take i,N h b)
 apply#[_,Z,_,Z,l,ys,_,_,Z,Z,.of ur,nF,an,Z,#[_,.of zP],?_];apply hX (K:=K) (a:=an) (xs:=yn) Iv ?_ ?_ ?_ ?_
 ·exact#[_,_,_,[],Z,#[ks,[],[],iL,SZ,ur,Qv,zP,PY,e6,.nil,Wd.start Fx.nd,Jy,Z],λb=>#[λz=>absurd z fU,λ⟨_,z,_⟩=>absurd z fU]]
 ·rintro i σ H' _ ⟨_,_,_,_,_,⟨_,_,_,_,_,_,_,e,_⟩,_⟩;exact .of e
 ·rintro i y σ H7 hy ⟨VR,VQ,VP,seen,rfl,⟨GH,oQ,Sn,qY,EX,Ak,KU,EE,Kc,Hw,yC,B1,B3,QA⟩,mem⟩;have hi:i<yn.length:=(bY.mp hy).1
  obtain⟨h,hh,u,rfl,_L⟩:∃h,nw[i]? = some h/\∃u,y=.ref u/\H7 u\.tup (sV h):=by
   have:=dS Kc i hi Z1;rw[aP hi] at hy;cases hy;exact#[nw[i]' Z1,aP Z1,this]
  let hm:=cQ hh;let rR:=(Fx.new h).mp hm;have vh:Vs hs qs h:=rR.1.vs v;apply#[_,Z,_,Z,_,Z,lp,lt,u,yp,zs,hs,ts,ss,qs,h,Z,qY _ _ km,sY pc qY,qY _ _ dZ,tu.same qY,G,S,s8,_L,vh,λl3 mI L H8 o7 oK e8 Qp ic Dk=>?_];have QE:l3≠l:=λz=>by rw[z,Ak] at oK;cases oK
  have GG:l3≠la:=λz=>by rw[z,Hw] at oK;cases oK
  have l3d:l3≠d:=λz=>by rw[z,EX] at oK;cases oK
  let Dj:=br Qp
  let Iw:bZ:=λj σ H'=>∃(v8 v9:aL) (dA:List ao),σ=[some (.ref lp),some (.ref lt),some (.ref t),some (.int m),some (.ref d),some (.ref l),some (.ref la),some (.ref u),v8,v9]/\H' l3\.lst mI/\Ar H' mI L/\J dA H'/\(∀b,b∈dA ↔ b∈seen∨∃e∈L.take j,b=e.2)
  apply#[l3,Z,#[_,.of e8],?_];apply hX (K:=K) (a:=l3) (xs:=mI) Iw ?_ ?_ ?_ ?_
  ·exact#[_,_,seen,Z,e8,Qp,#[GH,oQ,Sn,qY.trans o7,o7 _ _ EX,o7 _ _ Ak,KU.same o7,o7 _ _ EE,Kc.keep λb xs e=>o7 _ _ e,o7 _ _ Hw,yC.keep λb xs e=>o7 _ _ e,B1,B3,QA],λb=>#[.inl,λz=>z.elim id λ⟨_,w,_⟩=>absurd w (fU)]]
  ·rintro j σ H' _ ⟨_,_,_,_,e,_⟩;exact .of e
  ·rintro j y σ H9 hy ⟨JB,JA,dA,rfl,e9,Gx,⟨o_,Sx,MC,Ge,EW,Aj,Qu,ED,PX,S4,yB,Jw,FV,Qz⟩,vx⟩;have hj:j<mI.length:=(bY.mp hy).1
   obtain⟨e,he,tt,mm,uu,rfl,DJ,_,GL⟩:∃e,L[j]? = some e/\∃t m u,y=.ref t/\H9 t\.tup [.ref m,.ref u]/\H9 m\.tup [.str e.1.1,.str e.1.2.1,.str e.1.2.2]/\H9 u\.tup (sV e.2):=by
    have:=dS Gx j hj Z1;rw[aP hj] at hy;cases hy;exact#[L[j]' Z1,aP Z1,this]
   have bL:N h e.2:=#[e.1,(ic e).mp (cQ he)]
   have tk:∀c,(∃e∈L.take (j+1),c=e.2) ↔ (∃e∈L.take j,c=e.2)∨c=e.2:=λc=>by
    rw[uO,he];constructor
    ·rintro⟨x,hx,r⟩;rcases d8.mp hx with hx|hx
     ·exact .inl #[x,hx,r]
     have:x=e:=⇑hx
     rw[this] at r;exact .inr r
    rintro (⟨x,hx,r⟩|r)
    ·exact#[x,d8.mpr (.inl hx),r]
    exact#[e,by simp,r]
   have RV:H9 uu\.tup ((sK e.2).map kV):=by rw[qO];exact GL
   apply#[tt,_,Z,.of DJ,Z,_,_,Z,_,_,Z,Z,?_];apply#[_,Z,_,Z,d,_,Z,.t EW RV,_,Z,?_];rw[Zw];by_cases c:e.2∈o_
   ·rw[c_ c];apply aK ?_;apply#[_,_,dA++[e.2],Z,e9,Gx,#[o_,Sx,MC,Ge,EW,Aj,Qu,ED,PX,S4,yB,Jw.skip c,FV,Qz],λz=>?_];rw[d8,vx,tk,eU,or_assoc]
   rw[eF c];apply df ?_;let kB9:=IH (ns:=aS hs) (n:=qs.length) Jw.nd λs' hs'=>#[(FV s' hs').len,(FV s' hs').g_];let lf:=br yB;have Yb:(kn o_).length=o_.length:=ak _;apply#[_,Z,_,Z,d,_,Z,.t EW RV Z1,?_];rw[Yx c];have kA:∀{c o},H9 c\o->c≠d->upd H9 d (.dT (kn (o_++[e.2]))) c\o:=λe ne=>by rw[aw ne];exact e
   have tA:∀c xs,H9 c\.tup xs->upd H9 d (.dT (kn (o_++[e.2]))) c\.tup xs:=λc xs e=>kA e (bK e EW nofun);have lA:∀c xs,H9 c\.lst xs->upd H9 d (.dT (kn (o_++[e.2]))) c\.lst xs:=λc xs e=>kA e (bK e EW nofun);have sA:aa H (upd H9 d (.dT (kn (o_++[e.2])))):=fi Ge hd;have eA:upd H9 d (.dT (kn (o_++[e.2]))) d\.dT (kn (o_++[e.2])):=ax;generalize upd H9 d (.dT (kn (o_++[e.2])))=HA at kA tA lA sA eA ⊢;let Hv:=lA _ _ S4;apply#[_,Z,.inl #[Z,_,.of Hv],_,Z,la,_,_,Z,Z,Hv,by omega,?_];have lB:∀c xs,c≠la->H9 c\.lst xs->upd HA la (.lst (MC++[.ref uu])) c\.lst xs:=λc xs ne e=>by rw[aw ne];exact lA _ _ e
   have tB:∀c xs,H9 c\.tup xs->upd HA la (.lst (MC++[.ref uu])) c\.tup xs:=λc xs e=>by
    rw[aw (bK (tA _ _ e) Hv nofun)];exact tA _ _ e
   have Yf:d≠la:=bK eA Hv nofun;apply#[_,_,dA++[e.2],Z,lB _ _ GG e9,Gx.keep tB,#[o_++[e.2],Sx++[e.2],_,fi sA QD,by rw[aw Yf];exact eA,lB _ _ K5.symm Aj,Qu.keep (λb hb xs e=>lB _ _ (fra b hb) e) tB,lB _ _ ana ED,PX.keep tB,ax,gY (yB.keep tB) (.cons #[uu,Z,tB _ _ GL] .nil),Jw.add c,λs' hs'=>?_,?_],λz=>?_]
   ·rcases d8.mp hs' with hs'|hs'
    ·exact FV s' hs'
    rw[eU.mp hs'];exact bL.vs vh
   ·rw[d9,d9,Qz];rfl
   rw[d8,vx,tk,eU,or_assoc]
  rintro σ H9 ⟨JB,JA,dA,rfl,e9,Gx,jj,vx⟩;apply#[_,_,_,dA,Z,jj,λb=>?_];rw[vx,mem,show mI.length=L.length from Dj,eI,uO,hh];simp only[Option.toList_some,d8,eU];constructor
  ·rintro (⟨h',rQ,nx⟩|⟨e,he,rfl⟩)
   ·exact#[h',.inl rQ,nx]
   exact#[h,.inr Z,e.1,(ic e).mp he]
  rintro⟨h',rQ|rfl,nx⟩
  ·exact .inl #[h',rQ,nx]
  let#[mm,nx]:=nx;exact .inr #[(mm,b),(ic (mm,b)).mpr nx,Z]
 rintro σ H7 ⟨VR,VQ,VP,seen,rfl,⟨GH,oQ,Sn,qY,EX,Ak,KU,EE,Kc,Hw,yC,B1,B3,QA⟩,mem⟩;rw[Gy,eI] at mem;let UY:=Fx.next B1 mem;apply#[_,Z,.inl #[Z,_,.of Ak],_,Z,l,_,_,Z,Z,Ak,by omega,?_];have lB:∀c xs,c≠l->H7 c\.lst xs->upd H7 l (.lst (ys++[.ref la])) c\.lst xs:=λc xs ne e=>by rw[aw ne];exact e
 have tB:∀c xs,H7 c\.tup xs->upd H7 l (.lst (ys++[.ref la])) c\.tup xs:=λc xs e=>by
  rw[aw (bK e Ak nofun)];exact e
 let kB7:=IH (ns:=aS hs) (n:=qs.length) B1.nd λs' hs'=>#[(B3 s' hs').len,(B3 s' hs').g_];have dl:d≠l:=bK EX Ak nofun
 have gl:(LL++[oQ])[kk+1]? = some oQ:=by
  rw[AW Z1,show kk+1 - LL.length=0 by omega];rfl
 have fl:oQ=[]->oQ.length=0:=λz=>by rw[z];rfl
 have Hf:oQ≠[]->0<oQ.length:=λz=>List.length_pos_iff.mpr z;apply#[(aS hs).length ^ qs.length - GH.length+(if oQ=[] then 0 else 1),?_,_,_,_,_,kk+1,_,LL++[oQ],GH,oQ,Z,fi qY ln,by rw[aw dl];exact EX,ax,gY (KU.keep (λb hb xs e=>lB _ _ (pf b hb).2 e) tB) (.cons #[la,_,Z,lB _ _ K5 Hw,yC.keep tB] .nil),?_,by rw[d9,lQ];rfl,gl,?_,UY,B3,Z,?_,?_]
 ·by_cases z:oQ=[]
  ·rw[aI z];have:=fl z;omega
  rw[aA z];have:=Hf z;omega
 ·intro b hb;rcases d8.mp hb with hb|hb
  ·exact pf b hb
  cases V.ref.inj (eU.mp hb);exact#[QD,K5]
 ·intro j L hL;by_cases c:j<LL.length
  ·rw[xZ c] at hL;exact Q3 j L hL
  let Ej:=(bY.mp hL).1;rw[d9,jU] at Ej;have:j=kk+1:=by omega
  subst this;rw[gl] at hL;cases cY hL;exact#[B1.nf,UY.new]
 ·by_cases z:oQ=[]
  ·rw[aI z];omega
  rw[aA z];have:=Hf z;omega
 intro j L hj hL;rw[xZ Z1] at hL;by_cases c:j<kk
 ·exact ne4 j L c hL
 have:j=kk:=by omega
 subst this;rw[aP Z1,cY vy] at hL;rw[<- cY hL];exact cn
end
end Ev
namespace L2
open PySem PySem.Spec PyProof.Rows PySem.W yc hY
inductive rh (K:ai) (x:V) (y:V) (H:Hp) (Q:VK):Prop
 |mk:∀a b xs,x=.ref a->y=.ref b->dX K H a xs->dX K H b []->Q (.bl xs.isEmpty) H->rh K x y H Q
variable{X:Cx}
theorem hY_(hu:X.A.units+0+1<cLine):dJ X (compareOp .Eq) (rh X.K):=by
 intro pins s σ H x y v u Q I rx ry h;let#[a,b,xs,rfl,rfl,t,t',hq]:=h;cases xs with
 |nil=>exact Yt gW hu pins s σ H (.ref a) (.ref b) v u Q I rx ry #[[],[],#[a,[],Z,t,.nil],#[b,[],Z,t',.nil],hq]
 |cons z zs=>
  cases rx;cases ry;let#[us,r,pl,_]:=I.list t;let#[vs,r',oH,_]:=I.list t';let l1:=r.length;let l2:=r'.length;exact SeqAt.eq_list_lengthsAt pl.isList oH.isList (by simp only[cj,bne_iff_ne];simp at l1 l2;omega) Z1 #[.bl false,H,I,Z,hq]
inductive mY (K:ai) (neg:Bool) (x:V) (y:V) (H:Hp) (Q:VK):Prop
 |mk:∀(a b:Addr) (ds es:af) (rest:ag),x=.ref a->y=.ref b->fo K H a (ds.map V.str++rest)->fo K H b (es.map V.str)->(rest=[]∨es.length<=ds.length)->Q (.bl (if neg then !decide (ds.map V.str++rest=es.map V.str) else decide (ds.map V.str++rest=es.map V.str))) H->mY K neg x y H Q
variable{us vs:aj}
theorem Tb{pins:List (Addr × Obj)}{σ:St}{H:Hp}{s:Ab}{A:Af}(I:Inv X pins σ H s){ds es:af}{rest:ag}(ru:Vals (ds.map V.str++rest) us)(rv:Vals (es.map V.str) vs)(h:rest=[]∨es.length<=ds.length)(hu:A.units<cLine):∀j (h1:j<us.toArray.size) (h2:j<vs.toArray.size),SeqAt.EqAt A s us.toArray[j] vs.toArray[j] (decide ((ds.map V.str++rest)[j]? = (es.map V.str)[j]?)):=λj h1 h2=>by
 let l1:=ru.length;let l2:=rv.length;rw[d9,ak] at l1;rw[ak] at l2;simp only[cj] at h1 h2
 have hj:j<ds.length:=by
  rcases h with h|h
  ·rw[h] at l1;simp at l1;omega
  omega
 let q1:=dS ru j (by rw[d9,ak];omega) h1;let q2:=dS rv j (by rw[ak];omega) h2
 have e1:(ds.map V.str++rest)[j]'(by rw[d9,ak];omega)=V.str ds[j]:=by
  rw[List.getElem_append_left (by rw[ak];omega),List.getElem_map]
 have e2:(es.map V.str)[j]'(by rw[ak];omega)=V.str (es[j]' Z1):=List.getElem_map ..;rw[e1] at q1;rw[e2] at q2;let q:=gW.eq (A:=A) I q1 q2 Z Z hu
 have e:decide ((ds.map V.str++rest)[j]? = (es.map V.str)[j]?)=decide (ds[j]=es[j]' Z1):=by
  rw[aP (by rw[d9,ak];omega),aP (by rw[ak];omega),e1,e2];by_cases z:ds[j]=es[j]' Z1
  ·simp[z]
  simp[z]
 rw[e];exact q
theorem Rc{xs ys:ag}(l1:xs.length=us.length)(l2:ys.length=vs.length):((List.range (min us.toArray.size vs.toArray.size)).all (λj=>decide (xs[j]? = ys[j]?))&&us.toArray.size == vs.toArray.size)=decide (xs=ys):=by
 simp only[cj];by_cases hl:xs.length=ys.length
 ·have e:us.length=vs.length:=by omega
  rw[e,Nat.min_self,<- l2,<- hl,OY hl];simp
 rw[eF (λz=>hl (by rw[z])),show (us.length == vs.length)=false by rw[beq_eq_false_iff_ne];omega,Bool.and_false]
theorem Sj(hu:X.A.units+0+1<cLine):dJ X (compareOp .Eq) (mY X.K false):=by
 intro pins s σ H x y v u Q I rx ry h;let#[a,b,ds,es,rest,rfl,rfl,t,t',hr,hq]:=h;cases rx;cases ry;let#[us,r,pl,_]:=I.tuple t;let#[vs,r',oH,_]:=I.tuple t';apply SeqAt.eq_tupleAt (AU pl) (AU oH) Z1 (Tb I r r' hr (by show X.A.units+1<cLine;omega)) #[.bl _,H,I,Z,?_];rw[Rc r.length r'.length];exact hq
theorem YU(hu:X.A.units+0+1<cLine):dJ X (compareOp .NotEq) (mY X.K true):=by
 intro pins s σ H x y v u Q I rx ry h;let#[a,b,ds,es,rest,rfl,rfl,t,t',hr,hq]:=h;cases rx;cases ry;let#[us,r,pl,_]:=I.tuple t;let#[vs,r',oH,_]:=I.tuple t';apply SeqAt.RcNeAt.tuples (AU pl) (AU oH) Z1 (Tb I r r' hr (by show X.A.units+1<cLine;omega)) X.prog X.w _ _ #[.bl _,H,I,Z,?_];rw[Rc r.length r'.length];exact hq
end L2
namespace Ev
open PySem L2
variable{a:ao}{m:Str × Str × Str}
theorem Yv{hs:Xa}{ts:Xb}{qs:aM}(nd:(qs.map (·.1)).Nodup){b b':ao}(h:Mv hs ts qs a b m)(h2:Mv hs ts qs a b' m):b=b':=by
 let#[k,q,x,y,q1,q2,q3,rfl,rfl]:=h;let#[k',q',x',y',r1,r2,r3,rfl,e]:=h2;have e1:q.1=q'.1:=(Prod.mk.inj e).1;have e2:y=y':=(Prod.mk.inj (Prod.mk.inj e).2).2;have hk:k<(qs.map (·.1)).length:=by rw[ak];exact (bY.mp q1).1
 have:k=k':=(List.getElem?_inj hk nd).mp (by rw[di,di,q1,r1,Option.map_some,Option.map_some,e1]);rw[this,e2]
theorem Mv.vs{hs:Xa}{ts:Xb}{qs:aM}{b:ao}(h:Mv hs ts qs a b m)(v:Vs hs qs a):Vs hs qs b:=Nx.vs #[m,h] v
variable{H':Hp}
variable{f:Addr}{fd:Ae}
section v
theorem Io:bG [jg,kC,uB,"_law_spot","_law_limit_here","_law_moves_here","_law_move","_law_some"] tW (bg qA):=bQ
structure ya (K:ai) (H:Hp) (lh lp lt ll:Addr) (hs:Xa) (ts:Xb) (ss qs:aM) (l:Int × Int):Prop where
 hh:∃yh,H lh\.lst yh/\bR K H yh (hs.map kH)
 hp:∃yp,H lp\.lst yp/\iY K H yp ss
 ht:∃zs,H lt\.lst zs/\bR K H zs (ts.map kT)
 hl:gJ H ll l
 lo:pB l
 G:Good hs ts
 S:fj ts ss qs
 s8:ss.length<=8
theorem ya.same{K:ai}{H:Hp}{lh lp lt ll:Addr}{hs:Xa}{ts:Xb}{ss qs:aM}{l:Int × Int}(h:ya K H lh lp lt ll hs ts ss qs l)(s:aa H H'):ya K H' lh lp lt ll hs ts ss qs l:=by
 let#[#[yh,a1,a2],#[yp,b1,b2],#[zs,c1,c2],d,e,f,g,i]:=h;exact#[#[yh,s _ _ a1,a2.same s],#[yp,s _ _ b1,sY b2 s],#[zs,s _ _ c1,c2.same s],s _ _ d,e,f,g,i]
inductive kJ (K:ai) (vs:ag) (H:Hp) (Q:VK) (E:XK):Prop
 |mk:∀(lh lp lt t ll lm:Addr) (ym:ag) (hs:Xa) (ts:Xb) (ss qs:aM) (l:Int × Int) (s b:ao) (ms:List (Str × Str × Str)),vs=[.ref lh,.ref lp,.ref lt,.ref t,.ref ll,.ref lm]->ya K H lh lp lt ll hs ts ss qs l->H t\.tup (sV s)->Vs hs qs s->H lm\.lst ym->j0 H ym ms->wF hs ts qs s ms b->fK hs qs b l=true->(∀H',aa H H'->Q (.bl true) H')->kJ K vs H Q E
theorem Y3(F:bx K "_law_way_right" "_law_way_right" qA f fd)(B:Bi mg)(cM:!bw 1 "_law_moves" oi (II K))(cE:!bw 2 "_law_even" om (IR K)):!aq bh 3 f fd tW (kJ K):=by
 exists F.bP Io;let#[lh,lp,lt,t,ll,lm,ym,hs,ts,ss,qs,l,s,b,ms,rfl,Pt,ht,v,RA,mv,tr,ev,k]:=h;let sz:=cX;refine' #[_,av ?s1 (aF ?s2),?kk]
 case' s1=>refine' eW d6 Z (dI (pv 5)) ?g1 (av ?b1 (av ?b2 (aF ?b3)))
 case g1=>exact cy 6 Io.nd
 case' b1=>refine' M0 (i:=7) tP 2 [6] Io.nd Z (Or.inl Z) (dI (aZ cM hr %[1,2,3|0])) (λfp s H=>?g2) (λfp s H=>?t2) (λfp s H=>?e2)
 case g2=>exact AM (n:=2) (dC (eN (i:=0) (show (tP:af).Nodup by decide +kernel) Z (Or.inl Z)) (dC (eN (i:=1) (show (tP:af).Nodup by decide +kernel) Z (Or.inl Z)) i6))
 case t2=>exact Ft (fF (Qk (K:=K) (λK=>mY K false) (Sj (nZ hr 0))) (pv 0) (pv 2))
 case e2=>exact pv 1
 case b2=>exact b_ (oT (eV (eO (cJ jR (by rfl) B.ja jh %[6,jP (v:=.ty "tuple") (by rfl) B.tuple uI Z|0]))) (pK (fF (hY_ (nZ hr 0)) (pv 7) (fN bO)))).pt (aF (bu iV)) cm
 case b3=>exact bj 3 Io.nd (bo fL (pv 7) aB)
 case s2=>exact bu (aZ cE hr %[0,1,3,4|0])
 let KS:=br mv
 let Iv:bZ:=λi σ H'=>∃(v6 v7:aL) (u:Addr) (cur:ao),σ=[some (.ref lh),some (.ref lp),some (.ref lt),some (.ref u),some (.ref ll),some (.ref lm),v6,v7]/\aa H H'/\H' u\.tup (sV cur)/\Vs hs qs cur/\wF hs ts qs cur (ms.drop i) b
 apply#[_,Z,lm,Z,#[_,.of RA],?_];apply hX (K:=K) (a:=lm) (xs:=ym) Iv ?_ ?_ ?_ ?_
 ·exact#[none,none,t,s,Z,aa.refl _,ht,v,tr]
 ·rintro i σ H' _ ⟨_,_,_,_,_,sm,_⟩;exact .of (sm _ _ RA)
 ·rintro i y σ H2 hy ⟨v6,v7,u,cur,rfl,s2,zu,vc,B8⟩;have hi:i<ym.length:=(bY.mp hy).1
  obtain⟨m,hm,x,rfl,hx⟩:∃m,ms[i]? = some m/\∃t,y=V.ref t/\H t\.tup [.str m.1,.str m.2.1,.str m.2.2]:=by
   have:=dS mv i hi Z1;rw[aP hi] at hy;cases hy;exact#[ms[i]' Z1,aP Z1,this]
  have dr:ms.drop i=m::ms.drop (i+1):=by
   rw[List.drop_eq_getElem_cons Z1];rw[aP Z1] at hm;rw[cY hm]
  rw[dr] at B8;cases B8 with
  |@cons _ b' _ _ _ KL V8=>
  let uQ:=Pt.same s2;let#[#[yp,b1,b2],#[zs,c1,c2]]:=And.intro uQ.hp uQ.ht;apply#[_,Z,_,Z,_,Z,lp,lt,u,yp,zs,hs,ts,ss,qs,cur,Z,b1,b2,c1,c2,Pt.G,Pt.S,Pt.s8,zu,vc,λl3 mI L H3 s3 oK e3 C6 ic Dk=>?_];let Dj:=br C6;let eZ:=s2.trans s3;apply#[l3,Z,#[_,.of e3],λD hD=>?_];apply iZ (own:=2) (fv:=[some (.ref x)]) (xs:=mI) Z vR (λi out H'=>aa H3 H'/\H' D\.lst out/\iu H' out (((L.take i).filter λe=>e.1=m).map (·.2))) #[aa.new hD,ax,.nil] (λi out H' _ ⟨sm,_,_⟩=>.of (sm _ _ e3)) (λout H4 ⟨s4,iS,gj⟩=>?_) (λj y out H' hy ⟨sm,cK,sp⟩=>?_);rotate_left 1
  ·have hj:j<mI.length:=(bY.mp hy).1
   obtain⟨e,he,tt,mm,uu,rfl,DJ,hm9,GL⟩:∃e,L[j]? = some e/\∃t m u,y=.ref t/\H3 t\.tup [.ref m,.ref u]/\H3 m\.tup [.str e.1.1,.str e.1.2.1,.str e.1.2.2]/\H3 u\.tup (sV e.2):=by
    have:=dS C6 j hj Z1;rw[aP hj] at hy;cases hy;exact#[L[j]' Z1,aP Z1,this]
   apply#[_,#[tt,_,_,Z,.of (sm _ _ DJ),Z],Z,λNx hN=>?_]
   have fe:decide (([e.1.1,e.1.2.1,e.1.2.2]:af).map V.str++[]=([m.1,m.2.1,m.2.2]:af).map V.str)=decide (e.1=m):=by
    by_cases z:e.1=m
    ·rw[z];simp
    rw[eF z,eF];intro q;apply z ?_;simp at q;exact Prod.ext q.1 (Prod.ext q.2.1 q.2.2)
   apply#[_,Z,_,Z,mm,x,[e.1.1,e.1.2.1,e.1.2.2],[m.1,m.2.1,m.2.2],[],Z,Z,.of (sm _ _ hm9),.of (sm _ _ (eZ _ _ hx)),.inl Z,_,Z,?_];rw[show (if false=true then !decide (([e.1.1,e.1.2.1,e.1.2.2]:af).map V.str++[]=([m.1,m.2.1,m.2.2]:af).map V.str) else decide (([e.1.1,e.1.2.1,e.1.2.2]:af).map V.str++[]=([m.1,m.2.1,m.2.2]:af).map V.str))=decide (e.1=m) from fe]
   have tk:((L.take (j+1)).filter λe=>e.1=m).map (·.2)=((L.take j).filter λe=>e.1=m).map (·.2)++if e.1=m then [e.2] else []:=by
    rw[uO,he,List.filter_append,eS];by_cases z:e.1=m
    ·simp[z]
    simp[z]
   apply cu (λc=>?_) (λc=>?_)
   ·let lo:=br sp;rw[ak] at lo;let lf:=AV (λe:Me=>decide (e.1=m)) (L.take j);rw[dH] at lf;apply#[_,Z,out,cK,by omega,hN _ _ #[fi sm hD,ax,?_]]
    have kt:∀b xs,H' b\.tup xs->upd H' D (.lst (out++[.ref uu])) b\.tup xs:=λb xs e=>by
     rw[aw (bK e cK nofun)];exact e
    rw[tk,aI (sk c)];exact gY (sp.keep kt) (.cons #[uu,Z,kt _ _ (sm _ _ GL)] .nil)
   apply hN out _ #[sm,cK,?_];rw[tk,aA ⇑c,List.append_nil];exact sp
  rw[Dj,eI] at gj;let oC:=eZ.trans s4;have mem:b'∈(L.filter λe=>e.1=m).map (·.2):=bC.mpr #[(m,b'),jS.mpr #[(ic _).mpr KL,by simp],Z]
  obtain⟨c0,cs,ec⟩:∃c0 cs,(L.filter λe=>e.1=m).map (·.2)=c0::cs:=by
   cases z:(L.filter λe=>e.1=m).map (·.2) with
   |nil=>rw[z] at mem;cases mem
   |cons c0 cs=>exact#[c0,cs,Z]
  have e0:c0=b':=by
   have:c0∈(L.filter λe=>e.1=m).map (·.2):=by rw[ec];exact fX
   let#[e,he,rfl]:=bC.mp this;let#[h1,h2]:=jS.mp he;let h3:=(ic e).mp h1;rw[show e.1=m from sk h2] at h3;exact Yv (by rw[Pt.S.vw];exact Pt.S.nd) h3 KL
  rw[ec] at gj;cases gj with
  |@cons y0 _ ysr _ _B tl=>
  let#[t0,rfl,Rm]:=_B;rw[e0] at Rm;apply#[_,Z,_,_,_,_,Z,.tup (oC _ _ hx),Z,_,Z,aK ?_];apply#[_,Z,zl,λle hle=>?_];let#[s5,e5]:=aD (o:=.lst []) hle;generalize upd H4 le (.lst [])=H5 at s5 e5 ⊢;apply#[D,le,_,Z,Z,.of (s5 _ _ iS),.of e5,_,Z,aK ?_];apply#[_,Z,D,_,0,_,Z,Z,.of (s5 _ _ iS),L2.dQ (j:=0) Z,?_];exact#[_,_,t0,b',Z,oC.trans s5,s5 _ _ Rm,KL.vs vc,V8]
 rintro σ H2 ⟨v6,v7,u,cur,rfl,s2,zu,vc,B8⟩;rw[KS,List.drop_length] at B8;cases B8;let uQ:=Pt.same s2;let#[#[yh,a1,a2],#[yp,b1,b2]]:=And.intro uQ.hh uQ.hp;apply#[_,Z,_,Z,_,Z,_,Z,lh,lp,u,ll,yh,yp,hs,ts,ss,qs,_,l,Z,a1,a2,Pt.G,b1,b2,Pt.S,Pt.s8,zu,vc,uQ.hl,Pt.lo,λH3 s3=>?_];rw[ev];exact k H3 (s2.trans s3)
end
def FT(N:ao->ao->Prop)(s0:ao)(hs:Xa)(qs:aM)(l:Int × Int)(v:V):Prop:=
 (∃k:Nat,v=.int k/\(∃s,Ds N s0 k s/\fK hs qs s l=true)/\∀j z,j<k->Ds N s0 j z->fK hs qs z l=false)∨(v=.non/\∀j z,Ds N s0 j z->fK hs qs z l=false)
def Pg(H:Hp)(t:Addr)(hs:Xa)(ts:Xb)(qs:aM)(s0:ao)(l:Int × Int):Prop:=
 (∃(x:Addr) (ys:ag) (ms:List (Str × Str × Str)) (s:ao),H t\.tup [.str "moves",.ref x]/\H x\.lst ys/\j0 H ys ms/\wF hs ts qs s0 ms s/\Ds (Nx hs ts qs) s0 ms.length s/\fK hs qs s l=true/\∀j z,j<ms.length->Ds (Nx hs ts qs) s0 j z->fK hs qs z l=false)∨(H t\.tup [.str "none"]/\∀j z,Ds (Nx hs ts qs) s0 j z->fK hs qs z l=false)
section v
theorem qy:bG [jg,kC,"_law_layers_here","_law_limit_here","_law_k"] tV (bg qV):=bQ
inductive k9 (K:ai) (vs:ag) (H:Hp) (Q:VK) (E:XK):Prop
 |mk:∀(lh lp lt lL ll:Addr) (ys:ag) (LL:List (List ao)) (hs:Xa) (ts:Xb) (ss qs:aM) (l:Int × Int) (s0:ao),vs=[.ref lh,.ref lp,.ref lL,.ref ll]->ya K H lh lp lt ll hs ts ss qs l->H lL\.lst ys->gi H ys LL->gI (Nx hs ts qs) s0 LL->Vs hs qs s0->LL.length<=1000000->(∀L∈LL,L.length<=1000000)->(∀v H',aa H H'->FT (Nx hs ts qs) s0 hs qs l v->Q v H')->k9 K vs H Q E
theorem ZZ(F:bx K "_law_due" "_law_due" qV f fd)(B:Bi mg)(cE:!bw 2 "_law_even" om (IR K)):!aq bh 3 f fd tV (k9 K):=by
 exists F.bP qy;let#[lh,lp,lt,lL,ll,ys,LL,hs,ts,ss,qs,l,s0,rfl,Pt,hL,ly,ok,v,L6,Pk,k]:=h;let sz:=cX;let GC:=br ly;refine' #[_,av ?s1 (aF ?s2),?kk]
 case' s1=>refine' eW d6 Z ?i1 ?g1 (aF ?b1)
 case i1=>exact wB (by rfl) B.range %[cJ iy (by rfl) B.len gC %[2|0]|0]
 case g1=>exact cy 4 qy.nd
 case' b1=>refine' b_ (fF (M7 (nZ hr 0)) (iI x_ 1 [0,3,1] (dI (bo fL (pv 2) (pv 4))) (λfp s H=>?g2) (λfp s H=>?t2) (λfp s H=>?e2)) (fN bO)) (aF (bu (pv 4))) cm
 case g2=>exact eN (i:=0) (show (x_:af).Nodup by decide +kernel) Z (Or.inl Z)
 case t2=>exact Ft (eO (aZ cE hr %[1,3,0,2|0]))
 case e2=>exact pv 0
 case s2=>exact bu uG
 apply#[_,Z,lL,_,Z,.inl (.of hL),_,Z,by show (-(2 ^ 62):Int)<=(ys.length:Int);omega,by show (ys.length:Int)<2 ^ 62;omega,?_]
 let Iv:bZ:=λi σ H'=>∃(v4:aL),σ=[some (.ref lh),some (.ref lp),some (.ref lL),some (.ref ll),v4]/\aa H H'/\∀j z,j<i->Ds (Nx hs ts qs) s0 j z->fK hs qs z l=false
 apply AI (lo:=0) (n:=((ys.length:Nat):Int).toNat) Iv ?_ ?_ ?_
 ·exact#[none,Z,aa.refl _,λj z hj=>absurd hj (Nat.not_lt_zero _)]
 ·rintro i σ H2 hi ⟨v4,rfl,s2,no⟩;have hi:i<ys.length:=by omega
  let#[a,zs,ea,ha,sp]:=dS ly i hi Z1;have Ml:LL[i]? = some (LL[i]' Z1):=aP Z1;obtain⟨Lr,eL⟩:∃L,L=LL[i]' Z1:=#[_,Z];rw[<- eL] at Ml sp;let is:=ok.is i Lr Ml;let vz:=br sp;let Yh:=Pk Lr (cQ Ml);rw[show (0:Int)+(i:Nat)=(i:Int) by omega];apply#[_,Z,_,Z,lL,_,i,_,Z,Z,.of (s2 _ _ hL),L2.dQ (by rw[aP hi,ea]),a,Z,#[_,.of (s2 _ _ ha)],λD hD=>?_];apply iZ (own:=1) (fv:=[some (.ref lh),some (.ref ll),some (.ref lp)]) (xs:=zs) Z e_ (λj out H'=>aa H2 H'/\H' D\.lst out/\iu H' out ((Lr.take j).filter λz=>fK hs qs z l)) #[aa.new hD,ax,.nil] (λj out H' _ ⟨sm,_,_⟩=>.of (sm _ _ (s2 _ _ ha))) (λout H4 ⟨s4,iS,gj⟩=>?_) (λj y out H' hy ⟨sm,cK,Kb⟩=>?_);rotate_left 1
  ·have hj:j<zs.length:=(bY.mp hy).1
   obtain⟨z,hz,u,rfl,hu⟩:∃z,Lr[j]? = some z/\∃t,y=V.ref t/\H t\.tup (sV z):=by
    have:=dS sp j hj Z1;rw[aP hj] at hy;cases hy;exact#[Lr[j]' Z1,aP Z1,this]
   have zv:Vs hs qs z:=(((is.2 z).mp (cQ hz)).1).vs v;let Km:=s2.trans sm;let uQ:=Pt.same Km;let#[#[yh,a1,a2],#[yp,b1,b2]]:=And.intro uQ.hh uQ.hp;apply#[_,Z,Z,λNx hN=>?_];apply#[_,Z,_,Z,_,Z,_,Z,lh,lp,u,ll,yh,yp,hs,ts,ss,qs,z,l,Z,a1,a2,Pt.G,b1,b2,Pt.S,Pt.s8,Km _ _ hu,zv,uQ.hl,Pt.lo,λH3 s3=>#[_,Z,?_]]
   have tk:((Lr.take (j+1)).filter λz=>fK hs qs z l)=((Lr.take j).filter λz=>fK hs qs z l)++if fK hs qs z l=true then [z] else []:=by
    rw[uO,hz,List.filter_append];by_cases c:fK hs qs z l=true
    ·simp[c]
    simp[c]
   apply cu (λc=>?_) (λc=>?_)
   ·let lo:=br Kb;let lf:=AV (λz=>fK hs qs z l) (Lr.take j);rw[dH] at lf;let kq:=s3 _ _ cK;apply#[_,Z,out,kq,by omega,hN _ _ #[fi (sm.trans s3) hD,ax,?_]]
    have kt:∀b xs,H' b\.tup xs->upd H3 D (.lst (out++[.ref u])) b\.tup xs:=λb xs e=>by
     rw[aw (bK (s3 _ _ e) kq nofun)];exact s3 _ _ e
    rw[tk,aI c];exact gY (Kb.keep kt) (.cons #[u,Z,kt _ _ (Km _ _ hu)] .nil)
   apply hN out _ #[sm.trans s3,s3 _ _ cK,?_];rw[tk,aA c,List.append_nil];exact Kb.keep λb xs e=>s3 _ _ e
  rw[vz,eI] at gj;let oC:=s2.trans s4;apply#[zl,λle hle=>?_];let#[s5,e5]:=aD (o:=.lst []) hle;let oB:=oC.trans s5;let ip:=s5 _ _ iS;generalize upd H4 le (.lst [])=H5 at s5 e5 oB ip ⊢;apply#[D,le,_,Z,Z,.of ip,.of e5,_,Z,?_];cases ef:Lr.filter λz=>fK hs qs z l with
  |nil=>
   rw[ef] at gj;cases gj;apply aK ?_;apply#[_,Z,oB,λj z hj dz=>?_];by_cases c:j=i
   ·subst c;let zm:=(is.2 z).mpr dz;rw[<- Bool.not_eq_true];intro c;have:z∈Lr.filter λz=>fK hs qs z l:=jS.mpr #[zm,c];rw[ef] at this;cases this
   ·exact no j z Z1 dz
  |cons z zr=>
   rw[ef] at gj;cases gj;apply df ?_;have zm:z∈Lr.filter λz=>fK hs qs z l:=by rw[ef];exact fX
   let#[z1,z2]:=jS.mp zm;exact#[_,Z,k _ _ oB (.inl #[i,Z,#[z,(is.2 z).mp z1,z2],no])]
 rintro σ H2 ⟨v4,rfl,s2,no⟩;apply k _ _ s2 (.inr #[Z,λj z dz=>?_]);let#[L,hL',_]:=ok.mem dz;have:=(bY.mp hL').1;exact no j z Z1 dz
theorem BB:bG ["_law_told","_law_due_here","_law_parts",jg,kC,uB,"_law_spot","_law_limit_here"] tQ (bg NQ):=bQ
inductive Od (K:ai) (vs:ag) (H:Hp) (Q:VK) (E:XK):Prop
 |mk:∀(t lq lh lp lt tt ll:Addr) (v:V) (hs:Xa) (ts:Xb) (ss qs:aM) (l:Int × Int) (s0:ao),vs=[.ref t,v,.ref lq]->H lq\.tup [.ref lh,.ref lp,.ref lt,.ref tt,.ref ll]->ya K H lh lp lt ll hs ts ss qs l->H tt\.tup (sV s0)->Vs hs qs s0->Pg H t hs ts qs s0 l->FT (Nx hs ts qs) s0 hs qs l v->(∀H',aa H H'->Q (.bl true) H')->Od K vs H Q E
theorem hh_(F:bx K "_law_right" "_law_right" NQ f fd)(B:Bi mg)(cW:!bw 3 "_law_way_right" tW (kJ K)):!aq bh 4 f fd tQ (Od K):=by
 exists F.bP BB;let#[t,lq,lh,lp,lt,tt,ll,v,hs,ts,ss,qs,l,s0,rfl,hq,Pt,DD,vv,tl,dv,k]:=h;refine' #[_,av ?s1 (av ?s2 (av ?s3 (av ?s4 (aF ?s5)))),?kk]
 case s1=>exact HY (pv 2) (oU Z (dC (cy 3 BB.nd) (dC (cy 4 BB.nd) (dC (cy 5 BB.nd) (dC (cy 6 BB.nd) (dC (cy 7 BB.nd) i6))))))
 case s2=>exact b_ (fF Q9 (pv 1) uG) (aF (bu (wk (Sj (nZ hr 0)) (pv 0) (fY %[sZ|0])))) cm
 case s3=>exact b_ (oT (eV (eO (cJ jR (by rfl) B.ja jh %[0,jP (v:=.ty "tuple") (by rfl) B.tuple uI Z|0]))) (oT (fF sW (cJ iy (by rfl) B.len gC %[0|0]) aB) (pK (fF sW (bo cZ (pv 0) aB) sZ)))).pt (aF (bu iV)) cm
 case s4=>exact b_ (oT (eV (eO (cJ jR (by rfl) B.ja jh %[bo cZ (pv 0) aB,jP (v:=.ty "list") (by rfl) B.list xV Z|0]))) (pK (fF sW (cJ iy (by rfl) B.len gC %[bo cZ (pv 0) aB|0]) (pv 1)))).pt (aF (bu iV)) cm
 case s5=>exact bu (aZ cW hr %[3,4,5,6,7,bo cZ (pv 0) aB|0])
 apply#[_,Z,lq,_,Z,.of hq,Z,_,_,Z,_,_,Z,_,_,Z,_,_,Z,_,_,Z,Z,?_];rcases tl with⟨x,ys,ms,sE,h1,h2,h3,h4,h5,h6,h7⟩|⟨h1,h2⟩
 ·rcases dv with⟨kd,rfl,⟨sd,d1,d2⟩,d3⟩|⟨_,d1⟩
  ·have ek:kd=ms.length:=by
    rcases Nat.lt_trichotomy kd ms.length with c|c|c
    ·rw[h7 kd sd c d1] at d2;cases d2
    ·exact c
    rw[d3 _ sE c h5] at h6;cases h6
   let KS:=br h3;apply#[_,Z,Z,_,Z,aK ?_];apply#[_,Z,_,_,_,_,Z,.tup h1,Z,_,Z,aK ?_];apply#[_,Z,t,_,Z,.inr (.of h1),Z,_,Z,?_];apply Aq (show V.int ((2:Nat):Int)=V.int 2 from Z) ?_;apply#[_,Z,t,_,0,_,Z,Z,.of h1,L2.dQ (j:=0) Z,Z,_,Z,?_];apply Aq Z ?_;apply#[_,Z,t,_,1,_,Z,Z,.of h1,L2.dQ (j:=1) Z,_,_,_,_,Z,.lst h2,Z,_,Z,aK ?_];apply#[_,Z,t,_,1,_,Z,Z,.of h1,L2.dQ (j:=1) Z,x,_,Z,.inl (.of h2),_,Z,Z,_,Z,?_];apply Aq (by rw[KS,ek]) ?_;exact#[_,Z,_,Z,_,Z,_,Z,_,Z,_,Z,t,_,1,_,Z,Z,.of h1,L2.dQ (j:=1) Z,lh,lp,lt,tt,ll,x,ys,hs,ts,ss,qs,l,s0,sE,ms,Z,Pt,DD,vv,h2,h3,h4,h6,k]
  rw[d1 _ sE h5] at h6;cases h6
 rcases dv with⟨kd,rfl,⟨sd,d1,d2⟩,d3⟩|⟨rfl,d1⟩
 ·rw[h2 _ sd d1] at d2;cases d2
 apply#[_,Z,Z,_,Z,df ?_];apply#[_,Z,zl,λq hq'=>?_];let#[s5,e5]:=aD (o:=.tup [.str "none"]) hq';generalize upd H q (.tup [.str "none"])=H5 at s5 e5 ⊢;apply#[t,q,["none"],["none"],[],Z,Z,.of (s5 _ _ h1),.of e5,.inl Z,?_];exact k H5 s5
end
variable{r:Int}
theorem El{α:Type}{p:α->Prop}{xs:List α}(h0:0<=r)(h1:r<xs.length)(all:∀x∈xs,p x):∃x,ix xs r\x/\p x:=by
 let#[j,rfl]:=tM h0;have hj:j<xs.length:=by omega
 exact#[xs[j],L2.dQ (aP hj),all _ (kD hj)]
theorem gq.but{K:ai}{CG CW:Addr}{H:Hp}{l g p:Addr}{hs:Xa}{ts:Xb}{qs:aM}{fp:au}(G:gq K CG CW H g p hs ts qs fp)(b:bc l H H')(st:dD H l)(nl:l∉fp):gq K CG CW H' g p hs ts qs fp:=by
 let#[xs,e]:=st.some;exact G.keep (λc hc o ho=>b _ _ ho λz=>nl (by rw[<- z];exact hc)) (λc zs hz=>b _ _ hz (bK hz e nofun))
theorem gq.wZ{K:ai}{CG CW:Addr}{H:Hp}{g p:Addr}{hs:Xa}{ts:Xb}{qs:aM}{fp:au}(G:gq K CG CW H g p hs ts qs fp):∃kr,gq K CG CW H g p hs ts qs kr/\(∀b∈kr,∃o,H b\o)/\∀c∈kr,c∈fp:=by
 let#[dx,dw,dy,vs,dG,h1,h2,h3,h4,h5,m1,m2,m3,m4,m5]:=G.ex;have g_:∀{b:Addr} {o:HO},b∈fp->H b\o->b∈fp.filter λb=>(H b).isSome:=λm e=>jS.mpr #[m,by rw[e];rfl];apply#[fp.filter λb=>(H b).isSome,#[dx,dw,dy,vs,dG,h1,h2,h3,h4,h5,g_ m1 h1,g_ m2 h3,g_ m3 h4,λb hb=>?_,λv hv a z=>?_],λb hb=>?_,λb hb=>(jS.mp hb).1]
 ·let#[o,e]:=h2.has hb;exact g_ (m4 b hb) e
 ·let#[i,hi,ev]:=gX hv;let le:=br h5;let w:=dS h5 i hi Z1;rw[ev,z] at w;cases o:(qs[i]' Z1).2.2 with
  |none=>
   rw[o] at w;cases (show V.ref a=.non from w)
  |some ws=>
   rw[o] at w;let#[a',ys,e,h,_]:=w;cases e;exact g_ (m5 v hv a z) h
 exact Option.isSome_iff_exists.mp (jS.mp hb).2
theorem g9_{b:Int}(h0:0<=r)(h9:r<9)(hb:b=1∨b=2∨b=4∨b=8):pB (1+2 * r,b):=by
 have g:Int.gcd (1+2 * r) b=1:=by
  let#[j,rfl]:=tM h0;have hj:j<9:=by omega
  have key:∀j:Fin 9,Int.gcd (1+2 * ((j:Nat):Int)) 1=1/\Int.gcd (1+2 * ((j:Nat):Int)) 2=1/\Int.gcd (1+2 * ((j:Nat):Int)) 4=1/\Int.gcd (1+2 * ((j:Nat):Int)) 8=1:=by decide +kernel
  let#[k1,k2,k3,k4]:=key #[j,hj];rcases hb with rfl|rfl|rfl|rfl
  ·exact k1
  ·exact k2
  ·exact k3
  exact k4
 apply#[?_,?_,?_,?_,g]<;>dsimp only<;>omega
theorem fD_{hs:Xa}{ts:Xb}{qs:aM}{f:bq}(G:Good hs ts)(wp:∀q∈qs,0<=q.2.1/\q.2.1<=1000000000)(bX:qs.length<64)(R:Bz hs qs f r):pB (fr r (fD hs)):=by
 let rl:=Sh G wp bX R;let mo:=Av G;let fb:=QM rl.1 rl.2 mo.1 mo.2.1;let#[f1,f2,f3,f4,f5]:=fb;apply#[f3,?_,?_,?_,f5]<;>omega
section v
theorem FB:bG [gB,"_law_goods","_law_names","_law_layers_here","_law_layer","_law_some","_law_one","_law_drawn"] tT (bg Na):=bQ
inductive Oi (K:ai) (CG CW:Addr) (vs:ag) (H:Hp) (Q:VK) (E:XK):Prop
 |mk:∀(l g ln lL p:Addr) (hs:Xa) (ts:Xb) (qs:aM) (fp:au) (ys:ag) (LL:List (List ao)) (s0:ao),vs=[.ref l,.ref g,.ref ln,.ref lL]->dD H l->Gs K CG CW H g p hs ts qs fp->l∉fp->(∀b∈fp,∃o,H b\o)->H ln\.lst ((qs.map (·.1)).map V.str)->ln≠l->H lL\.lst ys->lL≠l->gi H ys LL->(∀b,V.ref b∈ys->b≠l)->gI (Nx hs ts qs) s0 LL->Vs hs qs s0->LL.length<=1000000->(∀L∈LL,L.length<=1000000)->(∀t lim H',bc l H H'->dD H' l->gJ H' t lim->pB lim->Q (.ref t) H')->Oi K CG CW vs H Q E
theorem gN_{CG CW:Addr}(F:bx K "_law_limit" "_law_limit" Na f fd)(B:Bi mg)(cD:!bw 1 uA vZ xU)(cS:!bw 7 "spread" xK (OA K CG CW)):!aq bh 8 f fd tT (Oi K CG CW):=by
 exists F.bP FB;let#[l,g,ln,lL,p,hs,ts,qs,fp,ys,LL,s0,rfl,st,G,lfp,has,uk,A_,hL,GE,ly,fr,ok,v,L6,Pk,k]:=h;let sz:=cX;refine' #[_,av ?s1 (av ?s2 (av ?s3 (av ?s4 (aF ?s5)))),?kk]
 case s1=>exact bj 4 FB.nd (bo fL (pv 3) (aZ cD hr %[0,cJ (fO_ Z) (by rfl) B.max PyProof.Rows.Boot.«max» %[aB,bN Hg (cJ iy (by rfl) B.len gC %[3|0]) aB|0]|0]))
 case s2=>exact bj 5 FB.nd (bo fL (pv 4) (aZ cD hr %[0,cJ iy (by rfl) B.len gC %[4|0]|0]))
 case' s3=>refine' bj 6 FB.nd (aZ cS hr %[1,i0 (xY Z) (by rfl) B.dict tw %[iI ["_law_k","_law_names","_law_some"] 1 [2,5] (wB (by rfl) B.range %[cJ iy (by rfl) B.len gC %[2|0]|0]) (λfp s H=>?g3) (λfp s H=>ji) (λfp s H=>?e3)|0]|0])
 case g3=>exact eN (i:=0) (show (["_law_k","_law_names","_law_some"]:af).Nodup by decide +kernel) Z (Or.inl Z)
 case e3=>exact fY %[bo (ug (K:=K) oE fL) (pv 1) (pv 0),bo (ug (K:=K) ju cZ) (pv 2) (pv 0)|0]
 case s4=>exact bj 7 FB.nd (fY %[bN gH aB (bN pL aB (aZ cD hr %[0,aB|0])),bo fL (fN %[aB,aB,aB,aB|0]) (aZ cD hr %[0,aB|0])|0])
 case s5=>exact bu (bo fL (fN %[fY %[aB,aB|0],7,6,6,fY %[K_ MA aB,aB|0]|0]) (aZ cD hr %[0,aB|0]))
 let GC:=br ly;let#[n,hn,nF]:=ok.last
 have n1:1<=n:=by
  let#[L,RU,hm]:=ok.mem (j:=0) (s:=s0) #[.z,λj hj=>by omega];rcases Nat.eq_zero_or_pos n with rfl|h
  ·rw[nF] at RU;cases cY RU;cases hm
  exact h
 have mx:(if (ys.length:Int) - 1 > 1 then (ys.length:Int) - 1 else 1)=(n:Int):=by split<;>omega
 apply#[_,Z,_,Z,_,Z,lL,_,Z,.inl (.of hL),_,_,Z,Z,_,_,Z,?_];apply#[l,n,d5 (λz=>[V.ref l,V.int z]) mx,by omega,by omega,st,λr H1 r0 r1 b1 qd=>?_];let#[r,rfl]:=tM r0;have Lo:r<ys.length:=by omega
 let#[a,zs,ea,ha,sp]:=dS ly r Lo Z1;have G6:LL[r]? = some (LL[r]' Z1):=aP Z1;obtain⟨Lr,eL⟩:∃L,L=LL[r]' Z1:=#[_,Z];rw[<- eL] at G6 sp;let is:=ok.is r Lr G6;let nz:=ok.ne r Lr Z1 G6;let vz:=br sp;let Yh:=Pk Lr (cQ G6);have l0:0<Lr.length:=List.length_pos_iff.mpr nz;have al:a≠l:=fr a (by rw[<- ea];exact kD Lo);let#[Jv,lT]:=st.some;have tk:∀{H':Hp},bc l H H'->∀c xs,H c\.tup xs->H' c\.tup xs:=λb c xs e=>b _ _ e (bK e lT nofun);apply#[lL,_,r,_,Z,Z,.of (b1 _ _ hL GE),L2.dQ (by rw[aP Lo,ea]),?_];apply#[_,Z,_,Z,_,Z,a,_,Z,.inl (.of (b1 _ _ ha al)),l,zs.length,Z,by omega,by omega,qd,λr2 H2 WX r21 b2 fI=>?_];let#[r2,rfl]:=tM WX;have jD:r2<zs.length:=by omega
 let#[u,eu,hu]:=dS sp r2 jD Z1;obtain⟨z,ez⟩:∃z,z=Lr[r2]' Z1:=#[_,Z];rw[<- ez] at hu;have zm:z∈Lr:=by rw[ez];exact kD Z1
 have zv:Vs hs qs z:=((is.2 z).mp zm).1.vs v;let BG:=b1.trans b2;let zu:=tk BG _ _ hu;apply#[a,_,r2,_,Z,Z,.of (BG _ _ ha al),L2.dQ (by rw[aP jD,eu]),?_];let ln2:=BG _ _ uk A_;let G2:=G.G.but BG st lfp
 have EC:∀b∈fp,∃o,H2 b\o:=λb hb=>by
  let#[o,e]:=has b hb;exact#[o,BG _ _ e λz=>lfp (by rw[<- z];exact hb)]
 let bX:=G.bX;let lz:=zv.len;have ln:((qs.map (·.1)).map V.str).length=qs.length:=by rw[ak,ak]
 have Ya:(qs.map (·.1)).length=qs.length:=ak _;obtain⟨nm,MQ⟩:∃nm,nm=qs.map (·.1):=#[_,Z];rw[<- MQ] at ln2 ln Ya;have KJ:nm.Nodup:=by rw[MQ];exact G.nd
 apply#[_,Z,_,Z,_,_,Z,.inl (.of ln2),_,Z,by show (-(2 ^ 62):Int)<=((nm.map V.str).length:Int);omega,by show ((nm.map V.str).length:Int)<2 ^ 62;omega,λD hD=>?_]
 have Dl:D≠l:=by
  let#[xs,e]:=fI.some;exact (bp e hD).symm
 apply Il (own:=1) (fv:=[some (.ref _),some (.ref u)]) Z e_ nm.length (λi out H'=>aa H2 H'/\H' D\.lst out/\jd K H' out (d7 (nm.take i) (nR nm z))) #[aa.new hD,ax,.nil] (λout H3 ⟨s3,kq,pa⟩=>#[?_,?_]) (λi out H3 hi ⟨s3,kq,pa⟩=>#[?_,λx H4 ⟨e4,ex⟩=>?_])
 ·show ((nm.map V.str).length:Int).toNat<=nm.length;omega
 rotate_left 1
 ·show i<((nm.map V.str).length:Int).toNat;omega
 ·subst e4;subst ex;rw[show (0:Int)+(i:Nat)=(i:Int) by omega];have h1:nm[i]? = some nm[i]:=aP hi;have h2:z[i]? = some (z[i]' Z1):=aP Z1;apply#[_,Z,Z,λNx hN=>d_ ?_];apply#[_,Z,_,Z,_,_,i,_,Z,Z,.of (s3 _ _ ln2),L2.dQ (by rw[di,h1];rfl),_,Z,_,Z,u,_,i,_,Z,Z,.of (s3 _ _ zu),L2.dQ (by rw[di,h2];rfl),zl,λq hq=>?_];let#[s5,e5]:=aD (o:=.tup [.str nm[i],.str (z[i]' Z1)]) hq;generalize upd H4 q (.tup [.str nm[i],.str (z[i]' Z1)])=H5 at s5 e5 ⊢;let ip:=s5 _ _ kq;let lo:=br pa;rw[jQ,dH] at lo
  have tD:∀{c xs},H5 c\.tup xs->upd H5 D (.lst (out++[.ref q])) c\.tup xs:=λe=>by
   rw[aw (bK e ip nofun)];exact e
  apply#[out,ip,by omega,hN _ _ #[fi (s3.trans s5) hD,ax,?_]];rw[tF h1];show jd K _ _ ((nm.take i++[nm[i]]).map _);rw[eS];apply gY (Paired.aV pa λy p ⟨c,e,hc⟩=>#[c,e,tD (s5 _ _ hc)]) (.cons #[q,Z,?_] .nil);rw[tD e5];show some (HO.tup [V.str nm[i],V.str (z[i]' Z1)])\HO.tup [V.str nm[i],V.str (nR nm z nm[i])];rw[Bu KJ h1 h2]
 rw[eI] at pa;apply#[D,out,_,Z,kq,pa,by rw[jQ];omega,λd hd=>?_]
 have ke:((d7 nm (nR nm z)).map (·.1)).Nodup:=by
  rw[AF,tN,uK];exact KJ.imp λn e=>n (hJ e)
 rw[wC ke];let#[s4,e4]:=aD (o:=.dK (d7 nm (nR nm z))) hd;let vk:=s3.trans s4;generalize upd H3 d (.dK (d7 nm (nR nm z)))=H4 at s4 e4 vk ⊢;have b04:bc l H H4:=BG.trans (bc.of vk);let ib:=fI.same vk
 have se:d∉fp:=λm=>by
  let#[o,e]:=EC d m;rw[s3 _ _ e] at hd;cases hd
 have Ww:IU hs qs nm (nR nm z):=by
  apply#[by rw[MQ],λn hn=>?_];let#[j,hj,e]:=gX hn;rw[Bu KJ (k:=j) (by rw[aP hj,e]) (aP (show j<z.length by omega))];exact (gF hs).mem_iff.mp (zv.g_ _ (kD Z1))
 apply#[g,p,d,hs,ts,qs,fp,nm,nR nm z,Z,#[G2.same vk,G.Gd,se,e4,Ww,G.nd,bX,λq hq=>(G.wp q hq).1],G.wp,λto rr H5 s5 R _M=>?_];have b05:bc l H H5:=b04.trans (bc.of s5);let g8:=ib.same s5;let Dg:=fD_ G.Gd G.wp bX R;apply#[_,Z,l,9,Z,by decide,by decide,g8,λr3 H6 q0 q1 b6 iK=>#[_,_,Z,Z,.inr #[by omega,by omega],_,_,Z,Z,?_]];apply#[zl,λlx kj=>?_];let#[s7,e7]:=aD (o:=.lst [.int 1,.int 2,.int 4,.int 8]) kj;let i7:=iK.same s7
 have Df:lx≠l:=by
  let#[xs,e]:=iK.some;exact (bp e kj).symm
 generalize upd H6 lx (.lst [.int 1,.int 2,.int 4,.int 8])=H7 at s7 e7 i7 ⊢;apply#[_,Z,l,4,Z,by decide,by decide,i7,λr4 H8 q2 q3 b8 yA=>?_]
 let#[y,hy,bb,eb,hb]:=El (p:=λy:V=>∃b:Int,y=.int b/\(b=1∨b=2∨b=4∨b=8)) (xs:=[V.int 1,.int 2,.int 4,.int 8]) q2 q3 (λx hx=>by
  simp only[bU,fU,or_false] at hx;rcases hx with rfl|rfl|rfl|rfl
  ·exact#[_,Z,.inl Z]
  ·exact#[_,Z,.inr (.inl Z)]
  ·exact#[_,Z,.inr (.inr (.inl Z))]
  exact#[_,Z,.inr (.inr (.inr Z))])
 subst eb;apply#[lx,_,_,_,Z,Z,.of (b8 _ _ e7 Df),hy,zl,λtd _N=>?_];let#[s9,e9]:=aD (o:=.tup [.int (1+2 * r3),.int bb]) _N;let uZ:=yA.same s9;have BE:bc l H5 (upd H8 td (.tup [.int (1+2 * r3),.int bb])):=((b6.trans (bc.of s7)).trans b8).trans (bc.of s9);generalize upd H8 td (.tup [.int (1+2 * r3),.int bb])=H9 at s9 e9 uZ BE ⊢
 have tl:∀{Ha Hb:Hp},dD Ha l->bc l Ha Hb->∀{c xs},Ha c\.tup xs->Hb c\.tup xs:=by
  intro Ha Hb sa b c xs e;let#[xs,e2]:=sa.some;exact b _ _ e (bK e e2 nofun)
 let DG:=tl g8 BE _M;apply#[zl,λt1 uh=>?_];let#[sA,eA]:=aD (o:=.tup [.int 0,.int 1]) uh;generalize upd H9 t1 (.tup [.int 0,.int 1])=HA at sA eA ⊢;apply#[_,Z,_,Z,_,Z,_,Z,zl,λt2 xu=>?_];let#[sB,eB]:=aD (o:=.tup [.int (-1),.int 2]) xu;generalize upd HA t2 (.tup [.int (-1),.int 2])=HB at sB eB ⊢;apply#[zl,λlc xx=>?_];let#[sC,eC]:=aD (o:=.lst [.ref t1,.ref td,.ref to,.ref to,.ref t2]) xx;let yz:=(uZ.same sA).same sB
 have Ye:lc≠l:=by
  let#[xs,e]:=yz.some;exact (bp e xx).symm
 let stC:=yz.same sC;generalize upd HB lc (.lst [.ref t1,.ref td,.ref to,.ref to,.ref t2])=HC at sC eC stC ⊢;let yV:=(sA.trans sB).trans sC;apply#[_,Z,l,5,Z,by decide,by decide,stC,λr5 HD q4 q5 bD J9=>?_];have tD:∀{c xs},HC c\.tup xs->HD c\.tup xs:=λe=>tl stC bD e
 let#[y,hy,tt,lim,ey,h1,h2]:=El (p:=λy:V=>∃(t:Addr) (lim:Int × Int),y=.ref t/\gJ HD t lim/\pB lim) (xs:=[V.ref t1,.ref td,.ref to,.ref to,.ref t2]) q4 q5 (λx hx=>by
  simp only[bU,fU,or_false] at hx;rcases hx with rfl|rfl|rfl|rfl|rfl
  ·exact#[t1,(0,1),Z,tD ((sB.trans sC) _ _ eA),by constructor<;>decide]
  ·exact#[td,(1+2 * r3,bb),Z,tD (yV _ _ e9),g9_ q0 q1 hb]
  ·exact#[to,_,Z,tD (yV _ _ DG),Dg]
  ·exact#[to,_,Z,tD (yV _ _ DG),Dg]
  exact#[t2,(-1,2),Z,tD (sC _ _ eB),by constructor<;>decide])
 subst ey;apply#[lc,_,_,_,Z,Z,.of (bD _ _ eC Ye),hy,?_];exact k tt lim HD ((b05.trans (BE.trans (bc.of yV))).trans bD) J9 h1 h2
end
end Ev
namespace L2
open PySem PySem.Spec PyProof.Rows
section v
section
variable{N:af}{qual:Str}{scope:Scope}{f:Addr}{cd:Aa}{A:Af}{outer:List Env}{s:Ab}{H:Hp}{E:XK}
end
end
open PySem.Calls PySem.W
section
variable{M:Model}{A:Af}{E:Aa->Ab->Prop}{s:Ab}{base:Heap}{env:Env}{outer:List Env}{L e:Addr}{cls a0:Aa}{Q:Unit->Ab->Prop}
end
section
variable{prog:Ad}{w:Ag}{A:Af}{E:Aa->Ab->Prop}{h:Heap}{g:Array GenState}{d:Drawn}{t:Nat}{os:OsState}{nm q:Str}{C N f:Addr}{bs bm UX:aj}{hdct:Bool}{sn:af}{sub:aj}{ab:Bool}{col:Option Bool}{dd:Option Addr}{k0 k1 k2 k3 k5:Option Aa}{B newId Ld:String}{K:ai}{rest:aj}
end
open Builtin Builtin.ObjectAttr
def z_(C CE:Addr):aj:=[.ref C,.ref CE,.type "ValueError",.type "Exception",.type "BaseException",.type "object"]
section
variable{prog:Ad}{w:Ag}{A:Af}{E:Aa->Ab->Prop}{s:Ab}{K:ai}{x C CE:Addr}{ox:Obj}{od:Option Obj}{name:Str}{tk:Tok}{v:Aa}{cd:ClassData}
end
def Ac(K:ai)(C:Addr)(UX:aj)(newId:String):Bool:=
 match K.lookup C with
 |some ⟨.type "type",_,.cls cd,sl⟩=>
  match cd.mro,sl.toList with
  |.ref C'::bm,[_,_,_,_,some (.builtin n),_]=>C' == C&&n == newId&&!cd.hasDel&&tailIn K UX bm&&nsOkIn K cd.ns
  |_,_=>false
 |_=>false
def N6(K:ai)(C CE:Addr):Bool:=
 match clsIn K C with
 |some cd=>cd.mro == z_ C CE&&cd.hasDict
 |none=>false
structure ExO (K:ai) (C CE:Addr):Prop where
 kx:Pq K C
 ex:Ac K C bmV "ValueError.__new__"=true
 es:findIn K (.ref C) "__setattr__"\some (.builtin "object.__setattr__")
 cl:N6 K C CE=true
structure ExF (K:ai) (C:Addr) (f:Str):Prop where
 tk:takerIn K C f\none
 fd:findIn K (.ref C) f\none
structure ExB (K:ai) (CE:Addr):Prop where
 sp:specialIn K (.ref CE) "__getattribute__"\some (.builtin "type.__getattribute__")
 rd:readsIn K CE (.type "type")=true
 fc:findCls K (.ref CE) (.type "type") "__init__"\.val (.builtin "ValueError.__init__")
section
variable{P:Ad}{w:Ag}{H:Hp}{h:Heap}{e C a0 d:Addr}{dd:Option Addr}{fs:List (Str × V)}
end
section
variable{X:Cx}{C CE:Addr}{x f:Str}{p apos pos pos':Pos}{o e value:Expr}{es:List Expr}{ta tv:TE}{t:TA}
end
section
variable{X:Cx}{pins:List (Addr × Obj)}{σ:St}{H H':Hp}{s s1:Ab}{B h:Heap}{a:Addr}{cls a0:Aa}{dd:Option Addr}{E:XK}
end
section
variable{P:Ad}{w:Ag}{K:ai}{mg:Str->Option Aa}{base:Heap}{N:af}{qual:Str}{scope:Scope}{f:Addr}{cd:Aa}{A:Af}{outer:List Env}{s:Ab}{H:Hp}{E:XK}
end
section
variable{X:Cx}{x:Str}{C f:Addr}{fd:Ae}{ps:af}{sp:Sp}{k:Nat}{np cO pos:Pos}{e:Expr}{es:List Expr}{t:TA}{E:XK}
end
section
variable{X:Cx}{i:Nat}{x n:Str}{D C:Addr}{np DV pos:Pos}{Fu:Stmt}{wX body:List Stmt}{tb:XK->TS}{ts:TS}{rest:List ExceptHandler}
end
section
variable{P:Ad}{w:Ag}{K:ai}{mg:Str->Option Aa}{base:Heap}{N:af}{qual:Str}{scope:Scope}{f:Addr}{cd:Aa}{A:Af}{outer:List Env}{s:Ab}{H:Hp}{E:XK}
end
section
variable{X:Cx}{i:Nat}{x x2 n:Str}{D C D2 C2:Addr}{np DV np2 Ru pos:Pos}{Fu c₀:Stmt}{wX J7 body:List Stmt}{tb:XK->TS}{ts ts2:TS}
end
section
variable{X:Cx}{i:Nat}{x n:Str}{D:Addr}{ok:Addr->Prop}{np DV pos:Pos}{Fu:Stmt}{wX body:List Stmt}{tb:XK->TS}{ts:TS}
end
section
variable{X:Cx}{k:Nat}{ps:af}{x:Str}{p pos:Pos}{e:Expr}{es:List Expr}{tn:TE}{t:TA}
end
structure IM (ps dF:af) (scope:Scope):Prop where
 nd:(ps++dF).Nodup
 kind:scope.kind=.function
 co:scope.isCoroutine=false
 gen:scope.isGenerator=false
 par:∀p∈ps,scope.names.lookup p\.local
 fv:∀x∈dF,scope.names.lookup x\.free
 all:∀x,scope.names.lookup x\.free->x∈dF
 rF:∀x∈scope.names,x.2≠.cell
def Bq(CX:uR)(P:Ad)(w:Ag)(K:ai)(mg:Str->Option Aa)(base:Heap)(N:af)(qual:Str)(scope:Scope)(f:Addr)(cd:Aa)(cl:List (Str × Addr))(A:Af)(outer:List Env)(s:Ab)(H:Hp)(E:XK):Cx where
 prog:=P
 w:=w
 K:=K
 mg:=mg
 base:=base
 A:=A.deeper (envX qual scope s.heap.objs.size f cd cl)
 N:=N
 dc:=s
 j7:=H
 env:=envX qual scope s.heap.objs.size f cd cl
 outer:=outer
 stack:=envX qual scope s.heap.objs.size f cd cl::outer
 ex:=[]
 calm:=true
 fn:=λ_=>false
 pn:=[]
 xe:=λe s'=>wpAny (model P w) (A.deeper (envX qual scope s.heap.objs.size f cd cl)) (leaving (envX qual scope s.heap.objs.size f cd cl) e) (λ_ o8=>CX outer H s E e o8) (λe' o8=>CX outer H s E e' o8) s'
theorem Ue{x:Str}{u:Aa}:∀{l:List (Str × Aa)},(l.map (·.1)).Nodup->(x,u)∈l->l.lookup x\u
 |(y,v)::l,nd,h=>by
  let n:=jk.mp nd;rcases bU.mp h with e|h
  ·cases e;simp[List.lookup]
  have ne:x≠y:=λz=>n.1 (by rw[<- z];exact bC.mpr #[_,h,Z]);have:(x == y)=false:=⇑ne
  rw[pO,this];exact Ue n.2 h
theorem R_:∀(ps:af) (us:aj),((ps.zip us).map (·.1)).Sublist ps
 |[],_=>by simp
 |_::_,[]=>by simp
 |p::ps,u::us=>by
  simp only[List.zip_cons_cons,eG];exact (R_ ps us).cons₂ p
variable{ps:af}{us:aj}{x:Str}
theorem cY_{i:Nat}{u:Aa}(nd:ps.Nodup)(h1:ps[i]? = some x)(h2:us[i]? = some u):(ps.zip us).reverse.lookup x\u:=by
 apply Ue ?_ (List.mem_reverse.mpr (cQ (i:=i) ?_))
 ·rw[List.map_reverse];apply (List.reverse_perm _).nodup_iff.mpr (nd.sublist ?_);exact R_ ps us
 rw[List.getElem?_zip_eq_some];exact#[h1,h2]
structure IC (dF:af) (cl:List (Str × Addr)) (gs:ag) (h:Heap):Prop where
 inj:∀x y c,cl.lookup x\c->cl.lookup y\c->x=y
 has:∀x∈dF,∃c,cl.lookup x\c
 all:∀x c,cl.lookup x\c->∃v,h.IsCell c v
 is:∀(i:Nat) x v,dF[i]? = some x->gs[i]? = some v->∃c u,cl.lookup x\c/\RelV v u/\h.IsCell c (some u)
variable{h':Heap}{c:Addr}
theorem IsCell.keeps{h:Heap}{v:Option Aa}(x:h.IsCell c v)(k:∀o,h.get? c\o->h'.get? c\o):h'.IsCell c v:=let #[o,e,d]:=x;#[o,k o e,d]
variable{CX:uR}{w:Ag}{mg:Str->Option Aa}{base:Heap}{dF:af}{f:Addr}{cd:Aa}{A:Af}{outer:List Env}{s:Ab}{E:XK}{gs:ag}
theorem Z7{P:Ad}{K:ai}{qual:Str}{scope:Scope}{cl:List (Str × Addr)}{H:Hp}{vs:ag}{h1:Heap}{tk:Nat}(S:IM ps dF scope)(hd:A.handled=none)(e0:iA P w K mg base A outer s H)(hl:vs.length=ps.length)(hg:gs.length=dF.length)(r:Vals vs us)(C:IC dF cl gs s.heap)(fc:∀x c,cl.lookup x\c->H c=none)(ns:h1.Ns s.heap.objs.size λx=>(ps.zip us).reverse.lookup x)(k:∀b o,s.heap.get? b\o->h1.get? b\o) :
  Inv (Bq CX P w K mg base (ps++dF) qual scope f cd cl A outer s H E) [] (vs.map some++gs.map some) H { s with heap:=h1,toks:=tk }:=by
 have vt:∀b:Addr,b∉(Bq CX P w K mg base (ps++dF) qual scope f cd cl A outer s H E).ex:=λb z=>absurd (show b∈([]:au) from z) Z2
 apply#[#[e0.mod,S.kind,Z,Z,a_ _,C.inj,λy hy=>?_,λy c h=>(by cases h),λ_=>hd,Around.frames_deeper e0.frames,.inr #[Z,Z],λb z=>absurd z (vt b),e0.bs,e0.tq,λb _ _=>vt b,λb z=>absurd z (vt b),e0.fR,e0.vU],
  rfl,e0.bare,Un.kept k,#[_,ns,λi y v lY h2 h3=>?_],λy c h=>?_,e0.az.fresh (a_ _),fc,λp hp=>absurd (show p∈([]:List (Addr × Obj)) from hp) Z2,e0.az.kept k,?_]
 ·have hy:scope.names.lookup y\.cell∨scope.names.lookup y\.free:=hy;rcases hy with hy|hy
  ·exact absurd Z (S.rF _ (pM hy))
  exact C.has y (S.all y hy)
 ·have lY:(ps++dF)[i]? = some y:=lY;by_cases hi:i<ps.length
  ·rw[xZ hi] at lY;rw[xZ (by simpa [hl] using hi),di] at h2;let#[v',hv,e]:=BJ.mp h2;cases e;let#[u,hu,rv]:=r.get hv;apply#[u,rv,.inl #[S.par y (cQ lY),?_]];have Gv:ps.Nodup:=(List.nodup_append.mp S.nd).1;show (ps.zip us).reverse.lookup y\u;exact cY_ Gv lY hu
  rw[AW Z1] at lY;rw[AW (by simp[hl];omega),di,ak,hl] at h2;let#[v',hv,e]:=BJ.mp h2;cases e;let#[c,u,e1,rv,ce]:=C.is _ _ _ lY hv;exact#[u,rv,.inr #[.inr (S.fv y (cQ lY)),c,e1,IsCell.keeps ce λo e=>k _ _ e]]
 ·let#[v,ce]:=C.all y c h;exact#[v,IsCell.keeps ce λo e=>k _ _ e]
 show _=(ps++dF).length;rw[d9,d9,ak,ak,hl,hg]
variable{k:Nat}{c':Addr}
theorem Z4{P:Ad}{K:ai}{qual:Str}{params:Arguments}{body:PySem.Expr}{scope:Scope}{pm ku:Aa}{cl:List (Str × Addr)}{H:Hp}{Q:VK}{vs:ag}{t:TE}(S:IM ps dF scope)(hr:aQ (k+1) A)(e0:iA P w K mg base A outer s H)(hf:s.heap.get? f\kla_obj "<lambda>" qual params body scope cl pm c' ku)(ik:s.heap.CodeRec (.ref c') qual)(hb:bindArgs (kla_fn "<lambda>" qual params body scope cl pm (.ref c') ku) #[us,[]]=pure (ps.zip us))(hl:vs.length=ps.length)(hg:gs.length=dF.length)(r:Vals vs us)(C:IC dF cl gs s.heap)(fc:∀x c,cl.lookup x\c->H c=none)(ht:aQ k (A.deeper (envX qual scope s.heap.objs.size f (.ref c') cl))->PE (Bq CX P w K mg base (ps++dF) qual scope f (.ref c') cl A outer s H E) body t)(hq:t (vs.map some++gs.map some) H Q) :
  codeAny (model P w) A (.call (.ref f) #[us,[]]) (CR CX outer P w H s Q E) s:=by
 have lim:s.heap.NoLimit:=e0.mod.nolimit.keeps λb o e=>(e0.bs b o e).1;apply kla_callFunE hr.depth hf Z S.co S.gen Z ik ?_;rw[hb];apply aE (wpAny_newFunctionEnv S.rF (λx hx=>?_) (λh1 ns sb=>?_) S.kind)
 ·exact S.par x.1 (List.of_mem_zip hx).1
 have k1:∀b o,s.heap.get? b\o->h1.get? b\o:=λb o e=>sb.extBut b o (dR (bz e)) (aU _ e);apply#[lim.keeps k1,?_];show codeAny _ _ (.expr body (envX qual scope s.heap.objs.size f (.ref c') cl)) _ _;let I:=Z7 (CX:=CX) (qual:=qual) (f:=f) (cd:=.ref c') (E:=E) (tk:=s.toks+(ps.zip us).length) S hr.hd e0 hl hg r C fc ns k1;apply kla_codeExpr (wpAny_mono (ht (hr.deeper _) [] _ _ H _ I hq) (λv s' hs=>?_) λe s' hs=>hs);let#[x,H',J,rv,q]:=hs;exact#[x,H',J.os,J.bare,J.base,J.az,rv,q]
def jC(f:Addr)(qual:Str)(params:Arguments)(body:PySem.Expr)(scope:Scope)(cl:List (Str × Addr))(c':Addr):HO:=.ext λh=>∃pm ku,h.get? f\kla_obj "<lambda>" qual params body scope cl pm c' ku
def As(c':Addr)(qual:Str):HO:=.ext λh=>∃o vs t,h.get? c'\o/\o.data=.fields vs/\vs[1]? = some (.str qual t)
inductive wO (P:Addr) (qual:Str) (params:Arguments) (body:PySem.Expr) (scope:Scope) (pos:Pos) (cl:List (Str × Addr)) (H:Hp) (Q:VK):Prop
 |mk:∀ps,H P\.tbl ps->TriplesOk ps.toList->((codeAmong pos ps.toList=none/\∀c' f,H c'=none->H f=none->c'≠f->Q (.ref f) (upd (upd (upd H P (.tbl (ps++(List.toArray [rawInt pos.line,rawInt pos.col,.ref c'])))) c' (As c' qual)) f (jC f qual params body scope cl c')))∨∃c',codeAmong pos ps.toList\.ref c'/\∀f,H f=none->Q (.ref f) (upd H f (jC f qual params body scope cl c')))->wO P qual params body scope pos cl H Q
def Ci(P:Addr)(qual:Str)(params:Arguments)(body:PySem.Expr)(scope:Scope)(pos:Pos)(cl:List (Str × Addr)):TE:=λ_ H Q=>wO P qual params body scope pos cl H Q
variable{X:Cx}{pos:Pos}
theorem YF{params:Arguments}{body:PySem.Expr}{scope:Scope}{cl:List (Str × Addr)}{P:Addr}(L7:defaultsOf params X.env=([],[]))(vO:closureFor scope X.env=pure cl)(xC:X.env.code=.ref c)(C:CodeHd X.base c P)(xE:X.base.BuiltinsAt X.mg P) :
  PE X (.Lambda params body scope pos) (Ci P (X.env.qual++"<lambda>") params body scope pos cl):=by
 intro pins s σ H Q I h;let#[ps,hP,ht,h]:=h;have RS:s.heap.get? P\tabObj ps:=I.az P _ hP
 have RG:H mainGlobals=none:=by
  let#[o,_,_,e,_]:=I.mod.glob;exact (I.bs _ _ e).2
 apply kla_eval L7 ?_;rcases h with⟨hn,q⟩|⟨c',hf,q⟩
 ·apply kla_makeFunction vO I.ok.glob (I.mod.glob.keeps I.bk) xC (C.keeps I.bk) RS ht hn (λz=>by rw[z,hP] at RG;cases RG) (xE.keeps I.bk) λc' ku h' tk hx LS dZ Lp Rj=>?_;have fz:s.heap.objs.size<=h'.objs.size:=iH LS (Nat.le_of_lt dZ);have nc:H c'=none:=I.az.fresh LS;have nf:H h'.objs.size=none:=I.az.fresh fz;have cf:c'≠h'.objs.size:=dR dZ;have Pc:P≠c':=bp hP nc;have Pf:P≠h'.objs.size:=bp hP nf
  have old:∀{b u},H b\u->b≠P->upd (upd (upd H P (.tbl (ps++(List.toArray [rawInt pos.line,rawInt pos.col,.ref c'])))) c' (As c' (X.env.qual++"<lambda>"))) h'.objs.size (jC h'.objs.size (X.env.qual++"<lambda>") params body scope cl c') b\u:=λ{b u} e n=>by
   rw[aw (bp e nf),aw (bp e nc),aw n];exact e
  have rB:∀{b u},H b\u->(∀ps,u≠.tbl ps)->b≠P:=λ{b u} e n z=>by
   rw[z,hP] at e;cases e;exact n _ Z
  have kp:∀b o,b≠P->s.heap.get? b\o->(h'.push (kla_obj "<lambda>" (X.env.qual++"<lambda>") params body scope cl ((X.mg "__name__").getD .none) c' ku)).get? b\o:=λb o n e=>aU _ (hx b o n e);apply#[.ref h'.objs.size,_,I.un (t':=tk) #[λb o e n _ _=>kp b o (λz=>by rw[z,hP] at n;cases n) e,λb o e n _ _=>#[o.slots,kp b o (λz=>by rw[z,hP] at n;cases n) e],λb o e n _=>?_,λb o e _=>?_,λb xs e=>old e (rB e Z2),λb o u e=>old e (rB e Z2),λb qs e=>?_] (λb u e=>?_),Z,q c' h'.objs.size nc nf cf]
  ·let lt:=bz e;rw[aw (dR (jn lt fz)),aw (dR (jn lt LS)),aw (λz=>by rw[z,hP] at n;cases n)];exact n
  ·by_cases z:b=P
   ·subst z;exact#[_,aU _ Rj]
   exact#[o,kp b o z e]
  ·by_cases z:b=P
   ·subst z;rw[hP] at e;cases e;exact#[_,by rw[aw Pf,aw Pc,ax]]
   exact#[#[],by rw[Array.append_empty];exact old e z]
  by_cases z1:b=h'.objs.size
  ·subst z1;rw[ax] at e;cases e;exact#[#[_,_,cz _ Z],#[_,cz _ Z],λh1 h2 ⟨pm,cv,e1⟩ k=>#[pm,cv,k _ e1]]
  rw[aw z1] at e;by_cases z2:b=c'
  ·subst z2;rw[ax] at e;cases e;let#[c2,oc,vs,t,ec,D5,hd,hv]:=Lp;cases ec;exact#[#[oc,vs,t,aU _ D5,hd,hv],#[_,aU _ D5],λh1 h2 ⟨o,vs,t,e1,r⟩ k=>#[o,vs,t,k _ e1,r]]
  rw[aw z2] at e;by_cases z3:b=P
  ·subst z3;rw[ax] at e;cases e;exact aU _ Rj
  rw[aw z3] at e;apply (I.az b u e).eg (λd v hd e1=>kp d v ?_ e1) (λd e1=>old e1 (rB e1 Z2)) λd xs e1=>old e1 (rB e1 Z2);rcases hd with rfl|hd
  ·exact z3
  exact rB hd Z2
 apply kla_makeFunctionHit vO I.ok.glob (I.mod.glob.keeps I.bk) xC (C.keeps I.bk) RS ht hf (xE.keeps I.bk) λku h' tk hk hsz=>?_;have nf:H h'.objs.size=none:=I.az.fresh hsz;apply#[.ref h'.objs.size,_,I.laid (t':=tk) (λb o e=>aU _ (hk b o e)) hsz ?_,Z,q _ nf];exact#[#[_,_,cz _ Z],#[_,cz _ Z],λh1 h2 ⟨pm,cv,e1⟩ k=>#[pm,cv,k _ e1]]
variable{P:Ad}{N:af}
theorem vn{K:ai}{qual:Str}{scope:Scope}{cl:List (Str × Addr)}{H:Hp}:wx bh (Bq bh P w K mg base N qual scope f cd cl A outer s H E) E:=λ_ _ _ _ _ _ _ h=>h.elim
section
variable{cs:List (Addr × Obj)}{H H':Hp}{b:Addr}{o:Obj}{u:HO}
variable{P:Ad}{w:Ag}{h:Heap}
end
section
variable{X:Cx}{pins:List (Addr × Obj)}{σ:St}{H:Hp}{s s':Ab}{cs:List (Addr × Obj)}
def j1(P:Ad)(w:Ag)(K:ai)(mg:Str->Option Aa)(base:Heap)(k:Nat)(qual:Str)(params:Arguments)(body:PySem.Expr)(scope:Scope)(ps dF:af)(sp:ag->ag->Hp->VK->XK->Prop):Prop:=
 ∀(A:Af) (outer:List Env) (s:Ab) (H:Hp) (f c':Addr) (pm ku:Aa) (cl:List (Str × Addr)) (us:aj) (vs gs:ag) (Q:VK) (E:XK),aQ k A->iA P w K mg base A outer s H->s.heap.get? f\kla_obj "<lambda>" qual params body scope cl pm c' ku->s.heap.CodeRec (.ref c') qual->
  vs.length=ps.length->gs.length=dF.length->Vals vs us->IC dF cl gs s.heap->(∀x c,cl.lookup x\c->H c=none)->sp vs gs H Q E->codeAny (model P w) A (.call (.ref f) #[us,[]]) (CR bh outer P w H s Q E) s
theorem Dm{K:ai}{qual:Str}{params:Arguments}{body:PySem.Expr}{scope:Scope}{sp:ag->ag->Hp->VK->XK->Prop}(S:IM ps dF scope)(hb:∀pm c' ku cl us,us.length=ps.length->bindArgs (kla_fn "<lambda>" qual params body scope cl pm (.ref c') ku) #[us,[]]=pure (ps.zip us))(fP:∀(A:Af) (outer:List Env) (s:Ab) (H:Hp) (f:Addr) (cd:Aa) (cl:List (Str × Addr)) (vs gs:ag) (Q:VK) (E:XK),aQ k (A.deeper (envX qual scope s.heap.objs.size f cd cl))->sp vs gs H Q E->wx bh (Bq bh P w K mg base (ps++dF) qual scope f cd cl A outer s H E) E->
   ∃t,PE (Bq bh P w K mg base (ps++dF) qual scope f cd cl A outer s H E) body t/\t (vs.map some++gs.map some) H Q):!j1 (k+1) qual params body scope ps dF sp:=by
 intro A outer s H f c' pm ku cl us vs gs Q E hr e0 hf ik hl hg r C fc kg;let#[t,ht,hq]:=fP A outer s H f (.ref c') cl vs gs Q E (hr.deeper _) kg vn;exact Z4 S hr e0 hf ik (hb pm c' ku cl us (by rw[<- r.length];exact hl)) hl hg r C fc (λ_=>ht) hq
end
structure Jq (dF:af) (cl:List (Str × Addr)) (cs:List (Addr × Obj)) (gs:ag):Prop where
 len:gs.length=dF.length
 inj:∀x y c,cl.lookup x\c->cl.lookup y\c->x=y
 has:∀x∈dF,∃c,cl.lookup x\c
 all:∀x c,cl.lookup x\c->∃o v,cs.lookup c\o/\o.data=.cell v
 is:∀(i:Nat) x v,dF[i]? = some x->gs[i]? = some v->∃c o u,cl.lookup x\c/\cs.lookup c\o/\o.data=.cell (some u)/\RelV v u
section
variable{X:Cx}{k:Nat}{x:Str}{p pos:Pos}{tn:TE}{qual:Str}{params:Arguments}{body:PySem.Expr}{scope:Scope}{dF ps:af}{A4:ag->ag->Hp->VK->XK->Prop}{E:XK}
end
section
variable{X:Cx}{k:Nat}{x:Str}{p pos:Pos}{e:PySem.Expr}{es:List PySem.Expr}{ta:TA}{dF ps:af}{sp:Sp}{f:Addr}{fd:Ae}{cl:List (Str × Addr)}{is:List Nat}
end
variable{a:Addr}{ts:au}{fd:Ae}
theorem gO_{K:ai}{mb:Str->Option Aa}{fa:Addr}{sp:Sp}{aJ:Ab}{vs:aj}{ns:List Int}(hT:∀T∈ts,K.lookup T=none)(eT:∀T∈ts,aJ.heap.get? T\tabObj #[])(Ew:∀T∈ts,isCodeTable aJ.heap T)(KX:K.In aJ.heap)(LA:aJ.heap.Ns mainGlobals mg)(hb:aJ.heap.Ns builtinsNs mb)(hbb:∀x:Str,x≠"__name__"->mb x=bootBuiltins x)(LG:aJ.heap.NoLimit)(hg:aJ.gens=#[])(ha:aJ.heap.get? a=some { cls:=.type "list",data:=.seq vs.toArray })(hi:IntsAre vs ns)(hl:ns.length<=sizeLine)(hr:aQ k callerA)(xE:∃bm ob,mg "__builtins__"\.ref bm/\bm≠builtinsNs/\aJ.heap.get? bm\ob/\ob.cls=.type "module"/\ob.dict\builtinsNs/\ob.data=.plain)(F:∀base:Heap,K.In base->base.Ns mainGlobals mg->(∀T∈ts,base.BuiltinsAt mg T)->!aq CX k fa fd [x] sp)(Ey:∀(s:Ab) (u:Aa),BindsTo s fd #[[u],[]] [(x,u)])(kg:∀H:Hp,(∀T∈ts,H T\.tbl #[])->dX K H a (ns.map V.int)->sp [.ref a] H (λv _=>v=.bl true) λ_ _ _=>False)(Mn:∀H e s',CX [] H aJ (λ_ _ _=>False) e s'->False) :
  codeAny (model P w) callerA (.call (.ref fa) #[[.ref a],[]]) (λr s'=>r=.ok (.ret (.bool true))/\OldK aJ.heap s'.heap/\s'.os=aJ.os/\AllBare s'.gens) aJ:=by
 let rv:=T1 hi;let K2:=hi.length
 have aT:∀{b},b∈ts->b≠a:=λ{b} hb z=>by
  have:=eT b hb;rw[z,ha] at this;cases this
 have core:∀H:Hp,(∀b,H b=none∨(b∈ts/\H b\.tbl #[])∨(b∉ts/\∃o xs,H b\.frz o (.lst xs)))->(∀T∈ts,H T\.tbl #[])->dX K H a (ns.map V.int)->fO P w H aJ.heap->(∀b,H b≠none->b=a∨b∈ts)->(H a≠none->K.lookup a=none)->
   codeAny (model P w) callerA (.call (.ref fa) #[[.ref a],[]]) (λr s'=>r=.ok (.ret (.bool true))/\OldK aJ.heap s'.heap/\s'.os=aJ.os/\AllBare s'.gens) aJ:=by
  intro H hO hHT hS az hA hK;have iW:∀{b:Addr} {o:Obj},aJ.heap.get? b\o->H b=none->(ij aJ.heap H).get? b\o:=λe n=>ho_ e n
  have vt:∀{b:Addr} {o:Obj} {es:Array DictEntry} {ep:Nat},aJ.heap.get? b\o->o.data=.dict es ep->H b=none:=λ{b o es ep} e d=>by
   cases q:H b with
   |none=>rfl
   |some u=>
    rcases hA b (by rw[q];simp) with e'|e'
    ·subst e';rw[ha] at e;cases e;have d':Data.seq vs.toArray _=Data.dict es ep:=d;cases d'
    rw[eT b e'] at e;cases e;cases d
  have Gq:∀{b:Addr} {m:Str->Option Aa},aJ.heap.Ns b m->(ij aJ.heap H).Ns b m:=λ{b m} ⟨o,es,ep,e,d,r⟩=>#[o,es,ep,iW e (vt e d),d,r]
  have RW:K.In (ij aJ.heap H):=λb o e=>iW (KX b o e) (by
   cases q:H b with
   |none=>rfl
   |some u=>
    rcases hA b (by rw[q];simp) with e'|e'
    ·subst e';rw[hK (by rw[q];simp)] at e;cases e
    rw[hT b e'] at e;cases e)
  have hB:∀T∈ts,(ij aJ.heap H).BuiltinsAt mg T:=λT Mg=>by
   let#[bm,ob,h1,h2,h3,h4,h5,h6]:=xE
   have n1:bm≠mainGlobals:=λz=>by
    let#[o,es,ep,e,d,_]:=LA;rw[z,e] at h3;cases h3;rw[d] at h6;cases h6
   have n2:∀{b},b∈ts->bm≠b:=λ{b} hb z=>by
    rw[z,eT b hb] at h3;cases h3;cases h6
   apply#[bm,ob,h1,h2,n1,n2 Mg,iW h3 ?_,h4,h5,h6];cases q:H bm with
   |none=>rfl
   |some u=>
    rcases hA bm (by rw[q];simp) with e'|e'
    ·subst e';rw[ha] at h3;cases h3;cases h6
    exact absurd Z (n2 e')
  have hM:Mod K mg (ij aJ.heap H):=#[RW,Gq LA,#[mb,Gq hb,hbb],let #[mc,h1,h2]:=LG;#[mc,Gq h1,h2]];have e0:iA P w K mg (ij aJ.heap H) callerA [] aJ H:=#[Z,hM,λb o e=>ZA e,Nat.le_of_eq (h3_ _ _),trivial,λb hb=>absurd (show b∈([]:au) from hb) Z2,az,.of_eq hg];apply codeAny_mono ((F _ RW (Gq LA) hB).run callerA [] aJ H #[[.ref a],[]] [.ref a] [.ref a] _ _ hr e0 (Ey aJ (.ref a)) (.cons Z .nil) (kg H hHT hS)) λr s' h=>?_;cases r with
  |error e=>exact (Mn H e s' h).elim
  |ok fl=>
   cases fl with
   |next=>exact False.elim h
   |brk=>exact False.elim h
   |cont=>exact False.elim h
   |ret u=>
    let#[v,H',os,bare,un,DZ,r',q]:=h;have q':v=.bl true:=q;subst q';obtain rfl:u=Value.bool true:=r'
    have main:∀b o,aJ.heap.get? b\o->s'.heap.get? b\o∨(b∈ts/\o=tabObj #[]/\∃more,s'.heap.get? b\tabObj (#[]++more)):=λb o e=>by
     cases q:H b with
     |none=>exact .inl (un.keep b o e q (by intro z;exact absurd (show b∈([]:au) from z) Z2) Z2)
     |some u=>
      rcases hO b with z|⟨zT,z⟩|⟨_,ob,xs,z⟩
      ·rw[q] at z;cases z
      ·rw[eT b zT] at e;cases e;let#[more,z]:=un.ia b _ z;exact .inr #[zT,Z,more,DZ b _ z]
      let z2:=un.gU b ob _ z;let#[e1,_]:=az b _ z;let#[e2,_]:=DZ b _ z2;rw[e] at e1;cases e1;exact .inl e2
    apply#[Z,#[λb o e=>?_,λb o e=>?_],os,bare]
    ·rcases main b o e with z|⟨zT,rfl,more,z⟩
     ·exact .inl z
     exact .inr (.inl #[Ew b zT,Z,_,_,Z,z])
    rcases main b o e with z|⟨_,_,more,z⟩
    ·exact#[_,z]
    exact#[_,z]
 cases hk:K.lookup a with
 |some o=>
  let e:=KX a o hk;rw[ha] at e;cases e;apply core (λb=>if b∈ts then some (.tbl #[]) else none) (λb=>?_) (λT h=>aI h) (.inr #[_,vs.toArray,_,hk,Z,Z,Z,by rw[cj,K2];exact hl,by simpa using rv]) (λb u z=>?_) (λb z=>?_) λz=>absurd (aA λq=>aT q Z) z
  ·by_cases hb:b∈ts
   ·exact .inr (.inl #[hb,aI hb])
   exact .inl (aA hb)
  ·by_cases hb:b∈ts
   ·let z':=(aI hb).symm.trans z;cases z';exact eT b hb
   let z':=(aA hb).symm.trans z;cases z'
  ·by_cases hb:b∈ts
   ·exact .inr hb
   ·exact absurd (aA hb) z
 |none=>
  have T2:∀{b:Addr},b∈ts->(λb=>if b∈ts then some (.tbl #[]) else if b=a then some (HO.frz { cls:=.type "list",data:=.seq vs.toArray } (.lst (ns.map V.int))) else none) b\.tbl #[]:=λ{b} hb=>aI hb;apply core (λb=>if b∈ts then some (.tbl #[]) else if b=a then some (.frz { cls:=.type "list",data:=.seq vs.toArray } (.lst (ns.map V.int))) else none) (λb=>?_) (λT h=>aI h) (.inl (.inr #[{ cls:=.type "list",data:=.seq vs.toArray },(aA λq=>aT q Z).trans (aI Z)])) (λb u z=>?_) (λb z=>?_) λ_=>hk
  ·by_cases lX:b∈ts
   ·exact .inr (.inl #[lX,aI lX])
   by_cases hb:b=a
   ·exact .inr (.inr #[lX,_,_,(aA lX).trans (aI hb)])
   exact .inl ((aA lX).trans (aA hb))
  ·by_cases lX:b∈ts
   ·let z':=(aI lX).symm.trans z;cases z';exact eT b lX
   by_cases hb:b=a
   ·let z':=((aA lX).trans (aI hb)).symm.trans z;cases z';subst hb;exact#[ha,by rw[ak];exact hl,vs,_,rv,ha]
   let z':=((aA lX).trans (aA hb)).symm.trans z;cases z'
  by_cases lX:b∈ts
  ·exact .inr lX
  by_cases hb:b=a
  ·exact .inl hb
  exact absurd ((aA lX).trans (aA hb)) z
variable{T:Addr}
theorem ff_{K:ai}(h:T∉K.map (·.1)):K.lookup T=none:=by
 induction K with
 |nil=>rfl
 |cons p K ih=>
  let#[b,o]:=p;simp only[eG,bU,not_or] at h;rw[pO,show (T == b)=false by simpa using h.1];exact ih h.2
variable{n:Nat}
theorem pT{l:PySem.W.OpenLaw}{q:Ad}{loose:af}{XP:(Str->Option Aa)->Heap->Prop}{d:DefRec}{K:Params->ai}{as:au}{Hu:∀P:Params,as=(K P).map (·.1)}{CX:Ag->uR}{sp:Ag->Sp}(hn:l.most\n)(xw:n<=sizeLine)(Eu:d.params.defaults=[])(hr:aQ k callerA)(Ll:(ts.all λT=>!as.contains T)=true)(F:∀(w:Ag) (mg:Str->Option Aa) (fa:Addr) (h:Heap),(K w.params).In h->h.Ns mainGlobals mg->mg d.name\.ref fa->
   ∃fd:Ae,(∀(s:Ab) (u:Aa),BindsTo s fd #[[u],[]] [(x,u)])/\(∀T∈ts,isCodeTable h T) /\
    ∀base:Heap,(K w.params).In base->base.Ns mainGlobals mg->(∀T∈ts,base.BuiltinsAt mg T)->aq l.prog w (K w.params) mg base (CX w) k fa fd [x] (sp w))(kg:∀(w:Ag) (H:Hp) (a:Addr) (ns:List Int),ns.length<=n->(∀T∈ts,H T\.tbl #[])->dX (K w.params) H a (ns.map V.int)->sp w [.ref a] H (λv _=>v=.bl true) λ_ _ _=>False)(Mn:∀(w:Ag) (H:Hp) (s:Ab) (e:Aa) (s':Ab),CX w [] H s (λ_ _ _=>False) e s'->False) :
  PySem.W.WalkO q loose XP (kmHook K as Hu ts).says l.row.toRowW d [] (λf vs=>PySem.call f vs):=by
 apply Vc.jO hn Eu λw dc aJ mg mb fa o pm cd doc a vs ns G Y ho hd ik hmg zD hints hlen hg=>?_;have KX:(K w.params).In aJ.heap:=km_in_of Y;have eT:∀T∈ts,aJ.heap.get? T\tabObj #[]:=Y.2;let#[fd,hb,Ew,hF]:=F w mg fa _ KX G.T.g hmg;apply gO_ (λT h=>ff_ ?_) eT Ew KX G.T.g G.T.b G.T.builtins G.T.nolimit hg zD hints (iH hlen xw) hr G.T.bmain hF hb (λH hO hS=>kg w H a ns hlen hO hS) λH e s'=>Mn w H aJ e s';have:=List.all_eq_true.mp Ll T h;rw[<- Hu w.params];simpa using this
open PySem.W in
def mh:List (Pos × Addr)->aj
 |[]=>[]
 |(p,c)::es=>rawInt p.line::rawInt p.col::.ref c::mh es
def jf(H:Hp)(T:Addr)(qual:Str):Prop:=∃es:List (Pos × Addr),H T\.tbl (mh es).toArray/\∀e∈es,H e.2\As e.2 qual
variable{H':Hp}
theorem jf.same{H:Hp}{qual:Str}(s:aa H H')(h:jf H T qual):jf H' T qual:=by
 let#[es,a,b]:=h;exact#[es,s _ _ a,λe he=>s _ _ (b e he)]
theorem Td:∀es:List (Pos × Addr),TriplesOk (mh es)
 |[]=>trivial
 |(p,c)::es=>by
  have:=Td es;simp[mh,TriplesOk,rawInt,this]
theorem T6:∀(es:List (Pos × Addr)) (p:Pos) (c:Addr),mh (es++[(p,c)])=mh es++[rawInt p.line,rawInt p.col,.ref c]
 |[],p,c=>rfl
 |(p',c')::es,p,c=>by
  show rawInt p'.line::rawInt p'.col::.ref c'::mh (es++[(p,c)])=_;rw[T6 es p c];rfl
theorem UJ(pos:Pos):∀es:List (Pos × Addr),codeAmong pos (mh es)=none∨∃e∈es,codeAmong pos (mh es)\.ref e.2
 |[]=>.inl Z
 |(p,c)::es=>by
  by_cases h:codeAmong pos (mh ((p,c)::es))\.ref c
  ·exact .inr #[(p,c),fX,h]
  have e:codeAmong pos (mh ((p,c)::es))=codeAmong pos (mh es):=by
   show codeAmong pos (rawInt p.line::rawInt p.col::.ref c::mh es)=_;have h:¬codeAmong pos (rawInt p.line::rawInt p.col::.ref c::mh es)=some (.ref c):=h;simp only[codeAmong,rawInt] at h ⊢;split at h
   ·exact absurd Z h
   rename_i q
   rw[aA q]
  rcases UJ pos es with q|⟨x,hx,q⟩
  ·exact .inl (e.trans q)
  exact .inr #[x,fM _ hx,e.trans q]
open yc
section
variable{X:Cx}{pins:List (Addr × Obj)}{σ:St}{H:Hp}{s:Ab}
theorem Inv.yk{t':Nat}{fp:au}{ys:ag}{its:aj}(I:Inv X pins σ H s)(k:∀b o,b∉fp->s.heap.get? b\o->h'.get? b\o)(hf:∀b∈fp,dj X pins H b)(hT:T∈fp)(hz:ys.length<=sizeLine)(r:Vals ys its)(ht:h'.get? T=some { cls:=.type "list",data:=.seq its.toArray n }):Inv X pins σ (upd H T (.lst ys)) { s with heap:=h',toks:=t' }:=by
 have fT:H T=none:=(hf T hT).1;have nf:∀b u,H b\u->b∉fp:=λb u e hb=>by rw[(hf b hb).1] at e;cases e
 have old:∀{b u},H b\u->upd H T (.lst ys) b\u:=λe=>by rw[aw (bp e fT)];exact e
 apply I.step (g':=s.gens) (d':=s.drawn) (ch:=fp) (λb hb=>?_) (λb o _ _ hc e _=>k b o hc e) (λb o _ _ hc e _=>#[o.slots,k b o hc e]) (λb o hc e n=>?_)
  (λb o hc e=>#[o,k b o hc e]) (λb ys e=>old e) (λb o u e=>old e) (λb ps e=>#[#[],by rw[Array.append_empty];exact old e]) (λm hm=>?_) (λb u e=>?_) I.bare
 ·let#[f0,f1,f2,f3,f4,f5]:=hf b hb;exact#[f3,f1,f4,f5]
 ·rw[aw (λz=>hc (by rw[z];exact hT))];exact n
 ·let#[o,es,ep,ho,r]:=hm;exact#[o,es,ep,k _ o (λhb=>(hf _ hb).2.1 Z) ho,r]
 by_cases z:b=T
 ·subst z;rw[ax] at e;cases e;exact#[hz,its,n,r,ht]
 rw[aw z] at e;apply (I.az b u e).eg (λc v hc q=>k c v ?_ q) (λ_ q=>old q) λ_ _ q=>old q;rcases hc with z|z
 ·rw[z];exact nf b u e
 exact nf c _ z
theorem dj.at{b:Addr}(f:dj X pins H b)(n:H' b=none):dj X pins H' b:=#[n,f.2]
end
variable{xs zs:ag}
section
variable{X:Cx}{pins:List (Addr × Obj)}{σ:St}{H:Hp}{s:Ab}{B:Af}
theorem YO{kf:V->aC}{p:Array Nat}(g:Good xs.length p)(up:Up (λi j=>bF ((xs.map kf).getD i []) ((xs.map kf).getD j [])) p xs.length)(ez:zs=p.toList.map λi=>xs.getD i .non):zs.Perm xs/\zs.map kf=a9 (xs.map kf):=by
 have gk:Good (xs.map kf).length p:=by rw[ak];exact g
 let asc:=MX (ks:=xs.map kf) (λi j _ _=>rfl) gk (by rw[ak];exact up)
 have perm:(p.toList.map λi=>(xs.map kf).getD i []).Perm (xs.map kf):=by
  have:=FG gk λi=>(xs.map kf).getD i [];rwa [FI] at this
 let es:=Oh perm asc;apply#[?_,?_]
 ·have:=FG (n:=xs.length) g λi=>xs.getD i .non;rw[FI] at this;rw[ez];exact this
 rw[<- es,ez,cg];apply uL λi hi=>?_;have m:i∈(List.range xs.length).toArray:=g.mem_iff.mp ⇑hi;have m:i<xs.length:=⇑m
 show kf (xs.getD i .non)=(xs.map kf).getD i [];simp[List.getD,m]
end
section
variable{X:Cx}{pins:List (Addr × Obj)}{σ:St}{H:Hp}{s:Ab}
theorem Inv.sj{cl:List (Str × Addr)}{is:List Nat}(I:Inv X pins σ H s)(lU:∀q∈cl,X.env.cells.lookup q.1\q.2)(vO:∀x∈dF,∃c,cl.lookup x\c)(Ei:∀x∈dF,X.env.scope.names.lookup x\.cell)(hN:is.map (λi=>X.N[i]?)=dF.map some)(Be:is.map (λi=>σ[i]?)=gs.map (λv=>some (some v))):gs.length=dF.length/\IC dF cl gs s.heap/\∀x c,cl.lookup x\c->H c=none:=by
 have lk:∀{x c},cl.lookup x\c->(x,c)∈cl:=λe=>pM e;apply#[?_,#[λa b c h1 h2=>I.ok.inj a b c (lU _ (lk h1)) (lU _ (lk h2)),vO,λa c h1=>I.cell a c (lU _ (lk h1)),λj a v h1 h2=>?_],λx c e=>I.d0 x c (lU _ (lk e))]
 ·let a:=d5 List.length Be;let b:=d5 List.length hN;simp only[ak] at a b;omega
 let#[c,hc]:=vO a (cQ h1);have e1:(is.map λi=>X.N[i]?)[j]? = some (some a):=by rw[hN,di,h1];rfl
 have e2:(is.map λi=>σ[i]?)[j]? = some (some (some v)):=by rw[Be,di,h2];rfl
 rw[di] at e1 e2;let#[i,hi,e1]:=BJ.mp e1;rw[hi] at e2;have e2:σ[i]? = some (some v):=cY e2;let#[m,_,hl]:=I.loc;let kd:=Ei a (cQ h1);let#[u,ru,lo]:=hl i a v e1 e2 (.inr (.inl kd));rcases lo with⟨z,_⟩|⟨_,c2,e3,o,e4,e5⟩
 ·have z:X.env.scope.names.lookup a\.local:=z;rw[kd] at z;cases z
 rw[lU _ (lk hc)] at e3;cases e3;exact#[c,u,hc,ru,o,e4,e5]
end
def Ph(K:ai)(H:Hp)(x:V)(xs:ag):Prop:=(∃l,x=.ref l/\dX K H l xs)∨∃d kvs,x=.ref d/\H d\.dK kvs/\xs=kvs.map λkv=>kV kv.1
variable{kf:V->Str}
theorem fU_(h:(zs.map λx=>bH (kf x))=a9 (xs.map λx=>bH (kf x))):zs.map kf=hU (xs.map kf):=by
 apply Te ?_;rw[OJ,cg,cg];exact h
theorem fk_{prog:Ad}{vs:aj}(r:StrsAre vs (xs.map kf))(h2:2<=vs.length):t_ prog w A (λi j=>bF ((xs.map λx=>bH (kf x)).getD i []) ((xs.map λx=>bH (kf x)).getD j [])) vs s:=by
 have:=TX (prog:=prog) (w:=w) (A:=A) (s:=s) r h2;rw[cg] at this;exact this
variable{E:Aa->Ab->Prop}{B:Af}{H0:Hp}
section
variable{X:Cx}{pins:List (Addr × Obj)}{σ:St}{H:Hp}{s:Ab}
def Ir(X:Cx)(σ:St)(B:Af)(fv:Aa)(H0:Hp)(kf:V->Str)(xs:ag):Prop:=
 ∀(pins:List (Addr × Obj)) (H:Hp) (s:Ab) (x:V) (u:Aa),Inv X pins σ H s->aa H0 H->x∈xs->RelV x u->
  wpAny (model X.prog X.w) B (call fv [u]) (EP X pins σ λv H'=>aa H H'/\v=.str (kf x)) (λ_ _=>False) s
theorem _o{fv:Aa}{kS:Addr}{e1:Nat}{all:ag}{Q:PUnit->Ab->Prop}{body:Aa->PUnit->Sem (ForInStep PUnit)}(lR:a≠kS)(jK:Ir X σ B fv H0 kf all)(hb:∀(u:Aa) (s:Ab) (Qb:ForInStep PUnit->Ab->Prop),wpAny (model X.prog X.w) B (call fv [u]) (λk s'=>wpAny (model X.prog X.w) B (Builtin.List.listUpdate (.ref kS) (·.push k)) (λ_ o8=>Qb (.yield ⟨⟩) o8) E s') (λ_ _=>False) s->wpAny (model X.prog X.w) B (body u ⟨⟩) Qb E s) :
  ∀(xs:ag) (us:aj) (ks:ag) (kvs:aj) (kk:af) (H:Hp) (s:Ab) (c:Nat),Vals xs us->(∀x∈xs,x∈all)->Inv X pins σ H s->aa H0 H->dj X pins H a->dj X pins H kS->s.heap.get? a\seqObj "list" #[] e1->s.heap.get? kS\seqObj "list" kvs.toArray c->
   Vals ks kvs->ks=kk.map V.str->kvs.length+us.length<64->
   (∀H' s' fC c',Inv X pins σ H' s'->aa H0 H'->dj X pins H' a->dj X pins H' kS->s'.heap.get? a\seqObj "list" #[] e1->s'.heap.get? kS\seqObj "list" fC.toArray c'->fC.length=kvs.length+us.length->(∃iP,Vals iP fC/\iP=(kk++xs.map kf).map V.str)->Q ⟨⟩ s')->
   wpAny (model X.prog X.w) B (forIn us PUnit.unit body) Q E s:=by
 intro xs
 induction xs with
 |nil=>
  intro us ks kvs kk H s c rv _ I sm fa fk ha hk r t _ q;cases rv;rw[uP];exact aE (q H s kvs c I sm fa fk ha hk Z2 #[ks,r,by simpa using t])
 |cons x xs ih=>
  intro us ks kvs kk H s c rv hx I sm fa fk ha hk r t hz q
  obtain⟨u,us,rfl,ru,rr⟩:∃u PF,us=u::PF/\RelV x u/\Vals xs PF:=by
   cases rv with
   |cons h t=>exact#[_,_,Z,h,t]
  rw[wD];rw[jm] at hz;apply ae (hb u s _ ?_)
  have hf:∀b∈[a,kS],dj X pins H b:=λb hb=>by
   rcases bU.mp hb with rfl|hb
   ·exact fa
   obtain rfl:b=kS:=⇑hb
   exact fk
  let I1:=I.pinned (fp:=[a,kS]) hf (λb hb=>by
   rcases bU.mp hb with rfl|hb
   ·exact#[_,ha,λv z=>by cases z]
   obtain rfl:b=kS:=⇑hb
   exact#[_,hk,λv z=>by cases z])
  apply wpAny_mono (jK _ H s x u I1 sm (hx x fX) ru) (λk s1 ⟨v,H1,J,rv,WD,ev⟩=>?_) λ_ _ z=>z
  have pa:(a,seqObj "list" #[] e1)∈wA [a,kS] s.heap:=by
   unfold wA;exact xX.mpr #[a,by simp,by rw[ha];rfl]
  have pk:(kS,seqObj "list" kvs.toArray c)∈wA [a,kS] s.heap:=by
   unfold wA;exact xX.mpr #[kS,by simp,by rw[hk];rfl]
  let#[Mf,XR,_]:=J.pin _ (mq _ (mq _ pa));let#[GX,XO,_]:=J.pin _ (mq _ (mq _ pk));have Mf:s1.heap.get? a\seqObj "list" #[] e1:=Mf;have GX:s1.heap.get? kS\seqObj "list" kvs.toArray c:=GX;let J0:=J.ee;let fa1:=fa.at (H':=H1) XR;let Sw:=fk.at (H':=H1) XO;have GF:kvs.length<64:=by omega
  apply listUpdate_at GX Z ?_ (by rw[cj,cX];omega) (iH (Nat.le_of_eq (Array.size_push ..)) (by rw[cj,cX];omega));have iC:∀b o,b∉[kS]->s1.heap.get? b\o->(s1.heap.update kS (Obj.mapSeq (·.push k))).get? b\o:=λb o hb e=>(uy _ _ (λz=>hb (by simp[z]))).trans e;have ea:kvs.toArray.push k=(kvs++[k]).toArray:=by simp
  obtain⟨c2,ko⟩:∃c2,(s1.heap.update kS (Obj.mapSeq (·.push k))).get? kS\seqObj "list" (kvs++[k]).toArray c2:=#[_,by rw[<- ea];exact get?_update_seq GX (·.push k)]
  have I2:Inv X pins σ H1 { s1 with heap:=s1.heap.update kS (Obj.mapSeq (·.push k)) }:=J0.gK (t':=s1.toks) (fp:=[kS]) iC (λb hb=>by
   obtain rfl:b=kS:=⇑hb
   exact Sw)
  subst ev;apply ih us (ks++[.str (kf x)]) (kvs++[k]) (kk++[kf x]) H1 _ c2 rr (λy hy=>hx y (fM _ hy)) I2 (sm.trans WD) fa1 Sw ?_ ko (r.append (.cons rv .nil)) ?_ (by rw[d9,jU];omega) λH' s' fC c' a1 a2 a3 a4 a5 a6 a7 a8=>?_
  ·exact iC a _ ⇑lR Mf
  ·rw[eS,<- t];rfl
  apply q H' s' fC c' a1 a2 a3 a4 a5 a6 (by rw[a7,d9,jU,jm];omega) ?_;let#[iP,b1,b2]:=a8;exact#[iP,b1,by simpa using b2]
end
section
variable{X:Cx}{pins:List (Addr × Obj)}{σ:St}{H:Hp}{s:Ab}{B:Af}
theorem fy_{P:PySem.Fin->Ab->Prop}(I:Inv X pins σ H s)(fa:dj X pins H a)(ho:s.heap.get? a\seqObj "list" us.toArray n)(r:Vals xs us)(bX:us.length<64)(jK:Ir X σ B (.ref f) H kf xs)(h:∀zs H' s',Inv X pins σ (upd H' a (.lst zs)) s'->aa H H'->H' a=none->zs.Perm xs->zs.map kf=hU (xs.map kf)->P (.done (.ret .none)) s'):wpAny (model X.prog X.w) B (ksk_tree a (.ref f) false) P E s:=by
 let lx:=r.length;obtain⟨e1,ui⟩:∃e1,(s.heap.update a (Obj.mapSeq λ_=>(#[]:Array Aa))).get? a\seqObj "list" #[] e1:=#[_,get?_update_seq ho λ_=>#[]];have iC:∀b o,b∉[a]->s.heap.get? b\o->(s.heap.update a (Obj.mapSeq λ_=>(#[]:Array Aa))).get? b\o:=λb o hb e=>(uy _ _ (λz=>hb (by simp[z]))).trans e
 have I1:Inv X pins σ H { s with heap:=s.heap.update a (Obj.mapSeq λ_=>(#[]:Array Aa)) }:=I.gK (t':=s.toks) (fp:=[a]) iC (λb hb=>by
  obtain rfl:b=a:=⇑hb
  exact fa)
 unfold ksk_tree;apply ae (listItems_at ho Z ?_);apply ae (listUpdate_at ho Z ?_ (by rw[cj,cX];omega) (gM _));apply ae (seqEpoch_at ui Z ?_);apply ae (wpAny_newTuple ?_ (by show us.length<=_;rw[cX];omega));apply ae (wpAny_newList ?_ (gM _));apply iX ?_;have I2:Inv X pins σ H { s with heap:=(s.heap.update a (Obj.mapSeq λ_=>(#[]:Array Aa))).push (seqObj "tuple" us.toArray 0) }:=I1.kept (t':=s.toks) λb u e=>aU _ e;have I3:Inv X pins σ H { s with heap:=((s.heap.update a (Obj.mapSeq λ_=>(#[]:Array Aa))).push (seqObj "tuple" us.toArray 0)).push (seqObj "list" #[] 0) }:=I2.kept (t':=s.toks) λb u e=>aU _ e;have fk:dj X pins H ((s.heap.update a (Obj.mapSeq λ_=>(#[]:Array Aa))).push (seqObj "tuple" us.toArray 0)).objs.size:=I2.jH (a_ _) (I2.az.fresh (a_ _));have jG:(((s.heap.update a (Obj.mapSeq λ_=>(#[]:Array Aa))).push (seqObj "tuple" us.toArray 0)).push (seqObj "list" #[] 0)).get? a\seqObj "list" #[] e1:=aU _ (aU _ ui);have LJ:(((s.heap.update a (Obj.mapSeq λ_=>(#[]:Array Aa))).push (seqObj "tuple" us.toArray 0)).push (seqObj "list" #[] 0)).get? ((s.heap.update a (Obj.mapSeq λ_=>(#[]:Array Aa))).push (seqObj "tuple" us.toArray 0)).objs.size\seqObj "list" #[] 0:=cz _ Z;have lR:a≠((s.heap.update a (Obj.mapSeq λ_=>(#[]:Array Aa))).push (seqObj "tuple" us.toArray 0)).objs.size:=dR (bz (aU (seqObj "tuple" us.toArray 0) ui));show wpAny (model X.prog X.w) B (ksk_rest a (.ref f) false us.toArray e1 (.ref ((s.heap.update a (Obj.mapSeq λ_=>(#[]:Array Aa))).push (seqObj "tuple" us.toArray 0)).objs.size)) P E { s with heap:=((s.heap.update a (Obj.mapSeq λ_=>(#[]:Array Aa))).push (seqObj "tuple" us.toArray 0)).push (seqObj "list" #[] 0) };generalize ((s.heap.update a (Obj.mapSeq λ_=>(#[]:Array Aa))).push (seqObj "tuple" us.toArray 0)).objs.size=kS at fk LJ lR ⊢;generalize ((s.heap.update a (Obj.mapSeq λ_=>(#[]:Array Aa))).push (seqObj "tuple" us.toArray 0)).push (seqObj "list" #[] 0)=h3 at I3 jG LJ ⊢;clear I2 I1 iC;unfold ksk_rest;apply ae (wpAny_rule ?_);rw[List.forIn_toArray];apply ae (_o (pins:=pins) (E:=E) (e1:=e1) lR jK (λu s4 Qb hq=>?_) xs us [] [] [] H _ 0 r (λx hx=>hx) I3 (aa.refl H) fa fk jG LJ .nil Z ⇑bX λH5 s5 kvs c5 I5 Wx Sz fk5 EH RD lk ⟨ks,rk,tk⟩=>?_)
 ·apply ae (wpAny_attempt (wpAny_mono hq (λk o8 hk=>?_) λ_ _ hF=>hF.elim));exact ae (wpAny_mono hk (λ_ s6 h6=>aE h6) λ_ _ z=>z)
 rw[List.nil_append] at tk;rw[List.length_nil,Nat.zero_add] at lk;apply ae (listItems_at RD Z ?_)
 have tail:∀(p:Array Nat) (st:SortSt),Good xs.length p->Up (λi j=>bF ((xs.map λx=>bH (kf x)).getD i []) ((xs.map λx=>bH (kf x)).getD j [])) p xs.length->(arrOf st).map (·.2)=(mi p us).toArray->failedOf st=none->wpAny (model X.prog X.w) B (ksk_tail a false e1 (.ref kS) st) P E s5:=λp st g up Lx LX=>by
  have gu:Good us.length p:=by rw[<- lx];exact g
  have hz:(mi p us).length=us.length:=by
   unfold mi;rw[ak,tJ];exact gu.size
  let s1:=Heap.SameBut.update s5.heap kS (Obj.mapSeq λ_=>(#[]:Array Aa));have vP:(s5.heap.update kS (Obj.mapSeq λ_=>(#[]:Array Aa))).get? a\seqObj "list" #[] e1:=(uy _ _ (bJ lR)).trans EH;unfold ksk_tail;dsimp only;rw[Lx];apply ae (listUpdate_at RD Z ?_ (by rw[cj,cX];omega) (gM _));apply ae (wpAny_letGo ?_);apply ae (seqEpoch_at vP Z ?_);simp only[pQ,if_false];apply ae (listUpdate_at vP Z ?_ (gM _) (by rw[cj,hz,cX];omega));rw[LX];simp only[bne_self_eq_false,pQ,if_false]
  have zl:(p.toList.map λi=>xs.getD i .non).length<=sizeLine:=by
   rw[ak,tJ,g.size,cX];omega
  let#[pz,ek]:=YO (kf:=λx=>bH (kf x)) (zs:=p.toList.map λi=>xs.getD i .non) g up Z;let ek:=fU_ ek;apply aE (h _ H5 _ (I5.yk (t':=s5.toks) (fp:=[a,kS]) (T:=a) (λb o hb e=>?_) (λb hb=>?_) Z2 zl (M9 r gu) (get?_update_seq vP _)) Wx Sz.1 pz ek)
  ·have n1:b≠a:=λz=>hb (by simp[z]);have n2:b≠kS:=λz=>hb (by simp[z]);exact (uy _ _ (bJ n1)).trans ((uy _ _ (bJ n2)).trans e)
  rcases bU.mp hb with rfl|hb
  ·exact Sz
  obtain rfl:b=kS:=⇑hb
  exact fk5
 unfold ksk_end;dsimp only;simp only[pQ,if_false];by_cases h2:us.toArray.size<2
 ·rw[aI h2,aI h2];apply ae (aE ?_);rw[StateT.run_pure];apply ae (aE (tail (List.range xs.length).toArray _ (Array.Perm.refl _) (λi j nI hj=>?_) ?_ Z))
  ·have e:i=j:=by
    simp only[cj] at h2;omega
   subst e;exact Nf _
  show ((kvs.toArray.zip us.toArray).map λx:Keyed=>x.2)=_;rw[show xs.length=us.length from lx,Uz];apply Array.ext' ?_;simp[List.map_snd_zip,lk]
 rw[aA h2,aA h2]
 have gT:2<=us.length:=by
  simp only[cj] at h2;omega
 let#[κ,hk,hc]:=fk_ (prog:=X.prog) (w:=X.w) (A:=B) (s:=s5) (kf:=kf) (xs:=xs) (To (tk▸rk)) Z1;apply ae (wpAny_mono (hk (λk s'=>k=κ/\s'=s5) #[Z,Z]) (λk s7 Eg=>?_) λ_ _ x=>x.elim);let#[rfl,rfl]:=Eg;have O:Ord (λi j=>bF ((xs.map λx=>bH (kf x)).getD i []) ((xs.map λx=>bH (kf x)).getD j [])):=Nb _
 apply ae (wpAny_mono (kat_run (ks:=kvs) (vs:=us) (G:=λp s'=>s'=s7/\Good us.length p/\Up (λi j=>bF ((xs.map λx=>bH (kf x)).getD i []) ((xs.map λx=>bH (kf x)).getD j [])) p us.length)
  (Q:=λfw s'=>∃p:Array Nat,arrOf fw=p.map (kas_item (kvs.toArray.zip us.toArray))/\failedOf fw=none/\s'=s7/\Good us.length p/\Up (λi j=>bF ((xs.map λx=>bH (kf x)).getD i []) ((xs.map λx=>bH (kf x)).getD j [])) p us.length)
  lk gT bX (λp fw s' _ q1 q2 q3=>#[p,q1,q2,q3]) (Ok.wp (n:=us.length) (λi j C hi hj=>hc i j C Z1 Z1) (λp q=>#[Z,q]) (SI O Z1))) ?_ λ_ _ x=>x)
 rintro⟨⟨⟩,fw⟩ s' ⟨p,Ma,hf,hs',g,u⟩;subst hs';rw[<- lx] at g u;exact tail p fw g u (kat_snds lk Ma) hf
end
section
variable{X:Cx}{pins:List (Addr × Obj)}{σ:St}{H:Hp}{s:Ab}
theorem hB_{qual:Str}{params:Arguments}{body:PySem.Expr}{scope:Scope}{p:Str}{sp:ag->ag->Hp->VK->XK->Prop}{cl:List (Str × Addr)}{is:List Nat}(F:j1 X.prog X.w X.K X.mg X.base k qual params body scope [p] dF sp)(hr:aQ k B)(hB:B.frames=X.A.frames)(hf:H0 f\jC f qual params body scope cl c')(hc:H0 c'\As c' qual)(lU:∀q∈cl,X.env.cells.lookup q.1\q.2)(vO:∀x∈dF,∃c,cl.lookup x\c)(Ei:∀x∈dF,X.env.scope.names.lookup x\.cell)(hN:is.map (λi=>X.N[i]?)=dF.map some)(Be:is.map (λi=>σ[i]?)=gs.map (λv=>some (some v)))(kg:∀H x,aa H0 H->x∈xs->sp [x] gs H (λv H'=>aa H H'/\v=.str (kf x)) (λ_ _ _=>False)):Ir X σ B (.ref f) H0 kf xs:=by
 intro pins H s x u I sm hx ru;let#[#[pm,ku,ef],_]:=I.az f _ (sm _ _ hf);let#[#[oc,Jz,t,ec,d1,d2],_]:=I.az c' _ (sm _ _ hc);let#[hg,C,fc]:=I.sj lU vO Ei hN Be;let e0:=I.Ah;apply wpAny_call (codeAny_mono (F B X.stack s H f c' pm ku cl [u] [x] gs _ _ hr #[hB.trans e0.frames,e0.mod,e0.bs,e0.tq,e0.fR,e0.vU,e0.az,e0.bare] ef #[c',oc,Jz,t,Z,ec,d1,d2] Z hg (.cons ru .nil) C fc (kg H x sm hx)) λr s' hq=>?_);cases r with
 |error e=>
  let#[a,cls,H',B,a0,dd,rfl,os,bare,un,az,fl,i,hE]:=hq
 |ok fl=>
  cases fl with
  |ret u=>exact I.after hq
  |next=>exact False.elim hq
  |brk=>exact False.elim hq
  |cont=>exact False.elim hq
theorem qk{x:Aa}{Q:VK}(I:Inv X pins σ H s)(bX:xs.length<64)(jK:Ir X σ X.A.in1.in1 (.ref f) H kf xs)(lW:∀R:aj->Ab->Prop,(∀vs s1,Inv X pins σ H s1->Vals xs vs->R vs s1)->wpAny (model X.prog X.w) X.A.in1 (collect x) R E s)(q:∀l zs H',aa H H'->H' l=none->H l=none->zs.Perm xs->zs.map kf=hU (xs.map kf)->Q (.ref l) (upd H' l (.lst zs))):wpAny (model X.prog X.w) X.A (call (.builtin "sorted") [x] [(Str.ofString "key",.ref f)]) (EP X pins σ Q) E s:=by
 apply call_function_entry_kw kind_sorted plain_sorted entry_sorted (ksk_s1 _ _) ?_;unfold Builtin.«sorted»;apply ae (m:=checkCount "sorted" 1 1 _) (aE ?_);apply ae (lW _ λvs s1 I1 r=>?_);let lv:=r.length;apply ae (wpAny_newList ?_ (by rw[cX];omega));have GR:(s1.heap.push (seqObj "list" vs.toArray 0)).get? s1.heap.objs.size\seqObj "list" vs.toArray 0:=cz _ Z;have I2:Inv X pins σ H { s1 with heap:=s1.heap.push (seqObj "list" vs.toArray 0) }:=I1.kept (t':=s1.toks) λb u e=>aU _ e;have fa:dj X pins H s1.heap.objs.size:=I1.jH (a_ _) (I1.az.fresh (a_ _));have nl:H s1.heap.objs.size=none:=I1.az.fresh (a_ _);apply ae (iX (wpAny_call_entry_kw slot_list_sort #[_,GR,Z] entry_list_sort ?body (ksk_l1 _ _)))
 case body=>
  show wpAny (model X.prog X.w) X.A.in1.in1 (Builtin.«list.sort» #[[.ref s1.heap.objs.size],[(Str.ofString "key",.ref f)]]) _ _ _;rw[ksk_t1];apply fy_ (s:={ s1 with heap:=s1.heap.push (seqObj "list" vs.toArray 0) }) I2 fa GR r Z1 jK λzs H' s' I' sm na pz ek=>?_;exact#[_,Z,aE #[_,Z,.ref _,_,I',Z,q _ zs H' sm na nl pz ek]]
end
inductive Ut (K:ai) (qual:Str) (params:Arguments) (body:PySem.Expr) (scope:Scope) (cl:List (Str × Addr)) (is:List Nat) (sp:ag->ag->Hp->VK->XK->Prop) (σ:St) (H:Hp) (Q:VK) (vs:ag) (ws:ag) (H2:Hp):Prop
 |mk:∀x f c' xs kf gs,vs=[x]->ws=[.ref f]->H2 f\jC f qual params body scope cl c'->H2 c'\As c' qual->Ph K H2 x xs->xs.length<64->is.map (λi=>σ[i]?)=gs.map (λv=>some (some v))->(∀H x,aa H2 H->x∈xs->sp [x] gs H (λv H'=>aa H H'/\v=.str (kf x)) (λ_ _ _=>False))->(∀l zs H',aa H2 H'->H' l=none->H2 l=none->zs.Perm xs->zs.map kf=hU (xs.map kf)->Q (.ref l) (upd H' l (.lst zs)))->Ut K qual params body scope cl is sp σ H Q vs ws H2
def uW(K:ai)(qual:Str)(params:Arguments)(body:PySem.Expr)(scope:Scope)(cl:List (Str × Addr))(is:List Nat)(sp:ag->ag->Hp->VK->XK->Prop)(t tk:TA):TE:=λσ H Q=>t σ H λvs H1=>tk σ H1 λws H2=>Ut K qual params body scope cl is sp σ H Q vs ws H2
variable{qual:Str}
theorem fR_{e:PySem.Expr}{t tk:TA}{p kp rM:Pos}{params:Arguments}{body:PySem.Expr}{scope:Scope}{px:Str}{sp:ag->ag->Hp->VK->XK->Prop}{cl:List (Str × Addr)}{is:List Nat}(hc:X.calm=true)(hg:Gl X "sorted")(hm:X.mg "sorted"=none)(ha:PA X [e] t)(hkw:PK X [#[some "key",.Lambda params body scope rM,kp]] tk)(F:j1 X.prog X.w X.K X.mg X.base k qual params body scope [px] dF sp)(hr:aQ (k+2) X.A)(lU:∀q∈cl,X.env.cells.lookup q.1\q.2)(vO:∀x∈dF,∃c,cl.lookup x\c)(Ei:∀x∈dF,X.env.scope.names.lookup x\.cell)(hN:is.map (λi=>X.N[i]?)=dF.map some)(he:starEach [e] X.env=[(false,eval e X.env)]:=by rfl)(zQ:(backToKw pos (keywordEach [#[some "key",.Lambda params body scope rM,kp]] X.env)).all (·.1.isSome)=true:=by rfl)(Eg:(backToKw pos (keywordEach [#[some "key",.Lambda params body scope rM,kp]] X.env)).filterMap (·.1)=[Str.ofString "key"]:=by rfl)(hkn:(backToKw pos (keywordEach [#[some "key",.Lambda params body scope rM,kp]] X.env)).any (·.1.isNone)=false:=by rfl):PE X (.Call (.Name "sorted" p) [e] [#[some "key",.Lambda params body scope rM,kp]] pos) (uW X.K qual params body scope cl is sp t tk):=by
 intro pins s σ H Q I h;apply wpAny_Call_Name_kw (wm I hg hm Jc ?_);let hA:=ha pos pins s σ H _ I h;rw[he] at hA ⊢;apply callWith_builtin_kwB (first:=[]) Z hkn (evalArgs_kwB zQ (aO hA λus s1 ⟨vs,H1,I1,r1,q1⟩=>?_));apply aO (hkw pos pins s1 σ H1 _ I1 q1) λws s2 ⟨zs,H2,I2,rz,x,f,c',xs,kf,gs,ev,ez,hf,ik,src,bX,Be,kg,q⟩=>?_;subst ev ez;let#[u,rfl,ru]:=Vals.one r1;let#[fv,rfl,rf]:=Vals.one rz;cases rf;rw[Eg];have hd:X.A.in1.handled=none:=I.ok.hd hc;apply qk I2 bX (hB_ F hr.in1.in1 Z hf ik lU vO Ei hN Be kg) (λR hR=>?_) q;rcases src with⟨l,rfl,hl⟩|⟨d,kvs,rfl,hd2,rfl⟩
 ·cases ru;exact _Y I2 hl Z1 hR
 cases ru;exact Rg hd I2 (.inl hd2) hR
structure wH (K:ai) (x qual:Str) (st:Stmt) (f c:Addr) (fd:Ae):Prop where
 ex:∃(oc:Aa) (od:Option Addr) (kV doc pm:Aa) (an:Option Addr) (ct:Aa) (ka:Array (Option Aa)),
  fd=PySem.W.fnOf x qual (jL st) (iF st) (bg st) .none kV doc pm an (.ref c) ct/\K.lookup f=some #[oc,od,.func fd,ka]/\PySem.W.codeIn K (.ref c) qual=true
 kp:PySem.W.keepIn K (.ref f)=true
theorem wH.ok{K:ai}{st:Stmt}{sp:Sp}(F:wH K x qual st f c fd)(S:bG N ps (bg st))(len:∀vs H Q E,sp vs H Q E->vs.length=ps.length)(fP:∀(A:Af) (outer:List Env) (s:Ab) (H:Hp) (vs:ag) (Q:VK) (E:XK),aQ k (A.deeper (envOfC qual (bg st) s.heap.objs.size f (.ref c)))->sp vs H Q E->
   ∃t,kE (jI bh P w K mg base N qual (bg st) f (.ref c) A outer s H E).y6 (iF st) t/\t { nx:=λ_ H'=>Q .non H',rt:=Q } (start N vs) H):!aq bh (k+1) f fd ps sp:=by
 let#[oc,od,kV,doc,pm,an,ct,ka,rfl,lk,ik]:=F.ex;apply QQ lk ik S len λA outer s H vs Q E hr kg=>?_;let#[t,h,q]:=fP A outer s H vs Q E hr kg;exact#[t,h.y6,q]
end L2
namespace Ev
open PySem L2
def NT(H G:Hp):Prop:=∀b o,H b\o->(∀vs,o≠.tbl vs)->G b\o
variable{G:Hp}
theorem NT.of{H:Hp}(s:aa H G):NT H G:=λb o e _=>s b o e
theorem NT.refl(H:Hp):NT H H:=NT.of (aa.refl H)
theorem NT.trans{H J:Hp}(s:NT H G)(t:NT G J):NT H J:=λb o e n=>t b o (s b o e n) n
variable{T:Addr}
theorem bc.nt{H:Hp}{vs:Array Aa}(b:bc T H G)(hT:H T\.tbl vs):NT H G:=λc o e n=>b c o e (λz=>by
 rw[z,hT] at e;exact n _ (cY e).symm)
theorem NT.tup{H G:Hp}(s:NT H G){a:Addr}{xs:ag}(h:H a\.tup xs):G a\.tup xs:=s _ _ h nofun
theorem NT.lst{H G:Hp}(s:NT H G){a:Addr}{xs:ag}(h:H a\.lst xs):G a\.lst xs:=s _ _ h nofun
theorem NT.dK{H G:Hp}(s:NT H G){a:Addr}{xs:List (Key × V)}(h:H a\.dK xs):G a\.dK xs:=s _ _ h nofun
variable{qual:Str}
theorem Zj{H:Hp}{q':Str}{a a':Arguments}{b b':Expr}{sc F4:Scope}{ps:Pos}{cl:List (Str × Addr)}{σ:St}{Q:VK}(h:jf H T qual)(e1:q'=qual)(e2:a'=a)(e3:b'=b)(e4:F4=sc)(q:∀f c' H1,bc T H H1->jf H1 T qual->H1 f\jC f qual a b sc cl c'->H1 c'\As c' qual->Q (.ref f) H1):Ci T q' a' b' F4 ps cl σ H Q:=by
 subst e1 e2 e3 e4;let#[es,h,vN]:=h;apply#[_,h,Td es,?_];rcases UJ ps es with e|⟨e,he,q1⟩
 ·apply .inl #[e,λc' f n1 n2 n3=>?_];have XT:T≠c':=bp h n1;have XS:T≠f:=bp h n2
  have B:bc T H (upd (upd (upd H T (.tbl ((mh es).toArray++(List.toArray [rawInt ps.line,rawInt ps.col,.ref c'])))) c' (As c' q')) f (jC f q' a' b' F4 cl c')):=λb o e n=>by
   rw[aw (bp e n2),aw (bp e n1),aw n];exact e
  apply q f c' _ B #[es++[(ps,c')],?_,λx hx=>?_] ax ?_
  ·rw[aw XS,aw XT,ax,T6];simp
  ·rcases d8.mp hx with hx|hx
   ·exact B _ _ (vN x hx) (λz=>by have:=vN x hx;rw[z,h] at this;cases this)
   rw[eU.mp hx];show upd _ f _ c'=_;rw[aw n3,ax]
  rw[aw n3,ax]
 apply .inr #[e.2,q1,λf hf=>?_];let s:=aa.new (o:=jC f q' a' b' F4 cl e.2) hf;exact q f e.2 _ (bc.of s) #[es,s _ _ h,λx hx=>s _ _ (vN x hx)] ax (s _ _ (vN e he))
theorem Z5{H:Hp}(h:jf H T qual):∃vs,H T\.tbl vs:=by
 let#[es,e,_]:=h;exact#[_,e]
def vD:Expr->Scope
 |.Lambda _ _ s _=>s
 |_=>bg f_
def K3:Expr->Expr
 |.Lambda _ b _ _=>b
 |e=>e
def K4:Expr->Arguments
 |.Lambda a _ _ _=>a
 |_=>jL f_
def Yk:Expr->Expr
 |.Call _ _ (k::_) _=>k.value
 |e=>e
def CO(l:List Stmt)(i:Nat):Stmt:=l.getD i (.Pass #[0,0,0,0])
variable{ps:aM}
theorem Zd(nd:(ps.map (·.1)).Nodup){a b:Pc}(ha:a∈ps)(hb:b∈ps)(e:a.1=b.1):a=b:=by
 let#[i,hi,rfl]:=gX ha;let#[j,hj,rfl]:=gX hb;have:i=j:=(List.getElem?_inj (l:=ps.map (·.1)) (by rw[ak];exact hi) nd).mp (by rw[di,di,aP hi,aP hj,Option.map_some,Option.map_some,e]);subst this;rfl
theorem Yj{ts:Xb}{ss qs:aM}(Q:Qs ps qs)(nd:(ps.map (·.1)).Nodup)(p:ss.Perm ps)(e:ss.map (·.1)=hU (ps.map (·.1)))(dr:∀q∈ps,j9 ts q):fj ts ss qs:=by
 have en:qs.map (·.1)=ss.map (·.1):=by rw[Q.vw,e]
 have le:qs.length=ss.length:=by rw[<- ak (as:=qs) (f:=λq:Pc=>q.1),en,ak]
 apply#[?_,λq hq=>dr q (p.mem_iff.mp hq),?_]
 ·apply List.ext_getElem (by rw[ak,le]) ?_;intro j h1 h2;rw[List.getElem_map];have hs:j<ss.length:=by omega
  let#[x,hx,ex]:=Q.mem qs[j] (kD h1);have n1:(qs.map (·.1))[j]? = some qs[j].1:=by rw[di,aP h1];rfl
  have n2:(ss.map (·.1))[j]? = some (ss[j]).1:=by rw[di,aP hs];rfl
  rw[en,n2] at n1;have n3:(ss[j]).1=qs[j].1:=cY n1;have n4:qs[j].1=x.1:=by rw[ex];rfl
  rw[ex,Zd nd hx (p.mem_iff.mp (kD hs)) (n4.symm.trans n3.symm)]
 exact (p.map (·.1)).nodup_iff.mpr nd
theorem e9_{α β:Type}{F:α->β->Prop}{zs ys:List α}(p:zs.Perm ys):∀{ps:List β},Paired F ys ps->∃ss,ss.Perm ps/\Paired F zs ss:=by
 induction p with
 |nil=>exact λ{ps} h=>#[ps,.refl _,h]
 |cons x _ ih=>
  intro ps h;cases h with
  |cons h t=>
   let#[ss,q,r]:=ih t;exact#[_,q.cons _,.cons h r]
 |swap x y l=>
  intro ps h;cases h with
  |cons h t=>
   cases t with
   |cons h2 t=>exact#[_,.swap _ _ _,.cons h2 (.cons h t)]
 |trans _ _ ZR ZQ=>
  intro ps h;let#[ss,q,r]:=ZQ h;let#[s2,q2,r2]:=ZR r;exact#[s2,q2.trans q,r2]
def KF(H:Hp):V->Str
 |.ref t=>match H t with
  |some (.tup (.str n::_))=>n
  |_=>⟨#[]⟩
 |_=>⟨#[]⟩
theorem MP{K:ai}{H:Hp}:∀{ys:ag} {ps:aM},iY K H ys ps->ys.map (KF H)=ps.map (·.1)
 |_,_,.nil=>rfl
 |_,_,.cons (b:=p) ⟨t,v,e,ht,_⟩ r=>by
  rw[eG,eG,MP (K:=K) r,e]
  have:KF H (.ref t)=p.1:=by
   show (match H t with|some (.tup (.str n::_))=>n|_=>(⟨#[]⟩:Str))=p.1;rw[ht]
  rw[this]
def MG:Stmt->List Stmt
 |.For _ _ b _ _=>b
 |_=>[]
def O5:Stmt->Expr
 |.Assign _ e _=>e
 |_=>.Constant .none 0 #[0,0,0,0]
def oN:Expr:=Yk (O5 (CO (MG (CO (iF f_) 0)) 5))
abbrev qL:Str:="law.<locals>.<lambda>"
theorem ER:∀y∈(vD oN).names,y.2=.free->y.1∈([]:af):=by decide +kernel
theorem yO:IM [sX] [] (vD oN):=#[by decide +kernel,Z,Z,Z,by decide +kernel,by decide +kernel,λx h=>ER (x,.free) (pM h) Z,by decide +kernel]
inductive mN (vs:ag) (gs:ag) (H:Hp) (Q:VK):Prop
 |mk:∀(t:Addr) (n:Str) (r:ag),vs=[.ref t]->gs=[]->H t\.tup (.str n::r)->Q (.str n) H->mN vs gs H Q
def yE:ag->ag->Hp->VK->XK->Prop:=λvs gs H Q _=>mN vs gs H Q
theorem N8{L f:Addr}{cd:Aa}:closureFor (vD oN) (PyProof.Rows.envOfC "law" (bg f_) L f cd)=pure []:=by rfl
variable{P:Ad}{w:Ag}{K:ai}{mg:Str->Option Aa}{base:Heap}
theorem _m:!j1 1 qL (K4 oN) (K3 oN) (vD oN) [sX] [] yE:=by
 apply Dm yO (λpm c' ku cl us hl=>?_) (λA outer s H f cd cl vs gs Q E hr h hp=>?_)
 ·match us,hl with
  |[_],_=>rfl
 let#[t,n,r,rfl,rfl,ht,k]:=h;apply#[_,bo cZ (pv 0) aB,?_];exact#[_,Z,t,_,0,_,Z,Z,.of ht,L2.dQ (j:=0) Z,k]
end Ev
namespace L2
open PySem PySem.Spec PyProof.Rows PySem.W yc hY Ev
inductive xc (x:V) (y:V) (H:Hp) (Q:VK):Prop
 |mk:∀(a b:Addr) (ms ns:af) (f:bq),x=.ref a->y=.ref b->H a\.dK (d7 ms f)->H b\.dK (d7 ns f)->ms.length=ns.length->(∀m∈ms,m∈ns)->Q (.bl false) H->xc x y H Q
theorem YR{X:Cx}(hu:X.A.units<cLine):dJ X (compareOp .NotEq) xc:=by
 intro pins s σ H x y v u Q I rx ry h;let#[a,b,ms,ns,f,rfl,rfl,ha,hb,le,sub,q]:=h;cases rx;cases ry;let#[za,na,va,ra,da]:=jN I.az (.inl ha);let#[zb,nb,vb,rb,db]:=jN I.az (.inl hb);let la:=ra.length;let lb:=rb.length;rw[jQ] at la lb;apply PySem.W.keq_ne na nb da db hu (r:=ms.all λn=>decide (f n=f n)) (λ_=>Sg rb ms va ra sub) ⟨.bl _,H,I,rfl,?_⟩;rw[<- la,<- lb,le];have al:(ms.all λn=>decide (f n=f n))=true:=by simp
 rw[al];simpa using q
end L2
namespace Ev
open PySem L2
section
variable{K:ai}{CG CW:Addr}
end
variable{σ:St}{k:ag->Hp->Prop}
theorem KH{H:Hp}(h:k [] H):ou σ H k:=h
theorem E9{te:TE}{t:TA}{H:Hp}(h:te σ H λx H1=>t σ H1 λxs H2=>k (x::xs) H2):jo te t σ H k:=h
theorem SH:∀{LL:List (List ao)},(∀(j:Nat) L,j+1<LL.length->LL[j]? = some L->L≠[])->LL.length<=LL.flatten.length+1
 |[],_=>by simp
 |[L],_=>by simp
 |L::L2::r,h=>by
  let ih:=SH (LL:=L2::r) λj M hj hM=>h (j+1) M ⇑hj ⇑hM;have h0:L≠[]:=h 0 L Z2 Z;have:=List.length_pos_iff.mpr h0;rw[List.flatten_cons,d9];rw[jm (a:=L)];omega
theorem R8:∀LL:List (List ao),(LL.map λL=>(L.length:Int)).sum=(LL.flatten.length:Int)
 |[]=>rfl
 |L::r=>by
  rw[eG,List.sum_cons,R8 r,List.flatten_cons,d9];omega
variable{G:Hp}{T:Addr}{xs:ag}
theorem jf.Fw{H:Hp}{l:Addr}{q:Str}(h:jf H T q)(b:bc l H G)(hl:H l\.lst xs):jf G T q:=by
 let#[es,e,c]:=h;exact#[es,b _ _ e (bK e hl nofun),λx hx=>b _ _ (c x hx) (bK (c x hx) hl nofun)]
theorem S7{K:ai}{H H':Hp}{G:Pc->Pc}(hG:∀p,(G p).2.2=none):∀{ys:ag} {ps:aM},iY K H ys (ps.map G)->(∀c xs,H c\.tup xs->H' c\.tup xs)->iY K H' ys (ps.map G)
 |_,[],.nil,_=>.nil
 |_,p::_,.cons ⟨t,v,e,ht,w⟩ r,k=>.cons #[t,v,e,k _ _ ht,by rw[hG] at w ⊢;exact w] (S7 hG r k)
structure Dr (K:ai) (H:Hp) (l lh lt lp d:Addr) (hs:Xa) (ts:Xb) (ps:aM) (f:bq):Prop where
 st:dD H l
 hh:∃yh,H lh\.lst yh/\bR K H yh (hs.map kH)
 ht:∃zs,H lt\.lst zs/\bR K H zs (ts.map kT)
 hp:∃yp,H lp\.lst yp/\iY K H yp ps
 hd:H d\.dK (d7 (ps.map (·.1)) f)
 n1:lh≠l
 n2:lt≠l
 n3:lp≠l
variable{H':Hp}{lh lp:Addr}{ps:aM}
theorem Dr.but{K:ai}{H:Hp}{l lt d:Addr}{hs:Xa}{ts:Xb}{f:bq}(h:Dr K H l lh lt lp d hs ts ps f)(b:bc l H H')(st:dD H' l):Dr K H' l lh lt lp d hs ts ps f:=by
 let#[a0,#[yh,a1,a2],#[zs,b1,b2],#[yp,c1,c2],d1,n1,n2,n3]:=h;let#[xs,e]:=a0.some;exact#[st,#[yh,b _ _ a1 n1,jT a2 b e],#[zs,b _ _ b1 n2,jT b2 b e],#[yp,b _ _ c1 n3,Paired.aV c2 λy p q=>q.but b a0],b _ _ d1 (bK d1 e nofun),n1,n2,n3]
theorem Dr.same{K:ai}{H:Hp}{l lt d:Addr}{hs:Xa}{ts:Xb}{f:bq}(h:Dr K H l lh lt lp d hs ts ps f)(s:aa H H'):Dr K H' l lh lt lp d hs ts ps f:=h.but (bc.of s) (h.st.same s)
theorem bR.nt{K:ai}{H:Hp}{ys:ag}{ks:List aC}(h:bR K H ys ks)(s:NT H G):bR K G ys ks:=Paired.aV h λy k ⟨a,z,q⟩=>#[a,z,s.tup q]
theorem bT.nt{K:ai}{H:Hp}{v:V}{o:Option (Xb)}(h:bT K H v o)(s:NT H G):bT K G v o:=by
 cases o with
 |none=>exact h
 |some ws=>
  let#[a,ys,e,ha,t]:=h;exact#[a,ys,e,s.lst ha,bR.nt t s]
theorem Dr.nt{K:ai}{H:Hp}{l lt d:Addr}{hs:Xa}{ts:Xb}{f:bq}(h:Dr K H l lh lt lp d hs ts ps f)(s:NT H H'):Dr K H' l lh lt lp d hs ts ps f:=by
 let#[a0,#[yh,a1,a2],#[zs,b1,b2],#[yp,c1,c2],d1,n1,n2,n3]:=h;apply#[?_,#[yh,s.lst a1,bR.nt a2 s],#[zs,s.lst b1,bR.nt b2 s],#[yp,s.lst c1,Paired.aV c2 λy p ⟨t,v,e,ht,w⟩=>#[t,v,e,s.tup ht,w.nt s]],s.dK d1,n1,n2,n3];rcases a0 with⟨n,e⟩|⟨n,m,c,e⟩
 ·exact .inl #[n,s.lst e]
 exact .inr #[n,m,c,s.lst e]
theorem _u{K:ai}{H:Hp}{a:Addr}(s:aa H H')(h:dX K H a xs):dX K H' a xs:=by
 rcases h with (h|⟨o,h⟩)|h
 ·exact .inl (.inl (s _ _ h))
 ·exact .inl (.inr #[o,s _ _ h])
 exact .inr h
theorem bc.same{l:Addr}{H H1 H2:Hp}(b:bc l H1 H2)(n:H l=none)(s:aa H H1):aa H H2:=λc o e=>b c o (s c o e) (bp e n)
variable{k:Nat}{ps:af}{x:Str}{sp:Sp}
section v
theorem bw.imp{A4:Sp}(c:!bw k x ps sp)(h:∀vs H Q E,A4 vs H Q E->sp vs H Q E):!bw k x ps A4:=by
 let#[f,fd,F,m]:=c.ex;exact#[f,fd,F.imp h,m]
end
inductive k8 (K:ai) (CG CW:Addr) (vs:ag) (H:Hp) (Q:VK) (E:XK):Prop
 |mk:∀(g p d lt:Addr) (hs:Xa) (ts:Xb) (qs:aM) (fp:au) (s0:ao) (ns:af) (f:bq) (l:Int × Int) (m:Nat),vs=[.ref g,.ref d,.ref lt,.int m]->Gs K CG CW H g p hs ts qs fp->Ap H d hs qs fp s0 ns f->gJ H lt l->pB l->1<=m->m<1000000->(∀v H',aa H H'->Q v H')->k8 K CG CW vs H Q E
theorem MI{K:ai}{CG CW:Addr}(vs:ag)(H:Hp)(Q:VK)(E:XK)(h:k8 K CG CW vs H Q E):FH K CG CW vs H Q E:=by
 let#[g,p,d,lt,hs,ts,qs,fp,s0,ns,f,l,m,e,a,b,c,o,m1,m2,k]:=h;exact⟨g,p,d,lt,hs,ts,qs,fp,s0,ns,f,l,m,e,a,b,c,o,m1,m2,λ_ _ _ _ _ _ s _ _ _ _ _ _ _ _=>k _ _ s,λ_ _ s _ _=>k _ _ s,λ_ _ s _ _=>k _ _ s⟩
def Pe(H H':Hp)(t:Addr)(hs:Xa)(ts:Xb)(qs:aM)(s0:ao)(l:Int × Int):Prop:=Pg H' t hs ts qs s0 l/\((∃x ys,H x=none/\H' t\.tup [.str "moves",.ref x]/\H' x\.lst ys/\ys.length<=1000000)∨H' t\.tup [.str "none"])
inductive k7 (K:ai) (CG CW:Addr) (vs:ag) (H:Hp) (Q:VK) (E:XK):Prop
 |mk:∀(g p d lt:Addr) (hs:Xa) (ts:Xb) (qs:aM) (fp:au) (s0:ao) (ns:af) (f:bq) (l:Int × Int) (m:Nat),vs=[.ref g,.ref d,.ref lt,.int m]->Gs K CG CW H g p hs ts qs fp->Ap H d hs qs fp s0 ns f->gJ H lt l->pB l->1<=m->m<1000000->(∀j z,Ds (Nx hs ts qs) s0 j z->j<1000000)->(∀t H',aa H H'->(Pe H H' t hs ts qs s0 l∨(H' t\.tup [.str "more"]/\More (Nx hs ts qs) s0 m))->Q (.ref t) H')->k7 K CG CW vs H Q E
variable{K:ai}{CG CW:Addr}
theorem MH(vs:ag)(H:Hp)(Q:VK)(E:XK)(h:k7 K CG CW vs H Q E):FH K CG CW vs H Q E:=by
 let#[g,p,d,lt,hs,ts,qs,fp,s0,ns,f,l,m,e,a,b,c,o,m1,m2,dl,k]:=h;exact⟨g,p,d,lt,hs,ts,qs,fp,s0,ns,f,l,m,e,a,b,c,o,m1,m2,λt x ys ms s H' sm nx h1 h2 h3 h4 h5 h6 h7=>k _ _ sm (.inl ⟨.inl ⟨x,ys,ms,s,h1,h2,h3,h4,h5,h6,h7⟩,.inl ⟨x,ys,nx,h1,h2,by have:=br h3;have:=dl _ _ h5;omega⟩⟩),λt H' sm h1 h2=>k _ _ sm (.inl ⟨.inr ⟨h1,h2⟩,.inr h1⟩),λt H' sm h1 h2=>k _ _ sm (.inr ⟨h1,h2⟩)⟩
abbrev lN:af:=[xM,"_law_cell",gB,jg,uB,"_law_drawn","_law_stand_here",kC,"_law_spot","_law_goods","_law_layers_here","_law_many","_law_limit_here","_law_handed","_law_parts","_law_due_here","_law_twin","_law_most","_law_told","_law_fewer"]
theorem iG:bG lN [xM] (bg f_):=bQ
structure Pu (P:Ad) (w:Ag) (K:ai) (mg:Str->Option Aa) (base:Heap) (CG CW:Addr):Prop where
 cD:!bw 1 uA vZ xU
 cH:!bw 3 "_law_hands" [gB,"_law_most"] (Uq K)
 cT:!bw 2 "_law_ties" [gB,jg] (NL K)
 cP:!bw 3 "_law_pieces" tR (Oz K)
 cS:!bw 2 "_law_stand" oj (OB K)
 cW:!mC CW 5 "Web" ["self","hands","ties"] (kY K CW)
 cG:!mC CG 7 "Goods" ["self","web","pieces"] (NR K CG CW)
 cL:!bw 2 "_law_layers" tU (Nr K)
 cM:!bw 8 "_law_limit" tT (Oi K CG CW)
 cU:!bw 3 "_law_due" tV (k9 K)
 cF:!bw 8 "fewest_moves" jX (FH K CG CW)
 cR:!bw 4 "_law_right" tQ (Od K)
def mM(K:ai)(T:Addr):Sp:=λvs H Q _=>∃(a:Addr) (ns:List Int),vs=[.ref a]/\H T\.tbl #[]/\dX K H a (ns.map V.int)/\ns.length<=63/\∀H',Q (.bl true) H'
variable{fl:Addr}{P:Ad}{w:Ag}{mg:Str->Option Aa}{base:Heap}
theorem Yy{c0:Addr}{fd:Ae}(F:wH K "law" "law" f_ fl c0 fd)(B:Bi mg)(KN:mg "sum"=none)(hC:PySem.W.CodeHd base c0 T)(xE:base.BuiltinsAt mg T)(C:Pu P w K mg base CG CW):!aq bh 10 fl fd [xM] (mM K T):=by
 apply F.ok iG (λvs H Q E h=>?_) (λA outer s H vs Q E hr h=>?_)
 ·let#[a,ns,rfl,_]:=h;rfl
 let#[ls,ns,rfl,hT,LD,h63,k]:=h;let sz:=cX;let hu:=gf hr;have Bb:aQ 3 _:=hr.mono (by decide);have cF1:!bw 8 "fewest_moves" jX (k8 K CG CW):=C.cF.imp MI;have US:!bw 8 "fewest_moves" jX (k7 K CG CW):=C.cF.imp MH;refine' #[_,av ?s1 (aF (bu iV)),?kk]
 case' s1=>refine' eW d6 Z (dI (bN YC (fN %[aB|0]) (AD MW (pv 0) AR (AN aB)))) (cy 1 iG.nd) ?b0
 case' b0=>refine' av ?q0 ?c1
 case' c1=>refine' av ?q1 ?c2
 case' c2=>refine' av ?q2 ?c3
 case' c3=>refine' av ?q3 ?c4
 case' c4=>refine' av ?q4 ?c5
 case' c5=>refine' av ?q5 ?c6
 case' c6=>refine' av ?q6 ?c7
 case' c7=>refine' av ?q7 ?c8
 case' c8=>refine' av ?q8 ?c9
 case' c9=>refine' av ?q9 ?c10
 case' c10=>refine' av ?Ks ?c11
 case' c11=>refine' av ?Kr ?c12
 case' c12=>refine' av ?Xf ?c13
 case' c13=>refine' av ?Xe ?c14
 case' c14=>refine' av ?Xd ?c15
 case' c15=>refine' av ?Xc ?c16
 case' c16=>refine' av ?W_ (aF ?W9)
 case q0=>exact bj 2 iG.nd (fN %[1|0])
 case q1=>exact bj 3 iG.nd (aZ C.cH hr %[2,aB|0])
 case q2=>exact bj 4 iG.nd (aZ C.cT hr %[2,3|0])
 case q3=>exact bj 5 iG.nd (aZ C.cP hr %[2,4,aB|0])
 case q4=>exact bj 6 iG.nd (aZ C.cS hr %[2,3,5|0])
 case q5=>exact bj 7 iG.nd (fR_ (px:=sX) (dF:=[]) (cl:=[]) (is:=[]) (k:=1) Z (by rfl) B.sorted %[5|0] (YL (YF (P:=T) (c:=c0) Z N8 Z hC xE) Yw) _m Bb (λ_ h=>by cases h) (λ_ h=>by cases h) (λ_ h=>by cases h) Z)
 case' q6=>refine' bj 8 iG.nd (i0 OT (by rfl) B.tuple uI %[iI [sX,"_law_stand_here"] 1 [6] (dI (pv 7)) (λfp s H=>?g6) (λfp s H=>ji) (λfp s H=>?e6)|0])
 case g6=>exact eN (i:=0) (show ([sX,"_law_stand_here"]:af).Nodup by decide +kernel) Z (Or.inl Z)
 case e6=>exact n5 hu (pv 1) (bo (ug (K:=K) ju cZ) (pv 0) aB)
 case q7=>exact bj 9 iG.nd (EG C.cG hr %[EG C.cW hr %[3,4|0],5|0])
 case q8=>exact bj 10 iG.nd (aZ C.cL hr %[7,4,8,aB|0])
 case' q9=>refine' bj 11 iG.nd (cJ (ge_ Z) (by rfl) KN PyProof.Rows.Boot.«sum» %[iI ["_law_layer"] 1 [] (dI (pv 10)) (λfp s H=>?g9) (λfp s H=>ji) (λfp s H=>?e9)|0])
 case g9=>exact eN (i:=0) (show (["_law_layer"]:af).Nodup by decide +kernel) Z (Or.inl Z)
 case e9=>exact cJ (xS (K:=K) IZ iy) (by rfl) B.len gC %[0|0]
 case' Ks=>refine' bj 12 iG.nd (aZ C.cM hr %[2,9,iI [sX] 1 [] (dI (pv 7)) (λfp s H=>?g10) (λfp s H=>ji) (λfp s H=>?e10),10|0])
 case g10=>exact eN (i:=0) (show ([sX]:af).Nodup by decide +kernel) Z (Or.inl Z)
 case e10=>exact bo (ug (K:=K) ju cZ) (pv 0) aB
 case Kr=>exact bj 13 iG.nd (i0 fo_ (by rfl) B.dict tw %[6|0])
 case Xf=>exact bj 14 iG.nd (fY %[3,7,4,8,12|0])
 case Xe=>exact bj 15 iG.nd (aZ C.cU hr %[3,7,10,12|0])
 case' Xd=>refine' bj 16 iG.nd (EG C.cG hr %[EG C.cW hr %[3,AD MW (pv 4) (AN aB) AR|0],iI oh 3 [] (dI (pv 5)) (λfp s H=>?g14) (λfp s H=>ji) (λfp s H=>?e14)|0])
 case g14=>exact AM (n:=3) (dC (eN (i:=0) (show (oh:af).Nodup by decide +kernel) Z (Or.inl Z)) (dC (eN (i:=1) (show (oh:af).Nodup by decide +kernel) Z (Or.inl Z)) (dC (eN (i:=2) (show (oh:af).Nodup by decide +kernel) Z (Or.inl Z)) i6)))
 case e14=>exact fY %[0,bN gH aB (bN xR (pv 1) aB),uG|0]
 case' Xc=>refine' eW d6 Z (dI (fN %[11,bN gH (pv 11) aB,11|0])) (cy 17 iG.nd) (av ?d1 (av ?d2 (av ?d3 (aF ?d4))))
 case d1=>exact ml (aZ cF1 hr %[16,13,12,aB|0])
 case d2=>exact bj 18 iG.nd (aZ US hr %[9,13,12,17|0])
 case d3=>exact b_ (oT (eV (eO (aZ C.cR hr %[18,15,14|0]))) (pK (fF (YR (Nat.lt_of_succ_lt (nZ hr 0))) (pv 13) (pv 6)))).pt (aF (bu iV)) cm
 case d4=>exact b_ (fF G7 (bo cZ (pv 18) aB) sZ) (aF (ml (pA oW wa wb uJ (bo cZ (pv 18) aB) %[uG|0]))) cm
 case W_=>exact bj 19 iG.nd (aZ US hr %[9,13,12,bN gH aB (aZ C.cD hr %[2,11|0])|0])
 case W9=>exact b_ (QU (fF (YU (nZ hr 0)) (pv 19) (fY %[sZ|0])) (R9 (eV (eO (aZ C.cR hr %[19,15,14|0]))))).pt (aF (bu iV)) cm
 have vW:jf H T qL:=#[[],hT,λe he=>by cases he];apply#[zl,λa1 n1=>?_];let#[s1,k1]:=aD (o:=.lst [.int 0]) n1;generalize upd H a1 (.lst [.int 0])=H1 at s1 k1 ⊢;apply#[_,Z,_,Z,ls,_,Z,_u s1 LD,λa2 n2=>?_];let#[s2,k2]:=aD (o:=.lst (dO (ns.map V.int) none (some 4))) n2;generalize upd H1 a2 (.lst (dO (ns.map V.int) none (some 4)))=H2 at s2 k2 ⊢;let lc:=OW (ns.map V.int) none (some 4);rw[ak] at lc;apply#[a1,a2,_,_,Z,Z,s2 _ _ k1,k2,by show 1+(dO (ns.map V.int) none (some 4)).length<=sizeLine;omega,λa3 n3=>?_];let#[s3,k3]:=aD (o:=.lst ([.int 0]++dO (ns.map V.int) none (some 4))) n3;generalize upd H2 a3 (.lst ([.int 0]++dO (ns.map V.int) none (some 4)))=H0 at s3 k3 ⊢;have Cb:jf H0 T qL:=vW.same ((s1.trans s2).trans s3)
 have allI:∀y∈[V.int 0]++dO (ns.map V.int) none (some 4),∃n,y=.int n:=λy hy=>by
  rcases d8.mp hy with hy|hy
  ·exact#[0,eU.mp hy]
  have hy:y∈ns.map V.int:=by
   unfold dO at hy;exact List.mem_of_mem_drop (List.mem_of_mem_take hy)
  let#[n,_,rfl]:=bC.mp hy;exact#[n,Z]
 let Iv:bZ:=λi σ H2=>∃(v1 v2 v3 v4 v5 v6 v7 v8 v9 va vb vc vd ve vf vg vh vi vj:aL),σ=[some (.ref ls),v1,v2,v3,v4,v5,v6,v7,v8,v9,va,vb,vc,vd,ve,vf,vg,vh,vi,vj]/\NT H0 H2/\jf H2 T qL
 apply#[a3,Z,#[_,.of k3],?_];apply hX (K:=K) (a:=a3) (xs:=[.int 0]++dO (ns.map V.int) none (some 4)) Iv ?_ ?_ ?_ ?_
 ·exact#[none,none,none,none,none,none,none,none,none,none,none,none,none,none,none,none,none,none,none,Z,NT.refl H0,Cb]
 ·rintro i σ H' _ ⟨_,_,_,_,_,_,_,_,_,_,_,_,_,_,_,_,_,_,_,_,nt,_⟩;exact .of (nt.lst k3)
 rotate_left 1
 ·rintro σ H' ⟨_,_,_,_,_,_,_,_,_,_,_,_,_,_,_,_,_,_,_,rfl,_,_⟩;exact k H'
 rintro i y σ H2 hy ⟨v1,v2,v3,v4,v5,v6,v7,v8,v9,va,vb,vc,vd,ve,vf,vg,vh,vi,vj,rfl,XC,JT⟩;let#[n,rfl]:=allI y (cQ hy);clear hy s1 k1 s2 k2 n1 n2 n3 s3 vW Cb k;apply#[_,Z,zl,λl nl=>?_];let s3:=aa.new (o:=.lst [.int n]) nl;have iB:dD (upd H2 l (.lst [.int n])) l:=.inl #[n,ax];generalize upd H2 l (.lst [.int n])=H3 at s3 iB ⊢;apply#[_,Z,l,4,Z,by decide,by decide,iB,λlh yh hs H4 b4 ib pf fV tu g nd h1 h8=>?_];let#[Vu,zI]:=iB.some;have vB:lh≠l:=(bp zI pf).symm;apply#[_,Z,_,Z,l,lh,yh,hs,Z,ib,fV,tu,λx hx=>?_,nd,by omega,vB,λlt yt ts H5 b5 g8 oP dZ tt tok B9 wW=>?_]
 ·let#[h,hh,rfl]:=bC.mp hx;exact (g h hh).1
 let#[Vt,Ed]:=ib.some;have zf:lt≠l:=(bp Ed oP).symm;have W:Good hs ts:=#[g,nd,h1,by omega,λt ht=>(tok t ht).1,B9,wW,λt ht=>(tok t ht).2];apply#[_,Z,_,Z,l,lt,3,yt,ts,Z,by decide,g8,dZ,tt,zf,wW,W.tok,B9,λlp yp ps H6 b6 iK Hd km pc dp rq p3=>?_];let#[xs5,GW]:=g8.some;have Dh:lp≠l:=(bp GW Hd).symm;let ub:=jT (jT tu b5 Ed) b6 GW;let zG:=b6 _ _ (b5 _ _ fV vB) vB;apply#[_,Z,_,Z,_,Z,l,lh,lp,yh,yp,hs,ps,Z,iK,zG,ub,vB,h1,by omega,km,pc,Dh,rq,by omega,λd f H7 b7 i7 ES hd fm=>?_];have D6:bc l H6 H7:=b7;let#[PB,zH]:=iK.some;have D7:Dr K H7 l lh lt lp d hs ts ps f:=#[i7,#[yh,b7 _ _ zG vB,jT ub b7 zH],#[yt,b7 _ _ (b6 _ _ dZ zf) zf,jT (jT tt b6 GW) b7 zH],#[yp,b7 _ _ km Dh,Paired.aV pc λy p q=>q.but b7 iK],hd,vB,zf,Dh];have P5:aa H2 H7:=(((b4.trans b5).trans b6).trans b7).same nl s3;have Ca:jf H7 T qL:=JT.same P5;clear b4 b5 b6 b7 iB ib g8 iK i7 pf oP Hd ES zI Ed GW zH tu ub fV zG dZ tt km pc hd s3 D6;apply#[_,Z,KH (E9 ?_)];apply Zj Ca Z Z Z Z λHf c' H8 b8 JS LX G5=>?_;let#[tv,hT7]:=Z5 Ca;have CQ:NT H7 H8:=b8.nt hT7;let D8:=D7.nt CQ;let#[Vp,LF,Gn]:=D8.hp;let De:=br Gn;apply#[.ref lp,Hf,c',Vp,KF H8,[],Z,Z,LX,G5,.inl #[lp,Z,.of LF],by omega,Z,λH' x sm hx=>?_,λlz zs H9 s9 Xx Xy pz ek=>?_]
 ·let#[j,hj,rfl]:=gX hx;let#[t,v,e,ht,_]:=dS Gn j hj Z1;rw[e];apply#[t,_,_,Z,Z,sm _ _ ht,aa.refl _,?_];show V.str _=V.str (match H8 t with|some (.tup (.str n::_))=>n|_=>(⟨#[]⟩:Str));rw[ht]
 let#[ss,sp,Qc]:=e9_ pz Gn
 have esn:ss.map (·.1)=hU (ps.map (·.1)):=by
  rw[<- MP Qc,<- MP Gn];exact ek
 have sA:aa H8 (upd H9 lz (.lst zs)):=s9.trans (aa.new Xx);have eA:upd H9 lz (.lst zs) lz\.lst zs:=ax;generalize upd H9 lz (.lst zs)=HA at sA eA ⊢;have Kv:iY K HA zs ss:=sY Qc sA;let DA:=D8.same sA;let JR:=JS.same sA;have XB:NT H2 HA:=((NT.of P5).trans CQ).trans (NT.of sA)
 have Dc:lz≠l:=by
  let#[xs,e]:=D8.st.some;exact (bp e Xy).symm
 have ke:(ss.map (·.1)).Nodup:=(sp.map (·.1)).nodup_iff.mpr rq;have X3:ss.length=ps.length:=sp.length_eq;let Qr:=br Kv;apply#[_,Z,lz,Z,#[_,.of eA],λD hD=>?_];apply iZ (own:=1) (fv:=[some (.ref d)]) (xs:=zs) Z e_ (λi out H'=>aa HA H'/\H' D\.lst out/\out=((ss.take i).map λp=>f p.1).map V.str) #[aa.new hD,ax,Z] (λi out H' _ ⟨sm,_,_⟩=>.of (sm _ _ eA)) (λout HB ⟨sB,G8,eo⟩=>?_) (λj y out H' hy ⟨sm,cK,eo⟩=>?_);rotate_left 1
 ·have hj:j<zs.length:=(bY.mp hy).1
  obtain⟨q,hq,t,v,rfl,ht,_⟩:∃q,ss[j]? = some q/\g7 K HA y q:=by
   have:=dS Kv j hj Z1;rw[aP hj] at hy;cases hy;exact#[ss[j]' Z1,aP Z1,this]
  have qm:q.1∈ps.map (·.1):=bC.mpr #[q,sp.mem_iff.mp (cQ hq),Z]
  have dg:eR H' d (.str q.1) (some (.str (f q.1))):=by
   have:=eR.k (k:=.inr q.1) (sm _ _ DA.hd);rw[AO (g:=λn=>V.str (f n)) qm] at this;exact this
  apply#[_,Z,Z,λNx hN=>d_ ?_];apply#[_,Z,_,Z,t,_,0,_,Z,Z,.of (sm _ _ ht),L2.dQ (j:=0) Z,d,_,Z,dg,out,cK,?_,hN _ _ #[fi sm hD,ax,?_]]
  ·rw[eo,ak,ak,dH];omega
  rw[tH _ hq,eS,eo];rfl
 rw[Qr,eI] at eo;subst eo;obtain⟨s0,vW⟩:∃s0:ao,s0=ss.map λp=>f p.1:=#[_,Z];rw[<- vW] at G8;apply#[D,_,Z,.inl #[.of G8,λt0 XD=>?_]];let#[sC,eC]:=aD (o:=.tup (sV s0)) XD;let Gb:=sB.trans sC;generalize upd HB t0 (.tup (sV s0))=HC at sC eC Gb ⊢;let DC:=DA.same Gb;let#[#[yhC,hhC,VY],#[ztC,_R,V5],#[ypC,hpC,Xn]]:=And.intro DC.hh (And.intro DC.ht DC.hp);apply#[_,Z,_,Z,?_];intro pw Nh Lq Er CU;have t1:aa HC (upd (upd HC Nh (.own pw)) pw (.ins CW Nh [])):=(aa.new Er).trans (aa.new (by rw[aw CU.symm];exact Lq));apply#[pw,Nh,lh,lt,_,_,hs,ts,Z,ax,t1 _ _ hhC,VY.same t1,t1 _ _ _R,V5.same t1,W,λdG HD QI Wb G_=>#[Z,?_]];have sD:aa HC HD:=λb o e=>QI b o (t1 _ _ e) (bp e Lq)
 have G_:∀b∈dG,HC b=none:=λb hb=>by
  rcases G_ b hb with rfl|z
  ·exact Lq
  exact t1.free z
 clear t1 QI Er CU;apply#[_,Z,?_];intro g0 Nm GY Et CY;have t1:aa HD (upd (upd HD Nm (.own g0)) g0 (.ins CG Nm [])):=(aa.new Et).trans (aa.new (by rw[aw CY.symm];exact GY))
 have R4:g0∉dG:=λm=>by
  let#[o,e]:=Wb.has m;rw[GY] at e;cases e
 apply#[g0,Nm,pw,lp,_,ps,hs,ts,dG,Z,ax,Wb.same t1,R4,W,t1 _ _ (sD _ _ hpC),sY (sY Xn sD) t1,λq hq=>(dp q hq).g,rq,by omega,λqs MF HE QH GA Qq Hc=>#[Z,?_]];have sE:aa HD HE:=λb o e=>QH b o (t1 _ _ e) (bp e GY)
 have Hc:∀b∈MF,b∈dG∨HD b=none:=λb hb=>by
  rcases Hc b hb with rfl|z|z
  ·exact .inr GY
  ·exact .inl z
  exact .inr (t1.free z)
 clear t1 QH Et CY R4;let#[fp,GA,has,sub]:=GA.wZ;have S:fj ts ss qs:=Yj Qq rq sp esn dp;let X4:=S.len
 have lfp:l∉fp:=λm=>by
  let#[xs,e]:=DC.st.some;rcases Hc l (sub l m) with z|z
  ·have:=G_ l z;rw[e] at this;cases this
  rw[sD _ _ e] at z;cases z
 have se:d∉fp:=λm=>by
  rcases Hc d (sub d m) with z|z
  ·have:=G_ d z;rw[DC.hd] at this;cases this
  rw[sD _ _ DC.hd] at z;cases z
 let Ga:=sD.trans sE;let DE:=DC.same Ga;have JQ:jf HE T qL:=JR.same (Gb.trans Ga);let Kj:=Gb.trans Ga;let H_:=Kj _ _ eA;let Tt:=Ga _ _ eC;let A7:=sY Kv Kj;have Gg:Gs K CG CW HE g0 pw hs ts qs fp:=#[GA,W,by rw[S.vw];exact ke,by omega,S.wp];have KD:qs.map (·.1)=ss.map (·.1):=S.vw
 have B4:Vs hs qs s0:=by
  apply#[by rw[vW,ak,X4],λh hh=>?_];rw[vW] at hh;let#[q,hq,rfl]:=bC.mp hh;exact (gF hs).mem_iff.mpr (fm _ (bC.mpr #[q,sp.mem_iff.mp hq,Z]))
 have XM:(aS hs).length<=4:=by rw[W.iO];omega
 have Xr:(aS hs).length ^ qs.length<=300:=by
  have a1:(aS hs).length ^ qs.length<=4 ^ qs.length:=Nat.pow_le_pow_left XM _;have a2:(4:Nat) ^ qs.length<=4 ^ 3:=Nat.pow_le_pow_right (by decide) Z1;omega
 let#[#[yhE,hhE,tuE],#[Ve,_Q,V4],#[ypE,hpE,Xk]]:=And.intro DE.hh (And.intro DE.ht DE.hp);apply#[_,Z,_,Z,_,Z,lz,lt,t0,300,zs,Ve,hs,ts,ss,qs,s0,Z,H_,A7,_Q,V4,W,S,by omega,Tt,B4,Xr,by decide,λlL yL LL HF sF XJ eL Gz frL ok ET=>?_];let ll1:=SH ok.ne;have Qy:∀L∈LL,L.length<=LL.flatten.length:=λL hL=>(List.sublist_flatten_of_mem hL).length_le;have many1:1<=LL.flatten.length:=List.length_pos_of_mem ((ok.all s0).mpr #[0,.z]);let GC:=br Gz;let DF:=DE.same sF
 have GE:lL≠l:=by
  let#[xs,e]:=DE.st.some;exact (bp e XJ).symm
 have Sr:∀b,V.ref b∈yL->b≠l:=λb hb=>by
  let#[xs,e]:=DE.st.some;exact (bp e (frL b hb)).symm
 apply#[_,Z,lL,Z,#[_,.of eL],λD2 uq=>?_];apply iZ (own:=1) (fv:=[]) (xs:=yL) Z e_ (λi out H'=>aa HF H'/\H' D2\.lst out/\out=((LL.take i).map λL=>(L.length:Int)).map V.int) #[aa.new uq,ax,Z] (λi out H' _ ⟨sm,_,_⟩=>.of (sm _ _ eL)) (λout HG ⟨sG,hDG,eo⟩=>?_) (λj y out H' hy ⟨sm,cK,eo⟩=>?_);rotate_left 1
 ·have hj:j<yL.length:=(bY.mp hy).1
  obtain⟨L,hL,a,Vg,rfl,ha,Wt⟩:∃L,LL[j]? = some L/\∃a zs,y=.ref a/\HF a\.lst zs/\iu HF zs L:=by
   have:=dS Gz j hj Z1;rw[aP hj] at hy;cases hy;exact#[LL[j]' Z1,aP Z1,this]
  let vz:=br Wt;apply#[_,Z,Z,λNx hN=>d_ ?_];apply#[_,Z,a,_,Z,.inl (.of (sm _ _ ha)),out,cK,?_,hN _ _ #[fi sm uq,ax,?_]]
  ·rw[eo,ak,ak,dH];omega
  rw[tH _ hL,eS,eo,vz];rfl
 rw[GC,eI] at eo;subst eo;apply#[D2,_,Z,.of hDG,?_];rw[R8];obtain⟨many,xI⟩:∃m,m=LL.flatten.length:=#[_,Z];rw[<- xI];rw[<- xI] at ET many1;let Cw:=sF.trans sG;apply#[_,Z,_,Z,_,Z,lz,Z,#[_,.of (Cw _ _ H_)],λD3 kq=>?_]
 have D3l:D3≠l:=by
  let#[xs,e]:=(DE.same Cw).st.some;exact (bp e kq).symm
 let Xm:=sY A7 Cw;apply iZ (own:=1) (fv:=[]) (xs:=zs) Z e_ (λi out H'=>aa HG H'/\H' D3\.lst out/\out=((ss.take i).map (·.1)).map V.str) #[aa.new kq,ax,Z] (λi out H' _ ⟨sm,_,_⟩=>.of (sm _ _ (Cw _ _ H_))) (λout HH ⟨sH,hDH,eo⟩=>?_) (λj y out H' hy ⟨sm,cK,eo⟩=>?_);rotate_left 1
 ·have hj:j<zs.length:=(bY.mp hy).1
  obtain⟨q,hq,t,v,rfl,ht,_⟩:∃q,ss[j]? = some q/\g7 K HG y q:=by
   have:=dS Xm j hj Z1;rw[aP hj] at hy;cases hy;exact#[ss[j]' Z1,aP Z1,this]
  apply#[_,Z,Z,λNx hN=>d_ ?_];apply#[_,Z,t,_,0,_,Z,Z,.of (sm _ _ ht),L2.dQ (j:=0) Z,out,cK,?_,hN _ _ #[fi sm kq,ax,?_]]
  ·rw[eo,ak,ak,dH];omega
  rw[tH _ hq,eS,eo];rfl
 rw[Qr,eI,<- KD] at eo;subst eo;let u_:=Cw.trans sH;let DH:=DE.same u_;have GgH:Gs K CG CW HH g0 pw hs ts qs fp:=#[GA.same u_,W,Gg.nd,Gg.bX,Gg.wp]
 have EB:∀b∈fp,∃o,HH b\o:=λb hb=>by
  let#[o,e]:=has b hb;exact#[o,u_ _ _ e]
 let F_:=sG.trans sH;apply#[_,Z,l,g0,D3,lL,pw,hs,ts,qs,fp,yL,LL,s0,Z,DH.st,GgH,lfp,EB,hDH,D3l,F_ _ _ eL,GE,Gz.same F_,Sr,ok,B4,by omega,λL hL=>by have:=Qy L hL;omega,λtl lim HI bI stI Su Di=>?_];let#[xsH,RB]:=DH.st.some;let DI:=DH.but bI stI;have tk:∀{c xs},HH c\.tup xs->HI c\.tup xs:=λe=>bI _ _ e (bK e RB nofun);let Qt:=bI _ _ (u_ _ _ H_) Dc;have Qg:iY K HI zs ss:=Paired.aV (sY A7 u_) λy p q=>q.but bI DH.st;let Wm:=tk (u_ _ _ Tt);let Vb:=(GA.same u_).but bI DH.st lfp
 have EA:∀b∈fp,∃o,HI b\o:=λb hb=>by
  let#[o,e]:=EB b hb;exact#[o,bI _ _ e λz=>lfp (by rw[<- z];exact hb)]
 let Yg:=bI _ _ (F_ _ _ eL) GE;have X1:gi HI yL LL:=(Gz.same F_).keep (λa m xs e=>bI _ _ e (Sr a m)) (λc xs e=>tk e);have tabI:jf HI T qL:=jf.Fw (JQ.same u_) bI RB;have XA:NT H2 HI:=λc o e no=>bI _ _ (u_ _ _ (Kj _ _ (XB _ _ e no))) (bp e nl);apply#[_,Z,d,_,Z,.inl DI.hd,λdh Qo=>?_];let#[sJ,eJ]:=aD (o:=.dK (d7 (ps.map (·.1)) f)) Qo;generalize upd HI dh (.dK (d7 (ps.map (·.1)) f))=HJ at sJ eJ ⊢;apply#[_,Z,_,Z,_,Z,_,Z,_,Z,zl,λlq XH=>?_];let#[F8,eK]:=aD (o:=.tup [.ref lh,.ref lz,.ref lt,.ref t0,.ref tl]) XH;generalize upd HJ lq (.tup [.ref lh,.ref lz,.ref lt,.ref t0,.ref tl])=HK at F8 eK ⊢;let F9:=sJ.trans F8;have U8:ya K HI lh lz lt tl hs ts ss qs lim:=#[DI.hh,#[zs,Qt,Qg],DI.ht,Su,Di,W,S,by omega];apply#[_,Z,_,Z,_,Z,_,Z,lh,lz,lt,lL,tl,yL,LL,hs,ts,ss,qs,lim,s0,Z,U8.same F9,F9 _ _ Yg,X1.same F9,ok,B4,by omega,λL hL=>by have:=Qy L hL;omega,λyi HL sL dv=>?_];let P3:=F9.trans sL;let DL:=DI.same P3;let#[#[yhL,hhL,VW],#[Jr,_P,V3],#[Pz,Rv,Qf]]:=And.intro DL.hh (And.intro DL.ht DL.hp);have W2:Good hs (ts.drop 1):=#[W.az,W.uj,W.h1,W.h8,λt ht=>W.tok t (List.mem_of_mem_drop ht),by rw[List.map_drop];exact W.B9.sublist (List.drop_sublist _ _),by rw[x6];omega,λt ht=>W.uc t (List.mem_of_mem_drop ht)];apply#[_,Z,_,Z,_,Z,lt,_,Z,.of _P,λl2 XN=>?_];rw[show (some (1:Int))=some ((1:Nat):Int) from Z,NZ];let#[sM,eM]:=aD (o:=.lst (Jr.drop 1)) XN;generalize upd HL l2 (.lst (Jr.drop 1))=HM at sM eM ⊢
 have V6:bR K HM (Jr.drop 1) ((ts.drop 1).map kT):=by
  rw[List.map_drop];exact Uy 1 (V3.same sM)
 intro A6 Am zy xB xk;have t1:aa HM (upd (upd HM Am (.own A6)) A6 (.ins CW Am [])):=(aa.new xB).trans (aa.new (by rw[aw xk.symm];exact zy));apply#[A6,Am,lh,l2,_,_,hs,ts.drop 1,Z,ax,t1 _ _ (sM _ _ hhL),(VW.same sM).same t1,t1 _ _ eM,V6.same t1,W2,λvV HN QG U5 zX=>#[Z,?_]];have sN:aa HM HN:=λb o e=>QG b o (t1 _ _ e) (bp e zy)
 have zX:∀b∈vV,HM b=none:=λb hb=>by
  rcases zX b hb with rfl|z
  ·exact zy
  exact t1.free z
 clear t1 QG xB xk;let F7:=sM.trans sN;let KR:=br Qf;apply#[_,Z,lp,Z,#[_,.of (F7 _ _ Rv)],λD4 iS=>?_];apply iZ (own:=3) (fv:=[]) (xs:=Pz) Z EM (λi out H'=>aa HN H'/\H' D4\.lst out/\iY K H' out ((ps.take i).map λp=>((p.1,1+p.2.1 % 7,none):Pc))) #[aa.new iS,ax,.nil] (λi out H' _ ⟨sm,_,_⟩=>.of (sm _ _ (F7 _ _ Rv))) (λout Jo ⟨sO,hDO,Qe⟩=>?_) (λj y out H' hy ⟨sm,cK,Qd⟩=>?_);rotate_left 1
 ·have hj:j<Pz.length:=(bY.mp hy).1
  obtain⟨q,hq,t,v,rfl,ht,_⟩:∃q,ps[j]? = some q/\g7 K HL y q:=by
   have:=dS Qf j hj Z1;rw[aP hj] at hy;cases hy;exact#[ps[j]' Z1,aP Z1,this]
  apply#[_,#[t,_,_,_,Z,.of (sm _ _ (F7 _ _ ht)),Z],Z,λNx hN=>d_ ?_];apply#[_,Z,_,Z,_,_,Z,Z,by decide,_,_,Z,Z,zl,λz hz=>?_];let#[s5,e5]:=aD (o:=.tup [.str q.1,.int (1+q.2.1 % 7),.non]) hz;generalize upd H' z (.tup [.str q.1,.int (1+q.2.1 % 7),.non])=H5 at s5 e5 ⊢;let ip:=s5 _ _ cK;let lo:=br Qd;rw[ak,dH] at lo
  have tD:∀{c xs},H5 c\.tup xs->upd H5 D4 (.lst (out++[.ref z])) c\.tup xs:=λe=>by
   rw[aw (bK e ip nofun)];exact e
  apply#[out,ip,by omega,hN _ _ #[fi (sm.trans s5) iS,ax,?_]];rw[tH _ hq];apply gY (S7 (λ_=>rfl) Qd λc xs e=>tD (s5 _ _ e)) (.cons #[z,.non,Z,tD e5,Z] .nil)
 rw[KR,eI] at Qe;let Kf:=F7.trans sO
 have Se:∀q∈ps.map λp=>((p.1,1+p.2.1 % 7,none):Pc),j8 (ts.drop 1) q:=λq hq=>by
  let#[x,hx,rfl]:=bC.mp hq;have:=(dp x hx).g;exact#[this.nm,by show (1:Int)<=1+x.2.1 % 7;omega,by show (1:Int)+x.2.1 % 7<=1000000000;omega,λws z=>by cases z]
 intro g2 Nl xy Es CV;have t1:aa Jo (upd (upd Jo Nl (.own g2)) g2 (.ins CG Nl [])):=(aa.new Es).trans (aa.new (by rw[aw CV.symm];exact xy))
 have R0:g2∉vV:=λm=>by
  let#[o,e]:=(U5.same sO).has m;rw[xy] at e;cases e
 apply#[g2,Nl,A6,D4,_,(ps.map λp=>((p.1,1+p.2.1 % 7,none):Pc)),hs,ts.drop 1,vV,Z,ax,(U5.same sO).same t1,R0,W2,t1 _ _ hDO,sY Qe t1,Se,by rw[cg];exact rq,by rw[ak];omega,λyZ fp2 HP QF Pp U7 zY=>#[Z,?_]];have sP:aa Jo HP:=λb o e=>QF b o (t1 _ _ e) (bp e xy)
 have zY:∀b∈fp2,b∈vV∨Jo b=none:=λb hb=>by
  rcases zY b hb with rfl|z|z
  ·exact .inr xy
  ·exact .inl z
  exact .inr (t1.free z)
 clear t1 QF Es CV R0 Se;let oA:=P3.trans (Kf.trans sP);let#[He,Pp,EC,J8]:=Pp.wZ;let MD:=oA _ _ Su;have Ao:HP dh\.dK (d7 (ps.map (·.1)) f):=(F8.trans (sL.trans (Kf.trans sP))) _ _ eJ;have TK:HM dh\.dK (d7 (ps.map (·.1)) f):=(F8.trans (sL.trans sM)) _ _ eJ
 have An:dh∉fp:=λm=>by
  let#[o,e]:=EA dh m;rw[Qo] at e;cases e
 have E4:dh∉He:=λm=>by
  rcases zY dh (J8 dh m) with z|z
  ·have:=zX dh z;rw[TK] at this;cases this
  rw[sO _ _ (sN _ _ TK)] at z;cases z
 have en2:(ps.map λp=>((p.1,1+p.2.1 % 7,none):Pc)).map (·.1)=ps.map (·.1):=by rw[cg];rfl
 have XF:yZ.map (·.1)=hU (ps.map (·.1)):=by rw[U7.vw,en2]
 have Ku:(yZ.map (·.1)).Perm (ps.map (·.1)):=by rw[XF];exact BD _
 have lq2:yZ.length=ps.length:=by
  have:=Ku.length_eq;rw[ak,ak] at this;exact this
 have GP:Gs K CG CW HP g0 pw hs ts qs fp:=#[Vb.same oA,W,Gg.nd,Gg.bX,Gg.wp]
 have G2P:Gs K CG CW HP g2 A6 hs (ts.drop 1) yZ He:=by
  apply#[Pp,W2,Ku.nodup_iff.mpr rq,by omega,λq hq=>?_];let#[x,hx,rfl]:=U7.mem q hq;let#[z,hz,rfl]:=bC.mp hx;exact#[by show (0:Int)<=1+z.2.1 % 7;omega,by show (1:Int)+z.2.1 % 7<=1000000000;omega]
 have Xj:(ps.map (·.1)).Perm (qs.map (·.1)):=by rw[KD];exact (sp.map (·.1)).symm
 have MM:s0=(qs.map (·.1)).map f:=by rw[vW,KD,cg];rfl
 have Jl:Ap HP dh hs qs fp s0 (ps.map (·.1)) f:=#[Ao,An,#[Xj,fm],MM];have U6:Ap HP dh hs yZ He ((yZ.map (·.1)).map f) (ps.map (·.1)) f:=#[Ao,E4,#[Ku.symm,fm],Z];let PtP:=U8.same oA;let Qw:=(sL.trans (Kf.trans sP)) _ _ eK;let PU:=oA _ _ Wm;let dP:=oA _ _ DI.hd;let stP:=DI.st.same oA;let JP:=tabI.same oA;have Xz:NT H2 HP:=XA.trans (NT.of oA);apply#[_,Z,_,Z,_,_,Z,Z,_,Z,zl,λlw XG=>?_];let#[sQ,eQ]:=aD (o:=.lst [.int many,.int ((many:Int)+7),.int many]) XG;generalize upd HP lw (.lst [.int many,.int ((many:Int)+7),.int many])=HQ at sQ eQ ⊢
 have TF:∀j z,Ds (Nx hs ts qs) s0 j z->j<1000000:=λj z dz=>by
  let#[L,hL,_]:=ok.mem dz;have:=(bY.mp hL).1;omega
 have y8:∀m:Nat,many<=m->¬More (Nx hs ts qs) s0 m:=λm hm=>ok.vp Z1
 let Iw:bZ:=λi σ H'=>∃(JE JD:aL),σ=[some (.ref ls),some (.int n),some (.ref l),some (.ref lh),some (.ref lt),some (.ref lp),some (.ref d),some (.ref lz),some (.ref t0),some (.ref g0),some (.ref lL),some (.int many),some (.ref tl),some (.ref dh),some (.ref lq),some yi,some (.ref g2),JE,JD,vj]/\aa HQ H'
 apply#[lw,Z,#[_,.of eQ],?_];apply hX (K:=K) (a:=lw) (xs:=[.int many,.int ((many:Int)+7),.int many]) Iw ?_ ?_ ?_ ?_
 ·exact#[_,_,Z,aa.refl _]
 ·rintro i σ H' _ ⟨_,_,_,sm⟩;exact .of (sm _ _ eQ)
 ·rintro i y σ HR hy ⟨JE,JD,rfl,sR⟩
  obtain⟨m,rfl,m1,m2⟩:∃m:Nat,y=.int m/\many<=m/\m<=many+7:=by
   have:=cQ hy;simp only[bU,fU,or_false] at this;rcases this with rfl|rfl|rfl
   ·exact#[many,Z,by omega,by omega]
   ·exact#[many+7,by simp,by omega,by omega]
   exact#[many,Z,by omega,by omega]
  let jt:=sQ.trans sR;apply#[_,Z,_,Z,_,Z,g2,A6,dh,tl,hs,ts.drop 1,yZ,He,_,ps.map (·.1),f,lim,70,Z,G2P.same jt,#[jt _ _ Ao,E4,U6.ok,U6.s0],jt _ _ MD,Di,by decide,by decide,λvT HS sS=>?_];let F6:=jt.trans sS;apply#[_,Z,_,Z,_,Z,_,Z,g0,pw,dh,tl,hs,ts,qs,fp,s0,ps.map (·.1),f,lim,m,Z,GP.same F6,#[F6 _ _ Ao,An,Jl.ok,Jl.s0],F6 _ _ MD,Di,by omega,by omega,TF,λt HT sT td=>?_];rcases td with⟨td,tf⟩|⟨_,mo⟩;rotate_left 1
  ·exact absurd mo (y8 m m1)
  let F5:=F6.trans sT;apply#[_,Z,_,Z,_,Z,t,lq,lh,lz,lt,t0,tl,yi,hs,ts,ss,qs,lim,s0,Z,F5 _ _ Qw,PtP.same F5,F5 _ _ PU,B4,td,dv,λHU sU=>#[_,Z,aK ?_]];let P2:=F5.trans sU;apply#[_,Z,_,Z,dh,d,ps.map (·.1),ps.map (·.1),f,Z,Z,P2 _ _ Ao,P2 _ _ dP,Z,λ_ h=>h,#[_,Z,aK ?_]];have P1:aa HQ HU:=sR.trans (sS.trans (sT.trans sU));have sHU:aa HS HU:=sT.trans sU;rcases tf with⟨x,ys,xn,h1,h2,ly⟩|h1
  ·let lY:=sU _ _ h1;let gT:=sU _ _ h2;apply#[_,Z,t,_,0,_,Z,Z,.of lY,L2.dQ (j:=0) Z,Z,_,Z,df ?_];apply#[_,Z,t,_,1,_,Z,Z,.of lY,L2.dQ (j:=1) Z,.inl #[Z,_,.of gT],x,_,_,Z,Z,gT,by omega,?_];exact#[_,_,Z,fi P1 (sR.trans sS |>.free xn)]
  let lY:=sU _ _ h1;apply#[_,Z,t,_,0,_,Z,Z,.of lY,L2.dQ (j:=0) Z,Z,_,Z,aK ?_];exact#[_,_,Z,P1]
 rintro σ HR ⟨JE,JD,rfl,sR⟩;let jt:=sQ.trans sR;let DP:=DI.same oA;let DR:=DP.same jt
 have hasR:∀b∈fp,∃o,HR b\o:=λb hb=>by
  let#[o,e]:=EA b hb;exact#[o,jt _ _ (oA _ _ e)]
 apply#[_,Z,_,Z,_,Z,_,Z,_,Z,l,many,Z,by omega,by omega,DR.st,λr HS q0 q1 bS Wq=>?_];let#[xsR,LH]:=DR.st.some;let DS:=DR.but bS Wq;have JN:∀{c xs},HR c\.tup xs->HS c\.tup xs:=λe=>bS _ _ e (bK e LH nofun);let#[j,rfl]:=tM q0;have GS:Gs K CG CW HS g0 pw hs ts qs fp:=#[(Vb.same oA).same jt |>.but bS DR.st lfp,W,Gg.nd,Gg.bX,Gg.wp];have dhS:HS dh\.dK (d7 (ps.map (·.1)) f):=bS _ _ (jt _ _ Ao) (bK (jt _ _ Ao) LH nofun);let Ss:=JN (jt _ _ MD);apply#[_,_,Z,Z,?_];apply#[g0,pw,dh,tl,hs,ts,qs,fp,s0,ps.map (·.1),f,lim,1+j,?_,GS,#[dhS,An,Jl.ok,Jl.s0],Ss,Di,by omega,by omega,TF,λt HT sT td=>?_]
 ·simp
 have X0:HS lz\.lst zs:=bS _ _ (jt _ _ (oA _ _ Qt)) Dc;have Xl:iY K HS zs ss:=Paired.aV (sY (sY Qg oA) jt) λy p q=>q.but bS DR.st;have PtS:ya K HS lh lz lt tl hs ts ss qs lim:=#[DS.hh,#[zs,X0,Xl],DS.ht,Ss,Di,W,S,by omega];let X5:=JN (jt _ _ Qw);let Wl:=JN (jt _ _ PU)
 have fin:∀HU,aa HT HU->NT H0 HU/\jf HU T qL:=λHU sU=>by
  let P0:=sT.trans sU;apply#[XC.trans λc o e no=>P0 _ _ (bS _ _ (jt _ _ (Xz _ _ e no)) (bp e nl)),(jf.Fw (JP.same jt) bS LH).same P0]
 apply#[_,Z,zl,λq hq=>?_];let sq:=aa.new (o:=.tup [.str "more"]) hq;let eq:=(ax:upd HT q (.tup [.str "more"]) q\.tup [.str "more"]);generalize upd HT q (.tup [.str "more"])=HV at sq eq ⊢;let Ke:=sT.trans sq;rcases td with⟨td,tf⟩|⟨tm,_⟩
 ·have Wa:Pg HV t hs ts qs s0 lim:=by
   rcases td with⟨x,ys,ms,sE,h1,h2,h3,h4⟩|⟨h1,h2⟩
   ·exact .inl #[x,ys,ms,sE,sq _ _ h1,sq _ _ h2,Paired.aV h3 λy m ⟨t,e,ht⟩=>#[t,e,sq _ _ ht],h4]
   exact .inr #[sq _ _ h1,h2]
  have go:∃(ds:af) (rest:ag),HV t\.tup (ds.map V.str++rest)/\(rest=[]∨(["more"]:af).length<=ds.length):=by
   rcases tf with⟨x,ys,xn,h1,h2,ly⟩|h1
   ·exact#[["moves"],[.ref x],sq _ _ h1,.inr (a_ _)]
   exact#[["none"],[],sq _ _ h1,.inl Z]
  let#[ds,rest,ht,hor]:=go;apply#[t,q,ds,["more"],rest,Z,Z,.of ht,.of eq,hor,#[_,Z,?_]];apply cu (λc=>?_) (λc=>?_)
  ·apply#[_,Z,_,Z,_,Z,t,lq,lh,lz,lt,t0,tl,yi,hs,ts,ss,qs,lim,s0,Z,Ke _ _ X5,PtS.same Ke,Ke _ _ Wl,B4,Wa,dv,λHU sU=>#[_,Z,aK ?_]];exact#[_,_,_,_,_,_,_,_,_,_,_,_,_,_,_,_,_,_,_,Z,(fin HU (sq.trans sU)).1,(fin HU (sq.trans sU)).2]
  exact#[_,_,_,_,_,_,_,_,_,_,_,_,_,_,_,_,_,_,_,Z,(fin HV sq).1,(fin HV sq).2]
 apply#[t,q,["more"],["more"],[],Z,Z,.of (sq _ _ tm),.of eq,.inl Z,#[_,Z,?_]];apply cu (λc=>?_) (λc=>?_)
 ·simp at c
 exact#[_,_,_,_,_,_,_,_,_,_,_,_,_,_,_,_,_,_,_,Z,(fin HV sq).1,(fin HV sq).2]
structure Fd (K:ai) (mg:Str->Option Aa) (x:Str) (st:Stmt):Prop where
 ex:∃f fd,bx K x x st f fd/\mg x\.ref f/\PySem.W.keepIn K (.ref f)=true
variable{f:Addr}{h:Heap}{st:Stmt}{aN ct doc oc pm:Aa}{an od:Option Addr}{ka:Array (Option Aa)}
theorem EU(X:K.In h)(G:h.Ns mainGlobals mg){kV:Aa}(a:PySem.W.nsIn K mainGlobals x\some (.ref f))(l:K.lookup f=some #[oc,od,.func (PySem.W.fnOf x x (jL st) (iF st) (bg st) .none kV doc pm an aN ct),ka])(c:PySem.W.codeIn K aN x=true)(k:PySem.W.keepIn K (.ref f)=true):Fd K mg x st:=#[_,_,Q6 l c k,PySem.W.mg_of X G a,k]
structure Md (K:ai) (C:Addr) (m qual:Str) (st:Stmt):Prop where
 ex:∃f fd,bx K m qual st f fd/\Meth K C m f
variable{C:Addr}{m qual:Str}
theorem C7{kV:Aa}(a:PySem.W.findIn K (.ref C) m\some (.ref f))(i:PySem.W.isFn K (.ref f)=true)(l:K.lookup f=some #[oc,od,.func (PySem.W.fnOf m qual (jL st) (iF st) (bg st) .none kV doc pm an aN ct),ka])(c:PySem.W.codeIn K aN qual=true)(k:PySem.W.keepIn K (.ref f)=true):Md K C m qual st:=#[_,_,Q6 l c k,a,i,k]
theorem cal(d:Fd K mg x st)(ok:∀f fd,bx K x x st f fd->!aq bh k f fd ps sp)(h:∀(kV doc pm:Aa) (an:Option Addr) (aN ct:Aa) (us:aj),us.length=ps.length->bindArgs (PySem.W.fnOf x x (jL st) (iF st) (bg st) .none kV doc pm an aN ct) #[us,[]]=pure (ps.zip us)):!bw k x ps sp:=by
 let#[f,fd,F,m,kp]:=d.ex;exact#[f,fd,ok f fd F,m,kp,F.binds h]
theorem N_(d:Md K C m qual st)(ok:∀f fd,bx K m qual st f fd->!aq bh k f fd ps sp)(h:∀(kV doc pm:Aa) (an:Option Addr) (aN ct:Aa) (us:aj),us.length=ps.length->bindArgs (PySem.W.fnOf m qual (jL st) (iF st) (bg st) .none kV doc pm an aN ct) #[us,[]]=pure (ps.zip us)):!bW C k m ps sp:=by
 let#[f,fd,F,m]:=d.ex;exact#[f,fd,ok f fd F,m,F.binds h]
theorem Oa(d:Md K C "__init__" qual st)(hx:mg x\.ref C)(mk:PySem.W.makesIn K C=true)(kc:PySem.W.keepIn K (.ref C)=true)(ok:∀f fd,bx K "__init__" qual st f fd->!aq bh k f fd ps sp)(h:∀(kV doc pm:Aa) (an:Option Addr) (aN ct:Aa) (us:aj),us.length=ps.length->bindArgs (PySem.W.fnOf "__init__" qual (jL st) (iF st) (bg st) .none kV doc pm an aN ct) #[us,[]]=pure (ps.zip us)):!mC C k x ps sp:=by
 let#[f,fd,F,m]:=d.ex;exact#[f,fd,ok f fd F,#[mk,m.1,m.2,kc],hx,F.binds h]
structure Tg (P:Ad) (w:Ag) (b:Heap):Prop where
theorem dB(q:Tg P w base)(d:Fd K mg x st)(ok:∀f fd,bx K x x st f fd->!aq bh k f fd ps sp)(h:∀(kV doc pm:Aa) (an:Option Addr) (aN ct:Aa) (us:aj),us.length=ps.length->bindArgs (PySem.W.fnOf x x (jL st) (iF st) (bg st) .none kV doc pm an aN ct) #[us,[]]=pure (ps.zip us):=by first|(exact λ_ _ _ _ _ _ us (hl:us.length=1)=>match us,hl with | [_],_=>rfl)|(exact λ_ _ _ _ _ _ us (hl:us.length=2)=>match us,hl with | [_,_],_=>rfl)|(exact λ_ _ _ _ _ _ us (hl:us.length=3)=>match us,hl with | [_,_,_],_=>rfl)|(exact λ_ _ _ _ _ _ us (hl:us.length=4)=>match us,hl with | [_,_,_,_],_=>rfl)|(exact λ_ _ _ _ _ _ us (hl:us.length=5)=>match us,hl with | [_,_,_,_,_],_=>rfl)|(exact λ_ _ _ _ _ _ us (hl:us.length=6)=>match us,hl with | [_,_,_,_,_,_],_=>rfl)):!bw k x ps sp:=cal d ok h
theorem oS(q:Tg P w base)(d:Md K C m qual st)(ok:∀f fd,bx K m qual st f fd->!aq bh k f fd ps sp)(h:∀(kV doc pm:Aa) (an:Option Addr) (aN ct:Aa) (us:aj),us.length=ps.length->bindArgs (PySem.W.fnOf m qual (jL st) (iF st) (bg st) .none kV doc pm an aN ct) #[us,[]]=pure (ps.zip us):=by first|(exact λ_ _ _ _ _ _ us (hl:us.length=1)=>match us,hl with | [_],_=>rfl)|(exact λ_ _ _ _ _ _ us (hl:us.length=2)=>match us,hl with | [_,_],_=>rfl)|(exact λ_ _ _ _ _ _ us (hl:us.length=3)=>match us,hl with | [_,_,_],_=>rfl)|(exact λ_ _ _ _ _ _ us (hl:us.length=4)=>match us,hl with | [_,_,_,_],_=>rfl)|(exact λ_ _ _ _ _ _ us (hl:us.length=5)=>match us,hl with | [_,_,_,_,_],_=>rfl)|(exact λ_ _ _ _ _ _ us (hl:us.length=6)=>match us,hl with | [_,_,_,_,_,_],_=>rfl)):!bW C k m ps sp:=N_ d ok h
theorem Oc(q:Tg P w base)(d:Md K C "__init__" qual st)(hx:mg x\.ref C)(mk:PySem.W.makesIn K C=true)(kc:PySem.W.keepIn K (.ref C)=true)(ok:∀f fd,bx K "__init__" qual st f fd->!aq bh k f fd ps sp)(h:∀(kV doc pm:Aa) (an:Option Addr) (aN ct:Aa) (us:aj),us.length=ps.length->bindArgs (PySem.W.fnOf "__init__" qual (jL st) (iF st) (bg st) .none kV doc pm an aN ct) #[us,[]]=pure (ps.zip us):=by first|(exact λ_ _ _ _ _ _ us (hl:us.length=1)=>match us,hl with | [_],_=>rfl)|(exact λ_ _ _ _ _ _ us (hl:us.length=2)=>match us,hl with | [_,_],_=>rfl)|(exact λ_ _ _ _ _ _ us (hl:us.length=3)=>match us,hl with | [_,_,_],_=>rfl)|(exact λ_ _ _ _ _ _ us (hl:us.length=4)=>match us,hl with | [_,_,_,_],_=>rfl)|(exact λ_ _ _ _ _ _ us (hl:us.length=5)=>match us,hl with | [_,_,_,_,_],_=>rfl)|(exact λ_ _ _ _ _ _ us (hl:us.length=6)=>match us,hl with | [_,_,_,_,_,_],_=>rfl)):!mC C k x ps sp:=Oa d hx mk kc ok h
variable{l:PySem.W.OpenLaw}
theorem all_mk{fa CR c:Addr}(X:K.In h)(G:h.Ns mainGlobals mg)(hfa:mg "law"\.ref fa)(f0:Fd K mg "is_whole" yU)(f1:Fd K mg "is_whole_from" NC)(f2:Fd K mg "is_whole_within" lu)(f3:Fd K mg "is_name" qI)(f4:Fd K mg "lesser_first" NA)(f5:Fd K mg "is_pair_of_names" qG)(f6:Fd K mg "sorted_ties" Nv)(f7:Fd K mg Bo Kh)(f8:Fd K mg "least_multiple" Kg)(f9:Fd K mg "fraction_of" qU)(f10:Fd K mg "is_fraction" qP)(f11:Fd K mg "is_less" qN)(f12:Fd K mg "is_hand_with_strength" qR)(f13:Fd K mg "checked_strengths" yT)(f14:Fd K mg "checked_ties" qB)(f15:Fd K mg "neighbours_of_all" qH)(f16:Fd K mg "checked_ways" lO)(f17:Fd K mg "checked_piece" NO)(f18:Fd K mg "checked_pieces" Ol)(f19:Fd K mg "checked_stand" NI)(f20:Fd K mg "loads_at" OO)(f21:Fd K mg jZ qM)(f22:Fd K mg "levels_at" NH)(f23:Fd K mg "rise_at" qD)(f24:Fd K mg "spread_at" NY)(f25:Fd K mg "spread" NM)(f26:Fd K mg "check_limit" qX)(f27:Fd K mg "exits_of" lK)(f28:Fd K mg "placed_by" qF)(f29:Fd K mg "is_even" Ny)(f30:Fd K mg "move_between" qJ)(f31:Fd K mg "moves_along" qK)(f32:Fd K mg "fewest_moves" M_)(f33:Fd K mg uA lM)(f34:Fd K mg "_law_name" lG)(f35:Fd K mg "_law_hands" NB)(f36:Fd K mg "_law_ties" lF)(f37:Fd K mg "_law_pieces" OG)(f38:Fd K mg "_law_stand" Nu)(f39:Fd K mg "_law_loads" NG)(f40:Fd K mg "_law_even" lH)(f41:Fd K mg "_law_moves" NV)(f42:Fd K mg "_law_layers" NN)(f43:Fd K mg "_law_way_right" qA)(f44:Fd K mg "_law_due" qV)(f45:Fd K mg "_law_right" NQ)(f46:Fd K mg "_law_limit" Na)(m0:Md K CW "__init__" "Web.__init__" qQ)(m1:Md K CW "has_hand" "Web.has_hand" u9)(m2:Md K CW "hands" "Web.hands" lI)(m3:Md K CW "strength" "Web.strength" Ot)(m4:Md K CW "neighbours" "Web.neighbours" lE)(m5:Md K CW "are_tied" "Web.are_tied" qC)(m6:Md K CG "__init__" "Goods.__init__" lJ)(m7:Md K CG "has_piece" "Goods.has_piece" qT)(m8:Md K CG "names" "Goods.names" Nz)(m9:Md K CG "weight" "Goods.weight" Nn)(XZ:Md K CG "may_go" "Goods.may_go" qS)(XY:Md K CR "__init__" "Reach.__init__" lD)(XX:Md K CR "one_move_on" "Reach.one_move_on" lC)(XW:Md K CR "widen" "Reach.widen" M8)(XU:Md K CR "row_to" "Reach.row_to" qE){Xw QO TQ P8 Ux:Aa}{Xv O6:Option Addr}{Wy:Array (Option Aa)}{t8 t9 Wj Wi:Tok}(al:W.nsIn K mainGlobals "law"\some (.ref fl))(ll:K.lookup fl=some #[Xw,Xv,.func (W.fnOf "law" "law" (jL f_) (iF f_) (bg f_) .none QO TQ P8 O6 (.ref c) Ux),Wy])(cl:W.codeIn K (.ref c) "law"=true)(kl:W.keepIn K (.ref fl)=true)(ch:W.codeHdIn K c T=true)(aW:W.nsIn K mainGlobals "Web"\some (.ref CW))(aG:W.nsIn K mainGlobals "Goods"\some (.ref CG))(aR:W.nsIn K mainGlobals "Reach"\some (.ref CR))(c8_:W.nsIn K mainGlobals "MOST_LETTERS"\some (.int 8 t8))(c9_:W.nsIn K mainGlobals "MOST_HANDS"\some (.int 8 t9))(ON:W.nsIn K mainGlobals "MOST_STRENGTH"\some (.int 1000 Wj))(OM:W.nsIn K mainGlobals "MOST_WEIGHT"\some (.int 1000000000 Wi))(VD:W.plainGet K CW Str.empty=true)(VM:W.hasDictIn K CW=true)(VC:W.plainOver K CW=true)(VB:W.findIn K (.ref CW) "__setattr__"\some (.builtin "object.__setattr__"))(VJ:W.makesIn K CW=true)(VL:W.keepIn K (.ref CW)=true)(VI:W.findIn K (.ref CW) uz\none)(VH:W.findIn K (.ref CW) "sorted_pairs"\none)(VG:W.findIn K (.ref CW) Bn\none)(gpg:W.plainGet K CG Str.empty=true)(ghd:W.hasDictIn K CG=true)(gpo:W.plainOver K CG=true)(gsa:W.findIn K (.ref CG) "__setattr__"\some (.builtin "object.__setattr__"))(gmk:W.makesIn K CG=true)(gkc:W.keepIn K (.ref CG)=true)(gn0:W.findIn K (.ref CG) "web"\none)(gn1:W.findIn K (.ref CG) pC\none)(gn2:W.findIn K (.ref CG) Al\none)(WK:W.plainGet K CR Str.empty=true)(WR:W.hasDictIn K CR=true)(WJ:W.plainOver K CR=true)(WI:W.findIn K (.ref CR) "__setattr__"\some (.builtin "object.__setattr__"))(WO:W.makesIn K CR=true)(WQ:W.keepIn K (.ref CR)=true)(WN:W.findIn K (.ref CR) jM\none)(WM:W.findIn K (.ref CR) pH\none)(WL:W.findIn K (.ref CR) "newest"\none)(ZP:W.findIn K (.ref CW) "__class__"\some (.builtin "object.__class__"))(ZO:W.specialIn K (.builtin "object.__class__") "__get__"\some (.builtin "getset_descriptor.__get__"))(ZL:W.takesIn K (.builtin "object.__class__")\true)(ZN:W.mroIn K CW (.type "object")\true)(BY:W.nsIn K mainGlobals "sum"\none)(B0:W.nsIn K mainGlobals "abs"\none)(BZ:W.nsIn K mainGlobals "min"\none)(BX:W.nsIn K mainGlobals "zip"\none)(z0:W.nsIn K mainGlobals "isinstance"\none)(z1:W.nsIn K mainGlobals "int"\none)(z2:W.nsIn K mainGlobals "bool"\none)(z3:W.nsIn K mainGlobals "str"\none)(z4:W.nsIn K mainGlobals "tuple"\none)(z5:W.nsIn K mainGlobals "list"\none)(z6:W.nsIn K mainGlobals "dict"\none)(z7:W.nsIn K mainGlobals "len"\none)(z8:W.nsIn K mainGlobals "all"\none)(z9:W.nsIn K mainGlobals "sorted"\none)(Vm:W.nsIn K mainGlobals "max"\none)(Vl:W.nsIn K mainGlobals "range"\none)(Vk:W.nsIn K mainGlobals "any"\none)(Vj:W.nsIn K mainGlobals "enumerate"\none) :
  ∃fd:Ae,(∀(s:Ab) (v:Aa),BindsTo s fd #[[v],[]] [(xM,v)])/\(∀T'∈[T],isCodeTable h T')/\∀base:Heap,K.In base->base.Ns mainGlobals mg->(∀T'∈[T],base.BuiltinsAt mg T')->aq l.prog w K mg base bh 10 fa fd [xM] (mM K T):=by
 let e:=hfa.symm.trans (W.mg_of X G al);cases e;have B:Bi mg:=#[je X G z0,je X G z1,je X G z2,je X G z3,je X G z4,je X G z5,je X G z6,je X G z7,je X G z8,je X G z9,je X G Vm,je X G Vl,je X G Vk,je X G Vj];have TW:Txt K mg CW:=#[#[VD,VM,VC,VB],VI,VH,VG];have TG:gh K CG:=#[#[gpg,ghd,gpo,gsa],gn0,gn1,gn2];have TR:oY K CR:=#[#[WK,WR,WJ,WI],WN,WM,WL];have IW:FQ K CW:=#[ZP,ZO,ZL,ZN];let C0:=je X G BY;let C3:=je X G B0;let C1:=je X G BZ;let xm:=je X G BX;have FL:wH K "law" "law" f_ _ c _:=#[#[_,_,_,_,_,_,_,_,Z,ll,cl],kl];apply#[W.fnOf "law" "law" (jL f_) (iF f_) (bg f_) .none QO TQ P8 O6 (.ref c) Ux,λs v=>.of_eq Z,λT' zS=>?_,λbase KB _ xE=>?_]
 ·obtain rfl:T'=T:=⇑zS
  let#[o,Jz,file,tf,flags,tg,inF,text,tt,h1,h2,h3,h4,_]:=W.codeHd_of_K X ch;exact#[c,o,Jz,h1,h2,h3,h4]
 have q:Tg l.prog w base:=⟨⟩;let Az:=dB q f0 λ_ _ F=>YG F B;let sr:=dB q f2 λ_ _ F=>_D F Az;let Fc:=dB q f1 λ_ _ F=>gk_ F Az;let sI:=dB q f3 λ_ _ F=>ZG F B (W.mg_of X G c8_);let Ay:=dB q f4 λ_ _ F=>gR_ F;let Fh:=dB q f5 λ_ _ F=>_b F B sI;let xT:=dB q f6 λ_ _ F=>gT_ F B Fh Ay;let Fn:=dB q f12 λ_ _ F=>ZD F B sI sr (W.mg_of X G ON);let cStr:=dB q f13 λ_ _ F=>YJ F B Fn (W.mg_of X G c9_);let Fe:=dB q f14 λ_ _ F=>Y8 F B xT;let Fi:=dB q f15 λ_ _ F=>ZJ F Ay;let Og:=Oc q m0 (W.mg_of X G aW) VJ VL λ_ _ F=>Y5 F TW B cStr Fe Fi;let zc:=oS (mg:=mg) q m1 λ_ _ F=>Zl F TW B;let C9:=oS (mg:=mg) q m1 λ_ _ F=>Zv F TW B;let lP:=oS (mg:=mg) q m2 λ_ _ F=>hL_ F TW B;let C8:=oS (mg:=mg) q m3 λ_ _ F=>eg_ F TW zc;let KO:=oS (mg:=mg) q m4 λ_ _ F=>ZT F TW B zc;let xo:=oS (mg:=mg) q m5 λ_ _ F=>ZV F TW C9;let Ox:=dB q f16 λ_ _ F=>ZU F TW xT xo;let cCP:=dB q f17 λ_ _ F=>go_ F B sI sr Ox (W.mg_of X G OM);let Oy:=dB q f18 λ_ _ F=>fx_ F B cCP;let AA:=Oc q m6 (W.mg_of X G aG) gmk gkc λ_ _ F=>ZW F TG TW IW B (W.mg_of X G aW) Oy;let zV:=oS (mg:=mg) q m7 λ_ _ F=>Z8 (CW:=CW) F TG B;let iT:=oS (mg:=mg) q m8 λ_ _ F=>gF_ (CW:=CW) F TG B;let vS:=oS (mg:=mg) q m9 λ_ _ F=>fn_ (CP:=CW) F TG zV;let Mz:=oS (mg:=mg) q XZ λ_ _ F=>_e (CP:=CW) F TG TW zV xo Ay;let Os:=dB q f7 λ_ _ F=>Ym F;let cLM:=dB q f8 λ_ _ F=>Yq F Os;let cFr:=dB q f9 λ_ _ F=>Zu F Os;let cIF:=dB q f10 λ_ _ F=>_k F B C3 Az Fc Os;let Fj:=dB q f11 λ_ _ F=>YZ F;let UV:=dB q f19 λ_ _ F=>gz_ F B TG TW zV zc iT;let cLA:=dB q f20 λ_ _ F=>fq_ F B TG TW lP vS;let UI:=dB q f21 λ_ _ F=>Z_ F TW cLM lP C8;let cLv:=dB q f22 λ_ _ F=>gM_ F TG TW cLA UI C8;let Fg:=dB q f23 λ_ _ F=>ZC F B C1 cLv;let Ff:=dB q f24 λ_ _ F=>ej_ F TG Fg UI cFr;let Om:=dB q f25 λ_ _ F=>g0_ F UV Ff;let cCL:=dB q f26 λ_ _ F=>ZE F cIF;let cEx:=dB q f27 λ_ _ F=>hP_ F TG TW iT lP KO Mz;let cPB:=dB q f28 λ_ _ F=>ZI F B xm TG iT;let cIE:=dB q f29 λ_ _ F=>gX_ F Fj Ff cPB;let cRe:=Oc q XY (W.mg_of X G aR) WO WQ λ_ _ F=>_W F TR B cEx;let WU:=oS (mg:=mg) q XX λ_ _ F=>hO_ F TR B;let WS:=oS (mg:=mg) q XW λ_ _ F=>gL_ F TR B WU;let Kp:=oS (mg:=mg) q XU λ_ _ F=>_j F TR;let cMB:=dB q f30 λ_ _ F=>_i F xm TG iT;let cMA:=dB q f31 λ_ _ F=>_n F B cMB;let Ou:=dB q f32 λ_ _ F=>h1_ F B TR cCL UV Fc cRe cIE cMA Kp WS;let l7:=dB q f33 λ_ _ F=>hU_ F B;let UL:=dB q f34 λ_ _ F=>_H F B l7;let cLH:=dB q f35 λ_ _ F=>g3_ F B l7 UL;let cLT:=dB q f36 λ_ _ F=>_z F B l7;let cLP:=dB q f37 λ_ _ F=>fh_ F B l7 UL;let cLS:=dB q f38 λ_ _ F=>gD_ F B l7;let cLL:=dB q f39 λ_ _ F=>g4_ F B;let UM:=dB q f40 λ_ _ F=>ZX F cLL;let Fk:=dB q f41 λ_ _ F=>gr_ F B;let Oq:=dB q f42 λ_ _ F=>fZ_ F B Fk;let cWR:=dB q f43 λ_ _ F=>Y3 F B Fk UM;let Ov:=dB q f44 λ_ _ F=>ZZ F B UM;let cRi:=dB q f45 λ_ _ F=>hh_ F B cWR;let cLi:=dB q f46 λ_ _ F=>gN_ F B l7 Om;exact Yy FL B C0 (W.codeHd_of_K KB ch) (xE T Z2) #[l7,cLH,cLT,cLP,cLS,Og,AA,Oq,cLi,Ov,Ou,cRi]
theorem walk{q:Ad}{loose:af}{XP:(Str->Option Aa)->Heap->Prop}{d:DefRec}{K:Params->ai}{as:au}{Hu:∀P:Params,as=(K P).map (·.1)}(hn:l.most\63)(Eu:d.params.defaults=[])(Ll:([T].all λT=>!as.contains T)=true)(F:∀(w:Ag) (mg:Str->Option Aa) (fa:Addr) (h:Heap),(K w.params).In h->h.Ns mainGlobals mg->mg d.name\.ref fa->
   ∃fd:Ae,(∀(s:Ab) (u:Aa),BindsTo s fd #[[u],[]] [(xM,u)])/\(∀T'∈[T],isCodeTable h T')/\∀base:Heap,(K w.params).In base->base.Ns mainGlobals mg->(∀T'∈[T],base.BuiltinsAt mg T')->aq l.prog w (K w.params) mg base bh 10 fa fd [xM] (mM (K w.params) T)) :
  PySem.W.WalkO q loose XP (PySem.W.kmHook K as Hu [T]).says l.row.toRowW d [] (λf vs=>PySem.call f vs):=
 L2.pT (n:=63) (k:=10) (x:=xM) (CX:=λ_=>bh) (sp:=λw=>mM (K w.params) T) hn (by decide) Eu #[Z,by decide,by decide] Ll F (λ_ _ a ns hl hT hS=>#[a,ns,Z,hT T Z2,hS,hl,λ_=>rfl]) λ_ _ _ _ _ z=>z
end Ev
namespace PySem.W.Fast
universe tw11486668751472382688 tw13891133280083241538 tw8815146417819103203 tw17406886741266580517 tw2325464802976777413 tw14115579729219940358 tw11159999468872694598 tw11745413858055780807 tw4469551526344529575 tw16550673537241412616 tw7954055043150211432 tw12331569705130903722 tw2559140134011326955 tw17838737404893120558 tw6591801489203890414 tw7749246388463946543 tw13234529124355315376 tw14887652889891160912 tw6965859472926270385 tw4000410274986754898 tw10615449565108784467 tw15787023550810497525 tw2328009143657988853 tw2545761505854733654 tw284448292580962328 tw12872679381969399064 tw10774186957451087962 tw3006395820005808346 tw10703127084261467418 tw13055623578727553402 tw14707023067133240890 tw14657481437344853946 tw18256804015747282875 tw884933850355434108 tw18218216239785899165 tw16366248103172186941 tw16818420166777628318 tw14985873286599560415 tw616624270035842591 tw3063737512011504197 tw9515254477510498000 tw16369329330924042895 tw7231762543563958836 tw15683470469957075213 tw11225046041959202585 tw10814741731684448470 tw5734378258944282016 tw3783652373064711121 tw7594507201866150489 tw2065032520704383732 tw14180649908345071589 tw15577400150905768412 tw2823729264802918003 tw5095209597915297866 tw5780368309887063977 tw16705037440778761521 tw906915432947446840 tw5681375563098292313 tw5212077500700526621 tw636604913152887 tw13715252447009041145 tw8614946977406132688 tw8808209243002288944 tw2533516037831692111 tw7290873213107361088 tw10874302578854796215 tw7801555318533644318 tw2723069068637650057 tw18058756783168469185 tw8420876192746766269 tw3431034033410167306 tw3768725010510055140 tw1612883715276361242 tw17584149523271437981 tw15738721097667709953 tw4116674089109771323 tw11725998341966945203 tw151047171736336848 tw9426678308845076021 tw14562408026264295304 tw6480232545070900691 tw9021065141731093252 tw463250486407552486 tw14249550113069145319 tw15895190922387632439 tw16868113743427098327 tw14504147849992306339 tw878404339623003914 tw1122471620296086903 tw4869968870341833262 tw16833075376779628552 tw2619608449818896055 tw5743522679695729141 tw8746395518279574606 tw14013481239947820733 tw15350501051898333039 tw7599661038550573064 tw14075162118875450391 tw6062690300554140029 tw18401929488626990844 tw14038499624363643635 tw4915227082825385642 tw3068570607676691276 tw12689649342246356358 tw16070372943149498697 tw13958382344882342850 tw10308409473604005845 tw5794027920934400329 tw9607387763369981160 tw16313009228242664117 tw9953960576477959738 tw14552625052259663949 tw9464615456291453976 tw6213217533526603280 tw4626305809841232021 tw2643148086615584655 tw12134005388343064277 tw6923669946299687260 tw4755479905102684730 tw18060233986959621014 tw787509839297983538 tw427717033442935899 tw12262150221783348960 tw14879469351274076723 tw17393700380140094779 tw44961371360863047 tw778217538023953503 tw6485866048467490922 tw6457551461534565051 tw6824071981125506076 tw18380121393679149813 tw867030001399258766 tw12602317849847021963 tw11125351292053103419 tw6748344661249438763 tw114041700334219254 tw6970803437550535463 tw1375580948541201572 tw3927970765473015285 tw451011619464555847 tw4511654294333838124 tw11788169420506468722 tw9489492872941254345 tw11421511858629308658 tw10231835725792476239 tw16067247566755199895 tw12587382133054636584 tw1995760242051978349 tw13938686177253521162 tw3032075158084080360 tw15297669390123304971 tw15705536099099943141 tw17945555470872155972 tw15161713945943894191 tw12934314056183428296 tw12080559281757783208 tw9853458877144667404 tw16487681487290775517 tw15471869270628367476 tw10960082175743645781 tw4515382777671873720 tw10632930192568389635 tw5192370779887398300 tw15172992407998004282 tw564947710275589199 tw8588872528936487843 tw8990650517691685277 tw18010605558494204793 tw12093981272072821155 tw7120389012711837565 tw9065692006581440742 tw9643909949954303730 tw10707826581580293290 tw13585943712552824878 tw11511708117623330432 tw7317643822399106351 tw15151187209859687733 tw4930252157287701252 tw9316047897944783936 tw11321079087509682452 tw16796275346379332102 tw14387282503922666926 tw11793346385408385398 tw9014834975721572634 tw2837339152225330181 tw12459116721784743603 tw2723442964323561781 tw12385874644294810242 tw12824782449560624205 tw11018713306976146344 tw16495865294575204795 tw7409002172350974562 tw4398442792243948154 tw8742341959154855587 tw2904939695788133991 tw3495563503568233027 tw8352300538812715052 tw14165974544477327918 tw276891505957656980 tw5712897281201858700 tw14037518256480039231 tw4531824722017495610 tw10210362796077241698 tw5315935023021422492 tw4427265406644433064 tw8574933014565325466 tw18125660968264690241 tw15072158887690551891 tw7875111860646270056 tw1219171047687015711 tw1662336426759245985 tw12136828290372477278 tw12350603418772832968 tw640677709941364401 tw13810758542530168646 tw15362438770892096820 tw508639910083347962 tw13701606179551102851 tw13106267176630282806 tw11523359766902012154 tw12036315656234885256 tw8669088967615139053 tw16754144626013485449 tw16930119301450396863 tw10883431852550413057 tw16549093337137945246 tw5468427507035933547 tw6195423060317809934 tw1658089964295086444 tw13490317070994441549 tw1346181301577028736 tw5322535227620459669 tw9052214972143826669 tw15451389402830926591 tw10789385456367100363 tw15672997084709955736 tw10165257464468539665 tw8442495603490359583 tw14707435795175304963 tw7024616491766393951 tw16937656122149626202 tw15732508100391857473 tw9340764712060417498 tw6993384052994101662 tw1257912119444973805 tw5134700118324373365 tw12079541993143507577 tw9722491272980113046 tw921230335431911735 tw2322375802316879417 tw5735767309332694195 tw1172512350726971312 tw11206334807688655979 tw9421684329364693718 tw11706360111585471439 tw11884482767084063917 tw2374697681694232094 tw2467630798925343012 tw12419891527115731039 tw3191497433973830592 tw15323905511520495539 tw5987255294491454488 tw4594642515405181005 tw908280638856894773 tw7802496379178157643 tw10870616224928026706 tw15504104883491959214 tw10119683775182271130 tw2164157356809938980 tw5230392082470785420 tw12747173173628714135 tw14064267983343953487 tw8892080995864408996 tw1375529505177103608 tw13717273749822336181 tw13188039756415149859 tw12438924757797683663 tw11950239517290791452 tw5615833515570240553 tw4295004456217554930 tw17425388557640017423 tw11634704169885461667 tw6731388225850226052 tw6918714349768571670 tw18046827360976562231 tw2005686482232474939 tw13843388743396893826 tw14516098459365221570 tw15948249683057256645 tw2070349917554292917 tw15053414504094180785 tw15097981014981638635 tw12515444240080074497 tw15182547073142893828 tw4282616123666462706 tw5822069483749785366 tw8957208322171680753 tw1788429429075498139 tw9084649955123255810 tw8571102820604587739 tw15127646937925253434 tw11196689762689893422 tw10096455246175526271 tw9849568014099141805 tw1020055544813050603 tw3298359274361594755 tw9255353002681781066 tw12658172453111146516 tw8075799010585004420 tw14141721483605416027 tw3662386427952155857 tw8846412874683494514 tw7388312361269871284 tw545607374414191011 tw10766870707286144946 tw17472979958501676875 tw2875006929223316697 tw1607751794936044549 tw18156204139181565590 tw476763214205066270 tw14129022084851324232 tw3522875293463430552 tw12421537853469605062 tw788032586015713247 tw603510315238097447 tw6535104170784502166 tw14553391921286919163 tw1750955384147487761 tw15641957927136846754 tw10853924332186787665 tw4506121901315697911 tw7957309298409719528 tw142676329764210177 tw939696147274810275 tw14039617402979254791 tw12280196349626283853 tw16727244636252910131 tw2948359086923130723 tw10637254503968828207 tw12768672838075323174 tw7733513917301666970 tw285821681850651529 tw9044257650720311471 tw421229986345793894 tw9178752620960832314 tw11384244337973720045 tw3600051790301371459 tw16348485569978159980 tw9381527079549054781 tw1585767336142349884 tw5312660762105818368 tw2622227592521171310 tw5668317168018557463 tw810190502604382139 tw15724327757232165525 tw4129208547031718138 tw4407249571402370928 tw13652143976878485887
end PySem.W.Fast
open PySem PySem.W PyProof.Rows
set_option maxRecDepth 100000 in
local macro_rules|`(%[|$k:num])=>let i:=Lean.mkIdent;if k.getNat==1 then`(Ev.EU $(i `KX) $(i `G) ?_ ?_ ?_ ?_)else`(Ev.C7 ?_ ?_ ?_ ?_ ?_)
theorem PySem.Challenge.cw_evenpieces_k67_fewest_moves_holds : PySem.Challenge.rw_evenpieces_k67_fewest_moves.Holds := by
 w_on;o_law;k_head;(case hw=>w_witness2)
 k_fill
 apply Ev.walk (l:=PySem.Challenge.rw_evenpieces_k67_fewest_moves) rfl rfl (by rfl) ?F
 case F=>
  intro w mg fa h KX G hmg;refine' Ev.all_mk KX G hmg %[|1] %[|1] %[|1] %[|1] %[|1] %[|1] %[|1] %[|1] %[|1] %[|1] %[|1] %[|1] %[|1] %[|1] %[|1] %[|1] %[|1] %[|1] %[|1] %[|1] %[|1] %[|1] %[|1] %[|1] %[|1] %[|1] %[|1] %[|1] %[|1] %[|1] %[|1] %[|1] %[|1] %[|1] %[|1] %[|1] %[|1] %[|1] %[|1] %[|1] %[|1] %[|1] %[|1] %[|1] %[|1] %[|1] %[|1] %[|2] %[|2] %[|2] %[|2] %[|2] %[|2] %[|2] %[|2] %[|2] %[|2] %[|2] %[|2] %[|2] %[|2] %[|2] ?_ ?_ ?_ ?_ ?ch ?aW ?aG ?aR ?_ ?_ ?_ ?_ ?_ ?_ ?_ ?_ ?_ ?_ ?_ ?_ ?_ ?_ ?_ ?_ ?_ ?_ ?_ ?_ ?_ ?_ ?_ ?_ ?_ ?_ ?_ ?_ ?_ ?_ ?_ ?_ ?_ ?_ ?_ ?_ ?_ ?_ ?_ ?_ ?_ ?_ ?_ ?_ ?_ ?_ ?_ ?_ ?_ ?_ ?_ ?_ ?_
  (case aW=>k_is);(case aG=>k_is);(case aR=>k_is)
  any_goals k_is
  (case ch=>kernel_rfl)

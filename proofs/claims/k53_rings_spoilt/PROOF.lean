import PyProof.Rows.All
import Wide.All
import OpenK.AllK
import Wide.FinOn
import Lean
import PyProof.EqAt
import PyProof.EqKinds
import PyProof.TupleCall
import PyProof.Rows.SeqMore
import KE.KLam
import KE.KSortTup
import KE.KEqDict
import PyProof.NeKinds
import PyProof.TupleOfSeq
import PyProof.Rows.TupAssign
import KE.KUnpack
import PySem.Challenge.RW_evenpieces_k53_rings_spoilt
set_option maxHeartbeats 0
set_option Elab.async false
set_option linter.all false
noncomputable section
local macro_rules|`(def $x:declId $s:optDeclSig $v:declVal)=>`(noncomputable def $x:declId $s:optDeclSig $v:declVal)
local macro_rules|`(abbrev $x:declId $s:optDeclSig $v:declVal)=>`(noncomputable abbrev $x:declId $s:optDeclSig $v:declVal)
local macro_rules|`(universe $x*)=>return Lean.mkNullNode (←x.mapM λa=>do return(←`(theorem $a:ident:True:=⟨⟩)).raw)
abbrev Xa:=List (PySem.Str × Int)
abbrev Xb:=List (PySem.Str × PySem.Str)
set_option compiler.extract_closed false
set_option maxRecDepth 100000
theorem aq:type_of% @PySem.wpAny_bind:=@PySem.wpAny_bind
theorem cj:type_of% @PySem.Heap.get?_push_of_some:=@PySem.Heap.get?_push_of_some
abbrev Aa:=PySem.Value
abbrev Ab:=PySem.Shared
theorem aU:type_of% @PySem.wpAny_pure:=@PySem.wpAny_pure
theorem bK:type_of% @PySem.Paired.length:=@PySem.Paired.length
theorem bP:type_of% @decide_eq_true:=@decide_eq_true
abbrev Ad:=PySem.Program
theorem eh:type_of% @PySem.Heap.get?_push_size:=@PySem.Heap.get?_push_size
abbrev Ae:=PySem.FuncData
theorem aB:type_of% @if_neg:=@if_neg
theorem dJ:type_of% @decide_eq_false:=@decide_eq_false
theorem cy:type_of% @PySem.Heap.lt_size:=@PySem.Heap.lt_size
theorem dY:type_of% @Option.some.inj:=@Option.some.inj
theorem aH:type_of% @if_pos:=@if_pos
theorem b_:type_of% @PySem.sizeLine_eq:=@PySem.sizeLine_eq
theorem eS:type_of% @PySem.PassesOwn.never:=@PySem.PassesOwn.never
abbrev Af:=PySem.World
theorem mX:type_of% @PySem.F.plainAttrs_list:=@PySem.F.plainAttrs_list
theorem mV:type_of% @PySem.Heap.get?_update_other:=@PySem.Heap.get?_update_other
abbrev Ag:=PySem.Around
theorem gX:type_of% @PySem.boot_len:=@PySem.boot_len
theorem j5:type_of% @PySem.W.mg_none_of:=@PySem.W.mg_none_of
theorem mU:type_of% @PySem.wpAny_newObj_type:=@PySem.wpAny_newObj_type
theorem p5:type_of% @PySem.mem_of_lookup:=@PySem.mem_of_lookup
theorem p4:type_of% @PySem.wpAny_loadPart':=@PySem.wpAny_loadPart'
theorem d9:type_of% @congrArg:=@congrArg
theorem xI:type_of% @PySem.F.type_list_append:=@PySem.F.type_list_append
theorem xA:type_of% @PySem.F.slot_list_append:=@PySem.F.slot_list_append
theorem qw:type_of% @PySem.wpAny_truthy_bool:=@PySem.wpAny_truthy_bool
theorem iF:type_of% @Sum.inr.inj:=@Sum.inr.inj
theorem DF:type_of% @PyProof.Rows.slot_tuple_getitem:=@PyProof.Rows.slot_tuple_getitem
theorem mQ:type_of% @PySem.wpAny_holding:=@PySem.wpAny_holding
theorem vy:type_of% @of_decide_eq_true:=@of_decide_eq_true
theorem pX:type_of% @PySem.W.mg_of:=@PySem.W.mg_of
theorem uz:type_of% @PySem.W.kia_one:=@PySem.W.kia_one
theorem DE:type_of% @PySem.F.type_list_extend:=@PySem.F.type_list_extend
theorem DD:type_of% @PySem.F.slot_list_extend:=@PySem.F.slot_list_extend
abbrev Ah:=PySem.DictEntry
theorem Z0{p:Prop}[Decidable p](h:decide p=true:=by decide +kernel):p:=of_decide_eq_true h
theorem Z1{p:Prop}(h:p:=by omega):p:=h
theorem Z2{p:Prop}(h:p:=by simp):p:=h
local macro_rules|`(tactic|let $x:ident:=$e)=>`(tactic|have $x:ident:=$e)
local macro_rules|`($a\$b)=>`($a=some $b)
local macro_rules|`(⇑$h)=>`(by simpa using $h)
local macro_rules|`(tactic|exists $e)=>let i:=Lean.mkIdent;`(tactic|refine $e λ$(i `aO) $(i `A) $(i `outer) $(i `s) $(i `H) $(i `vs) $(i `Q) $(i `E) $(i `hr) $(i `h)=>?_)
local macro_rules|`(section v)=>let i:=Lean.mkIdent;return Lean.mkNullNode #[←`(section),←`(variable{$(i `P):ident:$(i `Ad)}{$(i `w):ident:$(i `Af)}{$(i `K):ident:$(i `af)}{$(i `mg):ident:$(i `Str)->$(i `Option) $(i `Aa)}{$(i `base):ident:$(i `Heap)})]
local macro_rules|`(tactic|apply $e)=>`(tactic|refine $e)
local macro_rules|`(#[$x,$xs,*])=>`(⟨$x,$xs,*⟩)
local macro_rules|`(tactic|let $p:term:=$e)=>let g:=λ(x:Lean.Syntax)=>(if x.isIdent then`(rcasesPat|$(⟨x⟩):ident) else if x.isOfKind ``Lean.Parser.Term.hole then`(rcasesPat|_) else pure ⟨x⟩:Lean.MacroM (Lean.TSyntax `rcasesPat));p.raw.rewriteBottomUpM (λn=>if n.isOfKind `«term#[_,]» then n[1].getSepArgs.mapM (λx=>g x>>=λy=>`(Lean.Parser.Tactic.rcasesPatLo|$y:rcasesPat))>>=λs=>`(rcasesPat|⟨$s,*⟩)>>=λt=>pure t.raw else pure n)>>=λq=>`(tactic|obtain $(⟨q⟩):rcasesPat:=$e)
theorem Z{α:Sort _}{a:α}:a=a:=rfl
abbrev af:=PySem.W.Frag
theorem aA:type_of% @List.length_map:=@List.length_map
theorem cw:type_of% @List.getElem?_eq_getElem:=@List.getElem?_eq_getElem
theorem cU:type_of% @List.getElem?_eq_some_iff:=@List.getElem?_eq_some_iff
theorem cg:type_of% @List.size_toArray:=@List.size_toArray
theorem bj:type_of% @Nat.le_refl:=@Nat.le_refl
theorem dI:type_of% @List.mem_of_getElem?:=@List.mem_of_getElem?
theorem bJ:type_of% @List.mem_map:=@List.mem_map
theorem dS:type_of% @List.getElem?_map:=@List.getElem?_map
theorem fb:type_of% @List.mem_cons_of_mem:=@List.mem_cons_of_mem
theorem dC:type_of% @List.map_append:=@List.map_append
theorem cQ:type_of% @List.mem_cons:=@List.mem_cons
theorem cu:type_of% @List.map_map:=@List.map_map
theorem d6:type_of% @List.length_take:=@List.length_take
theorem fB:type_of% @List.length_append:=@List.length_append
theorem fQ:type_of% @List.mem_cons_self:=@List.mem_cons_self
theorem e_:type_of% @List.take_length:=@List.take_length
theorem eD:type_of% @List.map_cons:=@List.map_cons
theorem dZ:type_of% @Nat.ne_of_lt:=@Nat.ne_of_lt
theorem g6:type_of% @Bool.false_ne_true:=@Bool.false_ne_true
theorem gD:type_of% @List.mem_append:=@List.mem_append
theorem jj:type_of% @Nat.lt_of_lt_of_le:=@Nat.lt_of_lt_of_le
theorem iS:type_of% @List.take_add_one:=@List.take_add_one
theorem nA:type_of% @List.mem_append_right:=@List.mem_append_right
theorem p_:type_of% @Int.eq_ofNat_of_zero_le:=@Int.eq_ofNat_of_zero_le
theorem lj:type_of% @List.getElem_of_mem:=@List.getElem_of_mem
theorem uQ:type_of% @List.nodup_iff_pairwise_ne:=@List.nodup_iff_pairwise_ne
theorem k_:type_of% @Bool.false_eq_true:=@Bool.false_eq_true
theorem ka:type_of% @List.length_cons:=@List.length_cons
theorem xT:type_of% @List.getElem?_append_right:=@List.getElem?_append_right
theorem nD:type_of% @List.getElem_mem:=@List.getElem_mem
theorem qJ:type_of% @Array.length_toList:=@Array.length_toList
theorem g7:type_of% @Nat.zero_le:=@Nat.zero_le
theorem zS:type_of% @List.getElem?_append_left:=@List.getElem?_append_left
theorem uP:type_of% @List.map_congr_left:=@List.map_congr_left
theorem oY:type_of% @List.nodup_cons:=@List.nodup_cons
theorem qH:type_of% @Int.toNat_natCast:=@Int.toNat_natCast
theorem p9:type_of% @List.length_nil:=@List.length_nil
theorem zR:type_of% @List.take_of_length_le:=@List.take_of_length_le
theorem Cj:type_of% @Option.isSome_iff_exists:=@Option.isSome_iff_exists
theorem zQ:type_of% @List.length_singleton:=@List.length_singleton
theorem uO:type_of% @List.lookup_cons:=@List.lookup_cons
theorem vM:type_of% @List.pairwise_map:=@List.pairwise_map
theorem nC:type_of% @Nat.le_trans:=@Nat.le_trans
theorem xS:type_of% @List.mem_filterMap:=@List.mem_filterMap
theorem xR:type_of% @List.append_nil:=@List.append_nil
theorem DR:type_of% @List.length_replicate:=@List.length_replicate
theorem xQ:type_of% @List.find?_cons:=@List.find?_cons
theorem zO:type_of% @List.length_drop:=@List.length_drop
theorem xP:type_of% @Bool.and_false:=@Bool.and_false
theorem xV:type_of% @Nat.lt_irrefl:=@Nat.lt_irrefl
theorem vN:type_of% @Nat.ne_of_gt:=@Nat.ne_of_gt
theorem xU:type_of% @Bool.not_true:=@Bool.not_true
abbrev aj:=List PySem.Value
abbrev ao:=PySem.Str->PySem.Str
abbrev ai:=List PySem.Addr
abbrev ae:=List PySem.Str
namespace L2
open PySem PySem.Spec PyProof.Rows
abbrev Key:=Sum Int Str
def xp:Key->Aa->Bool
 |.inl k,v=>Value.isInt k v
 |.inr x,v=>Value.isStrOf x v
def Mu(w:Af):Key->Int
 |.inl k=>hashInt k
 |.inr x=>hashStr w x
theorem qI:∀{k:Key} {v:Aa},xp k v=true->(∃i t,k=Sum.inl i/\v=Value.int i t)∨(∃x t,k=Sum.inr x/\v=Value.str x t)
 |.inl i,v,h=>by
  let#[t,e]:=Value.isInt_shape (k:=i) (v:=v) h;exact .inl #[i,t,Z,e]
 |.inr x,v,h=>by
  let#[t,e]:=Value.isStrOf_shape (x:=x) (v:=v) h;exact .inr #[x,t,Z,e]
theorem gI_(i:Int)(t:Tok):xp (.inl i) (.int i t)=true:=by simp[xp,Value.isInt]
theorem gR_(x:Str)(t:Tok):xp (.inr x) (.str x t)=true:=by simp[xp,Value.isStrOf]
theorem _R(a b:Int):decide ((Sum.inl a:Key)=Sum.inl b)=(a == b):=by
 by_cases e:a=b
 ·subst e;simp
 have h:¬(Sum.inl a:Key)=Sum.inl b:=λq=>e (Sum.inl.inj q);rw[dJ h];exact (beq_eq_false_iff_ne.mpr e).symm
theorem _v(a b:Str):decide ((Sum.inr a:Key)=Sum.inr b)=decide (a=b):=by
 by_cases e:a=b
 ·subst e;simp
 have h:¬(Sum.inr a:Key)=Sum.inr b:=λq=>e (iF q);rw[dJ h,dJ e]
theorem lB_(a:Int)(b:Str):decide ((Sum.inl a:Key)=Sum.inr b)=false:=dJ (λq=>nomatch q)
theorem _u(a:Str)(b:Int):decide ((Sum.inr a:Key)=Sum.inl b)=false:=dJ (λq=>nomatch q)
def eB(prog:Ad)(w:Af):PySem.KeyKind prog w Key where
 is:=xp
 hash:=Mu w
 inj:=λv a b ha hb=>by
  rcases qI ha with⟨i,t,rfl,rfl⟩|⟨x,t,rfl,rfl⟩
  ·rcases qI hb with⟨j,u,rfl,e⟩|⟨y,u,rfl,e⟩
   ·injection e with e1 _;rw[e1]
   exact nomatch e
  rcases qI hb with⟨j,u,rfl,e⟩|⟨y,u,rfl,e⟩
  ·exact nomatch e
  injection e with e1 _;rw[e1]
 byValue:=λk v h=>by
  rcases qI h with⟨i,t,rfl,rfl⟩|⟨x,t,rfl,rfl⟩<;>rfl
 pyHash:=λhv h=>by
  rcases qI hv with⟨i,t,rfl,rfl⟩|⟨x,t,rfl,rfl⟩
  ·exact wpAny_pyHash_int h
  exact wpAny_pyHash_str h
 eqBool:=λhu hv h=>by
  rcases qI hu with⟨i,t,rfl,rfl⟩|⟨x,t,rfl,rfl⟩
  ·rcases qI hv with⟨j,u,rfl,rfl⟩|⟨y,u,rfl,rfl⟩
   ·rw[_R] at h;exact wpAny_eqBool_int h
   rw[lB_] at h;exact SeqAt.EqAt.int_str i t y u _ _ _ _ h
  rcases qI hv with⟨j,u,rfl,rfl⟩|⟨y,u,rfl,rfl⟩
  ·rw[_u] at h;exact SeqAt.EqAt.str_int x t j u _ _ _ _ h
  rw[_v] at h;exact wpAny_eqBool_str h
 «strs»:=λk x t v h=>by
  rcases qI h with⟨i,u,rfl,e⟩|⟨y,u,rfl,e⟩
  ·exact nomatch e
  injection e with e1 _
  subst e1;cases v<;>rfl
theorem f0_(prog:Ad)(w:Af)(i:Int)(t:Tok):(eB prog w).is (.inl i) (.int i t)=true:=gI_ i t
theorem QI(prog:Ad)(w:Af)(x:Str)(t:Tok):(eB prog w).is (.inr x) (.str x t)=true:=gR_ x t
end L2
abbrev ay:=List L2.Key
namespace L2
open PySem PySem.Spec PyProof.Rows
inductive V where
 |non|bl (b:Bool)|int (i:Int)|str (x:Str)|byt (b:Array UInt8)|flt (b:UInt64)|ref (a:Addr)|ty (n:String)
 deriving DecidableEq
def RelV:V->Aa->Prop
 |.non,u=>u=Value.none
 |.bl b,u=>u=Value.bool b
 |.int i,u=>∃t,u=Value.int i t
 |.str x,u=>∃t,u=Value.str x t
 |.byt b,u=>∃t,u=Value.bytes b t
 |.flt b,u=>∃t,u=Value.float b t
 |.ref a,u=>u=Value.ref a
 |.ty n,u=>u=Value.type n
abbrev Vals:List V->aj->Prop:=Paired RelV
theorem Vals.length{xs:List V}{us:aj}(r:Vals xs us):xs.length=us.length:=bK r
theorem Vals.get:∀{xs:List V} {us:aj} {i:Nat} {x:V},Vals xs us->xs[i]? = some x->∃u,us[i]? = some u/\RelV x u
 |_,_,_,_,.nil,e=>by simp at e
 |_,_,0,_,.cons r _,e=>by simp at e;subst e;exact#[_,Z,r]
 |_,_,i+1,x,.cons _ t,e=>by
  let#[u,h1,h2]:=Vals.get (i:=i) (x:=x) t ⇑e;exact#[u,by simpa using h1,h2]
theorem Vals.set{x:V}{u:Aa}(r:RelV x u):∀{xs:List V} {us:aj} (i:Nat),Vals xs us->Vals (xs.set i x) (us.set i u)
 |_,_,_,.nil=>.nil
 |_,_,0,.cons _ t=>.cons r t
 |_,_,i+1,.cons q t=>.cons q (Vals.set r i t)
theorem Vals.append:∀{xs ys:List V} {us ws:aj},Vals xs us->Vals ys ws->Vals (xs++ys) (us++ws)
 |_,_,_,_,.nil,s=>s
 |_,_,_,_,.cons r t,s=>.cons r (Vals.append t s)
theorem Vals.take:∀{xs:List V} {us:aj} (n:Nat),Vals xs us->Vals (xs.take n) (us.take n)
 |_,_,0,_=>.nil
 |_,_,_+1,.nil=>.nil
 |_,_,n+1,.cons r t=>.cons r (Vals.take n t)
theorem Vals.drop:∀{xs:List V} {us:aj} (n:Nat),Vals xs us->Vals (xs.drop n) (us.drop n)
 |_,_,0,r=>r
 |_,_,_+1,.nil=>.nil
 |_,_,n+1,.cons _ t=>Vals.drop n t
def eU:Option V->Option Aa->Prop
 |some v,some u=>RelV v u
 |none,none=>True
 |_,_=>False
def KV{κ:Type}:List (κ × V)->List (κ × Aa)->Prop:=Paired λ(p:κ × V) (q:κ × Aa)=>p.1=q.1/\RelV p.2 q.2
def kV:Key->V
 |.inl i=>.int i
 |.inr x=>.str x
inductive HO where
  |lst (xs:List V)
  |tup (xs:List V)
  |dK (kvs:List (Key × V))|dT (kvs:List (ay × V))
  |set (S:Int->Bool) (n:Nat)
  |ins (C dx:Addr) (fs:List (Str × V))
  |own (x:Addr)
  |xd (fs:List (Str × V))
  |met (f x:Addr)
  |rng (lo hi:Int)
  |frz (o:Obj) (u:HO)
  |tbl (ps:Array Aa)
  |ext (φ:Heap->Prop)
abbrev Hp:=Addr->Option HO
def upd(H:Hp)(a:Addr)(o:HO):Hp:=λb=>if b=a then some o else H b
theorem au{H:Hp}{a:Addr}{o:HO}:upd H a o a\o:=by unfold upd;rw[aH Z]
theorem aD{H:Hp}{a b:Addr}{o:HO}(h:b≠a):upd H a o b=H b:=by unfold upd;rw[aB h]
theorem TX{H:Hp}{a:Addr}{o u:HO}:upd (upd H a o) a u=upd H a u:=by
 funext b;unfold upd;split<;>rfl
theorem cb{H:Hp}{a b:Addr}{o u:HO}(h:H a\o)(h':H b\u)(d:o≠u):a≠b:=by
 intro e;subst e;rw[h] at h';exact d (dY h')
theorem bE{H:Hp}{a b:Addr}{o:HO}(h:H a\o)(h':H b=none):a≠b:=by
 intro e;subst e;rw[h] at h';cases h'
section
variable(P:Ad)(w:Af)
def eC(H:Hp)(h:Heap)(a:Addr):HO->Prop
 |.lst xs=>xs.length<=sizeLine/\∃(its:aj) (n:Nat),Vals xs its/\h.get? a=some { cls:=.type "list",data:=.seq its.toArray n }
 |.tup xs=>xs.length<=sizeLine/\∃its:aj,Vals xs its/\IsTup h a its.toArray/\∃o,h.get? a\o/\o.dict=none
 |.dK kvs=>kvs.length<=sizeLine/\(a == sysModules)=false/\∃vs,KV kvs vs/\h.DictOf (eB P w) a vs
 |.dT kvs=>kvs.length<=sizeLine/\(a == sysModules)=false/\∃xs:List (ay × Addr × Aa),
   Paired (λ(p:ay × V) (q:ay × Addr × Aa)=>p.1=q.1/\H q.2.1\.tup (p.1.map kV)/\RelV p.2 q.2.2) kvs xs /\
   ∃o es ep,h.get? a\o/\o.ExactDict/\o.data=.dict es ep/\es.toList=xs.map (entryOfKey (tupleKind (eB P w)))/\(xs.map (·.1)).Nodup
 |.set S n=>h.SetOf (intKind P w) a S n
 |.ins C dx fs=>H dx\.own a/\fs.length<=1000/\dx≠a/\h.get? a\PySem.W.instObj C dx /\
   ∃mA,h.Ns1 dx mA/\(∀f,eU (fs.lookup f) (mA f))/\PySem.Within mA (fs.map (·.1))
 |.own _=>∃o,h.get? a\o
 |.xd fs=>∃mA,h.Ns1 a mA/\∀f,eU (fs.lookup f) (mA f)
 |.rng lo hi=>∃t u v,h.get? a=some { cls:=.type "range",data:=.fields (List.toArray [.int lo t,.int hi u,.int 1 v]) }
 |.frz o u=>h.get? a\o/\eC H h a u
 |.tbl ps=>h.get? a=some { cls:=.none,data:=.fields ps }
 |.met f x=>h.get? a\PySem.W.methodObj (.ref f) (.ref x)
 |.ext φ=>φ h/\(∃o,h.get? a\o)/\∀h1 h2:Heap,φ h1->(∀o,h1.get? a\o->h2.get? a\o)->φ h2
def eG(H:Hp)(h:Heap):Prop:=∀a o,H a\o->eC P w H h a o
end
section
variable{P:Ad}{w:Af}{H H':Hp}{h h':Heap}{a:Addr}{o:HO}
theorem eC.lt(x:eC P w H h a o):a<h.objs.size:=by
 cases o with
 |lst xs=>let#[_,_,_,_,e]:=x;exact cy e
 |tup xs=>let#[_,_,_,p,_]:=x;exact p.lt
 |dK kvs=>let#[_,_,_,_,o,_,_,e,_]:=x;exact cy e
 |dT kvs=>let#[_,_,_,_,o,_,_,e,_]:=x;exact cy e
 |set S n=>let#[o,_,_,_,e,_]:=x;exact cy e
 |ins C dx fs=>let#[_,_,_,e,_]:=x;exact cy e
 |own y=>let#[_,e]:=x;exact cy e
 |xd fs=>let#[_,#[_,_,_,e,_],_]:=x;exact cy e
 |rng lo hi=>let#[_,_,_,e]:=x;exact cy e
 |frz ob u=>let#[e,_]:=x;exact cy e
 |tbl ps=>exact cy (show h.get? a\_ from x)
 |met f y=>exact cy (show h.get? a\_ from x)
 |ext φ=>let#[_,#[_,e],_]:=x;exact cy e
theorem Paired.bN{α β:Type}{F G:α->β->Prop}:∀{Fj:List α} {Fi:List β},Paired F Fj Fi->(∀a b,F a b->G a b)->Paired G Fj Fi
 |_,_,.nil,_=>.nil
 |_,_,.cons r t,f=>.cons (f _ _ r) (Paired.bN t f)
theorem eC.d5(x:eC P w H h a o)(k:∀b u,(b=a∨H b\.own a)->h.get? b\u->h'.get? b\u)
  (ho:∀b,H b\.own a->H' b\.own a) (ht:∀b xs,H b\.tup xs->H' b\.tup xs):eC P w H' h' a o:=by
 induction o with
 |lst xs=>let#[z,its,n,r,e]:=x;exact#[z,its,n,r,k _ _ (.inl Z) e]
 |tup xs=>let#[z,its,r,#[ob,e,c],o2,e2,c2]:=x;exact#[z,its,r,#[ob,k _ _ (.inl Z) e,c],o2,k _ _ (.inl Z) e2,c2]
 |dK kvs=>let#[z,y,vs,r,ob,es,ep,e,c]:=x;exact#[z,y,vs,r,ob,es,ep,k _ _ (.inl Z) e,c]
 |dT kvs=>
  let#[z,y,xs,r,ob,es,ep,e,c]:=x;exact#[z,y,xs,Paired.bN r λp q z=>#[z.1,ht _ _ z.2.1,z.2.2],ob,es,ep,k _ _ (.inl Z) e,c]
 |set S n=>let#[ob,es,ep,t,e,c]:=x;exact#[ob,es,ep,t,k _ _ (.inl Z) e,c]
 |ins C dx fs=>
  let#[d,z,ne,e,mA,#[od,es,ep,e2,c],r]:=x;exact#[ho _ d,z,ne,k _ _ (.inl Z) e,mA,#[od,es,ep,k _ _ (.inr d) e2,c],r]
 |own y=>let#[ob,e]:=x;exact#[ob,k _ _ (.inl Z) e]
 |xd fs=>let#[mA,#[od,es,ep,e,c],r]:=x;exact#[mA,#[od,es,ep,k _ _ (.inl Z) e,c],r]
 |rng lo hi=>let#[t,u,v,e]:=x;exact#[t,u,v,k _ _ (.inl Z) e]
 |frz ob u ih=>let#[e,q]:=x;exact#[k _ _ (.inl Z) e,ih q]
 |tbl ps=>
  have e:h.get? a=some { cls:=.none,data:=.fields ps }:=x;show h'.get? a=some { cls:=.none,data:=.fields ps };exact k a _ (.inl Z) e
 |met f y=>
  have e:h.get? a\PySem.W.methodObj (.ref f) (.ref y):=x;show h'.get? a\PySem.W.methodObj (.ref f) (.ref y);exact k a _ (.inl Z) e
 |ext φ=>let#[p,#[o,e],st]:=x;exact#[st _ _ p λo q=>k _ _ (.inl Z) q,#[o,k _ _ (.inl Z) e],st]
theorem eG.lt(x:eG P w H h)(e:H a\o):a<h.objs.size:=(x a o e).lt
theorem eG.fresh(x:eG P w H h)(e:h.objs.size<=a):H a=none:=by
 cases q:H a with
 |none=>rfl
 |some u=>exact absurd (jj (x.lt q) e) (xV _)
theorem eG.kept(x:eG P w H h)(k:∀b u,h.get? b\u->h'.get? b\u):eG P w H h':=λa o e=>
 (x a o e).d5 (λb u _ q=>k b u q) (λ_ q=>q) λ_ _ q=>q
theorem eG.laid(x:eG P w H h)(k:∀b u,h.get? b\u->h'.get? b\u)(hp:h.objs.size<=a)(new:eC P w (upd H a o) h' a o):eG P w (upd H a o) h':=λb u e=>by
 let hn:=x.fresh hp;by_cases hb:b=a
 ·subst hb;rw[au] at e;cases e;exact new
 rw[aD hb] at e;exact (x b u e).d5 (λc v _ q=>k c v q) (λc q=>by rw[aD (bE q hn)];exact q) λc xs q=>by rw[aD (bE q hn)];exact q
end
def Rd(H:Hp)(a:Addr)(u:HO):Prop:=H a=some u∨∃o,H a\.frz o u
theorem Rd.of{H:Hp}{a:Addr}{u:HO}(h:H a\u):Rd H a u:=.inl h
theorem Rd.ok{P:Ad}{w:Af}{H:Hp}{h:Heap}{a:Addr}{u:HO}(r:Rd H a u)(x:eG P w H h):eC P w H h a u:=by
 rcases r with r|⟨o,r⟩
 ·exact x a u r
 let#[_,q]:=x a _ r;exact q
def Iq:Option HO->Prop
 |some (.lst _)=>True
 |some (.dK _)=>True
 |some (.dT _)=>True
 |some (.set _ _)=>True
 |some (.ins _ _ _)=>True
 |some (.ext _)=>True
 |_=>False
section
variable{P:Ad}{w:Af}{H:Hp}{h h':Heap}{x e:Addr}{o':HO}
theorem eG.write(ok:eG P w H h)(mu:Iq (H x))(he:e=x∨H e\.own x)(k:∀b u,b≠e->h.get? b\u->h'.get? b\u)(CY:∃u,h'.get? e\u)
  (new:eC P w (upd H x o') h' x o'):eG P w (upd H x o') h':=λb u q=>by
 have E7:∀c y,H c\.own y->c≠x:=λc y r z=>by subst z;rw[r] at mu;exact mu
 have L3:∀c xs,H c\.tup xs->c≠x:=λc xs r z=>by subst z;rw[r] at mu;exact mu
 by_cases hb:b=x
 ·subst hb;rw[au] at q;cases q;exact new
 rw[aD hb] at q;by_cases Bp:b=e
 ·have q':H b\.own x:=by
   rcases he with z|z
   ·exact absurd (Bp.trans z) hb
   rw[Bp];exact z
  rw[q] at q';cases q';let#[v,hv]:=CY;exact#[v,by rw[Bp];exact hv]
 apply (ok b u q).d5 (λc v hc r=>k c v ?_ r) (λc r=>by rw[aD (E7 c b r)];exact r) λc xs r=>by rw[aD (L3 c xs r)];exact r
 rcases hc with rfl|hc
 ·exact Bp
 rintro rfl;rcases he with z|z
 ·exact E7 c b hc z
 rw[hc] at z;cases z;exact hb Z
end
structure Un (fs ex:ai) (H H':Hp) (h h':Heap):Prop where
 keep:∀b o,h.get? b\o->H b=none->b∉fs->b∉ex->h'.get? b\o
 slot:∀b o,h.get? b\o->H b=none->b∈fs->b∉ex->∃sl,h'.get? b=some { o with slots:=sl }
 free:∀b o,h.get? b\o->H b=none->b∉ex->H' b=none
 there:∀b o,h.get? b\o->b∉ex->∃o',h'.get? b\o'
 g9:∀b xs,H b\.tup xs->H' b\.tup xs
 fZ:∀b o u,H b\.frz o u->H' b\.frz o u
 gM:∀b ps,H b\.tbl ps->∃more,H' b\.tbl (ps++more)
section
variable{fs fs' ex ex':ai}{H H1 H2:Hp}{h h1 h2 h':Heap}{a x e:Addr}{o:HO}
theorem Un.any(u:Un fs ex H H1 h h1){b:Addr}{ob:Obj}(q:h.get? b\ob)(n:H b=none)(hx:b∉ex):∃sl,h1.get? b=some { ob with slots:=sl }:=by
 by_cases hb:b∈fs
 ·exact u.slot b ob q n hb hx
 exact#[ob.slots,u.keep b ob q n hb hx]
theorem Un.kept(k:∀b u,h.get? b\u->h'.get? b\u):Un fs ex H H h h':=
 #[λb ob q _ _ _=>k b ob q,λb ob q _ _ _=>#[ob.slots,k b ob q],λ_ _ _ n _=>n,λb ob q _=>#[ob,k b ob q],λ_ _ q=>q,λ_ _ _ q=>q,λ_ ps q=>#[#[],by rw[q];simp]]
theorem Un.refl:Un fs ex H H h h:=Un.kept λ_ _ q=>q
theorem Un.laid(k:∀b u,h.get? b\u->h'.get? b\u)(hp:h.objs.size<=a)(hn:H a=none):Un fs ex H (upd H a o) h h' where
 keep:=λb u q _ _ _=>k b u q
 slot:=λb u q _ _ _=>#[u.slots,k b u q]
 free:=λb u q n _=>by rw[aD (dZ (jj (cy q) hp))];exact n
 there:=λb u q _=>#[u,k b u q]
 g9:=λb xs q=>by rw[aD (bE q hn)];exact q
 fZ:=λb u xs q=>by rw[aD (bE q hn)];exact q
 gM:=λb ps q=>#[#[],by rw[aD (bE q hn),q];simp]
theorem Un.write(mu:Iq (H x))(he:e=x∨H e\.own x)(k:∀b u,b≠e->h.get? b\u->h'.get? b\u)(CY:∃u,h'.get? e\u):Un fs ex H (upd H x o) h h':=by
 have hx:∀b,H b=none->b≠x:=λb n z=>by subst z;rw[n] at mu;exact mu
 have hb:∀b,H b=none->b≠e:=λb n z=>by
  subst z;rcases he with r|r
  ·exact hx b n r
  rw[n] at r;cases r
 have hm:∀b u,H b\u->¬Iq (some u)->b≠x:=λb u q nm z=>by subst z;rw[q] at mu;exact nm mu
 apply#[λb u q n _ _=>k b u (hb b n) q,λb u q n _ _=>#[u.slots,k b u (hb b n) q],λb u q n _=>by rw[aD (hx b n)];exact n,λb u q _=>?_,
  λb xs q=>by rw[aD (hm b _ q λz=>z)];exact q,λb u xs q=>by rw[aD (hm b _ q λz=>z)];exact q,λb ps q=>#[#[],by rw[aD (hm b _ q λz=>z),q];simp]]
 by_cases Bp:b=e
 ·subst Bp;exact CY
 exact#[u,k b u Bp q]
end
def ID(h:Heap)(H:Hp):ai:=(List.range h.objs.size).filter λa=>(H a).isSome
def iE(h:Heap)(H:Hp):Heap:=PySem.W.hideAll h (ID h H)
theorem hn_(h:Heap)(H:Hp):(iE h H).objs.size=h.objs.size:=PySem.W.hideAll_size _ _
theorem j3_{h:Heap}{H:Hp}{b:Addr}{o:Obj}(e:h.get? b\o)(n:H b=none):(iE h H).get? b\o:=
 PySem.W.hideAll_get _ e λhm=>by
  have q:(H b).isSome=true:=(List.mem_filter.mp hm).2;rw[n] at q;simp at q
theorem kq_{h:Heap}{H:Hp}{b:Addr}{o:Obj}(e:(iE h H).get? b\o):h.get? b\o/\H b=none:=by
 have e':h.get? b\o:=PySem.W.of_hideAll (ID h H) e;apply#[e',?_];cases q:H b with
 |none=>rfl
 |some x=>
  have hm:b∈ID h H:=List.mem_filter.mpr #[List.mem_range.mpr (cy e'),by simp[q]];have z:(iE h H).get? b=none:=PySem.W.hideAll_none (ID h H) hm;rw[z] at e;cases e
end L2
abbrev ag:=List L2.V
abbrev aN:=Option L2.V
namespace L2
open PySem PySem.Spec PyProof.Rows
structure Mod (K:af) (mg:Str->Option Aa) (base:Heap):Prop where
 Fo:K.In base
 glob:base.Ns mainGlobals mg
 blt:∃mb,base.Ns builtinsNs mb/\∀x:Str,x≠"__name__"->mb x=bootBuiltins x
 nolimit:base.NoLimit
structure Cx where
 prog:Ad
 w:Af
 K:af
 mg:Str->Option Aa
 base:Heap
 A:Ag
 N:ae
 cX:Ab
 jk:Hp
 env:Env
 outer:List Env
 stack:List Env
 ex:ai
 fn:Str->Bool
 calm:Bool
 pn:List (Addr × Obj)
 xe:Aa->Ab->Prop
def h_(l:List Env):ai:=l.filterMap (·.frame)
abbrev Cx.fs(X:Cx):ai:=h_ X.outer
def Q5(sc:Scope)(x:Str):Prop:=sc.names.lookup x=some .local∨sc.names.lookup x\.cell∨sc.names.lookup x\.free
def Loc(sc:Scope)(x:Str):Prop:=sc.names.lookup x=some .local∨sc.names.lookup x\.cell
def Look(env:Env)(h:Heap)(m:Str->Option Aa)(x:Str)(u:Aa):Prop:=
 (env.kindOf x\.local/\m x\u)∨((env.kindOf x\.cell∨env.kindOf x\.free)/\∃c,env.cells.lookup x\c/\h.IsCell c (some u))
structure Cx.Ok (X:Cx):Prop where
 mod:Mod X.K X.mg X.base
 kind:X.env.scope.kind=.function
 glob:X.env.globals=mainGlobals
 blt:X.env.builtins=builtinsNs
 above:X.cX.heap.objs.size<=X.env.locals
 inj:∀x y c,X.env.cells.lookup x\c->X.env.cells.lookup y\c->x=y
 has:∀x,(X.env.kindOf x\.cell∨X.env.kindOf x\.free)->∃c,X.env.cells.lookup x\c
 DC:∀x c,X.fn x=true->X.env.cells.lookup x\c->X.cX.heap.objs.size<=c
 hd:X.calm=true->X.A.handled=none
 frames:X.A.frames\X.stack
 IM:X.stack=X.outer∨(X.stack=X.env::X.outer/\X.env.frame\X.env.locals)
 JO:∀b∈X.ex,b≠X.env.locals/\∀x c,X.env.cells.lookup x\c->c≠b
 bs:∀b o,X.base.get? b\o->X.cX.heap.get? b\o/\X.jk b=none
 uI:X.base.objs.size<=X.cX.heap.objs.size
 tP:∀b o,X.base.get? b\o->b∉X.ex
 uu:∀b∈X.ex,b∉X.fs
 fY:X.cX.heap.FunFrames X.base X.outer
 xk:∀b∈X.fs,X.jk b=none
structure Inv (X:Cx) (pins:List (Addr × Obj)) (σ:List aN) (H:Hp) (s:Ab):Prop where
 ok:X.Ok
 os:s.os=X.cX.os
 bare:AllBare s.gens
 base:Un X.fs X.ex X.jk H X.cX.heap s.heap
 loc:∃m,s.heap.Ns X.env.locals m/\∀(i:Nat) (x:Str) (v:V),X.N[i]? = some x->σ[i]? = some (some v)->Q5 X.env.scope x->∃u,RelV v u/\Look X.env s.heap m x u
 cell:∀x c,X.env.cells.lookup x\c->∃v,s.heap.IsCell c v
 free:H X.env.locals=none
 d8:∀x c,X.env.cells.lookup x\c->H c=none
 pin:∀p∈X.pn++pins,s.heap.get? p.1\p.2/\H p.1=none/\p.1≠X.env.locals/\p.1∉X.fs/\∀v,p.2.data≠.cell v
 aI:eG X.prog X.w H s.heap
 len:σ.length=X.N.length
section
variable{X:Cx}{pins:List (Addr × Obj)}{σ:List aN}{H H':Hp}{s:Ab}{h':Heap}
theorem Cx.Ok.L6(ok:X.Ok){b:Addr}{o:Obj}(e:X.base.get? b\o):b∉X.fs:=λhb=>by
 have:=(ok.fY.mem hb).1;rw[e] at this;cases this
theorem Inv.bs(I:Inv X pins σ H s):∀b o,X.base.get? b\o->s.heap.get? b\o/\H b=none:=λb o e=>
 #[I.base.keep b o (I.ok.bs b o e).1 (I.ok.bs b o e).2 (I.ok.L6 e) (I.ok.tP b o e),I.base.free b o (I.ok.bs b o e).1 (I.ok.bs b o e).2 (I.ok.tP b o e)]
theorem Inv.bk(I:Inv X pins σ H s):∀b o,X.base.get? b\o->s.heap.get? b\o:=λb o e=>(I.bs b o e).1
theorem Inv.mod(I:Inv X pins σ H s):Mod X.K X.mg X.base:=I.ok.mod
theorem Inv.gr(I:Inv X pins σ H s):X.K.In s.heap:=I.ok.mod.Fo.keeps I.bk
theorem Inv.lt(I:Inv X pins σ H s):X.env.locals<s.heap.objs.size:=let #[_,hn,_]:=I.loc;hn.lt
theorem Inv.sz(I:Inv X pins σ H s):X.cX.heap.objs.size<=s.heap.objs.size:=nC I.ok.above (Nat.le_of_lt I.lt)
theorem Inv.L5(I:Inv X pins σ H s){a:Addr}(h:s.heap.objs.size<=a):a∉X.fs:=λhb=>by
 let#[_,o,ho,_]:=I.ok.fY.mem hb;exact absurd (jj (cy ho) (nC I.sz h)) (xV _)
theorem Inv.vx(I:Inv X pins σ H s):∀x c,X.env.cells.lookup x\c->c≠X.env.locals:=λx c e z=>by
 let#[v,o,ho,hd]:=I.cell x c e;let#[m,#[o',es,ep,iq,gT,_],_]:=I.loc;rw[z,iq] at ho;cases ho;rw[gT] at hd;cases hd
theorem Inv.fY(I:Inv X pins σ H s):s.heap.FunFrames X.base X.outer:=by
 have all:∀(l:List Env),(∀b∈h_ l,b∈X.fs)->X.cX.heap.FunFrames X.base l->s.heap.FunFrames X.base l:=by
  intro l
  induction l with
  |nil=>intro _ _;trivial
  |cons env r ih=>
   intro hs hl;let#[hk,#[L,o,hf,hn,ho,hd],hr]:=hl;have hL:L∈X.fs:=hs L (by unfold h_;rw[List.filterMap_cons,hf];exact fQ);let#[sl,e]:=I.base.slot L o ho (I.ok.xk L hL) hL λz=>I.ok.uu L z hL;exact#[hk,#[L,_,hf,hn,e,hd],ih (λb hb=>hs b (by unfold h_;rw[List.filterMap_cons,hf];exact fb _ hb)) hr]
 exact all X.outer (λ_ hb=>hb) I.ok.fY
theorem Inv.stack(I:Inv X pins σ H s):s.heap.FunFrames X.base X.stack:=by
 rcases I.ok.IM with e|⟨e,hf⟩
 ·rw[e];exact I.fY
 rw[e];let#[m,hn,_]:=I.loc;apply .cons (by rw[I.ok.kind];decide) hf hn ?_ I.fY;exact Heap.get?_none_of_le (nC I.ok.uI I.ok.above)
theorem Inv.iZ(I:Inv X pins σ H s):∀b∈h_ X.stack,b∈X.env.locals::X.fs:=λb hb=>by
 rcases I.ok.IM with e|⟨e,hf⟩
 ·rw[e] at hb;exact fb _ hb
 rw[e] at hb;unfold h_ at hb;rw[List.filterMap_cons,hf] at hb;exact hb
theorem Inv.i4(I:Inv X pins σ H s):∀b∈h_ X.stack,H b=none:=λb hb=>by
 rcases cQ.mp (I.iZ b hb) with e|hb
 ·rw[e];exact I.free
 let#[_,o,ho,_]:=I.ok.fY.mem hb;exact I.base.free b o ho (I.ok.xk b hb) λz=>I.ok.uu b z hb
theorem Inv.step{g':Array GenState}{t':Nat}{d':Drawn}{ch:ai}(I:Inv X pins σ H s)
  (vn:∀b∈ch,(b∈X.ex∨X.cX.heap.objs.size<=b)/\b≠X.env.locals/\(∀x c,X.env.cells.lookup x\c->c≠b)/\∀p∈X.pn++pins,p.1≠b)
  (keep:∀b o,b≠X.env.locals->b∉X.fs->b∉ch->s.heap.get? b\o->H b=none->h'.get? b\o)
  (slot:∀b o,b≠X.env.locals->b∈X.fs->b∉ch->s.heap.get? b\o->H b=none->∃sl,h'.get? b=some { o with slots:=sl }) (free:∀b o,b∉ch->s.heap.get? b\o->H b=none->H' b=none)
  (there:∀b o,b∉ch->s.heap.get? b\o->∃o',h'.get? b\o')
  (g9:∀b xs,H b\.tup xs->H' b\.tup xs) (fZ:∀b o u,H b\.frz o u->H' b\.frz o u) (gM:∀b ps,H b\.tbl ps->∃more,H' b\.tbl (ps++more))
  (ns:∀m,s.heap.Ns X.env.locals m->h'.Ns X.env.locals m) (aI:eG X.prog X.w H' h') (hg:AllBare g') :
  Inv X pins σ H' { s with heap:=h',gens:=g',drawn:=d',toks:=t' }:=by
 have Sg:∀b o,X.cX.heap.get? b\o->b≠X.env.locals:=λb o e=>dZ (jj (cy e) I.ok.above)
 have Jc:∀b o,X.cX.heap.get? b\o->b∉X.ex->b∉ch:=λb o e hx hb=>by
  rcases (vn b hb).1 with z|z
  ·exact hx z
  exact absurd (jj (cy e) z) (xV _)
 have cellK:∀x c,X.env.cells.lookup x\c->∀v,s.heap.IsCell c v->h'.IsCell c v:=λx c e v ⟨o,ho,hd⟩=>by
  have Fe:c∉ch:=λz=>(vn c z).2.2.1 x c e Z;by_cases hc:c∈X.fs
  ·let#[sl,q]:=slot c o (I.vx x c e) hc Fe ho (I.d8 x c e);exact#[_,q,hd]
  exact#[o,keep c o (I.vx x c e) hc Fe ho (I.d8 x c e),hd]
 apply#[I.ok,I.os,hg,#[λb o e n hb hx=>?_,λb o e n hb hx=>?_,λb o e n hx=>?_,λb o e hx=>?_,λb xs e=>g9 b xs (I.base.g9 b xs e),λb o xs e=>fZ b o xs (I.base.fZ b o xs e),λb ps e=>?_],?_,λx c e=>?_,?_,λx c e=>?_,λp hp=>?_,aI,I.len]
 ·exact keep b o (Sg b o e) hb (Jc b o e hx) (I.base.keep b o e n hb hx) (I.base.free b o e n hx)
 ·let#[sl,e1]:=I.base.slot b o e n hb hx;let#[Y4,e2]:=slot b _ (Sg b o e) hb (Jc b o e hx) e1 (I.base.free b o e n hx);exact#[Y4,e2]
 ·let#[o',e1]:=I.base.there b o e hx;exact free b o' (Jc b o e hx) e1 (I.base.free b o e n hx)
 ·let#[o',e1]:=I.base.there b o e hx;exact there b o' (Jc b o e hx) e1
 ·let#[m1,e1]:=I.base.gM b ps e;let#[m2,e2]:=gM b _ e1;exact#[m1++m2,by rw[e2,Array.append_assoc]]
 ·let#[m,hn,hl]:=I.loc;apply#[m,ns m hn,λi x v e1 e2 e3=>?_];let#[u,r,l]:=hl i x v e1 e2 e3;apply#[u,r,?_];rcases l with l|⟨k,c,e,z⟩
  ·exact .inl l
  exact .inr #[k,c,e,cellK x c e _ z]
 ·let#[v,z]:=I.cell x c e;exact#[v,cellK x c e v z]
 ·let#[m,#[o,_,_,ho,_],_]:=I.loc;exact free _ o (λz=>(vn _ z).2.1 Z) ho I.free
 ·let#[v,o,ho,hd]:=I.cell x c e;exact free c o (λz=>(vn c z).2.2.1 x c e Z) ho (I.d8 x c e)
 let#[e,n,ne,nf,d]:=I.pin p hp;have Fe:p.1∉ch:=λz=>(vn p.1 z).2.2.2 p hp Z;exact#[keep p.1 p.2 ne nf Fe e n,free p.1 p.2 Fe e n,ne,nf,d]
theorem Inv.un{t':Nat}(I:Inv X pins σ H s)(u:Un X.fs [] H H' s.heap h')(aI:eG X.prog X.w H' h'):Inv X pins σ H' { s with heap:=h',toks:=t' }:=by
 let#[m,#[o,es,ep,ho,r],_]:=id I.loc;let#[sl,hL]:=u.any ho I.free Z2
 exact I.step (g':=s.gens) (d':=s.drawn) (ch:=[]) (λ_ z=>nomatch z) (λb o _ hb _ e n=>u.keep b o e n hb Z2) (λb o _ hb _ e n=>u.slot b o e n hb Z2) (λb o _ e n=>u.free b o e n Z2) (λb o _ e=>u.there b o e Z2) u.g9 u.fZ u.gM (λm' hm=>by
  let#[o',zq,zr,iq,r']:=hm;rw[ho] at iq;cases iq;exact#[_,zq,zr,hL,r']) aI I.bare
theorem Inv.call{g':Array GenState}{t':Nat}{d':Drawn}{ch:ai}(I:Inv X pins σ H s)(u:Un (h_ X.stack) ch H H' s.heap h')(aI:eG X.prog X.w H' h')(hg:AllBare g')
  (vn:∀b∈ch,(b∈X.ex∨X.cX.heap.objs.size<=b)/\b≠X.env.locals/\(∀x c,X.env.cells.lookup x\c->c≠b)/\∀p∈X.pn++pins,p.1≠b) :
  Inv X pins σ H' { s with heap:=h',gens:=g',drawn:=d',toks:=t' }:=by
 let#[m,#[o,es,ep,ho,r],_]:=id I.loc;let#[sl,hL]:=u.any ho I.free λz=>(vn _ z).2.1 Z
 exact I.step (ch:=ch) vn (λb o hL hb hc e n=>u.keep b o e n (λz=>(cQ.mp (I.iZ b z)).elim hL hb) hc) (λb o _ _ hc e n=>u.any e n hc) (λb o hc e n=>u.free b o e n hc) (λb o hc e=>u.there b o e hc) u.g9 u.fZ u.gM (λm' hm=>by
  let#[o',zq,zr,iq,r']:=hm;rw[ho] at iq;cases iq;exact#[_,zq,zr,hL,r']) aI hg
theorem Inv.turned{t':Nat}{it:Addr}(I:Inv X pins σ H s)(k:∀b o,b≠it->s.heap.get? b\o->h'.get? b\o)(hn:H it=none)(hL:it≠X.env.locals)
  (h1:it∈X.ex∨X.cX.heap.objs.size<=it) (h2:∀x c,X.env.cells.lookup x\c->c≠it) (h3:∀p∈X.pn++pins,p.1≠it):Inv X pins σ H { s with heap:=h',toks:=t' }:=by
 have Sf:∀b u,H b\u->b≠it:=λb u e z=>by rw[z,hn] at e;cases e
 apply I.step (g':=s.gens) (d':=s.drawn) (ch:=[it]) (λb hb=>?_) (λb o _ _ hc e _=>k b o (λz=>hc (by simp[z])) e) (λb o _ _ hc e _=>#[o.slots,k b o (λz=>hc (by simp[z])) e]) (λ_ _ _ _ n=>n)
  (λb o hc e=>#[o,k b o (λz=>hc (by simp[z])) e]) (λ_ _ e=>e) (λ_ _ _ e=>e) (λb ps e=>#[#[],by rw[e];simp]) (λm hm=>?_) (λb u e=>?_) I.bare
 ·have e:b=it:=⇑hb
  subst e;exact#[h1,hL,h2,h3]
 ·let#[o,es,ep,ho,r]:=hm;exact#[o,es,ep,k _ o (Ne.symm hL) ho,r]
 apply (I.aI b u e).d5 (λc v hc q=>k c v ?_ q) (λ_ q=>q) λ_ _ q=>q;rcases hc with z|z
 ·rw[z];exact Sf b u e
 exact Sf c _ z
theorem Inv.tok(I:Inv X pins σ H s)(t:Nat):Inv X pins σ H { s with toks:=t }:=I.un (h':=s.heap) (t':=t) Un.refl I.aI
theorem Inv.kept{t':Nat}(I:Inv X pins σ H s)(k:∀b u,s.heap.get? b\u->h'.get? b\u):Inv X pins σ H { s with heap:=h',toks:=t' }:=I.un (Un.kept k) (I.aI.kept k)
theorem Inv.laid{a:Addr}{o:HO}{t':Nat}(I:Inv X pins σ H s)(k:∀b u,s.heap.get? b\u->h'.get? b\u)(hp:s.heap.objs.size<=a)(new:eC X.prog X.w (upd H a o) h' a o) :
  Inv X pins σ (upd H a o) { s with heap:=h',toks:=t' }:=I.un (Un.laid k hp (I.aI.fresh hp)) (I.aI.laid k hp new)
theorem Inv.write{x e:Addr}{o:HO}{t':Nat}(I:Inv X pins σ H s)(mu:Iq (H x))(he:e=x∨H e\.own x)(k:∀b u,b≠e->s.heap.get? b\u->h'.get? b\u)(CY:∃u,h'.get? e\u)
  (new:eC X.prog X.w (upd H x o) h' x o):Inv X pins σ (upd H x o) { s with heap:=h',toks:=t' }:=I.un (Un.write mu he k CY) (I.aI.write mu he k CY new)
theorem Inv.oF{yJ:List (Addr × Obj)}(I:Inv X pins σ H s)(h:∀p∈yJ,s.heap.get? p.1\p.2/\H p.1=none/\p.1≠X.env.locals/\p.1∉X.fs/\∀v,p.2.data≠.cell v):Inv X yJ σ H s:=
 #[I.ok,I.os,I.bare,I.base,I.loc,I.cell,I.free,I.d8,λp hp=>(gD.mp hp).elim (λz=>I.pin p (List.mem_append_left _ z)) (h p),I.aI,I.len]
theorem UA{N:ae}(hN:N.Nodup){i j:Nat}{x:Str}(a:N[i]? = some x)(b:N[j]? = some x):i=j:=by
 let#[h1,e1]:=cU.mp a;let#[h2,e2]:=cU.mp b;exact (List.getElem_inj hN).mp (e1.trans e2.symm)
theorem Ve{M:Model}{A:Ag}{E:Aa->Ab->Prop}{i:Nat}{x:Str}{v:V}{u:Aa}{Q:Unit->Ab->Prop}(I:Inv X pins σ H s)(hN:X.N.Nodup)(hi:X.N[i]? = some x)(hx:Loc X.env.scope x)(r:RelV v u)
  (h:∀s',Inv X pins (σ.set i (some v)) H s'->(∃a,Heap.SameBut a s.heap s'.heap/\(a=X.env.locals∨X.env.cells.lookup x\a))->Q () s') (hf:X.fn x=true∨X.env.scope.names.lookup x\.local:=by first|exact .inl Z|exact .inr Z|assumption):wpAny M A (storeName X.env x u) Q E s:=by
 let#[m,hn,hl]:=id I.loc;have NN:(X.env.scope.kind == .class || (X.env.scope.kind == .module&&X.env.locals != X.env.globals))=false:=by rw[I.ok.kind];rfl
 have Gf:i<σ.length:=by rw[I.len];exact (cU.mp hi).1
 let vx:=I.vx
 have tracked:∀{a:Addr} {h':Heap},(∃o,s.heap.get? a\o/\H a=none)->Heap.SameBut a s.heap h'->eG X.prog X.w H h':=λ{a h'} ha hs b ob e=>by
  let#[_,_,ze]:=ha;apply (I.aI b ob e).d5 (λc w' hc q=>(hs.2 c ?_).trans q) (λ_ q=>q) λ_ _ q=>q;rintro rfl;rcases hc with rfl|hc
  ·rw[ze] at e;cases e
  rw[ze] at hc;cases hc
 rcases hx with hk|hk
 ·apply wpAny_storeName_local hk hn (λh' Be hs=>?_) NN;let#[oL,_,_,Jp,_]:=id hn;apply h _ #[I.ok,I.os,I.bare,#[λb o e n hb hx=>?_,λb o e n hb hx=>?_,I.base.free,λb o e hx=>?_,I.base.g9,I.base.fZ,I.base.gM],#[_,Be,λj y v' e1 e2 e3=>?_],λy c e=>?_,I.free,I.d8,λp hp=>?_,tracked #[oL,Jp,I.free] hs,by simpa using I.len] #[_,hs,.inl Z]
  ·exact (hs.2 b (dZ (jj (cy e) I.ok.above))).trans (I.base.keep b o e n hb hx)
  ·let#[sl,e1]:=I.base.slot b o e n hb hx;exact#[sl,(hs.2 b (dZ (jj (cy e) I.ok.above))).trans e1]
  ·let#[o',e1]:=I.base.there b o e hx;exact#[o',(hs.2 b (dZ (jj (cy e) I.ok.above))).trans e1]
  ·by_cases hj:j=i
   ·subst hj;rw[hi] at e1;cases e1;rw[List.getElem?_set_self Gf] at e2;cases e2;exact#[u,r,.inl #[hk,by simp]]
   rw[List.getElem?_set_ne (Ne.symm hj)] at e2;let#[u',r',q]:=hl j y v' e1 e2 e3;apply#[u',r',?_];rcases q with⟨k,e⟩|⟨k,c,e,z⟩
   ·apply .inl #[k,?_];have:y≠x:=λe=>hj (UA hN e1 (e▸hi));simp[this,e]
   exact .inr #[k,c,e,z.sameBut hs (vx y c e)]
  ·let#[w',z]:=I.cell y c e;exact#[w',z.sameBut hs (vx y c e)]
  let#[e,n,ne,nf,d]:=I.pin p hp;exact#[(hs.2 p.1 ne).trans e,n,ne,nf,d]
 have Nz:X.fn x=true:=by
  rcases hf with z|z
  ·exact z
  rw[z] at hk;cases hk
 let#[c,hc]:=I.ok.has x (.inl hk);let#[w',z]:=I.cell x c hc;apply wpAny_storeName_cell I.ok.kind hk hc z (λh' C0 hs=>?_);let#[oc,FX,MW]:=id z;apply h { s with heap:=h' } #[I.ok,I.os,I.bare,#[λb o e n hb hx=>?_,λb o e n hb hx=>?_,I.base.free,λb o e hx=>?_,I.base.g9,I.base.fZ,I.base.gM],#[m,hn.sameBut hs (Ne.symm (vx x c hc)),λj y v' e1 e2 e3=>?_],λy c' e=>?_,I.free,I.d8,λp hp=>?_,tracked #[oc,FX,I.d8 x c hc] hs,by simpa using I.len] #[c,hs,.inr hc]
 ·exact (hs.2 b (dZ (jj (cy e) (I.ok.DC x c Nz hc)))).trans (I.base.keep b o e n hb hx)
 ·let#[sl,e1]:=I.base.slot b o e n hb hx;exact#[sl,(hs.2 b (dZ (jj (cy e) (I.ok.DC x c Nz hc)))).trans e1]
 ·let#[o',e1]:=I.base.there b o e hx;exact#[o',(hs.2 b (dZ (jj (cy e) (I.ok.DC x c Nz hc)))).trans e1]
 ·by_cases hj:j=i
  ·subst hj;rw[hi] at e1;cases e1;rw[List.getElem?_set_self Gf] at e2;cases e2;exact#[u,r,.inr #[.inl hk,c,hc,C0]]
  rw[List.getElem?_set_ne (Ne.symm hj)] at e2;let#[u',r',q]:=hl j y v' e1 e2 e3;apply#[u',r',?_];rcases q with q|⟨k,c',e,z'⟩
  ·exact .inl q
  apply .inr #[k,c',e,z'.sameBut hs ?_];rintro rfl;exact hj (UA hN e1 (I.ok.inj _ _ _ e hc▸hi))
 ·by_cases TQ:c'=c
  ·subst TQ;exact#[_,C0]
  let#[w2,z2]:=I.cell y c' e;exact#[w2,z2.sameBut hs TQ]
 let#[e,n,ne,nf,d]:=I.pin p hp;apply#[(hs.2 p.1 ?_).trans e,n,ne,nf,d];intro q;rw[q,FX] at e;have q':oc=p.2:=dY e;exact d w' (by rw[<- q'];exact MW)
theorem KF{M:Model}{A:Ag}{E:Aa->Ab->Prop}{i:Nat}{x:Str}{v:V}{u:Aa}{Q:Unit->Ab->Prop}(I:Inv X pins σ H s)(hN:X.N.Nodup)(hi:X.N[i]? = some x)(hx:Loc X.env.scope x)(r:RelV v u)
  (h:∀s',Inv X pins (σ.set i (some v)) H s'->Q () s') (hf:X.fn x=true∨X.env.scope.names.lookup x\.local:=by first|exact .inl Z|exact .inr Z|assumption):wpAny M A (storeName X.env x u) Q E s:=
 Ve I hN hi hx r (λs' I' _=>h s' I') hf
theorem Inv.zE{s':Ab}{ch:ai}(I:Inv X pins σ H s)(ho:s'.os=s.os)(u:Un (h_ X.stack) ch H H' s.heap s'.heap)(aI:eG X.prog X.w H' s'.heap)(hg:AllBare s'.gens)
  (vn:∀b∈ch,(b∈X.ex∨X.cX.heap.objs.size<=b)/\b≠X.env.locals/\(∀x c,X.env.cells.lookup x\c->c≠b)/\∀p∈X.pn++pins,p.1≠b):Inv X pins σ H' s':=by
 let#[h',g',d',t',o']:=s';have e:o'=s.os:=ho;subst e;exact I.call (g':=g') (t':=t') (d':=d') u aI hg vn
end
abbrev XK:=Aa->Option Addr->Hp->Prop
abbrev St:=List aN
abbrev VK:=V->Hp->Prop
abbrev TE:=St->Hp->VK->Prop
abbrev TT:=St->Hp->(Bool->Hp->Prop)->Prop
abbrev TA:=St->Hp->(ag->Hp->Prop)->Prop
structure Ends where
 nx:St->Hp->Prop
 rt:VK
 bk:St->Hp->Prop:=λ_ _=>False
 ct:St->Hp->Prop:=λ_ _=>False
abbrev TS:=Ends->St->Hp->Prop
def EP(X:Cx)(pins:List (Addr × Obj))(σ:St)(Q:VK)(u:Aa)(s':Ab):Prop:=∃v H',Inv X pins σ H' s'/\RelV v u/\Q v H'
def TP(X:Cx)(pins:List (Addr × Obj))(σ:St)(Q:Bool->Hp->Prop)(b:Bool)(s':Ab):Prop:=∃H',Inv X pins σ H' s'/\Q b H'
def AP(X:Cx)(pins:List (Addr × Obj))(σ:St)(Q:ag->Hp->Prop)(us:aj)(s':Ab):Prop:=∃vs H',Inv X pins σ H' s'/\Vals vs us/\Q vs H'
def SP(X:Cx)(pins:List (Addr × Obj))(D:Ends)(f:Flow)(s':Ab):Prop:=
 match f with
 |.next=>∃bq H',Inv X pins bq H' s'/\D.nx bq H'
 |.brk=>∃bq H',Inv X pins bq H' s'/\D.bk bq H'
 |.cont=>∃bq H',Inv X pins bq H' s'/\D.ct bq H'
 |.ret u=>∃v bq H',Inv X pins bq H' s'/\RelV v u/\D.rt v H'
def PE(X:Cx)(e:Expr)(t:TE):Prop:=
 ∀(pins:List (Addr × Obj)) (s:Ab) (σ:St) (H:Hp) (Q:VK),Inv X pins σ H s->t σ H Q->wpAny (model X.prog X.w) X.A (eval e X.env) (EP X pins σ Q) X.xe s
def PT(X:Cx)(e:Expr)(t:TT):Prop:=
 ∀(pins:List (Addr × Obj)) (s:Ab) (σ:St) (H:Hp) (Q:Bool->Hp->Prop),Inv X pins σ H s->t σ H Q->wpAny (model X.prog X.w) X.A (isTrue e X.env (eval e X.env)) (TP X pins σ Q) X.xe s
def PW(X:Cx)(e:Expr)(t:TT):Prop:=
 ∀(whole:Sem Aa) (pins:List (Addr × Obj)) (s:Ab) (σ:St) (H:Hp) (Q:Bool->Hp->Prop),Inv X pins σ H s->t σ H Q->wpAny (model X.prog X.w) X.A (isTrue e X.env whole) (TP X pins σ Q) X.xe s
theorem PW.pt{X:Cx}{e:Expr}{t:TT}(h:PW X e t):PT X e t:=h _
def PA(X:Cx)(es:List Expr)(t:TA):Prop:=
 ∀(pos:Pos) (pins:List (Addr × Obj)) (s:Ab) (σ:St) (H:Hp) (Q:ag->Hp->Prop),Inv X pins σ H s->t σ H Q->wpAny (model X.prog X.w) X.A (spliced (backTo pos (starEach es X.env))) (AP X pins σ Q) X.xe s
def PS(X:Cx)(st:Stmt)(t:TS):Prop:=
 ∀(pins:List (Addr × Obj)) (s:Ab) (σ:St) (H:Hp) (D:Ends),Inv X pins σ H s->t D σ H->wpAny (model X.prog X.w) X.A (exec st X.env) (SP X pins D) X.xe s
def lA(X:Cx)(st:List Stmt)(t:TS):Prop:=
 ∀(pins:List (Addr × Obj)) (s:Ab) (σ:St) (H:Hp) (D:Ends),Inv X pins σ H s->t D σ H->wpAny (model X.prog X.w) X.A (execs st X.env) (SP X pins D) X.xe s
theorem aV{α:Type}{t:Sem α}{Q Q':α->Ab->Prop}{M:Model}{A:Ag}{E:Aa->Ab->Prop}{s:Ab}(h:wpAny M A t Q E s)(hQ:∀a s,Q a s->Q' a s):wpAny M A t Q' E s:=wpAny_mono h hQ λ_ _ x=>x
end L2
abbrev iL:=L2.St->L2.Hp->Prop
namespace L2
open PySem PySem.Spec PyProof.Rows
section
variable{X:Cx}
inductive qT (i:Nat) (σ:St) (H:Hp) (Q:VK):Prop
 |mk:∀v,σ[i]? = some (some v)->Q v H->qT i σ H Q
def tC(v:V):TE:=λ_ H Q=>Q v H
theorem lG_{i:Nat}{x:Str}{pos:Pos}(hN:X.N[i]? = some x)(hv:Q5 X.env.scope x)(hd:(x == ("__debug__":Str))=false:=by decide)(hZ:(x == ("__classdict__":Str))=false:=by decide):PE X (.Name x pos) (qT i):=by
 intro pins s σ H Q I h;let#[v,e,h]:=h;let#[m,hn,hl]:=I.loc;let#[u,r,l]:=hl i x v hN e hv;have fin:EP X pins σ Q u s:=#[v,H,I,r,h];rcases l with⟨hk,hm⟩|⟨hk,c,hc,oP⟩
 ·exact wpAny_Name (wpAny_loadName_local I.ok.kind hk hn hm fin) hd
 rcases hk with hk|hk
 ·exact wpAny_Name (wpAny_loadName_cell I.ok.kind hk hc oP fin) hd
 exact wpAny_Name (wpAny_loadName_free I.ok.kind hk hc oP fin hZ) hd
theorem az{i j pos}:PE X (.Constant (.int i) j pos) (tC (.int i)):=λ_ _ _ H _ I h=>wpAny_Constant_int #[.int i,H,I.tok _,#[_,Z],h]
theorem qz{b j pos}:PE X (.Constant (.bool b) j pos) (tC (.bl b)):=λ_ _ _ H _ I h=>Constant_bool #[.bl b,H,I,Z,h]
theorem zy{j pos}:PE X (.Constant .none j pos) (tC .non):=λ_ _ _ H _ I h=>Constant_none #[.non,H,I,Z,h]
theorem ck{x j pos}:PE X (.Constant (.str x) j pos) (tC (.str x)):=λ_ _ _ H _ I h=>Calls.Constant_str #[.str x,H,I.tok _,#[_,Z],h]
def Gl(X:Cx)(x:Str):Prop:=X.env.kindOf x=some .globalImplicit
theorem OU{E:Aa->Ab->Prop}{pins:List (Addr × Obj)}{s:Ab}{σ:St}{H:Hp}{x:Str}{u:Aa}{pos:Pos}{Q:Aa->Ab->Prop}(I:Inv X pins σ H s)(hg:Gl X x)(hm:X.mg x\u)(h:Q u s)
  (hd:(x == ("__debug__":Str))=false:=by decide):wpAny (model X.prog X.w) X.A (eval (.Name x pos) X.env) Q E s:=
 Calls.Name_function_global I.ok.kind hg (Calls.loadGlobal_global (by rw[I.ok.glob];exact I.mod.glob.keeps I.bk) hm h) hd
theorem Dq{E:Aa->Ab->Prop}{pins:List (Addr × Obj)}{s:Ab}{σ:St}{H:Hp}{x:Str}{u:Aa}{pos:Pos}{Q:Aa->Ab->Prop}(I:Inv X pins σ H s)(hg:Gl X x)(hm:X.mg x=none)(hv:bootBuiltins x\u)(h:Q u s)
  (hn:x≠"__name__":=by decide) (hd:(x == ("__debug__":Str))=false:=by decide):wpAny (model X.prog X.w) X.A (eval (.Name x pos) X.env) Q E s:=by
 let#[mb,h1,h2]:=I.mod.blt;exact Calls.Name_function_global I.ok.kind hg (Calls.loadGlobal_builtin (by rw[I.ok.glob];exact I.mod.glob.keeps I.bk) hm (by rw[I.ok.blt];exact h1.keeps I.bk) ((h2 x hn).trans hv) h) hd
theorem xM{x:Str}{v:V}{u:Aa}{pos:Pos}(hg:Gl X x)(hm:X.mg x\u)(r:RelV v u)(hd:(x == ("__debug__":Str))=false:=by decide):PE X (.Name x pos) (tC v):=
 λ_ _ _ H _ I h=>OU I hg hm #[v,H,I,r,h] hd
theorem iU{x:Str}{v:V}{u:Aa}{pos:Pos}(hg:Gl X x)(hm:X.mg x=none)(hv:bootBuiltins x\u)(r:RelV v u)(hn:x≠"__name__":=by decide)(hd:(x == ("__debug__":Str))=false:=by decide):PE X (.Name x pos) (tC v):=
 λ_ _ _ H _ I h=>Dq I hg hm hv #[v,H,I,r,h] hn hd
variable{a b:Expr}{ta tb:TE}{pos:Pos}
def PC(X:Cx)(op:CmpOp)(a b:Expr)(t:TE):Prop:=
 ∀(pins:List (Addr × Obj)) (s:Ab) (σ:St) (H:Hp) (Q:VK),Inv X pins σ H s->t σ H Q->
  wpAny (model X.prog X.w) X.A (eval a X.env) (λv aZ=>wpAny (model X.prog X.w) X.A (eval b X.env) (λu iB=>wpAny (model X.prog X.w) X.A (compareOp op v u) (EP X pins σ Q) X.xe iB) X.xe aZ) X.xe s
theorem jQ(b:Expr){op:CmpOp}(h:op≠.In)(h2:op≠.NotIn):behindInMarks op b=false:=by
 have e1:(op == CmpOp.In)=false:=by cases op<;>first|rfl|exact absurd Z h
 have e2:(op == CmpOp.NotIn)=false:=by cases op<;>first|rfl|exact absurd Z h2
 cases b<;>simp[behindInMarks,e1,e2]
def Ln(ta:TE):TE:=λσ H Q=>ta σ H λx H1=>Q (.bl (decide (x=.non))) H1
theorem RelV.tN{x:V}{v:Aa}(r:RelV x v):(v == Value.none)=decide (x=.non):=by
 cases x with
 |non=>cases r;rfl
 |bl _=>cases r;rfl
 |int _=>let#[t,rfl]:=r;rfl
 |str _=>let#[t,rfl]:=r;rfl
 |byt _=>let#[t,rfl]:=r;rfl
 |flt _=>let#[t,rfl]:=r;rfl
 |ref _=>cases r;rfl
 |ty _=>cases r;rfl
theorem JD{j pos'}(ha:PE X a ta):PC X .Is a (.Constant .none j pos') (Ln ta):=by
 intro pins s σ H Q I h;apply aV (ha pins s σ H _ I h) λv s1 ⟨x,H1,I1,r1,q1⟩=>?_;exact Constant_none (is_none_gen #[.bl _,H1,I1,by rw[r1.tN];rfl,q1])
inductive RO (Q:Bool->Hp->Prop) (x:V) (H1:Hp):Prop
 |mk:∀c,x=.bl c->Q c H1->RO Q x H1
def tB(t:TE):TT:=λσ H Q=>t σ H λx H1=>RO Q x H1
theorem GN{op:CmpOp}{t:TE}(h:PC X op a b t)(h1:behindInMarks op b=false:=by first|exact jQ _ (by decide) (by decide)|rfl):PE X (.Compare a [op] [b] pos) t:=λpins s σ H Q I hw=>wpAny_Compare1 (h pins s σ H Q I hw) h1
theorem xv{op:CmpOp}{t:TE}(h:PC X op a b t)(h1:behindInMarks op b=false:=by first|exact jQ _ (by decide) (by decide)|rfl):PT X (.Compare a [op] [b] pos) (tB t):=by
 intro pins s σ H Q I hw;apply wpAny_isTrue_Compare1 (aV (h pins s σ H _ I hw) λv s1 h1=>aV h1 λu s2 h2=>aV h2 λc s3 ⟨x,H1,I1,r1,q1⟩=>?_) h1;let#[d,rfl,q]:=q1;cases r1;exact qw #[H1,I1,q]
theorem dF{e:Expr}{t:TE}(h:PE X e t)(he:∀whole,isTrue e X.env whole=(do let v <- whole;standAt e.pos;holding [v] (truthy v)):=by intro _;rfl):PT X e (tB t):=by
 intro pins s σ H Q I hw;apply isTrue_plain (aV (h pins s σ H _ I hw) λv s1 ⟨x,H1,I1,r1,q1⟩=>?_) (he _);let#[d,rfl,q]:=q1;cases r1;exact qw #[H1,I1,q]
variable{tA II:TT}{rest:List Expr}
def Ls(t u:TT):TT:=λσ H Q=>t σ H λc H1=>if c=true then u σ H1 Q else Q false H1
def YE(t u:TT):TT:=λσ H Q=>t σ H λc H1=>if c=true then Q true H1 else u σ H1 Q
def Lk(t:TT):TT:=λσ H Q=>t σ H λc H1=>Q (!c) H1
theorem zI(ha:PT X a tA):PW X (.BoolOp .And [a] pos) tA:=by
 intro wh pins s σ H Q I h;apply isTrue_and (aV (ha pins s σ H Q I h) λc s1 e=>?_);cases c with
 |true=>exact isTrue_and_nil e
 |false=>exact e
theorem uL(ha:PT X a tA):PW X (.BoolOp .Or [a] pos) tA:=by
 intro wh pins s σ H Q I h;apply isTrue_or (aV (ha pins s σ H Q I h) λc s1 e=>?_);cases c with
 |false=>exact isTrue_or_nil e
 |true=>exact e
theorem xG(ha:PT X a tA)(hb:PW X (.BoolOp .And (b::rest) pos) II):PW X (.BoolOp .And (a::b::rest) pos) (Ls tA II):=by
 intro wh pins s σ H Q I h;apply isTrue_and (aV (ha pins s σ H _ I h) λc s1 ⟨H1,I1,q1⟩=>?_);cases c with
 |true=>exact hb wh pins s1 σ H1 Q I1 q1
 |false=>exact#[H1,I1,q1]
theorem uA(ha:PT X a tA)(hb:PW X (.BoolOp .Or (b::rest) pos) II):PW X (.BoolOp .Or (a::b::rest) pos) (YE tA II):=by
 intro wh pins s σ H Q I h;apply isTrue_or (aV (ha pins s σ H _ I h) λc s1 ⟨H1,I1,q1⟩=>?_);cases c with
 |true=>exact#[H1,I1,q1]
 |false=>exact hb wh pins s1 σ H1 Q I1 q1
theorem eF(ha:PT X a tA):PT X (.UnaryOp .Not a pos) (Lk tA):=by
 intro pins s σ H Q I h;exact isTrue_not (ha pins s σ H (λc H1=>Q (!c) H1) I h)
inductive rq (tb:TE) (σ:St) (Q:VK) (x:V) (H1:Hp):Prop
 |mk:∀c,x=.bl c->(if c=true then tb σ H1 Q else Q (.bl false) H1)->rq tb σ Q x H1
def Es(ta tb:TE):TE:=λσ H Q=>ta σ H λx H1=>rq tb σ Q x H1
inductive yf (tb:TE) (σ:St) (Q:VK) (x:V) (H1:Hp):Prop
 |mk:∀c,x=.bl c->(if c=true then Q (.bl true) H1 else tb σ H1 Q)->yf tb σ Q x H1
def Lj(ta tb:TE):TE:=λσ H Q=>ta σ H λx H1=>yf tb σ Q x H1
inductive qX (Q:VK) (x:V) (H1:Hp):Prop
 |mk:∀c,x=.bl c->Q (.bl (!c)) H1->qX Q x H1
def Ei(ta:TE):TE:=λσ H Q=>ta σ H λx H1=>qX Q x H1
theorem kK{op}{t:TE}(h:PE X a t):PE X (.BoolOp op [a] pos) t:=λpins s σ H Q I hw=>BoolOp_one (h pins s σ H Q I hw)
theorem kL(ha:PE X a ta)(hb:PE X (.BoolOp .And (b::rest) pos) tb):PE X (.BoolOp .And (a::b::rest) pos) (Es ta tb):=by
 intro pins s σ H Q I h;apply BoolOp_and (aV (ha pins s σ H _ I h) λv s1 ⟨x,H1,I1,r1,q1⟩=>?_);let#[c,rfl,q1]:=q1;cases r1;apply qw ?_;cases c with
 |true=>exact hb pins s1 σ H1 Q I1 q1
 |false=>exact#[.bl false,H1,I1,Z,q1]
theorem Su(ha:PE X a ta)(hb:PE X (.BoolOp .Or (b::rest) pos) tb):PE X (.BoolOp .Or (a::b::rest) pos) (Lj ta tb):=by
 intro pins s σ H Q I h;apply BoolOp_or (aV (ha pins s σ H _ I h) λv s1 ⟨x,H1,I1,r1,q1⟩=>?_);let#[c,rfl,q1]:=q1;cases r1;apply qw ?_;cases c with
 |false=>exact hb pins s1 σ H1 Q I1 q1
 |true=>exact#[.bl true,H1,I1,Z,q1]
theorem SH(ha:PE X a ta):PE X (.UnaryOp .Not a pos) (Ei ta):=by
 intro pins s σ H Q I h;apply UnaryOp_ (aV (ha pins s σ H _ I h) λv s1 ⟨x,H1,I1,r1,q1⟩=>?_);let#[c,rfl,q1]:=q1;cases r1;exact not_of (qw #[.bl (!c),H1,I1,Z,q1])
def YF(t:TT)(ta tb:TE):TE:=λσ H Q=>t σ H λc H1=>if c=true then ta σ H1 Q else tb σ H1 Q
theorem UK{c:Expr}(hc:PT X c tA)(ha:PE X a ta)(hb:PE X b tb):PE X (.IfExp c a b pos) (YF tA ta tb):=by
 intro pins s σ H Q I h;apply wpAny_IfExp (aV (hc pins s σ H _ I h) λd s1 ⟨H1,I1,q1⟩=>?_);cases d with
 |true=>exact ha pins s1 σ H1 Q I1 q1
 |false=>exact hb pins s1 σ H1 Q I1 q1
end
end L2
namespace L2
open PySem PySem.Spec PyProof.Rows
def dM(K:af)(H:Hp)(a:Addr)(xs:ag):Prop:=
 Rd H a (.lst xs) ∨
  ∃(o:Obj) (its:Array Aa) (n:Nat),K.lookup a\o/\o.cls=.type "list"/\o.dict=none/\o.data=.seq its n/\its.size<=sizeLine/\Vals xs its.toList
def gL(K:af)(H:Hp)(a:Addr)(xs:ag):Prop:=
 Rd H a (.tup xs) ∨
  ∃(o:Obj) (its:Array Aa) (n:Nat),K.lookup a\o/\o.cls=.type "tuple"/\o.data=.seq its n/\its.size<=sizeLine/\Vals xs its.toList
def Q4:Aa->aN
 |.none=>some .non
 |.bool b=>some (.bl b)
 |.int i _=>some (.int i)
 |.str x _=>some (.str x)
 |.bytes b _=>some (.byt b)
 |.float b _=>some (.flt b)
 |.ref a=>some (.ref a)
 |.type n=>some (.ty n)
 |_=>none
theorem RelV.abs{x:V}{u:Aa}(r:RelV x u):Q4 u\x:=by
 cases x with
 |non=>cases r;rfl
 |bl _=>cases r;rfl
 |int _=>let#[t,rfl]:=r;rfl
 |str _=>let#[t,rfl]:=r;rfl
 |byt _=>let#[t,rfl]:=r;rfl
 |flt _=>let#[t,rfl]:=r;rfl
 |ref _=>cases r;rfl
 |ty _=>cases r;rfl
theorem RelV.inj{x y:V}{u:Aa}(r:RelV x u)(q:RelV y u):x=y:=dY (r.abs.symm.trans q.abs)
theorem Vals.inj:∀{xs ys:ag} {us:aj},Vals xs us->Vals ys us->xs=ys
 |_,_,_,.nil,.nil=>rfl
 |_,_,_,.cons r t,.cons r' t'=>by rw[r.inj r',Vals.inj t t']
section
variable{X:Cx}{pins:List (Addr × Obj)}{σ:St}{H:Hp}{s:Ab}{a:Addr}{xs ys:ag}
theorem dM.of{K:af}(h:H a\.lst xs):dM K H a xs:=.inl (.inl h)
theorem gL.of{K:af}(h:H a\.tup xs):gL K H a xs:=.inl (.inl h)
theorem Inv.list(I:Inv X pins σ H s)(h:dM X.K H a xs):∃its:aj,Vals xs its/\PlainL s.heap a its.toArray/\xs.length<=sizeLine:=by
 rcases h with h|⟨o,its,n,hk,hc,hd,hs,hz,r⟩
 ·let#[z,its,n,r,e]:=h.ok I.aI;exact#[its,r,#[_,n,e,Z,Z,Z],z]
 apply#[its.toList,r,#[o,n,I.gr a o hk,hc,hd,by simpa using hs],?_];let e:=r.length;simp only[qJ] at e;omega
theorem Inv.tuple(I:Inv X pins σ H s)(h:gL X.K H a xs):∃its:aj,Vals xs its/\IsTup s.heap a its.toArray/\xs.length<=sizeLine:=by
 rcases h with h|⟨o,its,n,hk,hc,hs,hz,r⟩
 ·let#[z,its,r,p,_]:=h.ok I.aI;exact#[its,r,p,z]
 apply#[its.toList,r,#[o,I.gr a o hk,hc,n,by simpa using hs],?_];let e:=r.length;simp only[qJ] at e;omega
theorem Inv.jR(I:Inv X pins σ H s)(h:dM X.K H a xs)(h':dM X.K H a ys):xs=ys:=by
 let#[its,r,#[o,n,e,_,_,d],_]:=I.list h;let#[its',r',#[o',n',e',_,_,d'],_]:=I.list h';rw[e] at e';cases e';rw[d] at d'
 injection d' with d1 _
 have:its=its':=⇑(d9 Array.toList d1)
 subst this;exact r.inj r'
theorem Inv.eV(I:Inv X pins σ H s)(h:gL X.K H a xs)(h':gL X.K H a ys):xs=ys:=by
 let#[its,r,#[o,e,_,n,d],_]:=I.tuple h;let#[its',r',#[o',e',_,n',d'],_]:=I.tuple h';rw[e] at e';cases e';rw[d] at d'
 injection d' with d1 _
 have:its=its':=⇑(d9 Array.toList d1)
 subst this;exact r.inj r'
end
abbrev Cx.iA(X:Cx)(E:Aa->Ab->Prop):Cx:={ X with xe:=E }
abbrev Cx.AS(X:Cx):Cx:=X.iA λ_ _=>False
theorem Cx.Ok.iA{X:Cx}(ok:X.Ok)(E:Aa->Ab->Prop):(X.iA E).Ok:=
 #[ok.mod,ok.kind,ok.glob,ok.blt,ok.above,ok.inj,ok.has,ok.DC,ok.hd,ok.frames,ok.IM,ok.JO,ok.bs,ok.uI,ok.tP,ok.uu,ok.fY,ok.xk]
theorem Cx.Ok.eK{X:Cx}{E:Aa->Ab->Prop}(ok:(X.iA E).Ok):X.Ok:=
 #[ok.mod,ok.kind,ok.glob,ok.blt,ok.above,ok.inj,ok.has,ok.DC,ok.hd,ok.frames,ok.IM,ok.JO,ok.bs,ok.uI,ok.tP,ok.uu,ok.fY,ok.xk]
section
variable{X:Cx}{pins:List (Addr × Obj)}{σ:St}{H:Hp}{s:Ab}{E:Aa->Ab->Prop}
theorem Inv.iA(I:Inv X pins σ H s)(E:Aa->Ab->Prop):Inv (X.iA E) pins σ H s:=#[I.ok.iA E,I.os,I.bare,I.base,I.loc,I.cell,I.free,I.d8,I.pin,I.aI,I.len]
theorem Inv.eK(I:Inv (X.iA E) pins σ H s):Inv X pins σ H s:=#[I.ok.eK,I.os,I.bare,I.base,I.loc,I.cell,I.free,I.d8,I.pin,I.aI,I.len]
theorem SP.eK{D:Ends}{f:Flow}{s':Ab}(h:SP (X.iA E) pins D f s'):SP X pins D f s':=by
 cases f with
 |next=>let#[bq,H',I,q]:=h;exact#[bq,H',I.eK,q]
 |brk=>let#[bq,H',I,q]:=h;exact#[bq,H',I.eK,q]
 |cont=>let#[bq,H',I,q]:=h;exact#[bq,H',I.eK,q]
 |ret u=>let#[v,bq,H',I,r,q]:=h;exact#[v,bq,H',I.eK,r,q]
theorem lA.AS{st:List Stmt}{t:TS}(h:lA X.AS st t):lA X st t:=λpins s σ H D I hw=>
 wpAny_mono (h pins s σ H D (I.iA _) hw) (λ_ _ q=>q.eK) λ_ _ z=>False.elim z
end
section
variable{X:Cx}{st:Stmt}{rest:List Stmt}{t u:TS}{e:Expr}{te:TE}{pos:Pos}
def Ej:TS:=λD σ H=>D.nx σ H
def pE(t u:TS):TS:=λD σ H=>t { D with nx:=u D } σ H
theorem bx:lA X [] Ej:=λ_ _ σ H _ I h=>wpAny_execs_nil #[σ,H,I,h]
theorem ax(h1:PS X st t)(h2:lA X rest u):lA X (st::rest) (pE t u):=by
 intro pins s σ H D I h;apply wpAny_execs_cons (aV (h1 pins s σ H { D with nx:=u D } I h) λf s1 q=>?_);cases f with
 |next=>
  let#[bq,H',I',q]:=q;exact h2 pins s1 bq H' D I' q
 |ret v=>exact q
 |brk=>exact q
 |cont=>exact q
theorem aC(h1:PS X st t):lA X [st] t:=by
 intro pins s σ H D I h;apply wpAny_execs_cons (aV (h1 pins s σ H D I h) λf s1 q=>?_);cases f with
 |next=>exact wpAny_execs_nil q
 |ret v=>exact q
 |brk=>exact q
 |cont=>exact q
theorem Inv.quiet{pins:List (Addr × Obj)}{σ:St}{H:Hp}{s:Ab}(I:Inv X pins σ H s):interactive X.env=false:=by simp[interactive,I.ok.kind]
def Em(te:TE):TS:=λD σ H=>te σ H λ_ H1=>D.nx σ H1
theorem j_(he:PE X e te)(hs:swapsWith e none pos.line X.env=pure false:=by rfl):PS X (.Expr e pos) (Em te):=by
 intro pins s σ H D I h;exact wpAny_Expr_any (aV (he pins s σ H _ I h) λv s1 ⟨x,H1,I1,r1,q1⟩=>#[σ,H1,I1,q1]) I.quiet hs
def Li(te:TE):TS:=λD σ H=>te σ H D.rt
theorem aY(he:PE X e te):PS X (.Return (some e) pos) (Li te):=by
 intro pins s σ H D I h;exact wpAny_Return_some (aV (he pins s σ H _ I h) λv s1 ⟨x,H1,I1,r1,q1⟩=>#[x,σ,H1,I1,r1,q1])
def Lo(c:TT)(t u:TS):TS:=λD σ H=>c σ H λb H1=>if b=true then t D σ H1 else u D σ H1
theorem bw{c:Expr}{a b:List Stmt}{tc:TT}(hc:PT X c tc)(ha:lA X a t)(hb:lA X b u):PS X (.If c a b pos) (Lo tc t u):=by
 intro pins s σ H D I h;apply wpAny_If (aV (hc pins s σ H _ I h) λd s1 ⟨H1,I1,q1⟩=>?_);cases d with
 |true=>exact ha pins s1 σ H1 D I1 q1
 |false=>exact hb pins s1 σ H1 D I1 q1
def qY:TS:=λ_ _ _=>False
theorem jf_:PS X st qY:=λ_ _ _ _ _ _ h=>h.elim
theorem eE{YH:List Stmt}:lA X YH qY:=λ_ _ _ _ _ _ h=>h.elim
end
abbrev TG:=V->St->Hp->(St->Hp->Prop)->Prop
abbrev xW:=ag->St->Hp->(St->Hp->Prop)->Prop
def PG(X:Cx)(target:Expr)(t:TG):Prop:=
 ∀(pins:List (Addr × Obj)) (s:Ab) (σ:St) (H:Hp) (v:V) (u:Aa) (Q:iL),Inv X pins σ H s->RelV v u->t v σ H Q->
  wpAny (model X.prog X.w) X.A (assign target X.env u) (λ_ s'=>∃bq H',Inv X pins bq H' s'/\Q bq H') X.xe s
def DT(X:Cx)(ts:List Expr)(t:xW):Prop:=
 ∀(pins:List (Addr × Obj)) (s:Ab) (σ:St) (H:Hp) (vs:ag) (us:aj) (Q:iL),Inv X pins σ H s->Vals vs us->t vs σ H Q->
  wpAny (model X.prog X.w) X.A (assignInOrder ((assignEach ts X.env).map (·.2)) us) (λ_ s'=>∃bq H',Inv X pins bq H' s'/\Q bq H') X.xe s
abbrev Cm:=V->V->V->Hp->(Hp->Prop)->Prop
def Ip(X:Cx)(t:Cm):Prop:=
 ∀(pins:List (Addr × Obj)) (s:Ab) (σ:St) (H:Hp) (o i v:V) (ov iv u:Aa) (Q:Hp->Prop),Inv X pins σ H s->RelV o ov->RelV i iv->RelV v u->t o i v H Q->
  wpAny (model X.prog X.w) X.A (setItem ov iv u) (λ_ s'=>∃H',Inv X pins σ H' s'/\Q H') X.xe s
section
variable{X:Cx}{pos:Pos}
def iG(i:Nat):TG:=λv σ H Q=>Q (σ.set i (some v)) H
theorem gg{i:Nat}{x:Str}(hN:X.N.Nodup)(hi:X.N[i]? = some x)(hx:Loc X.env.scope x)(hf:X.fn x=true∨X.env.scope.names.lookup x\.local:=by first|exact .inl Z|exact .inr Z|assumption):PG X (.Name x pos) (iG i):=by
 intro pins s σ H v u Q I r h;exact wpAny_assign_Name (KF I hN hi hx r (λs' I'=>#[_,H,I',h]) hf)
theorem iI:type_of% PyProof.Rows.Boot.«isinstance»:=PyProof.Rows.Boot.«isinstance»
theorem JM:type_of% PyProof.Rows.Boot.«int»:=PyProof.Rows.Boot.«int»
theorem Dr:type_of% PyProof.Rows.Boot.«str»:=PyProof.Rows.Boot.«str»
theorem vE:type_of% PyProof.Rows.Boot.«tuple»:=PyProof.Rows.Boot.«tuple»
theorem zK:type_of% PyProof.Rows.Boot.«list»:=PyProof.Rows.Boot.«list»
theorem Kp:type_of% PyProof.Rows.Boot.«sorted»:=PyProof.Rows.Boot.«sorted»
theorem uJ:type_of% PyProof.Rows.Boot.«dict»:=PyProof.Rows.Boot.«dict»
theorem Dt:type_of% PyProof.Rows.Boot.«max»:=PyProof.Rows.Boot.«max»
theorem R8(i:Nat){x:Str}(hN:X.N.Nodup:=by first|(show ([_]:List Str).Nodup;decide +kernel)|(show ([_,_]:List Str).Nodup;decide +kernel)|(show ([_,_,_]:List Str).Nodup;decide +kernel)|(show ([_,_,_,_]:List Str).Nodup;decide +kernel))(hi:X.N[i]? = some x:=by rfl)(hx:Loc X.env.scope x:=by first|exact Or.inl Z|exact Or.inr Z)(hf:X.fn x=true∨X.env.scope.names.lookup x\.local:=by first|exact .inl Z|exact .inr Z|assumption):PG X (.Name x pos) (iG i):=gg hN hi hx hf
theorem cq(i:Nat){x:Str}(hN:X.N.Nodup)(hi:X.N[i]? = some x:=by rfl)(hx:Loc X.env.scope x:=by first|exact Or.inl Z|exact Or.inr Z)(hf:X.fn x=true∨X.env.scope.names.lookup x\.local:=by first|exact .inl Z|exact .inr Z|assumption):PG X (.Name x pos) (iG i):=gg hN hi hx hf
def xj:xW:=λvs σ H Q=>vs=[]/\Q σ H
inductive vt (t:TG) (u:xW) (vs:ag) (σ:St) (H:Hp) (Q:iL):Prop
 |mk:∀v r,vs=v::r->(t v σ H λbq H'=>u r bq H' Q)->vt t u vs σ H Q
theorem iT:DT X [] xj:=by
 intro pins s σ H vs us Q I r h;let#[e,h]:=h;subst e;cases r;exact assignInOrder_nil ⟨σ,H,I,h⟩
theorem dD{e:Expr}{es:List Expr}{t:TG}{u:xW}(h1:PG X e t)(h2:DT X es u)
  (hs:(assignEach (e::es) X.env).map (·.2)=assign e X.env::(assignEach es X.env).map (·.2):=by rfl):DT X (e::es) (vt t u):=by
 intro pins s σ H vs us Q I r h;let#[v,vr,e1,h]:=h;subst e1;cases r with
 |cons r rr=>
  rw[hs];apply assignInOrder_cons (aV (h1 pins s σ H _ _ _ I r h) λ_ s1 ⟨nK,H1,I1,q1⟩=>?_);exact h2 pins s1 nK H1 _ _ Q I1 rr q1
inductive ja (K:af) (n:Nat) (t:xW) (v:V) (σ:St) (H:Hp) (Q:iL):Prop
 |mk:∀a xs,v=.ref a->gL K H a xs->xs.length=n->t xs σ H Q->ja K n t v σ H Q
theorem kJ{es:List Expr}{k:Nat}{t:xW}{n:Nat}(hc:X.calm=true)(h:DT X es t)
  (hn:(assignEach es X.env).length=n:=by rfl) (wQ:(assignEach es X.env).findIdx? (·.1)=none:=by rfl):PG X (.Tuple es k pos) (ja X.K n t):=by
 intro pins s σ H v u Q I r hw;let#[a,xs,e1,hq,hl,hw]:=hw;subst e1;cases r;let#[its,rv,ht,hz]:=I.tuple hq;apply assign_Tuple_tuple (I.ok.hd hc) ht (by simp[hn,<- hl,rv.length]) wQ λh' hx=>?_;have I1:Inv X pins σ H { s with heap:=h' }:=I.kept (t':=s.toks) λb o e=>hx b o (dZ (cy e)) e;exact h pins _ σ H xs _ Q I1 ⇑rv hw
def N5(to ti:TE)(t:Cm):TG:=λv σ H Q=>to σ H λo H1=>ti σ H1 λi H2=>t o i v H2 λH3=>Q σ H3
theorem ND{o i:Expr}{to ti:TE}{t:Cm}(ho:PE X o to)(hi:PE X i ti)(hs:Ip X t)
  (ha:∀v,assign (.Subscript o i pos) X.env v=(do
   let ov <- holding [v] (eval o X.env)
   let iv <- holding [v,ov] (eval i X.env)
   standAt pos
   holding [v,ov,iv] (setItem ov iv v)
   release [v,ov,iv] []):=by intro _;rfl):PG X (.Subscript o i pos) (N5 to ti t):=by
 intro pins s σ H v u Q I r h;rw[ha];apply aq (mQ (aV (ho pins s σ H _ I h) λov s1 ⟨x,H1,I1,r1,q1⟩=>?_));apply aq (mQ (aV (hi pins s1 σ H1 _ I1 q1) λiv s2 ⟨y,H2,I2,r2,q2⟩=>?_));apply aq (wpAny_standAt (aq (mQ (aV (hs pins s2 σ H2 x y v ov iv u _ I2 r1 r2 r q2) λ_ s3 ⟨H3,I3,q3⟩=>?_))));exact wpAny_release #[σ,H3,I3,q3]
def vW(te:TE)(g:TG):TS:=λD σ H=>te σ H λx H1=>g x σ H1 D.nx
theorem xF{tg e:Expr}{te:TE}{g:TG}(he:PE X e te)(hg:PG X tg g)(hs:swapsWithSole [tg] e pos.line X.env=pure false:=by rfl)(hw:swappedStores [tg] e X.env=pure none:=by rfl)
  (h1:(assignEach [tg] X.env).map (·.2)=[assign tg X.env]:=by rfl):PS X (.Assign [tg] e pos) (vW te g):=by
 intro pins s σ H D I h;apply wpAny_Assign_stores (aV (he pins s σ H _ I h) λv s1 ⟨x,H1,I1,r1,q1⟩=>?_) hs hw;rw[h1];exact aV (hg pins s1 σ H1 x v _ I1 r1 q1) λ_ s2 q=>q
theorem Du{i:Nat}{x:Str}{e:Expr}{te:TE}{pos':Pos}(hN:X.N.Nodup)(hi:X.N[i]? = some x)(hx:Loc X.env.scope x)(he:PE X e te)(hs:swapsWith e (some (.Name x pos')) pos.line X.env=pure false:=by rfl)(hf:X.fn x=true∨X.env.scope.names.lookup x\.local:=by first|exact .inl Z|exact .inr Z|assumption) :
  PS X (.Assign [.Name x pos'] e pos) (vW te (iG i)):=by
 intro pins s σ H D I h;apply wpAny_Assign_Name (aV (he pins s σ H _ I h) λv s1 ⟨y,H1,I1,r1,q1⟩=>?_) hs;exact KF I1 hN hi hx r1 (λs2 I2=>#[_,H1,I2,q1]) hf
theorem bh(i:Nat){x:Str}{e:Expr}{te:TE}{pos':Pos}(hN:X.N.Nodup)(he:PE X e te)(hi:X.N[i]? = some x:=by rfl)(hx:Loc X.env.scope x:=by first|exact Or.inl Z|exact Or.inr Z)(hs:swapsWith e (some (.Name x pos')) pos.line X.env=pure false:=by rfl)(hf:X.fn x=true∨X.env.scope.names.lookup x\.local:=by first|exact .inl Z|exact .inr Z|assumption):PS X (.Assign [.Name x pos'] e pos) (vW te (iG i)):=Du hN hi hx he hs hf
end
section
variable{X:Cx}{pos:Pos}
def qR(c:TT)(tb:TS):TS:=λD σ H=>∃W:Nat->St->Hp->Prop,(∃m,W m σ H)/\∀m σ H,W m σ H->
 c σ H λb H1=>if b=true then ∃N:St->Hp->Prop,(∀bq H',N bq H'->∃m',m'<m/\W m' bq H')/\tb { D with nx:=N,ct:=N,bk:=D.nx } σ H1 else D.nx σ H1
theorem U5{c:Expr}{body:List Stmt}{tc:TT}{tb:TS}(hp:PassesOwn (model X.prog X.w) X.A X.env X.xe)(hc:PT X c tc)(hb:lA X body tb):PS X (.While c body [] pos) (qR tc tb):=by
 intro pins s σ H D I h;let#[W,#[m0,w0],turn]:=h;apply wpAny_While (codeAny_whileLoop (λn s'=>∃bq H',Inv X pins bq H' s'/\W n bq H') ?_ m0 #[σ,H,I,w0]);rintro n s1 ⟨nK,H1,I1,w1⟩;apply wpAny_passesOwn hp (aV (hc pins s1 nK H1 _ I1 (turn n nK H1 w1)) λb s2 ⟨H2,I2,q2⟩=>?_);cases b with
 |true=>
  let#[N,hN,q2]:=q2;rw[aH Z];apply wpAny_passesOwn hp (aV (hb pins s2 nK H2 _ I2 q2) λf s3 q3=>?_);cases f with
  |next=>
   let#[kB,H3,I3,n3]:=q3;let#[m',hm,w3]:=hN kB H3 n3;exact#[m',hm,kB,H3,I3,w3]
  |cont=>
   let#[kB,H3,I3,n3]:=q3;let#[m',hm,w3]:=hN kB H3 n3;exact#[m',hm,kB,H3,I3,w3]
  |brk=>exact q3
  |ret v=>exact q3
 |false=>
  rw[aB g6];exact wpAny_execs_nil #[nK,H2,I2,q2]
end
structure It where
 go:Nat->Hp->Prop
 ya:Nat->Hp->V->Hp->Prop
 stop:Nat->Hp->Prop
def dh(X:Cx)(pins:List (Addr × Obj))(H:Hp)(b:Addr):Prop:=
 H b=none/\b≠X.env.locals/\b∉X.fs/\(b∈X.ex∨X.cX.heap.objs.size<=b)/\(∀x c,X.env.cells.lookup x\c->c≠b)/\∀p∈X.pn++pins,p.1≠b
theorem Inv.jY{X:Cx}{pins:List (Addr × Obj)}{σ:St}{H H':Hp}{s:Ab}{b:Addr}(I:Inv X pins σ H s)(hb:s.heap.objs.size<=b)(hn:H' b=none):dh X pins H' b:=by
 apply#[hn,vN (jj I.lt hb),I.L5 hb,.inr (nC I.sz hb),λx c e z=>?_,λp hp z=>?_]
 ·let#[v,q]:=I.cell x c e;exact absurd (jj q.lt (by rw[z];exact hb)) (xV _)
 exact absurd (jj (cy (I.pin p hp).1) (by rw[z];exact hb)) (xV _)
structure Turn (P:Ad) (w:Af) (K:af) (tg:Expr) (J:It) (fp:ai) (it:Addr) (tn:Nat->Heap->Prop):Prop where
 mem:it∈fp
 obj:∀i h,tn i h->∀b∈fp,∃o,h.get? b\o/\∀v,o.data≠.cell v
 keep:∀i h h',tn i h->(∀b∈fp,∀o,h.get? b\o->h'.get? b\o)->tn i h'
 item:∀(X:Cx),X.prog=P->X.w=w->X.K=K->X.calm=true->∀(i:Nat) (pins:List (Addr × Obj)) (s:Ab) (σ:St) (H:Hp) (E:Aa->Ab->Prop),Inv X pins σ H s->(∀b∈fp,dh X pins H b)->tn i s.heap->J.go i H->
  wpAny (model P w) X.A (pyNext (.ref it)) (λr s1=>∃u,r\u /\
   wpAny (model P w) X.A (letOwnedTupleGo tg (.ref it) u) (λ_ s2=>∃x H',Inv X pins σ H' s2/\RelV x u/\J.ya i H x H'/\tn (i+1) s2.heap/\∀b∈fp,H' b=none) E s1) E s
 done:∀(X:Cx),X.prog=P->X.w=w->X.K=K->X.calm=true->∀(i:Nat) (pins:List (Addr × Obj)) (s:Ab) (σ:St) (H:Hp) (E:Aa->Ab->Prop),Inv X pins σ H s->(∀b∈fp,dh X pins H b)->tn i s.heap->J.stop i H->
  wpAny (model P w) X.A (pyNext (.ref it)) (λr s1=>r=none/\Inv X pins σ H s1) E s
 self:∀(A:Ag) (i:Nat) (s:Ab) (Q:Aa->Ab->Prop) (E:Aa->Ab->Prop),tn i s.heap->Q (.ref it) s->wpAny (model P w) A (pyIter (.ref it)) Q E s
abbrev TI:=St->Hp->(It->Hp->Prop)->Prop
def WV(X:Cx)(pins:List (Addr × Obj))(σ:St)(tg:Expr)(R:It->Hp->Prop)(Jh:Aa)(s2:Ab):Prop:=
 ∃(it:Addr) (fp:ai) (tn:Nat->Heap->Prop) (J:It) (H':Hp),Jh=.ref it/\Inv X pins σ H' s2/\Turn X.prog X.w X.K tg J fp it tn/\tn 0 s2.heap/\(∀b∈fp,dh X pins H' b)/\R J H'
def PI(X:Cx)(tg iter:Expr)(wi:TI):Prop:=
 ∀(pins:List (Addr × Obj)) (s:Ab) (σ:St) (H:Hp) (R:It->Hp->Prop),Inv X pins σ H s->wi σ H R->
  wpAny (model X.prog X.w) X.A (eval iter X.env) (λv s1=>wpAny (model X.prog X.w) X.A (pyIter v) (WV X pins σ tg R) X.xe s1) X.xe s
theorem FQ{M:Model}{A:Ag}{E:Aa->Ab->Prop}{s:Ab}{tg:Expr}{it:Addr}{u:Aa}{o:Obj}{n:String}{vs:Array Aa}{Q:Unit->Ab->Prop}(ho:s.heap.get? it\o)(hc:o.cls=.type n)(hd:o.data=.fields vs)
  (hn:["enumerate","zip","dict_itemiterator","dict_reverseitemiterator","odict_iterator","itertools.zip_longest","itertools.pairwise"].contains n=false) (hQ:Q () s):wpAny M A (letOwnedTupleGo tg (.ref it) u) Q E s:=by
 unfold letOwnedTupleGo
 cases tg<;>first
  |exact aU hQ
  |(cases u<;>first
    |exact aU hQ
    |(apply aq (wpAny_load ho ?_)
      rw[hc,hd];show wpAny M A (if (["enumerate","zip","dict_itemiterator","dict_reverseitemiterator","odict_iterator","itertools.zip_longest","itertools.pairwise"].contains n&&vs[0]? == some (rawInt _))=true then _ else _) Q E s;rw[aB (by intro h;rw[hn,Bool.false_and] at h;cases h)];exact aU hQ))
def Co(K:af)(a:Addr):It:=
 ⟨λi H=>∃xs x,dM K H a xs/\xs[i]? = some x,λi H x H'=>H'=H/\∀xs,dM K H a xs->xs[i]? = some x,λi H=>∃xs,dM K H a xs/\xs.length<=i⟩
def DV(lo:Int)(n:Nat):It:=⟨λi _=>i<n,λi H x H'=>H'=H/\x=.int (lo+i),λi _=>n<=i⟩
theorem hd_{P:Ad}{w:Af}{K:af}{tg:Expr}(a it:Addr):Turn P w K tg (Co K a) [it] it (λi h=>h.IsListIter it a i) where
 mem:=by simp
 obj:=λi h st b hb=>by
  have e:b=it:=⇑hb
  subst e;let#[o,e,c,d]:=st;exact#[o,e,λv z=>by rw[d] at z;cases z]
 keep:=λi h h' st k=>st.at λo e=>k it Z2 o e
 item:=by
  intro X hP hw hK hc i pins s σ H E I hf st hg;subst hP hw hK;let#[xs,x,hq,hx]:=hg;let#[its,rv,p,hz]:=I.list hq;let#[u,hu,ru]:=rv.get hx;let#[f0,f1,f2,f3,f4,f5]:=hf it Z2;apply wpAny_pyNext_list_item st p.isList (x:=u) ⇑hu λh' fN sb=>?_;have I1:Inv X pins σ H { s with heap:=h' }:=I.turned (t':=s.toks) (λb o hb e=>(sb.2 b hb).trans e) f0 f1 f3 f4 f5;let#[o,e,c,d]:=id fN;exact#[u,Z,FQ (s:={ s with heap:=h' }) e c d (by decide) #[x,H,I1,ru,#[Z,λys hy=>by rw[I.jR hy hq];exact hx],fN,λb hb=>(hf b hb).1]]
 done:=by
  intro X hP hw hK hc i pins s σ H E I hf st hg;subst hP hw hK;let#[xs,hq,hx]:=hg;let#[its,rv,p,hz]:=I.list hq;let#[f0,f1,f2,f3,f4,f5]:=hf it Z2;let hl:=rv.length;exact wpAny_pyNext_list_end (I.ok.hd hc) st p.isList (by simp;omega) λh' eb=>#[Z,I.turned (t':=s.toks) (λb o hb e=>eb b o hb e) f0 f1 f3 f4 f5]
 self:=λ_ _ _ _ _ st h=>wpAny_pyIter_listiter st h
theorem fX_{P:Ad}{w:Af}{K:af}{tg:Expr}(it:Addr)(lo:Int)(n:Nat):Turn P w K tg (DV lo n) [it] it (λi h=>IsRangeIter h it (lo+(i:Nat) * 1) ((n:Int) - (i:Nat)) 1) where
 mem:=by simp
 obj:=λi h st b hb=>by
  have e:b=it:=⇑hb
  subst e
  exact#[_,st,λv z=>by
   have z':Data.fields _=Data.cell v:=z;cases z']
 keep:=λi h h' st k=>k it Z2 _ st
 item:=by
  intro X hP hw hK hc i pins s σ H E I hf st hg;subst hP hw hK;let#[f0,f1,f2,f3,f4,f5]:=hf it Z2;let W:=Walks.range (prog:=X.prog) (w:=X.w) (I.ok.hd hc) it lo 1 n;apply W.item i s _ _ hg st λv h' tk hv fN kk=>?_;let#[t,rfl]:=hv;have I1:Inv X pins σ H { s with heap:=h',toks:=tk }:=I.turned (λb o hb e=>kk b o ⇑hb e) f0 f1 f3 f4 f5;apply#[_,Z,FQ (s:={ s with heap:=h',toks:=tk }) (n:="range_iterator") fN Z Z (by decide) #[.int (lo+i),H,I1,#[t,?_],#[Z,Z],fN,λb hb=>(hf b hb).1]];rw[Int.mul_one]
 done:=by
  intro X hP hw hK hc i pins s σ H E I hf st hg;subst hP hw hK;let#[f0,f1,f2,f3,f4,f5]:=hf it Z2;exact wpAny_pyNext_range_end (I.ok.hd hc) st (by have:n<=i:=hg;omega) λh' eb=>#[Z,I.turned (t':=s.toks) (λb o hb e=>eb b o hb e) f0 f1 f3 f4 f5]
 self:=λ_ _ _ _ _ st h=>wpAny_pyIter_rangeiter st h
end L2
namespace L2
open PySem PySem.Spec PyProof.Rows
section
variable{X:Cx}{tg:Expr}
inductive tZ (K:af) (R:It->Hp->Prop) (x:V) (H1:Hp):Prop
 |mk:∀a,x=.ref a->(∃xs,dM K H1 a xs)->R (Co K a) H1->tZ K R x H1
def FB(K:af)(tl:TE):TI:=λσ H R=>tl σ H λx H1=>tZ K R x H1
theorem d_{l:Expr}{tl:TE}(hl:PE X l tl):PI X tg l (FB X.K tl):=by
 intro pins s σ H R I h;apply aV (hl pins s σ H _ I h) λv s1 ⟨x,H1,I1,r1,q1⟩=>?_;let#[a,e,#[xs,hq],q]:=q1;subst e;cases r1;let#[its,rv,p,hz]:=I1.list hq;apply wpAny_pyIter_list p.isList ?_;apply#[s1.heap.objs.size,[s1.heap.objs.size],_,_,H1,Z,I1.kept (t':=s1.toks) λb o e=>cj _ e,hd_ a _,#[_,eh _ Z,Z,Z],λb hb=>?_,q];have e:b=s1.heap.objs.size:=⇑hb
 subst e;exact I1.jY (bj _) (I1.aI.fresh (bj _))
theorem iq_{pins:List (Addr × Obj)}{σ:St}{H:Hp}{s:Ab}{R:It->Hp->Prop}{E:Aa->Ab->Prop}{lo hi:Int}{t u v:Tok}{tk:Nat}(I:Inv X pins σ H s)(h1:-(2 ^ 62)<=lo)(h2:lo<2 ^ 62)(h3:-(2 ^ 62)<=hi)(h4:hi<2 ^ 62)
  (q:R (DV lo (hi - lo).toNat) H):wpAny (model X.prog X.w) X.A (pyIter (.ref s.heap.objs.size)) (WV X pins σ tg R) E { s with heap:=s.heap.push { cls:=.type "range",data:=.fields (List.toArray [.int lo t,.int hi u,.int 1 v]) },toks:=tk }:=by
 apply wpAny_pyIter_range (IsRange.new ..) (small_one h1 h2 h3 h4) ?_;have I1:Inv X pins σ H { s with heap:=s.heap.push { cls:=.type "range",data:=.fields (List.toArray [.int lo t,.int hi u,.int 1 v]) },toks:=tk }:=I.kept λb o e=>cj _ e
 apply#[(s.heap.push { cls:=.type "range",data:=.fields (List.toArray [.int lo t,.int hi u,.int 1 v]) }).objs.size,[(s.heap.push { cls:=.type "range",data:=.fields (List.toArray [.int lo t,.int hi u,.int 1 v]) }).objs.size],_,_,H,Z,
  I1.kept (t':=tk) λb o e=>cj _ e,fX_ _ lo (hi - lo).toNat,?_,λb hb=>?_,q]
 ·have e1:lo+((0:Nat):Int) * 1=lo:=by simp
  have e2:(((hi - lo).toNat:Nat):Int) - ((0:Nat):Int)=Builtin.Range.rangeSize lo hi 1:=by rw[rangeSize_one];split<;>omega
  show IsRangeIter _ _ (lo+((0:Nat):Int) * 1) ((((hi - lo).toNat:Nat):Int) - ((0:Nat):Int)) 1;rw[e1,e2];exact eh _ Z
 have e:b=(s.heap.push { cls:=.type "range",data:=.fields (List.toArray [.int lo t,.int hi u,.int 1 v]) }).objs.size:=⇑hb
 subst e;exact I1.jY (bj _) (I1.aI.fresh (bj _))
inductive tY (R:It->Hp->Prop) (vs:ag) (H1:Hp):Prop
 |mk:∀j:Int,vs=[.int j]->-(2 ^ 62)<=j->j<2 ^ 62->R (DV 0 j.toNat) H1->tY R vs H1
def FA(ta:TA):TI:=λσ H R=>ta σ H λvs H1=>tY R vs H1
theorem B9{a:Expr}{ta:TA}{p pos:Pos}(hg:Gl X "range")(hm:X.mg "range"=none)(ha:PA X [a] ta)(hs:starEach [a] X.env=[(false,eval a X.env)]:=by rfl):PI X tg (.Call (.Name "range" p) [a] [] pos) (FA ta):=by
 intro pins s σ H R I h;apply Call_ (Dq I hg hm boot_range (PyProof.Rows.callWith_type1 (aV (ha pos pins s σ H _ I h) λus s1 ⟨vs,H1,I1,r1,q1⟩=>?_) hs Z));let#[j,e,q1,q2,q]:=q1;subst e;cases r1 with
 |cons r rr=>
  cases rr;let#[t,rfl]:=r;exact call_range_1 (iq_ I1 Z1 Z1 q1 q2 ⇑q)
def Lp(wi:TI)(g:TG)(tb:TS):TS:=λD σ H=>wi σ H λJ H1=>∃W:Nat->Nat->St->Hp->Prop,(∃m,W 0 m σ H1)/\∀i m σ H,W i m σ H->
 (J.stop i H/\D.nx σ H)∨(J.go i H/\∃N:St->Hp->Prop,(∀bq H',N bq H'->∃m',m'<m/\W (i+1) m' bq H')/\∀x H',J.ya i H x H'->g x σ H' λg8 H2=>tb { D with nx:=N,ct:=N,bk:=D.nx } g8 H2)
def xy(fp:ai)(h:Heap):List (Addr × Obj):=fp.filterMap λb=>(h.get? b).map λo=>(b,o)
theorem KQ{fp:ai}{h:Heap}{b:Addr}{o:Obj}(hb:b∈fp)(e:h.get? b\o):(b,o)∈xy fp h:=xS.mpr #[b,hb,by rw[e];rfl]
theorem gx_{fp:ai}{h:Heap}{p:Addr × Obj}(hp:p∈xy fp h):p.1∈fp/\h.get? p.1\p.2:=by
 let#[b,hb,e]:=xS.mp hp;cases q:h.get? b with
 |none=>rw[q] at e;cases e
 |some o=>
  rw[q] at e;have e':(b,o)=p:=dY e;subst e';exact#[hb,q]
theorem Inv.pinned{pins:List (Addr × Obj)}{σ:St}{H:Hp}{s:Ab}{fp:ai}(I:Inv X pins σ H s)(hf:∀b∈fp,dh X pins H b)(ho:∀b∈fp,∃o,s.heap.get? b\o/\∀v,o.data≠.cell v):Inv X (pins++xy fp s.heap) σ H s:=
 I.oF λp hp=>(gD.mp hp).elim (λz=>I.pin p (nA _ z)) λz=>by
  let#[hb,e]:=gx_ z;let#[f0,f1,f2,_]:=hf p.1 hb;let#[o,e',d]:=ho p.1 hb;rw[e] at e';cases e';exact#[e,f0,f1,f2,d]
theorem Inv.eL{pins pl:List (Addr × Obj)}{σ:St}{H:Hp}{s:Ab}(I:Inv X (pins++pl) σ H s):Inv X pins σ H s:=I.oF λp hp=>I.pin p (nA _ (List.mem_append_left _ hp))
theorem fC{iter:Expr}{body:List Stmt}{wi:TI}{g:TG}{tb:TS}{pos:Pos}(hp:PassesOwn (model X.prog X.w) X.A X.env X.xe)(hc:X.calm=true)(hi:PI X tg iter wi)(hg:PG X tg g)(hb:lA X body tb)
  (hs:∀x,foldedSetIterable iter X.env x=pure x:=by intro _;rfl):PS X (.For tg iter body [] pos) (Lp wi g tb):=by
 intro pins s σ H D I h;apply wpAny_For (aV (hi pins s σ H _ I h) λv s1 h1=>aV h1 λJh s2 h2=>?_) hs;let#[it,fp,tn,J,H2,e,I2,T,dG,f2,W,#[m0,w0],turn]:=h2;subst e;have Al:∀{H':Hp},(∀b∈fp,H' b=none)->∀b∈fp,dh X pins H' b:=λhn b hb=>#[hn b hb,(f2 b hb).2];apply codeAny_forLoop_any (λn s'=>∃i bq H',Inv X pins bq H' s'/\tn i s'.heap/\(∀b∈fp,H' b=none)/\W i n bq H') ?_ m0 #[0,σ,H2,I2,dG,λb hb=>(f2 b hb).1,w0];rintro n s3 ⟨i,kB,H3,I3,gO,GJ,w3⟩;rcases turn i n kB H3 w3 with⟨stop,qn⟩|⟨go,N,hN,step⟩
 ·apply wpAny_passesOwn hp (aV (T.done X Z Z Z hc i pins s3 kB H3 X.xe I3 (Al GJ) gO stop) λr s4 ⟨hr,I4⟩=>?_);subst hr;exact wpAny_execs_nil #[kB,H3,I4,qn]
 apply wpAny_passesOwn hp (aV (T.item X Z Z Z hc i pins s3 kB H3 X.xe I3 (Al GJ) gO go) λr s4 ⟨u,hr,h4⟩=>?_);subst hr;apply wpAny_passesOwn hp (aV h4 λ_ s5 ⟨x,H5,I5,r5,y5,fM,oS⟩=>?_);let I5':=I5.pinned (Al oS) (T.obj _ _ fM);apply wpAny_passesOwn hp (aV (hg _ s5 kB H5 x u _ I5' r5 (step x H5 y5)) λ_ s6 ⟨W0,H6,I6,q6⟩=>?_);apply wpAny_passesOwn hp (aV (hb _ s6 W0 H6 _ I6 q6) λf s7 q7=>?_)
 have again:∀{qK:St} {H7:Hp},Inv X (pins++xy fp s5.heap) qK H7 s7->N qK H7->∃m,m<n/\∃i bq H',Inv X pins bq H' s7/\tn i s7.heap/\(∀b∈fp,H' b=none)/\W i m bq H':=λ{qK H7} I7 n7=>by
  let#[m',hm,w7]:=hN qK H7 n7;apply#[m',hm,i+1,qK,H7,I7.eL,T.keep _ _ _ fM λb hb o e=>(I7.pin (b,o) (nA _ (nA _ (KQ hb e)))).1,λb hb=>?_,w7];let#[o,e,d]:=T.obj _ _ fM b hb;exact (I7.pin (b,o) (nA _ (nA _ (KQ hb e)))).2.1
 cases f with
 |next=>let#[qK,H7,I7,n7]:=q7;exact again I7 n7
 |cont=>let#[qK,H7,I7,n7]:=q7;exact again I7 n7
 |brk=>let#[qK,H7,I7,q7]:=q7;exact#[qK,H7,I7.eL,q7]
 |ret v=>let#[x7,qK,H7,I7,r7,q7]:=q7;exact#[x7,qK,H7,I7.eL,r7,q7]
end
theorem iK{K:af}{a:Addr}{xs:ag}{g:TG}{tb:TS}{D:Ends}{σ:St}{H:Hp}(Pv:Nat->St->Hp->Prop)(h0:Pv 0 σ H)(hl:∀i σ H,i<=xs.length->Pv i σ H->dM K H a xs)
  (hs:∀i x σ H,xs[i]? = some x->Pv i σ H->g x σ H λg8 H2=>tb { D with nx:=Pv (i+1),ct:=Pv (i+1),bk:=D.nx } g8 H2) (hd:∀σ H,Pv xs.length σ H->D.nx σ H) :
  ∃W:Nat->Nat->St->Hp->Prop,(∃m,W 0 m σ H)/\∀i m σ H,W i m σ H->
   ((Co K a).stop i H/\D.nx σ H)∨((Co K a).go i H/\∃N:St->Hp->Prop,(∀bq H',N bq H'->∃m',m'<m/\W (i+1) m' bq H')/\∀x H',(Co K a).ya i H x H'->g x σ H' λg8 H2=>tb { D with nx:=N,ct:=N,bk:=D.nx } g8 H2):=by
 apply#[λi m σ H=>m=xs.length - i/\i<=xs.length/\Pv i σ H,#[xs.length,by simp,g7 _,h0],?_];rintro i m σ H ⟨rfl,hi,p⟩;let q:=hl i σ H hi p;by_cases dQ:i<xs.length
 ·apply .inr #[#[xs,xs[i],q,by simp[dQ]],Pv (i+1),λbq H' p'=>#[xs.length - (i+1),by omega,Z,dQ,p'],λx H' y=>?_];let#[e,y]:=y;subst e;exact hs i x σ _ (y xs q) p
 have e:i=xs.length:=by omega
 subst e;exact .inl #[#[xs,q,bj _],hd σ H p]
theorem B_{lo:Int}{n:Nat}{g:TG}{tb:TS}{D:Ends}{σ:St}{H:Hp}(Pv:Nat->St->Hp->Prop)(h0:Pv 0 σ H)
  (hs:∀i σ H,i<n->Pv i σ H->g (.int (lo+i)) σ H λg8 H2=>tb { D with nx:=Pv (i+1),ct:=Pv (i+1),bk:=D.nx } g8 H2) (hd:∀σ H,Pv n σ H->D.nx σ H) :
  ∃W:Nat->Nat->St->Hp->Prop,(∃m,W 0 m σ H)/\∀i m σ H,W i m σ H->
   ((DV lo n).stop i H/\D.nx σ H)∨((DV lo n).go i H/\∃N:St->Hp->Prop,(∀bq H',N bq H'->∃m',m'<m/\W (i+1) m' bq H')/\∀x H',(DV lo n).ya i H x H'->g x σ H' λg8 H2=>tb { D with nx:=N,ct:=N,bk:=D.nx } g8 H2):=by
 apply#[λi m σ H=>m=n - i/\i<=n/\Pv i σ H,#[n,by simp,g7 _,h0],?_];rintro i m σ H ⟨rfl,hi,p⟩;by_cases dQ:i<n
 ·apply .inr #[dQ,Pv (i+1),λbq H' p'=>#[n - (i+1),by omega,Z,dQ,p'],λx H' y=>?_];let#[e,y]:=y;subst e y;exact hs i σ _ dQ p
 have e:i=n:=by omega
 subst e;exact .inl #[bj _,hd σ H p]
theorem iy_{c:TT}{tb:TS}{D:Ends}{σ:St}{H:Hp}(Pv:iL)(μ:St->Hp->Nat)(h0:Pv σ H)
  (hs:∀σ H,Pv σ H->c σ H λb H1=>if b=true then tb { D with nx:=λbq H'=>Pv bq H'/\μ bq H'<μ σ H,ct:=λbq H'=>Pv bq H'/\μ bq H'<μ σ H,bk:=D.nx } σ H1 else D.nx σ H1)
  (mono:∀σ H Q Q',(∀b H1,Q b H1->Q' b H1)->c σ H Q->c σ H Q'):qR c tb D σ H:=by
 apply#[λm σ H=>m=μ σ H/\Pv σ H,#[_,Z,h0],?_];rintro m σ H ⟨rfl,p⟩;apply mono σ H _ _ (λb H1 q=>?_) (hs σ H p);cases b with
 |true=>exact#[_,λbq H' ⟨p',l⟩=>#[_,l,Z,p'],q]
 |false=>exact q
end L2
namespace L2
open PySem PySem.Spec PyProof.Rows
abbrev R2:=V->V->Hp->VK->Prop
def dN(X:Cx)(f:Aa->Aa->Sem Aa)(r:R2):Prop:=
 ∀(pins:List (Addr × Obj)) (s:Ab) (σ:St) (H:Hp) (x y:V) (v u:Aa) (Q:VK),Inv X pins σ H s->RelV x v->RelV y u->r x y H Q->
  wpAny (model X.prog X.w) X.A (f v u) (EP X pins σ Q) X.xe s
def Q6(X:Cx)(f:Aa->Sem Aa)(r:V->Hp->VK->Prop):Prop:=
 ∀(pins:List (Addr × Obj)) (s:Ab) (σ:St) (H:Hp) (x:V) (v:Aa) (Q:VK),Inv X pins σ H s->RelV x v->r x H Q->
  wpAny (model X.prog X.w) X.A (f v) (EP X pins σ Q) X.xe s
def gB(X:Cx)(f:Aa)(r:ag->Hp->VK->Prop):Prop:=
 ∀(pins:List (Addr × Obj)) (s:Ab) (σ:St) (H:Hp) (xs:ag) (us:aj) (Q:VK),Inv X pins σ H s->Vals xs us->r xs H Q->
  wpAny (model X.prog X.w) X.A (call f us) (EP X pins σ Q) X.xe s
def Eh(r:R2)(ta tb:TE):TE:=λσ H Q=>ta σ H λx H1=>tb σ H1 λy H2=>r x y H2 Q
def YC(r:V->Hp->VK->Prop)(ta:TE):TE:=λσ H Q=>ta σ H λx H1=>r x H1 Q
inductive rI (C:Int->Int->Prop) (g:Int->Int->V) (x:V) (y:V) (H:Hp) (Q:VK):Prop
 |mk:∀i j,x=.int i->y=.int j->C i j->Q (g i j) H->rI C g x y H Q
inductive wu (g:Int->Int->V) (x:V) (y:V) (H:Hp) (Q:VK):Prop
 |mk:∀i j,x=.int i->y=.int j->Q (g i j) H->wu g x y H Q
inductive rU (g:Int->V) (x:V) (H:Hp) (Q:VK):Prop
 |mk:∀i,x=.int i->Q (g i) H->rU g x H Q
section
variable{X:Cx}{a b c:Expr}{ta tb tc:TE}{pos:Pos}
theorem Cb(ha:PE X a ta)(hb:PE X b tb){pins:List (Addr × Obj)}{s:Ab}{σ:St}{H:Hp}{R:V->V->Hp->Prop}(I:Inv X pins σ H s)
  (h:ta σ H λx H1=>tb σ H1 λy H2=>R x y H2) {Q:Aa->Ab->Prop} {f:Aa->Aa->Sem Aa}
  (hf:∀v u s2 x y H2,Inv X pins σ H2 s2->RelV x v->RelV y u->R x y H2->wpAny (model X.prog X.w) X.A (f v u) Q X.xe s2) :
  wpAny (model X.prog X.w) X.A (eval a X.env) (λv aZ=>wpAny (model X.prog X.w) X.A (eval b X.env) (λu iB=>wpAny (model X.prog X.w) X.A (f v u) Q X.xe iB) X.xe aZ) X.xe s:=by
 apply aV (ha pins s σ H _ I h) λv s1 ⟨x,H1,I1,r1,q1⟩=>?_;apply aV (hb pins s1 σ H1 _ I1 q1) λu s2 ⟨y,H2,I2,r2,q2⟩=>?_;exact hf v u s2 x y H2 I2 r1 r2 q2
theorem bu{op:Operator}{r:R2}(ho:dN X (binaryOp op) r)(ha:PE X a ta)(hb:PE X b tb):PE X (.BinOp a op b pos) (Eh r ta tb):=by
 intro pins s σ H Q I h;exact wpAny_BinOp (Cb ha hb I h λv u s2 x y H2 I2 rx ry q=>ho pins s2 σ H2 x y v u Q I2 rx ry q)
theorem Dk{op:UnaryOp}{r:V->Hp->VK->Prop}(ho:Q6 X (unaryOp op) r)(ha:PE X a ta):PE X (.UnaryOp op a pos) (YC r ta):=by
 intro pins s σ H Q I h;exact UnaryOp_ (aV (ha pins s σ H _ I h) λv s1 ⟨x,H1,I1,r1,q1⟩=>ho pins s1 σ H1 x v Q I1 r1 q1)
theorem I0{f:Aa->Aa->Sem Aa}{C:Int->Int->Prop}{g:Int->Int->Int}
  (rule:∀(i j:Int) (t u:Tok) (s:Ab) (Q:Aa->Ab->Prop) (E:Aa->Ab->Prop),C i j->Q (.int (g i j) s.toks) { s with toks:=s.toks+1 }->wpAny (model X.prog X.w) X.A (f (.int i t) (.int j u)) Q E s) :
  dN X f (rI C λi j=>.int (g i j)):=by
 intro pins s σ H x y v u Q I rx ry h;let#[i,j,rfl,rfl,hc,q]:=h;let#[t,rfl]:=rx;let#[t',rfl]:=ry;exact rule i j t t' s _ _ hc #[.int (g i j),H,I.tok _,#[_,Z],q]
theorem EW{f:Aa->Aa->Sem Aa}{g:Int->Int->Int}
  (rule:∀(i j:Int) (t u:Tok) (s:Ab) (Q:Aa->Ab->Prop) (E:Aa->Ab->Prop),Q (.int (g i j) s.toks) { s with toks:=s.toks+1 }->wpAny (model X.prog X.w) X.A (f (.int i t) (.int j u)) Q E s) :
  dN X f (wu λi j=>.int (g i j)):=by
 intro pins s σ H x y v u Q I rx ry h;let#[i,j,rfl,rfl,q]:=h;let#[t,rfl]:=rx;let#[t',rfl]:=ry;exact rule i j t t' s _ _ #[.int (g i j),H,I.tok _,#[_,Z],q]
theorem wC{f:Aa->Aa->Sem Aa}{g:Int->Int->Bool}
  (rule:∀(i j:Int) (t u:Tok) (s:Ab) (Q:Aa->Ab->Prop) (E:Aa->Ab->Prop),Q (.bool (g i j)) s->wpAny (model X.prog X.w) X.A (f (.int i t) (.int j u)) Q E s) :
  dN X f (wu λi j=>.bl (g i j)):=by
 intro pins s σ H x y v u Q I rx ry h;let#[i,j,rfl,rfl,q]:=h;let#[t,rfl]:=rx;let#[t',rfl]:=ry;exact rule i j t t' s _ _ #[.bl (g i j),H,I,Z,q]
def Rc(i j:Int):Prop:=0<j/\j<1073741824
def Rb(i j:Int):Prop:=0<=j/\j<=1000000/\i.natAbs<2 ^ 64
def xZ(i j:Int):Prop:=(-(2 ^ 64)<i/\i<2 ^ 64)∨(-(2 ^ 64)<j/\j<2 ^ 64)
theorem xZ.ok{i j:Int}(h:xZ i j):IntMulOk i j:=by
 rcases h with⟨h1,h2⟩|⟨h1,h2⟩
 ·exact .of_left (intBits_le_64 h1 h2)
 exact .of_right (intBits_le_64 h1 h2)
theorem fH:dN X (binaryOp .Add) (wu λi j=>.int (i+j)):=EW λ_ _ _ _ _ _ _ q=>add_int q
theorem xw:dN X (binaryOp .Sub) (wu λi j=>.int (i - j)):=EW λ_ _ _ _ _ _ _ q=>sub_int q
theorem oX:dN X (binaryOp .Mult) (rI xZ λi j=>.int (i * j)):=I0 λ_ _ _ _ _ _ _ hc q=>mul_int q hc.ok
theorem xK:dN X (binaryOp .FloorDiv) (rI Rc λi j=>.int (i / j)):=I0 λi j _ _ _ _ _ hc q=>by
 have h1:(0:Int)<j:=hc.1;have h2:j<1073741824:=hc.2;exact floordiv_int Z1 (by rw[Int.fdiv_eq_ediv_of_nonneg i Z1];exact q) (.inl (PyProof.noPylong_small Z1))
theorem pY:dN X (binaryOp .Mod) (rI (λ_ j=>0<j) λi j=>.int (i % j)):=I0 λi j _ _ _ _ _ hc q=>by
 have h1:(0:Int)<j:=hc;exact mod_int' Z1 (by rw[Int.fmod_eq_emod_of_nonneg i Z1];exact q)
theorem Np:dN X (binaryOp .Pow) (rI Rb λi j=>.int (i ^ j.toNat)):=I0 λ_ _ _ _ _ _ _ hc q=>pow_int_small hc.1 hc.2.1 hc.2.2 q
theorem XX{f:Aa->Sem Aa}{g:Int->Int}
  (rule:∀(i:Int) (t:Tok) (s:Ab) (Q:Aa->Ab->Prop) (E:Aa->Ab->Prop),Q (.int (g i) s.toks) { s with toks:=s.toks+1 }->wpAny (model X.prog X.w) X.A (f (.int i t)) Q E s) :
  Q6 X f (rU λi=>.int (g i)):=by
 intro pins s σ H x v Q I rx h;let#[i,rfl,q]:=h;let#[t,rfl]:=rx;exact rule i t s _ _ #[.int (g i),H,I.tok _,#[_,Z],q]
theorem Dv:Q6 X (unaryOp .USub) (rU λi=>.int (-i)):=XX λ_ _ _ _ _ q=>neg_int q
end
def EC:V->V->Bool
 |.non,.non=>true | .non,.int _=>true | .int _,.non=>true | .non,.bl _=>true | .bl _,.non=>true | .non,.str _=>true | .str _,.non=>true
 |.int _,.int _=>true | .bl _,.bl _=>true | .str _,.str _=>true | .byt _,.byt _=>true
 |.int _,.str _=>true | .str _,.int _=>true | .bl _,.str _=>true | .str _,.bl _=>true
 |_,_=>false
def Zd:R2:=λx y H Q=>EC x y=true/\Q (.bl (decide (x=y))) H
def Zc:R2:=λx y H Q=>EC x y=true/\Q (.bl (!decide (x=y))) H
theorem T5{i j:Int}:decide (V.int i=V.int j)=(i == j):=by
 rw[Bool.eq_iff_iff];simp
theorem SU{i j:Bool}:decide (V.bl i=V.bl j)=(i == j):=by
 rw[Bool.eq_iff_iff];simp
theorem Ur{i j:Str}:decide (V.str i=V.str j)=(i == j):=by
 rw[Bool.eq_iff_iff];simp
theorem TY{i j:Array UInt8}:decide (V.byt i=V.byt j)=(i.toList == j.toList):=by
 rw[Bool.eq_iff_iff];cases i;cases j;simp
section
variable{X:Cx}{a b c:Expr}{ta tb tc:TE}{pos:Pos}
theorem fI{pins:List (Addr × Obj)}{σ:St}{H:Hp}{s:Ab}{Q:VK}{k k':Bool}(I:Inv X pins σ H s)(q:Q (.bl k) H)(e:k=k'):EP X pins σ Q (.bool k') s:=by
 subst e;exact#[.bl k,H,I,Z,q]
theorem gf:dN X (compareOp .Eq) Zd:=by
 intro pins s σ H x y v u Q I rx ry h;let#[hs,q]:=h;cases x with
 |non=>
  cases rx;cases y with
  |non=>cases ry;exact PySem.EqNone.eq_none_none (fI I q Z2)
  |bl j=>cases ry;exact PySem.EqNone.eq_none_bool (fI I q Z2)
  |int j=>let#[t',rfl]:=ry;exact PySem.EqNone.eq_none_int (fI I q Z2)
  |str j=>let#[t',rfl]:=ry;exact PySem.EqNone.eq_none_str (fI I q Z2)
  |_=>exact absurd (show false=true from hs) g6
 |bl i=>
  cases rx;cases y with
  |non=>cases ry;exact PySem.EqNone.eq_bool_none (fI I q Z2)
  |bl j=>cases ry;exact eq_bool (fI I q SU)
  |str j=>let#[t',rfl]:=ry;exact PySem.EqMixed.eq_bool_str (fI I q Z2)
  |_=>exact absurd (show false=true from hs) g6
 |int i=>
  let#[t,rfl]:=rx;cases y with
  |non=>cases ry;exact PySem.EqNone.eq_int_none (fI I q Z2)
  |int j=>let#[t',rfl]:=ry;exact eq_int (fI I q T5)
  |str j=>let#[t',rfl]:=ry;exact PySem.EqMixed.eq_int_str (fI I q Z2)
  |_=>exact absurd (show false=true from hs) g6
 |str i=>
  let#[t,rfl]:=rx;cases y with
  |non=>cases ry;exact PySem.EqNone.eq_str_none (fI I q Z2)
  |bl j=>cases ry;exact PySem.EqMixed.eq_str_bool (fI I q Z2)
  |int j=>let#[t',rfl]:=ry;exact PySem.EqMixed.eq_str_int (fI I q Z2)
  |str j=>let#[t',rfl]:=ry;exact eq_str (fI I q Ur)
  |_=>exact absurd (show false=true from hs) g6
 |byt i=>
  let#[t,rfl]:=rx;cases y with
  |byt j=>let#[t',rfl]:=ry;exact PySem.W.eq_bytes (fI I q TY)
  |_=>exact absurd (show false=true from hs) g6
 |_=>cases y<;>exact absurd (show false=true from hs) g6
theorem qB:dN X (compareOp .NotEq) Zc:=by
 intro pins s σ H x y v u Q I rx ry h;let#[hs,q]:=h;cases x with
 |non=>
  cases rx;cases y with
  |non=>cases ry;exact PySem.EqNone.ne_none_none (fI I q Z2)
  |bl j=>cases ry;exact PySem.EqNone.ne_none_bool (fI I q Z2)
  |int j=>let#[t',rfl]:=ry;exact PySem.EqNone.ne_none_int (fI I q Z2)
  |str j=>let#[t',rfl]:=ry;exact PySem.EqNone.ne_none_str (fI I q Z2)
  |_=>exact absurd (show false=true from hs) g6
 |bl i=>
  cases rx;cases y with
  |non=>cases ry;exact PySem.EqNone.ne_bool_none (fI I q Z2)
  |bl j=>cases ry;exact ne_bool (fI I q (d9 not SU))
  |str j=>let#[t',rfl]:=ry;exact PySem.EqMixed.ne_bool_str (fI I q Z2)
  |_=>exact absurd (show false=true from hs) g6
 |int i=>
  let#[t,rfl]:=rx;cases y with
  |non=>cases ry;exact PySem.EqNone.ne_int_none (fI I q Z2)
  |int j=>let#[t',rfl]:=ry;exact ne_int (fI I q (d9 not T5))
  |str j=>let#[t',rfl]:=ry;exact PySem.EqMixed.ne_int_str (fI I q Z2)
  |_=>exact absurd (show false=true from hs) g6
 |str i=>
  let#[t,rfl]:=rx;cases y with
  |non=>cases ry;exact PySem.EqNone.ne_str_none (fI I q Z2)
  |bl j=>cases ry;exact PySem.EqMixed.ne_str_bool (fI I q Z2)
  |int j=>let#[t',rfl]:=ry;exact PySem.EqMixed.ne_str_int (fI I q Z2)
  |str j=>let#[t',rfl]:=ry;exact ne_str (fI I q (d9 not Ur))
  |_=>exact absurd (show false=true from hs) g6
 |byt i=>
  let#[t,rfl]:=rx;cases y with
  |byt j=>let#[t',rfl]:=ry;exact PySem.W.ne_bytes (fI I q (d9 not TY))
  |_=>exact absurd (show false=true from hs) g6
 |_=>cases y<;>exact absurd (show false=true from hs) g6
theorem _Y:dN X (compareOp .Lt) (wu λi j=>.bl (decide (i<j))):=wC λ_ _ _ _ _ _ _ q=>lt_int q
theorem pV:dN X (compareOp .LtE) (wu λi j=>.bl (decide (i<=j))):=wC λ_ _ _ _ _ _ _ q=>le_int q
theorem BO:dN X (compareOp .Gt) (wu λi j=>.bl (decide (j<i))):=wC λ_ _ _ _ _ _ _ q=>gt_int q
theorem Mz:dN X (compareOp .GtE) (wu λi j=>.bl (decide (j<=i))):=wC λ_ _ _ _ _ _ _ q=>ge_int q
inductive V6 (x:V) (y:V) (H:Hp) (Q:VK):Prop
 |mk:∀i j,x=.str i->y=.str j->Q (.bl (decide (i.cps.toList<j.cps.toList))) H->V6 x y H Q
theorem gq_:dN X (compareOp .Lt) V6:=by
 intro pins s σ H x y v u Q I rx ry h;let#[i,j,rfl,rfl,q]:=h;let#[t,rfl]:=rx;let#[t',rfl]:=ry;exact lt_str (fI I q rfl)
theorem ki_:dN X (compareOp .IsNot) (λx y H Q=>y=.non/\Q (.bl (!decide (x=.non))) H):=by
 intro pins s σ H x y v u Q I rx ry h;let#[rfl,q]:=h;cases ry;apply isnot_none_gen (fI I q ?_)
 cases x<;>first
  |(cases rx;rfl)
  |(let#[t,rfl]:=rx;rfl)
theorem tO(b:Expr){op:CmpOp}(h:op≠.In:=by decide)(h2:op≠.NotIn:=by decide):behindInMarks op b=false:=by
 have e1:(op == CmpOp.In)=false:=by cases op<;>first|rfl|exact absurd rfl h
 have e2:(op == CmpOp.NotIn)=false:=by cases op<;>first|rfl|exact absurd rfl h2
 cases b<;>simp[behindInMarks,e1,e2]
theorem m_{op:CmpOp}{r:R2}(ho:dN X (compareOp op) r)(ha:PE X a ta)(hb:PE X b tb)(hm:behindInMarks op b=false:=by exact tO _):PE X (.Compare a [op] [b] pos) (Eh r ta tb):=by
 intro pins s σ H Q I h;exact wpAny_Compare1 (Cb ha hb I h λv u s2 x y H2 I2 rx ry q=>ho pins s2 σ H2 x y v u Q I2 rx ry q) hm
inductive qV (Q:Bool->Hp->Prop) (x:V) (H':Hp):Prop
 |mk:∀k,x=.bl k->Q k H'->qV Q x H'
def yd(t:TE):TT:=λσ H Q=>t σ H λx H'=>qV Q x H'
theorem cn{op:CmpOp}{r:R2}(ho:dN X (compareOp op) r)(ha:PE X a ta)(hb:PE X b tb)(hm:behindInMarks op b=false:=by exact tO _):PT X (.Compare a [op] [b] pos) (yd (Eh r ta tb)):=by
 intro pins s σ H Q I h
 apply wpAny_isTrue_Compare1 (aV (ha pins s σ H _ I h) λv s1 ⟨x,H1,I1,r1,q1⟩=>aV (hb pins s1 σ H1 _ I1 q1) λu s2 ⟨y,H2,I2,r2,q2⟩=>
  aV (ho pins s2 σ H2 x y v u _ I2 r1 r2 q2) λc s3 ⟨z,H3,I3,r3,k,e,q3⟩=>?_) hm
 subst e;cases r3;exact qw #[H3,I3,q3]
inductive nX (r':R2) (tc:TE) (σ:St) (Q:VK) (y:V) (z:V) (H3:Hp):Prop
 |mk:∀k,z=.bl k->(if k=true then tc σ H3 λw' H4=>r' y w' H4 Q else Q (.bl false) H3)->nX r' tc σ Q y z H3
def rj(r r':R2)(ta tb tc:TE):TE:=λσ H Q=>ta σ H λx H1=>tb σ H1 λy H2=>r x y H2 λz H3=>nX r' tc σ Q y z H3
theorem Pg{op AO:CmpOp}{r r':R2}(ho:dN X (compareOp op) r)(iq:dN X (compareOp AO) r')(ha:PE X a ta)(hb:PE X b tb)(hc:PE X c tc)
  (hm:lastMarks [op,AO] [b,c]=false:=by with_unfolding_all rfl):PE X (.Compare a [op,AO] [b,c] pos) (rj r r' ta tb tc):=by
 intro pins s σ H Q I h
 apply Compare_chain (aV (ha pins s σ H _ I h) λv s1 ⟨x,H1,I1,r1,q1⟩=>chain_link (aV (hb pins s1 σ H1 _ I1 q1) λu s2 ⟨y,H2,I2,r2,q2⟩=>
  aV (ho pins s2 σ H2 x y v u _ I2 r1 r2 q2) λd s3 ⟨z,H3,I3,r3,k,e,q3⟩=>?_)) hm
 subst e;cases r3;apply qw ?_;cases k with
 |false=>exact ite_ff #[.bl false,H3,I3,Z,q3]
 |true=>exact ite_tt (chain_last (aV (hc pins s3 σ H3 _ I3 q3) λw' s4 ⟨z',H4,I4,r4,q4⟩=>iq pins s4 σ H4 y z' u w' Q I4 r2 r4 q4))
theorem U4{op AO:CmpOp}{r r':R2}(ho:dN X (compareOp op) r)(iq:dN X (compareOp AO) r')(ha:PE X a ta)(hb:PE X b tb)(hc:PE X c tc)
  (hm:lastMarks [op,AO] [b,c]=false:=by with_unfolding_all rfl):PT X (.Compare a [op,AO] [b,c] pos) (yd (rj r r' ta tb tc)):=by
 intro pins s σ H Q I h
 apply isTrue_chain (aV (ha pins s σ H _ I h) λv s1 ⟨x,H1,I1,r1,q1⟩=>test_link (aV (hb pins s1 σ H1 _ I1 q1) λu s2 ⟨y,H2,I2,r2,q2⟩=>
  aV (ho pins s2 σ H2 x y v u _ I2 r1 r2 q2) λd s3 ⟨z,H3,I3,r3,k,e,q3⟩=>?_)) hm
 subst e;cases r3;apply qw ?_;cases k with
 |false=>
  let#[k',e',q']:=q3;cases e';exact ite_ff #[H3,I3,q']
 |true=>
  apply ite_tt (test_last (aV (hc pins s3 σ H3 _ I3 q3) λw' s4 ⟨z',H4,I4,r4,q4⟩=>aV (iq pins s4 σ H4 y z' u w' _ I4 r2 r4 q4) λd' s5 ⟨z2,H5,I5,r5,k2,e2,q5⟩=>?_));subst e2;cases r5;exact qw #[H5,I5,q5]
theorem gn:(sizeLine:Nat)<2 ^ 63:=by rw[b_];decide
inductive V9 (x:V) (y:V) (H:Hp) (Q:VK):Prop
 |mk:∀i j,x=.str i->y=.str j->i.length+j.length<=sizeLine->Q (.str (i++j)) H->V9 x y H Q
theorem PP:dN X (binaryOp .Add) V9:=by
 intro pins s σ H x y v u Q I rx ry h;let#[i,j,rfl,rfl,hz,q]:=h;let#[t,rfl]:=rx;let#[t',rfl]:=ry;exact add_str (λt' tk=>⟨.str (i++j),H,I.tok _,⟨_,rfl⟩,q⟩) hz
theorem vals1{x:V}{us:aj}(r:Vals [x] us):∃u,us=[u]/\RelV x u:=by
 cases r with
 |cons r1 r2=>cases r2;exact#[_,Z,r1]
theorem vals2{x y:V}{us:aj}(r:Vals [x,y] us):∃u w',us=[u,w']/\RelV x u/\RelV y w':=by
 cases r with
 |cons r1 r2=>
  cases r2 with
  |cons r3 r4=>cases r4;exact#[_,_,Z,r1,r3]
inductive V5 (xs:ag) (H:Hp) (Q:VK):Prop
 |mk:∀i j,xs=[.int i,.int j]->Q (.int (if j > i then j else i)) H->V5 xs H Q
theorem Ie(hc:X.calm=true):gB X (.builtin "max") V5:=by
 intro pins s σ H xs us Q I r h;let#[i,j,rfl,q]:=h;let#[u,w',rfl,#[t,rfl],#[t',rfl]]:=vals2 r;apply max_two_ints (I.ok.hd hc) λh' tk k=>#[_,H,I.kept k,?_,q];by_cases hj:j > i
 ·rw[aH hj,aH hj];exact#[_,Z]
 rw[aB hj,aB hj];exact#[_,Z]
inductive V0 (xs:ag) (H:Hp) (Q:VK):Prop
 |mk:∀i j,xs=[.int i,.int j]->Q (.int (if j<i then j else i)) H->V0 xs H Q
theorem U9(hc:X.calm=true):gB X (.builtin "min") V0:=by
 intro pins s σ H xs us Q I r h;let#[i,j,rfl,q]:=h;let#[u,w',rfl,#[t,rfl],#[t',rfl]]:=vals2 r;apply min_two_ints (I.ok.hd hc) λh' tk k=>#[_,H,I.kept k,?_,q];by_cases hj:j<i
 ·rw[aH hj,aH hj];exact#[_,Z]
 rw[aB hj,aB hj];exact#[_,Z]
theorem Vo:gB X (.type "int") (λxs H Q=>(∃i,xs=[.int i]/\Q (.int i) H)∨∃k,xs=[.bl k]/\Q (.int (if k then 1 else 0)) H):=by
 intro pins s σ H xs us Q I r h;rcases h with⟨i,rfl,q⟩|⟨k,rfl,q⟩
 ·let#[u,rfl,t,rfl]:=vals1 r;exact call_int_int #[.int i,H,I,#[_,Z],q]
 let#[u,rfl,r1]:=vals1 r;cases r1;exact call_int_bool #[.int (if k then 1 else 0),H,I.tok _,#[_,Z],q]
end
end L2
namespace L2
open PySem PySem.Spec PyProof.Rows
structure nF (h:Heap) (x dx C:Addr) (mA:Str->Option Aa):Prop where
 obj:h.get? x\PySem.W.instObj C dx
 ns:h.Ns1 dx mA
 ne:dx≠x
theorem gZ_{h:Heap}{dx:Addr}{mA:Str->Option Aa}(n:h.Ns1 dx mA):∃od,h.get? dx\od/\∀name,PySem.W.lookIn name od\mA name:=by
 let#[o,es,ep,ho,hd,hk,_,hm]:=n;apply#[o,ho,λname=>?_];let e:=hm name;unfold nsFind findBy at e;rw[<- Array.find?_toList] at e;unfold PySem.W.lookIn;rw[hd];dsimp only;split
 ·rename_i y q
  rw[q] at e;exact d9 some e
 rename_i q
 rw[q] at e
 have a:es.toList.any (·.refKey)=false:=by
  rw[List.any_eq_false];intro y hy;let#[z,t,Ni]:=hk y (Array.mem_toList_iff.mp hy);simp[DictEntry.refKey,Ni]
 have a':¬es.toList.any (·.refKey)=true:=by rw[a];exact g6
 rw[aB a'];exact d9 some e
theorem nF.look{h:Heap}{x dx C:Addr}{mA:Str->Option Aa}(I:nF h x dx C mA):∃od,PySem.W.InstAt h x (PySem.W.instObj C dx) C (some od)/\∀name,PySem.W.lookIn name od\mA name:=
 let #[od,ho,hl]:=gZ_ I.ns
 #[od,#[I.obj,Z,Z,ho],hl]
section
variable{prog:Ad}{w:Af}{A:Ag}{E:Aa->Ab->Prop}{s:Ab}{K:af}{x dx C f:Addr}{mA:Str->Option Aa}{name:Str}{v:Aa}
theorem k4_{expr:Bool}{Q:Aa->Ab->Prop}(X:K.In s.heap)(I:nF s.heap x dx C mA)(hg:PySem.W.plainGet K C name=true)(hh:PySem.W.hasDictIn K C=true)
  (ha:PySem.W.findIn K (.ref C) name\none) (hv:mA name\v) (ML:PySem.W.handedIn v=true) (h:Q v { s with toks:=s.toks+1 }) :
  wpAny (model prog w) A (getAttr (.ref x) name expr) Q E s:=by
 let#[od,J,hl]:=I.look;exact PySem.W.get_value X J (PySem.W.plainGet_of hg).1 (PySem.W.findObj_own hh ha Z (by rw[hl,hv])) ML h
theorem in_{pl:Sem Bool}{Q:Aa × aj->Ab->Prop}(X:K.In s.heap)(I:nF s.heap x dx C mA)(hg:PySem.W.plainGet K C name=true)
  (hf:PySem.W.findIn K (.ref C) name\some (.ref f)) (ht:PySem.W.isFn K (.ref f)=true) (hv:mA name=none) (h:Q (.ref f,[.ref x]) s) :
  wpAny (model prog w) A (getMethod (.ref x) name pl) Q E s:=by
 let#[od,J,hl]:=I.look;exact PySem.W.method_fn X J (PySem.W.plainGet_of hg).1 (PySem.W.plainGet_of hg).2 hf (beq_iff_eq.mp ht) (by show (PySem.W.lookIn name od).map (·.isSome)=some false;rw[hl,hv];rfl) h
theorem kO_{ns:ae}{Q:Unit->Ab->Prop}(X:K.In s.heap)(I:nF s.heap x dx C mA)
  (hs:PySem.W.findIn K (.ref C) "__setattr__"\some (.builtin "object.__setattr__")) (hp:PySem.W.plainOver K C=true) (ht:PySem.W.takerIn K C name\none) (hh:PySem.W.hasDictIn K C=true)
  (hw:PySem.Within mA ns) (hsz:ns.length<=sizeLine)
  (h:∀h',nF h' x dx C (λy=>if y=name then some v else mA y)->Heap.SameBut dx s.heap h'->Q () { s with heap:=h',toks:=s.toks+2 }) :
  wpAny (model prog w) A (setAttr (.ref x) name v) Q E s:=by
 let#[od,J,hl]:=I.look;apply PySem.W.set_plain X J hs (PySem.W.osa_open (s:={ s with toks:=s.toks+1 }) (r:=none) X J hp ht λb=>?_);let#[cd,hc,gT]:=PySem.W.any_some hh;have hx:s.heap.get? x=some #[.ref C,some dx,.plain,#[]]:=I.obj;apply aq (aU (aq (aq (wpAny_loadPart hx (aq (PySem.W.Looks.here (s:={ s with toks:=s.toks+1 }) (PySem.W.looks_clsIn X hc) ?_))))));rw[gT];apply aU (a:=some dx) (aq (aU (aq ?_)));apply wpAny_nsSet1 (s:={ s with toks:=s.toks+1 }) I.ns λh' yZ A8=>?_;let#[oD,esD,epD,hoD,hdD,hcD]:=yZ.count (PySem.Within.cons name v hw);apply aq (wpAny_lookBehind hoD (by rw[hdD];exact pastItsLine_dict (nC hcD (by rw[ka];omega))) ?_);exact aU (h _ #[(A8.2 _ (Ne.symm I.ne)).trans I.obj,yZ,I.ne] A8)
theorem ir_{R:Result->Ab->Prop}{vs:aj}{kw:List (Str × Aa)}(X:K.In s.heap)(hm:PySem.W.makesIn K C=true)
  (hi:PySem.W.findIn K (.ref C) "__init__"\some (.ref f)) (hf:PySem.W.typeIn K (.ref f)\.type "function")
  (h:codeAny (model prog w) (A.under (.builtin "type.__call__" #[.ref C::vs,kw])) (.call (.ref f) #[.ref (s.heap.objs.size+1)::vs,kw]) (PySem.W.InitBack (s.heap.objs.size+1) R)
   { s with heap:=(s.heap.push PySem.W.emptyDict).push (PySem.W.instObj C s.heap.objs.size) }) :
  codeAny (model prog w) A (.call (.ref C) #[vs,kw]) R s:=by
 let#[hh,g,d,t,os]:=s;exact PySem.W.make_core (PySem.W.makes_of X hm) (PySem.W.looks_findIn X hi) (λself=>PySem.W.bind_fn X self hf) (.inl Z) h
end
def aE(f:Str)(v:V):List (Str × V)->List (Str × V)
 |[]=>[(f,v)]
 |(g,x)::r=>if g=f then (g,v)::r else (g,x)::aE f v r
theorem fe(f g:Str)(v:V):∀fs:List (Str × V),(aE f v fs).lookup g=if g=f then some v else fs.lookup g
 |[]=>by
  show List.lookup g [(f,v)]=_;by_cases h:g=f
  ·have hb:(g == f)=true:=beq_iff_eq.mpr h;simp only[List.lookup,hb,aH h]
  ·have hb:(g == f)=false:=beq_eq_false_iff_ne.mpr h;simp only[List.lookup,hb,aB h]
 |(k,x)::r=>by
  let ih:=fe f g v r;rw[show aE f v ((k,x)::r)=(if k=f then (k,v)::r else (k,x)::aE f v r) from Z];by_cases hk:k=f
  ·rw[aH hk];by_cases h:g=k
   ·have hb:(g == k)=true:=beq_iff_eq.mpr h;simp only[List.lookup,hb,aH (h.trans hk)]
   have hb:(g == k)=false:=beq_eq_false_iff_ne.mpr h;simp only[List.lookup,hb,aB (λe:g=f=>h (e.trans hk.symm))]
  rw[aB hk];by_cases h:g=k
  ·have hb:(g == k)=true:=beq_iff_eq.mpr h;simp only[List.lookup,hb,aB (λe:g=f=>hk (h.symm.trans e))]
  have hb:(g == k)=false:=beq_eq_false_iff_ne.mpr h;simp only[List.lookup,hb];exact ih
theorem Qu(f:Str)(v:V):∀fs:List (Str × V),f∈(aE f v fs).map (·.1)/\∀g,g∈fs.map (·.1)->g∈(aE f v fs).map (·.1)
 |[]=>#[by simp[aE],λg h=>by simp at h]
 |(k,x)::r=>by
  let#[i1,i2]:=Qu f v r;rw[show aE f v ((k,x)::r)=(if k=f then (k,v)::r else (k,x)::aE f v r) from Z];by_cases hk:k=f
  ·rw[aH hk];subst hk;exact#[by simp,λg h=>by simpa using h]
  rw[aB hk];apply#[?_,λg h=>?_]
  ·rw[eD];exact fb _ i1
  rw[eD] at h ⊢;rcases cQ.mp h with e|e
  ·exact cQ.mpr (.inl e)
  exact fb _ (i2 g e)
theorem Wj(f:Str)(v:V):∀fs:List (Str × V),(aE f v fs).length<=fs.length+1
 |[]=>by simp[aE]
 |(k,x)::r=>by
  let ih:=Wj f v r;rw[show aE f v ((k,x)::r)=(if k=f then (k,v)::r else (k,x)::aE f v r) from Z];by_cases hk:k=f
  ·rw[aH hk,ka,ka];omega
  rw[aB hk,ka,ka];omega
theorem eU.some_of{v:V}{o:Option Aa}(r:eU (some v) o):∃u,o\u/\RelV v u:=by
 cases o with
 |none=>exact (show False from r).elim
 |some u=>exact#[u,Z,r]
theorem eU.none_of{o:Option Aa}(r:eU none o):o=none:=by
 cases o with
 |none=>rfl
 |some u=>exact (show False from r).elim
theorem h4_{v:V}{u:Aa}(r:RelV v u):PySem.W.handedIn u=true:=by
 cases v with
 |non=>cases (show u=Value.none from r);rfl
 |bl b=>cases (show u=Value.bool b from r);rfl
 |int i=>let#[t,e]:=(show ∃t,u=Value.int i t from r);cases e;rfl
 |str x=>let#[t,e]:=(show ∃t,u=Value.str x t from r);cases e;rfl
 |byt b=>let#[t,e]:=(show ∃t,u=Value.bytes b t from r);cases e;rfl
 |flt b=>let#[t,e]:=(show ∃t,u=Value.float b t from r);cases e;rfl
 |ref a=>cases (show u=Value.ref a from r);rfl
 |ty n=>cases (show u=Value.type n from r);rfl
section
variable{P:Ad}{w:Af}{H H':Hp}{h h':Heap}{a C dx:Addr}{fs fs':List (Str × V)}
theorem J9(aI:eG P w H h)(e:H a\.ins C dx fs):∃mA,nF h a dx C mA/\(∀f,eU (fs.lookup f) (mA f))/\PySem.Within mA (fs.map (·.1))/\fs.length<=1000/\H dx\.own a:=by
 let#[d,z,ne,ob,mA,n,r,q]:=(show eC P w H h a (.ins C dx fs) from aI a _ e);exact#[mA,#[ob,n,ne],r,q,z,d]
end
structure nJ (K:af) (C:Addr):Prop where
 pg:PySem.W.plainGet K C Str.empty=true
 hd:PySem.W.hasDictIn K C=true
 po:PySem.W.plainOver K C=true
 sa:PySem.W.findIn K (.ref C) "__setattr__"\some (.builtin "object.__setattr__")
theorem nJ.get{K:af}{C:Addr}(c:nJ K C)(f:Str):PySem.W.plainGet K C f=true:=c.pg
def kF(K:af)(C:Addr)(f:Str):Prop:=PySem.W.findIn K (.ref C) f=some none
theorem kF.Ed{K:af}{C:Addr}{f:Str}(n:kF K C f):PySem.W.takerIn K C f\none:=by
 unfold PySem.W.takerIn;rw[show PySem.W.findIn K (.ref C) f\none from n];rfl
structure Con (K:af) (C:Addr) (f:Str) (v:V) (u:Aa):Prop where
 at_:PySem.W.findIn K (.ref C) f\some u
 rel:RelV v u
 get:PySem.W.specialIn K u "__get__"\none
 cp:PySem.W.copiedNames.contains f=false
structure Meth (K:af) (C:Addr) (m:Str) (f:Addr):Prop where
 at_:PySem.W.findIn K (.ref C) m\some (.ref f)
 fn:PySem.W.isFn K (.ref f)=true
 kp:PySem.W.keepIn K (.ref f)=true
section
variable{X:Cx}{pins:List (Addr × Obj)}{σ:St}{H:Hp}{s:Ab}{a C dx:Addr}{fs:List (Str × V)}{f:Str}{v:V}{A:Ag}{E:Aa->Ab->Prop}
theorem g7_{b:Bool}{Q:Aa->Ab->Prop}(I:Inv X pins σ H s)(e:H a\.ins C dx fs)(c:nJ X.K C)(n:kF X.K C f)(l:fs.lookup f\v)
  (h:∀u s',Inv X pins σ H s'->RelV v u->Q u s'):wpAny (model X.prog X.w) A (getAttr (.ref a) f b) Q E s:=by
 let#[mA,O,r,_,_,_]:=J9 I.aI e;let#[u,hu,ru]:=eU.some_of (v:=v) (o:=mA f) (by rw[<- l];exact r f);exact k4_ I.gr O (c.get f) c.hd n hu (h4_ ru) (h u _ (I.tok _) ru)
theorem V1{m:Str}{g:Addr}{pl:Sem Bool}{Q:Aa × aj->Ab->Prop}(I:Inv X pins σ H s)(e:H a\.ins C dx fs)(c:nJ X.K C)(k:Meth X.K C m g)(l:fs.lookup m=none)
  (h:Q (.ref g,[.ref a]) s):wpAny (model X.prog X.w) A (getMethod (.ref a) m pl) Q E s:=by
 let#[mA,O,r,_,_,_]:=J9 I.aI e;have hn:mA m=none:=eU.none_of (by rw[<- l];exact r m);exact in_ I.gr O (c.get m) k.at_ k.fn hn h
theorem g5_{y:V}{u:Aa}{Q:Unit->Ab->Prop}(I:Inv X pins σ H s)(e:H a\.ins C dx fs)(c:nJ X.K C)(n:kF X.K C f)(hl:fs.length<1000)(ry:RelV y u)
  (h:∀s',Inv X pins σ (upd H a (.ins C dx (aE f y fs))) s'->Q () s'):wpAny (model X.prog X.w) A (setAttr (.ref a) f u) Q E s:=by
 let#[mA,O,r,wi,_,ho]:=J9 I.aI e;have hz:(fs.map (·.1)).length<=sizeLine:=by rw[aA,b_];omega
 apply kO_ I.gr O c.sa c.po n.Ed c.hd wi hz λh' O' sb=>h _ ?_;have hd:∃o,h'.get? dx\o:=let #[o,_,_,e',_]:=O'.ns;#[o,e'];apply I.write (x:=a) (e:=dx) (by rw[e];exact True.intro) (.inr ho) (λb q hb z=>(sb.2 b hb).trans z) hd ?_;apply#[by rw[aD O.ne];exact ho,?_,O.ne,O'.obj,_,O'.ns,λg=>?_,λg hg=>?_]
 ·have:=Wj f y fs;omega
 ·show eU ((aE f y fs).lookup g) (if g=f then some u else mA g);rw[fe];by_cases q:g=f
  ·rw[aH q,aH q];exact ry
  rw[aB q,aB q];exact r g
 by_cases q:g=f
 ·rw[q];exact (Qu f y fs).1
 apply (Qu f y fs).2 g (wi g λz=>hg ?_);show (if g=f then some u else mA g)=none;rw[aB q];exact z
theorem Inv.made(I:Inv X pins σ H s):Inv X pins σ (upd (upd H s.heap.objs.size (.own (s.heap.objs.size+1))) (s.heap.objs.size+1) (.ins C s.heap.objs.size []))
  { s with heap:=(s.heap.push PySem.W.emptyDict).push (PySem.W.instObj C s.heap.objs.size) }:=by
 have e1:(s.heap.push PySem.W.emptyDict).get? s.heap.objs.size\PySem.W.emptyDict:=eh s.heap Z
 have e2:((s.heap.push PySem.W.emptyDict).push (PySem.W.instObj C s.heap.objs.size)).get? (s.heap.objs.size+1)\PySem.W.instObj C s.heap.objs.size:=by
  have:=eh (s.heap.push PySem.W.emptyDict) (o:=PySem.W.instObj C s.heap.objs.size) Z;rwa [Heap.size_push] at this
 have e3:(s.heap.push PySem.W.emptyDict).Ns s.heap.objs.size (λ_=>none):=#[PySem.W.emptyDict,#[],_,e1,Z,(λe he=>absurd he Z2),λ_=>rfl];let I1:=I.laid (a:=s.heap.objs.size) (o:=.own (s.heap.objs.size+1)) (h':=s.heap.push PySem.W.emptyDict) (t':=s.toks) (λb u q=>cj _ q) (bj _) #[_,e1];apply I1.laid (a:=s.heap.objs.size+1) (o:=.ins C s.heap.objs.size []) (t':=s.toks) (λb u q=>cj _ q) (Nat.le_of_eq (Heap.size_push _ _)) ?_;have ne:s.heap.objs.size≠s.heap.objs.size+1:=dZ (Nat.lt_succ_self _);apply#[by rw[aD ne,au],g7 _,ne,e2,λ_=>none,(Heap.Ns1.of_empty e3).at λo q=>cj _ q,λ_=>True.intro,λy hy=>absurd Z hy]
theorem jV_{prog:Ad}{w:Af}{env:Env}{e:Expr}{f:Str}{pos:Pos}{s:Ab}{Q:Aa->Ab->Prop}(hb:attributeBase e f env (eval e env)=eval e env)
  (h:wpAny (model prog w) A (eval e env) (λo aZ=>wpAny (model prog w) A (getAttr o f true) Q E aZ) E s):wpAny (model prog w) A (eval (.Attribute e f pos) env) Q E s:=
 Attribute_any_ h (by rw[arm_eval_Attribute,hb])
end
inductive yk (K:af) (f:Str) (Q:VK) (x:V) (H1:Hp):Prop
 |mk:∀a C dx fs v,x=.ref a->H1 a\.ins C dx fs->nJ K C->kF K C f->fs.lookup f\v->Q v H1->yk K f Q x H1
def Lq(K:af)(ta:TE)(f:Str):TE:=λσ H Q=>ta σ H λx H1=>yk K f Q x H1
inductive yy (K:af) (f:Str) (D:Ends) (σ:St) (y:V) (x:V) (H2:Hp):Prop
 |mk:∀a C dx fs,x=.ref a->H2 a\.ins C dx fs->nJ K C->kF K C f->fs.length<1000->D.nx σ (upd H2 a (.ins C dx (aE f y fs)))->yy K f D σ y x H2
def LK(K:af)(ta tv:TE)(f:Str):TS:=λD σ H=>tv σ H λy H1=>ta σ H1 λx H2=>yy K f D σ y x H2
section
variable{X:Cx}{o e value:Expr}{f:Str}{pos pos' pB:Pos}{ta tv:TE}
theorem dz(he:PE X e ta)(hb:attributeBase e f X.env (eval e X.env)=eval e X.env):PE X (.Attribute e f pos) (Lq X.K ta f):=by
 intro pins s σ H Q I h;apply jV_ hb (aV (he pins s σ H _ I h) λu s1 ⟨x,H1,I1,rx,a,C,dx,fs,v,ex,ea,c,n,l,q⟩=>?_);subst ex;obtain rfl:u=Value.ref a:=rx;exact g7_ I1 ea c n l λu' s2 I2 ru=>#[v,H1,I2,ru,q]
theorem vG(ha:PE X o ta)(hv:PE X value tv)(hs:swapsWith value (some (.Attribute o f pos')) pos.line X.env=pure false):PS X (.Assign [.Attribute o f pos'] value pos) (LK X.K ta tv f):=by
 intro pins s σ H D I h;apply plainObj_wpAny_Assign_Attribute (aV (hv pins s σ H _ I h) λu s1 ⟨y,H1,I1,ry,q⟩=>aV (ha pins s1 σ H1 _ I1 q) λov s2 ⟨x,H2,I2,rx,a,C,dx,fs,ex,ea,c,n,l,q2⟩=>?_) hs;subst ex;obtain rfl:ov=Value.ref a:=rx;exact g5_ I2 ea c n l ry λs3 I3=>#[σ,_,I3,q2]
end
section
variable{X:Cx}{pins:List (Addr × Obj)}{σ:St}{H:Hp}{s:Ab}{A:Ag}{E:Aa->Ab->Prop}{Q:Aa->Ab->Prop}{c:Aa}{b:Bool}
inductive d7 (K:af) (H:Hp):V->Aa->Prop where
 |non:d7 K H .non (.type "NoneType")
 |bl (x:Bool):d7 K H (.bl x) (.type "bool")
 |int (i:Int):d7 K H (.int i) (.type "int")
 |str (x:Str):d7 K H (.str x) (.type "str")
 |flt (x:UInt64):d7 K H (.flt x) (.type "float")
 |lst {a:Addr} {xs:ag} (e:H a\.lst xs):d7 K H (.ref a) (.type "list")
 |frz {a:Addr} {o:Obj} {xs:ag} (e:H a\.frz o (.lst xs)):d7 K H (.ref a) (.type "list")
 |tup {a:Addr} {xs:ag} (e:H a\.tup xs):d7 K H (.ref a) (.type "tuple")
 |dK {a:Addr} {kvs:List (Key × V)} (e:H a\.dK kvs):d7 K H (.ref a) (.type "dict")
 |dT {a:Addr} {kvs:List (ay × V)} (e:H a\.dT kvs):d7 K H (.ref a) (.type "dict")
 |ins {a C dx:Addr} {fs:List (Str × V)} (e:H a\.ins C dx fs) (cl:nJ K C) (ha:PySem.W.findIn K (.ref C) "__class__"\some (.builtin "object.__class__"))
   (hn:PySem.W.specialIn K (.builtin "object.__class__") "__get__"\some (.builtin "getset_descriptor.__get__")) (Jn:PySem.W.takesIn K (.builtin "object.__class__")\true)
   (hm:PySem.W.mroIn K C (.type "object")\true):d7 K H (.ref a) (.ref C)
theorem Wg{x:V}{u t:Aa}(I:Inv X pins σ H s)(rx:RelV x u)(ty:d7 X.K H x t)(e:PySem.W.kitOne X.K t c\b)(h:∀tk,Q (.bool b) { s with toks:=tk }) :
  wpAny (model X.prog X.w) A (call (.builtin "isinstance") [u,c]) Q E s:=by
 cases ty with
 |non=>cases (show u=Value.none from rx);exact uz PySem.W.kitx_none I.gr True.intro e nofun h
 |bl y=>cases (show u=Value.bool y from rx);exact uz PySem.W.kitx_bool I.gr True.intro e nofun h
 |int i=>let#[t,q]:=(show ∃t,u=Value.int i t from rx);cases q;exact uz PySem.W.kitx_int I.gr True.intro e nofun h
 |str y=>let#[t,q]:=(show ∃t,u=Value.str y t from rx);cases q;exact uz PySem.W.kitx_str I.gr True.intro e nofun h
 |flt y=>let#[t,q]:=(show ∃t,u=Value.float y t from rx);cases q;exact uz PySem.W.kitx_float I.gr True.intro e nofun h
 |@lst a xs ea=>
  cases (show u=Value.ref a from rx);let#[_,_,n,_,h1]:=(show eC X.prog X.w H s.heap a (.lst xs) from I.aI a _ ea);exact uz PySem.W.kitx_list I.gr #[_,h1,Z] e nofun h
 |@frz a ob xs ea=>
  cases (show u=Value.ref a from rx);let#[_,_,_,n,_,h1]:=(show eC X.prog X.w H s.heap a (.frz ob (.lst xs)) from I.aI a _ ea);exact uz PySem.W.kitx_list I.gr #[_,h1,Z] e nofun h
 |@tup a xs ea=>
  cases (show u=Value.ref a from rx);let#[_,_,_,p,_]:=(show eC X.prog X.w H s.heap a (.tup xs) from I.aI a _ ea);let#[o,h1,h2,_]:=p;exact uz PySem.W.kitx_tuple I.gr #[o,h1,h2] e nofun h
 |@dK a kvs ea=>
  cases (show u=Value.ref a from rx);let#[_,_,vs,_,p]:=(show eC X.prog X.w H s.heap a (.dK kvs) from I.aI a _ ea);let#[o,es,ep,h1,h2,_]:=p;exact uz PySem.W.kitx_dict I.gr #[o,h1,h2.1] e nofun h
 |@dT a kvs ea=>
  cases (show u=Value.ref a from rx);let#[_,_,xs,_,o,es,ep,h1,h2,_]:=(show eC X.prog X.w H s.heap a (.dT kvs) from I.aI a _ ea);exact uz PySem.W.kitx_dict I.gr #[o,h1,h2.1] e nofun h
 |@ins a C dx fs ea cl ha hn Jn hm=>
  cases (show u=Value.ref a from rx);let#[mA,O,_]:=J9 I.aI ea;let#[od,J,_]:=O.look;exact uz (PySem.W.kitx_own (cl.get _) cl.hd ha hn Jn hm) I.gr J e nofun h
end
end L2
namespace L2
open PySem PySem.Spec PyProof.Rows
structure a_ (k:Nat) (A:Ag):Prop where
 hd:A.handled=none
 dp:A.depth+3 * k+5<recursionLimit
 un:A.units+16 * k+200<cLine
theorem a_.mono{j k:Nat}{A:Ag}(r:a_ k A)(h:j<=k):a_ j A:=#[r.hd,by have:=r.dp;omega,by have:=r.un;omega]
theorem a_.deeper{k:Nat}{A:Ag}(r:a_ (k+1) A)(env:Env):a_ k (A.deeper env):=
 #[r.hd,by have:=r.dp;show A.depth+1+3 * k+5<_;omega,by have:=r.un;show A.units+3+16 * k+200<_;omega]
theorem a_.in1{k:Nat}{A:Ag}(r:a_ (k+1) A):a_ k A.in1:=
 #[r.hd,by have:=r.dp;show A.depth+3 * k+5<_;omega,by have:=r.un;show A.units+1+16 * k+200<_;omega]
theorem gb_{A:Ag}{C:Addr}{us:aj}{kw:List (Str × Aa)}:(A.under (.builtin "type.__call__" #[.ref C::us,kw])).depth=A.depth+1:=by
 first|rfl|simp[Around.under,Code.weight,Code.isCreation,Code.isGuard,Code.isCaller,Code.frames,Code.isFrame,guardIds]
theorem fT_{A:Ag}{C:Addr}{us:aj}{kw:List (Str × Aa)}:(A.under (.builtin "type.__call__" #[.ref C::us,kw])).units=A.units+1:=by
 first|rfl|simp[Around.under,Code.cUnits,Code.frames,Code.isFrame]
theorem a_.make{k:Nat}{A:Ag}(r:a_ (k+1) A)(C:Addr)(us:aj)(kw:List (Str × Aa)):a_ k (A.under (.builtin "type.__call__" #[.ref C::us,kw])):=
 #[r.hd,by have:=r.dp;rw[gb_];omega,by have:=r.un;rw[fT_];omega]
theorem a_.depth{k:Nat}{A:Ag}(r:a_ k A):A.depth<recursionLimit:=by have:=r.dp;omega
theorem a_.units{k:Nat}{A:Ag}(r:a_ k A):A.units+64<cLine:=by have:=r.un;omega
def lF:TA:=λ_ H Q=>Q [] H
def jH(ta:TE)(tr:TA):TA:=λσ H Q=>ta σ H λx H1=>tr σ H1 λxs H2=>Q (x::xs) H2
section
variable{X:Cx}{e:Expr}{es:List Expr}{te:TE}{t:TA}{pos:Pos}
theorem bf:PA X [] lF:=λ_ _ _ _ H Q I h=>Calls.spliced_nil #[[],H,I,.nil,h]
theorem eW(ha:PE X e te)(hr:PA X es t)(hs:starEach (e::es) X.env=(false,eval e X.env)::starEach es X.env:=by rfl):PA X (e::es) (jH te t):=by
 intro pos pins s σ H Q I h;rw[hs];show wpAny _ _ (spliced ((false,eval e X.env)::backTo pos (starEach es X.env))) _ _ s;apply Calls.spliced_cons (aV (ha pins s σ H _ I h) λu s1 ⟨x,H1,I1,r1,q1⟩=>?_);exact aV (hr pos pins s1 σ H1 _ I1 q1) λus s2 ⟨xs,H2,I2,r2,q2⟩=>#[x::xs,H2,I2,.cons r1 r2,q2]
def Ee(t:TA):TE:=λσ H Q=>t σ H λxs H1=>xs.length<=sizeLine/\∀p,H1 p=none->Q (.ref p) (upd H1 p (.tup xs))
def Ll(t:TA):TE:=λσ H Q=>t σ H λxs H1=>xs.length<=sizeLine/\∀p,H1 p=none->Q (.ref p) (upd H1 p (.lst xs))
theorem dR{x1}(h:PA X es t):PE X (.Tuple es x1 pos) (Ee t):=by
 intro pins s σ H Q I hq;apply wpAny_Tuple_spliced (aV (h pos pins s σ H _ I hq) λus s1 ⟨xs,H1,I1,r,z,q⟩=>#[by rw[<- r.length];exact z,?_]);have hf:H1 s1.heap.objs.size=none:=I1.aI.fresh (bj _);apply#[.ref s1.heap.objs.size,upd H1 s1.heap.objs.size (.tup xs),I1.laid (t':=s1.toks) (λb u e=>cj _ e) (bj _) ?_,Z,q _ hf];exact#[z,us,r,#[_,eh _ Z,Z,_,Z],_,eh _ Z,Z]
theorem dE(h:PA X es t):PE X (.List es pos) (Ll t):=by
 intro pins s σ H Q I hq;apply wpAny_List_spliced (aV (h pos pins s σ H _ I hq) λus s1 ⟨xs,H1,I1,r,z,q⟩=>#[by rw[<- r.length];exact z,?_]);have hf:H1 s1.heap.objs.size=none:=I1.aI.fresh (bj _);apply#[.ref s1.heap.objs.size,upd H1 s1.heap.objs.size (.lst xs),I1.laid (t':=s1.toks) (λb u e=>cj _ e) (bj _) ?_,Z,q _ hf];exact#[z,us,0,r,eh _ Z]
end
abbrev Sp:=ag->Hp->VK->XK->Prop
abbrev jF:=List Env->Hp->Ab->XK->Aa->Ab->Prop
structure iM (P:Ad) (w:Af) (K:af) (mg:Str->Option Aa) (base:Heap) (A:Ag) (outer:List Env) (s:Ab) (H:Hp):Prop where
 frames:A.frames\outer
 mod:Mod K mg base
 bs:∀b o,base.get? b\o->s.heap.get? b\o/\H b=none
 uI:base.objs.size<=s.heap.objs.size
 fY:s.heap.FunFrames base outer
 xk:∀b∈h_ outer,H b=none
 aI:eG P w H s.heap
 bare:AllBare s.gens
def CE(outer:List Env)(P:Ad)(w:Af)(H:Hp)(s:Ab)(Q:VK)(u:Aa)(s':Ab):Prop:=
 ∃v H',s'.os=s.os/\AllBare s'.gens/\Un (h_ outer) [] H H' s.heap s'.heap/\eG P w H' s'.heap/\RelV v u/\Q v H'
def CR(CX:jF)(outer:List Env)(P:Ad)(w:Af)(H:Hp)(s:Ab)(Q:VK)(E:XK)(r:Result)(s':Ab):Prop:=
 match r with
 |.ok (.ret u)=>CE outer P w H s Q u s'
 |.ok _=>False
 |.error e=>CX outer H s E e s'
structure ak (P:Ad) (w:Af) (K:af) (mg:Str->Option Aa) (base:Heap) (CX:jF) (k:Nat) (f:Addr) (fd:Ae) (ps:ae) (sp:Sp):Prop where
 len:∀vs H Q E,sp vs H Q E->vs.length=ps.length
 run:∀(A:Ag) (outer:List Env) (s:Ab) (H:Hp) (args:Args) (us:aj) (vs:ag) (Q:VK) (E:XK),a_ k A->iM P w K mg base A outer s H->BindsTo s fd args (ps.zip us)->Vals vs us->sp vs H Q E->
  codeAny (model P w) A (.call (.ref f) args) (CR CX outer P w H s Q E) s
theorem ak.mono{P:Ad}{w:Af}{K:af}{mg:Str->Option Aa}{base:Heap}{CX:jF}{j k:Nat}{f:Addr}{fd:Ae}{ps:ae}{sp:Sp}(F:ak P w K mg base CX j f fd ps sp)(h:j<=k) :
  ak P w K mg base CX k f fd ps sp:=#[F.len,λA outer s H args us vs Q E hr=>F.run A outer s H args us vs Q E (hr.mono h)]
theorem iM.make{P:Ad}{w:Af}{K:af}{mg:Str->Option Aa}{base:Heap}{A:Ag}{outer:List Env}{s:Ab}{H:Hp}(e:iM P w K mg base A outer s H)(C:Addr)(us:aj)(kw:List (Str × Aa)) :
  iM P w K mg base (A.under (.builtin "type.__call__" #[.ref C::us,kw])) outer s H:=#[by first|exact e.frames|(simpa [Around.under,Code.envs,Code.isFrame,pushEnvs] using e.frames),e.mod,e.bs,e.uI,e.fY,e.xk,e.aI,e.bare]
section
variable{X:Cx}{pins:List (Addr × Obj)}{σ:St}{H:Hp}{s s':Ab}
theorem Inv.BE(I:Inv X pins σ H s):iM X.prog X.w X.K X.mg X.base X.A X.stack s H:=
 #[I.ok.frames,I.ok.mod,I.bs,nC I.ok.uI I.sz,I.stack,I.i4,I.aI,I.bare]
theorem Inv.after{Q:VK}{u:Aa}(I:Inv X pins σ H s)(h:CE X.stack X.prog X.w H s Q u s'):EP X pins σ Q u s':=by
 let#[v,H',os,bare,un,aI,r,q]:=h;let#[hh,g,d,t,Zt]:=s';obtain rfl:Zt=s.os:=os;exact#[v,H',I.call (h':=hh) (g':=g) (d':=d) (t':=t) (ch:=[]) un aI bare (λb z=>absurd z Z2),r,q]
end
def yn(sp:Sp)(gR:ag)(E:XK)(t:TA):TE:=λσ H Q=>t σ H λvs H1=>sp (vs++gR) H1 Q E
inductive qZ (C:Addr) (m:Str) (sp:Sp) (gR:ag) (E:XK) (t:TA) (σ:St) (Q:VK) (x:V) (H1:Hp):Prop
 |mk:∀a dx fs,x=.ref a->H1 a\.ins C dx fs->fs.lookup m=none->(t σ H1 λvs H2=>sp (x::(vs++gR)) H2 Q E)->qZ C m sp gR E t σ Q x H1
def nR(C:Addr)(m:Str)(sp:Sp)(gR:ag)(E:XK)(ta:TE)(t:TA):TE:=λσ H Q=>ta σ H λx H1=>qZ C m sp gR E t σ Q x H1
def yg(C:Addr)(sp:Sp)(gR:ag)(E:XK)(t:TA):TE:=λσ H Q=>t σ H λvs H1=>∀x dx,H1 x=none->H1 dx=none->dx≠x->
 sp (.ref x::(vs++gR)) (upd (upd H1 dx (.own x)) x (.ins C dx [])) (λv H2=>v=.non/\Q (.ref x) H2) E
def qE(K:af)(fd:Ae)(ps:ae)(ds:aj):Prop:=
 ∀(s:Ab) (us:aj),K.In s.heap->(us++ds).length=ps.length->BindsTo s fd #[us,[]] (ps.zip (us++ds))
theorem qE.all{K:af}{fd:Ae}{ps:ae}(h:∀us:aj,us.length=ps.length->bindArgs fd #[us,[]]=pure (ps.zip us)):qE K fd ps []:=λs us _ hl=>by
 rw[xR] at hl ⊢;exact .of_eq (h us hl)
def xu(CX:jF)(X:Cx)(E:XK):Prop:=∀(pins:List (Addr × Obj)) (σ:St) (H:Hp) (s:Ab) (e:Aa) (s':Ab),Inv X pins σ H s->CX X.stack H s E e s'->X.xe e s'
section
variable{X:Cx}{CX:jF}{k:Nat}{f C:Addr}{fd:Ae}{ps:ae}{sp:Sp}{gR:ag}{ds:aj}{E:XK}{x m:Str}{p pos apos:Pos}{e o:Expr}{es:List Expr}{ta:TE}{t:TA}
theorem MF{pins:List (Addr × Obj)}{σ:St}{H:Hp}{s:Ab}{Q:VK}{us:aj}{vs:ag}(F:ak X.prog X.w X.K X.mg X.base CX k f fd ps sp)(hr:a_ k X.A)(hb:qE X.K fd ps ds)(hd:Vals gR ds)(hx:xu CX X E)
  (I:Inv X pins σ H s) (r:Vals vs us) (h:sp (vs++gR) H Q E):wpAny (model X.prog X.w) X.A (call (.ref f) us) (EP X pins σ Q) X.xe s:=by
 have r2:Vals (vs++gR) (us++ds):=r.append hd;have hl:(us++ds).length=ps.length:=by rw[<- r2.length];exact F.len _ _ _ _ h
 apply wpAny_call (codeAny_mono (F.run X.A X.stack s H #[us,[]] (us++ds) (vs++gR) Q E hr I.BE (hb s us I.gr hl) r2 h) λr s' hq=>?_);cases r with
 |error e=>exact hx pins σ H s e s' I hq
 |ok fl=>
  cases fl with
  |ret u=>exact I.after hq
  |next=>exact False.elim hq
  |brk=>exact False.elim hq
  |cont=>exact False.elim hq
theorem kT_(F:ak X.prog X.w X.K X.mg X.base CX k f fd ps sp)(hr:a_ k X.A)(hg:Gl X x)(hm:X.mg x\.ref f)(hk:PySem.W.keepIn X.K (.ref f)=true)(hb:qE X.K fd ps ds)(hd:Vals gR ds)(hx:xu CX X E)
  (ha:PA X (e::es) t) (pU:(x == ("__debug__":Str))=false:=by decide) (he:starEach (e::es) X.env=(false,eval e X.env)::starEach es X.env:=by rfl) (jt:(backTo pos (starEach es X.env)).any (·.1)=false:=by rfl) :
  PE X (.Call (.Name x p) (e::es) [] pos) (yn sp gR E t):=by
 intro pins s σ H Q I h;apply wpAny_Call_Name_kw (OU I hg hm ?_ pU);apply PySem.W.callWith_K (h₀:=X.base) I.ok.mod.Fo hk (aV (ha pos pins s σ H _ I h) λus s1 ⟨vs,H1,I1,r,q⟩=>#[I1.gr,?_]) he jt;exact MF F hr hb hd hx I1 r q
theorem jD_{pl:Sem Bool}(he:PE X o ta)(c:nJ X.K C)(hm:Meth X.K C m f)(F:ak X.prog X.w X.K X.mg X.base CX k f fd ps sp)(hr:a_ k X.A)(hb:qE X.K fd ps ds)(hd:Vals gR ds)(hx:xu CX X E)(ha:PA X (e::es) t)
  (wQ:starEach (e::es) X.env=(false,eval e X.env)::starEach es X.env:=by rfl) (jt:(backTo pos (starEach es X.env)).any (·.1)=false:=by rfl)
  (ht:eval (.Call (.Attribute o m apos) (e::es) [] pos) X.env=(do
   let ov <- eval o X.env
   standAt apos.atName
   let (f,first) <- holding [ov] (getMethod ov m pl)
   callWith pos f first (backTo pos (starEach (e::es) X.env)) (backToKw pos (keywordEach [] X.env))):=by rfl) :
  PE X (.Call (.Attribute o m apos) (e::es) [] pos) (nR C m sp gR E ta t):=by
 intro pins s σ H Q I h;apply PySem.W.methodCall_KW (pl:=pl) (aV (he pins s σ H _ I h) λu s1 ⟨x,H1,I1,rx,a,dx,fs,ex,ea,l,q⟩=>?_) ht;subst ex;obtain rfl:u=Value.ref a:=rx;apply V1 I1 ea c hm l ?_;apply PySem.W.callWith_K (first:=[.ref a]) (h₀:=X.base) I.ok.mod.Fo hm.kp (aV (ha pos pins s1 σ H1 _ I1 q) λus s2 ⟨vs,H2,I2,r,q2⟩=>#[I2.gr,?_]) wQ jt;exact MF (us:=.ref a::us) (vs:=.ref a::vs) F hr hb hd hx I2 (.cons Z r) q2
theorem je_{pl:Sem Bool}(he:PE X o ta)(c:nJ X.K C)(hm:Meth X.K C m f)(F:ak X.prog X.w X.K X.mg X.base CX k f fd ps sp)(hr:a_ k X.A)(hb:qE X.K fd ps ds)(hd:Vals gR ds)(hx:xu CX X E)
  (ht:eval (.Call (.Attribute o m apos) [] [] pos) X.env=(do
   let ov <- eval o X.env
   standAt apos.atName
   let (f,first) <- holding [ov] (getMethod ov m pl)
   callWith pos f first (backTo pos (starEach [] X.env)) (backToKw pos (keywordEach [] X.env))):=by rfl) :
  PE X (.Call (.Attribute o m apos) [] [] pos) (nR C m sp gR E ta lF):=by
 intro pins s σ H Q I h;apply PySem.W.methodCall_KW (pl:=pl) (aV (he pins s σ H _ I h) λu s1 ⟨x,H1,I1,rx,a,dx,fs,ex,ea,l,q⟩=>?_) ht;subst ex;obtain rfl:u=Value.ref a:=rx;apply V1 I1 ea c hm l ?_;exact PySem.W.callWith_K0 (first:=[.ref a]) I1.gr hm.kp (MF (us:=[.ref a]) (vs:=[.ref a]) F hr hb hd hx I1 (.cons Z .nil) q)
structure Mk (K:af) (C f:Addr):Prop where
 makes:PySem.W.makesIn K C=true
 init:PySem.W.findIn K (.ref C) "__init__"\some (.ref f)
 fn:PySem.W.isFn K (.ref f)=true
 kp:PySem.W.keepIn K (.ref C)=true
theorem ib_{pins:List (Addr × Obj)}{σ:St}{H:Hp}{s:Ab}{Q:VK}{us:aj}{vs:ag}(M:Mk X.K C f)(F:ak X.prog X.w X.K X.mg X.base CX k f fd ps sp)(hr:a_ (k+1) X.A)(hb:qE X.K fd ps ds)(hd:Vals gR ds)
  (hx:xu CX X E) (I:Inv X pins σ H s) (r:Vals vs us)
  (h:∀x dx,H x=none->H dx=none->dx≠x->sp (.ref x::(vs++gR)) (upd (upd H dx (.own x)) x (.ins C dx [])) (λv H2=>v=.non/\Q (.ref x) H2) E) :
  wpAny (model X.prog X.w) X.A (call (.ref C) us) (EP X pins σ Q) X.xe s:=by
 let hq:=h (s.heap.objs.size+1) s.heap.objs.size (I.aI.fresh (Nat.le_succ _)) (I.aI.fresh (bj _)) (dZ (Nat.lt_succ_self _));let I2:=Inv.made (C:=C) I;have r2:Vals (V.ref (s.heap.objs.size+1)::(vs++gR)) (Value.ref (s.heap.objs.size+1)::(us++ds)):=.cons Z (r.append hd)
 have hl:(Value.ref (s.heap.objs.size+1)::us++ds).length=ps.length:=by
  let e:=r2.length;rw[F.len _ _ _ _ hq] at e;exact e.symm
 apply wpAny_call (ir_ (f:=f) I.gr M.makes M.init (beq_iff_eq.mp M.fn) (codeAny_mono (F.run _ X.stack _ _ #[Value.ref (s.heap.objs.size+1)::us,[]] (Value.ref (s.heap.objs.size+1)::(us++ds)) _ _ E (hr.make C us [])
  (I2.BE.make C us []) (hb _ (Value.ref (s.heap.objs.size+1)::us) I2.gr hl) r2 hq) λr s' hq'=>?_))
 cases r with
 |error e=>exact hx pins σ _ _ e s' I2 hq'
 |ok fl=>
  cases fl with
  |ret u=>
   let#[v,H',I3,rv,ev,q3]:=I2.after hq';subst ev;exact#[rv,#[V.ref (s.heap.objs.size+1),H',I3,Z,q3]]
  |next=>exact False.elim hq'
  |brk=>exact False.elim hq'
  |cont=>exact False.elim hq'
theorem jK_(M:Mk X.K C f)(F:ak X.prog X.w X.K X.mg X.base CX k f fd ps sp)(hr:a_ (k+1) X.A)(hg:Gl X x)(hm:X.mg x\.ref C)(hb:qE X.K fd ps ds)(hd:Vals gR ds)(hx:xu CX X E)
  (ha:PA X (e::es) t) (pU:(x == ("__debug__":Str))=false:=by decide) (he:starEach (e::es) X.env=(false,eval e X.env)::starEach es X.env:=by rfl) (jt:(backTo pos (starEach es X.env)).any (·.1)=false:=by rfl) :
  PE X (.Call (.Name x p) (e::es) [] pos) (yg C sp gR E t):=by
 intro pins s σ H Q I h;apply wpAny_Call_Name_kw (OU I hg hm ?_ pU);apply PySem.W.callWith_K (h₀:=X.base) I.ok.mod.Fo M.kp (aV (ha pos pins s σ H _ I h) λus s1 ⟨vs,H1,I1,r,q⟩=>#[I1.gr,?_]) he jt;exact ib_ M F hr hb hd hx I1 r q
end
def PK(X:Cx)(CK:List Keyword)(t:TA):Prop:=
 ∀(pos:Pos) (pins:List (Addr × Obj)) (s:Ab) (σ:St) (H:Hp) (Q:ag->Hp->Prop),Inv X pins σ H s->t σ H Q->wpAny (model X.prog X.w) X.A (evalAll ((backToKw pos (keywordEach CK X.env)).map (·.2))) (AP X pins σ Q) X.xe s
section
variable{X:Cx}{CX:jF}{k:Nat}{f C:Addr}{fd:Ae}{ps ks:ae}{sp:Sp}{E:XK}{x m:Str}{p pos apos Ms:Pos}{e o:Expr}{es:List Expr}{CK:List Keyword}{te ta:TE}{t tk:TA}{nm:Option Str}
theorem SK:PK X [] lF:=λ_ _ _ _ H Q I h=>wpAny_evalAll_nil #[[],H,I,.nil,h]
theorem Uc(ha:PE X e te)(hr:PK X CK t):PK X (#[nm,e,Ms]::CK) (jH te t):=by
 intro pos pins s σ H Q I h;show wpAny _ _ (evalAll ((do let v <- eval e X.env;standAt pos;pure v)::(backToKw pos (keywordEach CK X.env)).map (·.2))) _ _ s;apply wpAny_evalAll_cons (aq (aV (ha pins s σ H _ I h) λu s1 ⟨x,H1,I1,r1,q1⟩=>aq (wpAny_standAt (aU ?_))));exact aV (hr pos pins s1 σ H1 _ I1 q1) λus s2 ⟨xs,H2,I2,r2,q2⟩=>#[x::xs,H2,I2,.cons r1 r2,q2]
structure Q9 (K:af) (fd:Ae) (ps ks:ae) (g:aj->aj->aj) (gV:ag->ag->ag):Prop where
 to:∀(s:Ab) (us ws:aj),K.In s.heap->(g us ws).length=ps.length->BindsTo s fd #[us,ks.zip ws] (ps.zip (g us ws))
 rel:∀{vs:ag} {us:aj} {zs:ag} {ws:aj},Vals vs us->Vals zs ws->Vals (gV vs zs) (g us ws)
variable{g:aj->aj->aj}{gV:ag->ag->ag}
end
structure br (N P:ae) (sc:Scope):Prop where
 kind:sc.kind=.function
 co:sc.isCoroutine=false
 gen:sc.isGenerator=false
 nd:N.Nodup
 pre:N.take P.length=P
 par:∀x∈P,sc.names.lookup x\.local∨sc.names.lookup x\.cell
 AU:∀y∈sc.names,y.2≠.free
theorem Wc{kindOf:Str->Option NameKind}{x:Str}:∀{binds:List (Str × Aa)} {m:Str->Option Aa},(∀v,(x,v)∉binds)->bindL kindOf binds m x=m x
 |[],_,_=>rfl
 |(n,v)::r,m,h=>by
  unfold bindL;rw[Wc λw hw=>h w (fb _ hw)];split
  ·have:x≠n:=by rintro rfl;exact h v fQ
   simp[this]
  rfl
theorem Vy{kindOf:Str->Option NameKind}{x:Str}:∀{binds:List (Str × Aa)} {m:Str->Option Aa},(∀v,(x,v)∉binds)->bindC kindOf binds m x=m x
 |[],_,_=>rfl
 |(n,v)::r,m,h=>by
  unfold bindC;rw[Vy λw hw=>h w (fb _ hw)];split
  ·rfl
  have:x≠n:=by rintro rfl;exact h v fQ
  simp[this]
theorem Vd{kindOf:Str->Option NameKind}{x:Str}{v:Aa}:∀{P:ae} {vs:aj} {i:Nat} {m:Str->Option Aa},P.Nodup->P[i]? = some x->vs[i]? = some v->kindOf x\.local->
  bindL kindOf (P.zip vs) m x\v
 |[],_,_,_,_,h,_,_=>by simp at h
 |_::_,[],_,_,_,_,h,_=>by simp at h
 |p::P,w::vs,0,m,nd,h1,h2,hk=>by
  simp at h1 h2;subst h1;subst h2;show bindL kindOf ((p,w)::P.zip vs) m p=_;unfold bindL;rw[Wc λv hv=>(oY.mp nd).1 (List.of_mem_zip hv).1,aH hk];simp
 |p::P,w::vs,i+1,m,nd,h1,h2,hk=>by
  show bindL kindOf ((p,w)::P.zip vs) m x=_;unfold bindL;exact Vd (i:=i) (oY.mp nd).2 ⇑h1 ⇑h2 hk
theorem VE{kindOf:Str->Option NameKind}{x:Str}{v:Aa}:∀{P:ae} {vs:aj} {i:Nat} {m:Str->Option Aa},P.Nodup->P[i]? = some x->vs[i]? = some v->kindOf x≠some .local->
  bindC kindOf (P.zip vs) m x\v
 |[],_,_,_,_,h,_,_=>by simp at h
 |_::_,[],_,_,_,_,h,_=>by simp at h
 |p::P,w::vs,0,m,nd,h1,h2,hk=>by
  simp at h1 h2;subst h1;subst h2;show bindC kindOf ((p,w)::P.zip vs) m p=_;unfold bindC;rw[Vy λv hv=>(oY.mp nd).1 (List.of_mem_zip hv).1,aB hk];simp
 |p::P,w::vs,i+1,m,nd,h1,h2,hk=>by
  show bindC kindOf ((p,w)::P.zip vs) m x=_;unfold bindC;exact VE (i:=i) (oY.mp nd).2 ⇑h1 ⇑h2 hk
def start(N:ae)(vs:ag):St:=vs.map some++List.replicate (N.length - vs.length) none
def jZ(CX:jF)(P:Ad)(w:Af)(K:af)(mg:Str->Option Aa)(base:Heap)(N:ae)(qual:Str)(scope:Scope)(f:Addr)(cd:Aa)(A:Ag)(outer:List Env)(s:Ab)(H:Hp)(E:XK):Cx where
 prog:=P
 w:=w
 K:=K
 mg:=mg
 base:=base
 A:=A.deeper (envOfC qual scope s.heap.objs.size f cd)
 N:=N
 cX:=s
 jk:=H
 env:=envOfC qual scope s.heap.objs.size f cd
 outer:=outer
 stack:=envOfC qual scope s.heap.objs.size f cd::outer
 ex:=[]
 calm:=true
 fn:=λ_=>true
 pn:=[]
 xe:=λe s'=>wpAny (model P w) (A.deeper (envOfC qual scope s.heap.objs.size f cd)) (leaving (envOfC qual scope s.heap.objs.size f cd) e) (λ_ qj=>CX outer H s E e qj) (λe' qj=>CX outer H s E e' qj) s'
theorem UV{sc:Scope}{n:Nat}{x:Str}(h:sc.names.lookup x\.cell):∃c,(cellsFrom n sc.names []).lookup x\c:=by
 let q:=PySem.W.cellsFrom_some sc.names n [] (.inl h);exact Cj.mp q
theorem hT_{CX:jF}{P:Ad}{w:Af}{K:af}{mg:Str->Option Aa}{base:Heap}{N ps:ae}{qual:Str}{scope:Scope}{f:Addr}{cd:Aa}{A:Ag}{outer:List Env}{s s1:Ab}{H:Hp}{E:XK}{us:aj}{vs:ag}
  (S:br N ps scope) (hd:A.handled=none) (e0:iM P w K mg base A outer s H) (hl:vs.length=ps.length) (r:Vals vs us)
  (x:InCallC s s.heap.objs.size (bindL (envOfC qual scope s.heap.objs.size f cd).kindOf (ps.zip us) λ_=>none) (cellsFrom (s.heap.objs.size+1) scope.names []) (bindC (envOfC qual scope s.heap.objs.size f cd).kindOf (ps.zip us) λ_=>none) s1) :
  Inv (jZ CX P w K mg base N qual scope f cd A outer s H E) [] (start N vs) H s1:=by
 have jt:ps.length<=N.length:=by have:=d9 List.length S.pre;rw[d6] at this;omega
 let#[h1,tk,rfl,hk]:=x.done;have wG:∀b:Addr,b∉(jZ CX P w K mg base N qual scope f cd A outer s H E).ex:=λb z=>absurd (show b∈([]:ai) from z) Z2
 apply#[#[e0.mod,S.kind,Z,Z,bj _,λy z c h1 h2=>?_,λy hy=>?_,λy c _ h=>?_,λ_=>hd,Around.frames_deeper e0.frames,.inr #[Z,Z],λb z=>absurd z (wG b),e0.bs,e0.uI,λb _ _=>wG b,λb z=>absurd z (wG b),e0.fY,e0.xk],
  rfl,e0.bare,Un.kept hk,#[_,x.toInCall.ns,λi y v h1 h2 h3=>?_],λy c h=>#[_,x.cell y c h],e0.aI.fresh (bj _),λy c h=>?_,λp hp=>absurd (show p∈([]:List (Addr × Obj)) from hp) Z2,e0.aI.kept hk,?_]
 ·exact name_of_addr x.apart (p5 h1) (p5 h2)
 ·have hy:scope.names.lookup y\.cell∨scope.names.lookup y\.free:=hy;rcases hy with hy|hy
  ·exact UV hy
  exact absurd Z (S.AU _ (p5 hy))
 ·exact Nat.le_of_lt (x.above y c (p5 h))
 ·have hi:i<vs.length:=by
   unfold start at h2;by_cases hi:i<vs.length
   ·exact hi
   rw[xT ⇑hi] at h2;rw[List.getElem?_replicate] at h2;split at h2<;>cases h2
  have ha:vs[i]? = some v:=by
   unfold start at h2;rw[zS ⇑hi,dS] at h2;cases e:vs[i]? with
   |none=>rw[e] at h2;cases h2
   |some a=>rw[e] at h2;cases h2;rfl
  let#[u,hu,rv]:=r.get ha
  have hp:ps[i]? = some y:=by
   rw[<- S.pre,List.getElem?_take_of_lt Z1];exact h1
  have Jd:ps.Nodup:=by rw[<- S.pre];exact S.nd.sublist (List.take_sublist _ _)
  apply#[u,rv,?_];rcases S.par y (dI hp) with k|k
  ·exact .inl #[k,Vd Jd hp hu k]
  let#[c,e]:=UV (n:=s.heap.objs.size+1) k;apply .inr #[.inl k,c,e,?_];let q:=x.cell y c e;rw[VE Jd hp hu (by show scope.names.lookup y≠_;rw[k];decide)] at q;exact q
 ·exact e0.aI.fresh (Nat.le_of_lt (x.above y c (p5 h)))
 unfold start;show _=N.length;rw[fB,aA,DR];omega
theorem Sq{CX:jF}{P:Ad}{w:Af}{K:af}{mg:Str->Option Aa}{base:Heap}{k:Nat}{f:Addr}{name qual:Str}{params:Arguments}{body:List Stmt}{scope:Scope}{dV kV doc pm aO ct oc:Aa}{an od:Option Addr}
  {i8:Array (Option Aa)} {N ps:ae} {sp:Sp} (lk:K.lookup f=some #[oc,od,.func (PySem.W.fnOf name qual params body scope dV kV doc pm an aO ct),i8]) (hZ:PySem.W.codeIn K aO qual=true) (S:br N ps scope)
  (len:∀vs H Q E,sp vs H Q E->vs.length=ps.length)
  (fV:∀(A:Ag) (outer:List Env) (s:Ab) (H:Hp) (vs:ag) (Q:VK) (E:XK),a_ k (A.deeper (envOfC qual scope s.heap.objs.size f aO))->sp vs H Q E->
   ∃t,lA (jZ CX P w K mg base N qual scope f aO A outer s H E) body t/\t { nx:=λ_ H'=>Q .non H',rt:=Q } (start N vs) H) :
  ak P w K mg base CX (k+1) f (PySem.W.fnOf name qual params body scope dV kV doc pm an aO ct) ps sp:=by
 apply#[len,λA outer s H args us vs Q E hr e0 hb r kD=>?_];let hl:=len _ _ _ _ kD;have KX:K.In s.heap:=e0.mod.Fo.keeps λb o e=>(e0.bs b o e).1;have lim:s.heap.NoLimit:=e0.mod.nolimit.keeps λb o e=>(e0.bs b o e).1
 have Gc:∀y∈ps.zip us,scope.names.lookup y.1\.local∨(scope.names.lookup y.1\.cell/\((cellsFrom (s.heap.objs.size+1) scope.names []).lookup y.1).isSome=true):=λ⟨n,v⟩ hy=>by
  rcases S.par n (List.of_mem_zip hy).1 with q|q
  ·exact .inl q
  exact .inr #[q,PySem.W.cellsFrom_some _ _ _ (.inl q)]
 apply codeAny_call_function hr.depth (KX _ _ lk) Z S.co S.gen Z (PySem.W.codeRec_of KX hZ) (hb _ _ _ _ ?_);apply wpAny_newFunctionEnv_cells S.kind Gc λenv he s1 x=>?_;subst he;apply#[lim.keeps x.toInCall.keep,codeAny_func ?_];let#[t,ht,hq]:=fV A outer s H vs Q E (hr.deeper _) kD;have I:Inv (jZ CX P w K mg base N qual scope f aO A outer s H E) [] (start N vs) H s1:=hT_ S hr.hd e0 hl r x;apply wpAny_mono (ht [] s1 (start N vs) H _ I hq) (λfl s' hs=>?_) λe s' hs=>hs
 have fin:∀{bq:St} {H':Hp} {v:V} {u:Aa},Inv (jZ CX P w K mg base N qual scope f aO A outer s H E) [] bq H' s'->RelV v u->Q v H'->CE outer P w H s Q u s':=
  λ{bq H' v u} J rv q=>#[v,H',J.os,J.bare,J.base,J.aI,rv,q]
 cases fl with
 |ret u=>
  let#[v,bq,H',J,rv,q]:=hs;exact fin J rv q
 |next=>
  let#[bq,H',J,q]:=hs;exact fin (v:=V.non) (u:=Value.none) J Z q
 |brk=>
  let#[_,_,_,q]:=hs;exact False.elim q
 |cont=>
  let#[_,_,_,q]:=hs;exact False.elim q
end L2
local macro_rules|`(!$f:ident $a*)=>if [`bc,`ig,`bo,`ak,`iX].contains f.getId then let i:=Lean.mkIdent;`($f $(i `P) $(i `w) $(i `K) $(i `mg) $(i `base) $a*)else Lean.Macro.throwUnsupported
namespace L2
open PySem PySem.Spec PyProof.Rows
section
variable{X:Cx}{x:Str}{p pos:Pos}{e:Expr}{es:List Expr}{t:TA}{id T:String}{r:ag->Hp->VK->Prop}
def RN(r:ag->Hp->VK->Prop)(t:TA):TE:=λσ H Q=>t σ H λvs H1=>r vs H1 Q
theorem bY(hc:gB X (.builtin id) r)(hg:Gl X x)(hm:X.mg x=none)(hv:bootBuiltins x\.builtin id)(ha:PA X (e::es) t)(hn:x≠"__name__":=by decide)(pU:(x == ("__debug__":Str))=false:=by decide)
  (he:starEach (e::es) X.env=(false,eval e X.env)::starEach es X.env:=by rfl) (jt:(backTo pos (starEach es X.env)).any (·.1)=false:=by rfl):PE X (.Call (.Name x p) (e::es) [] pos) (RN r t):=by
 intro pins s σ H Q I h;apply wpAny_Call_Name_kw (Dq I hg hm hv ?_ hn pU);exact PyProof.Rows.callWith_builtin1 (aV (ha pos pins s σ H _ I h) λus s1 ⟨vs,H1,I1,r1,q1⟩=>hc pins s1 σ H1 vs us Q I1 r1 q1) he jt
theorem iH(hc:gB X (.type T) r)(hg:Gl X x)(hm:X.mg x=none)(hv:bootBuiltins x\.type T)(ha:PA X (e::es) t)(hn:x≠"__name__":=by decide)(pU:(x == ("__debug__":Str))=false:=by decide)
  (he:starEach (e::es) X.env=(false,eval e X.env)::starEach es X.env:=by rfl) (jt:(backTo pos (starEach es X.env)).any (·.1)=false:=by rfl):PE X (.Call (.Name x p) (e::es) [] pos) (RN r t):=by
 intro pins s σ H Q I h;apply wpAny_Call_Name_kw (Dq I hg hm hv ?_ hn pU);exact PyProof.Rows.callWith_type1 (aV (ha pos pins s σ H _ I h) λus s1 ⟨vs,H1,I1,r1,q1⟩=>hc pins s1 σ H1 vs us Q I1 r1 q1) he jt
end
end L2
namespace HT
open PySem PyProof.Rows
section
open PySem.SeqAt
open PySem.AutoSeq1 (wpAny_loadPart')
open PySem.MeetsSeq PySem.MeetsSeq2 PySem.MeetsSeq3
end
section
variable{prog:Ad}{w:Af}{A:Ag}{E:Aa->Ab->Prop}{s:Ab}
def bU(n d:Nat):Option Int->Nat
 |none=>d
 |some v=>if v<0 then (v+(n:Int)).toNat else min v.toNat n
theorem hJ(n d:Nat):bU n d none=d:=rfl
theorem i7(n d k:Nat):bU n d (some (k:Int))=min k n:=by
 show (if (k:Int)<0 then ((k:Int)+(n:Int)).toNat else min (k:Int).toNat n)=min k n;rw[aB Z1,qH]
theorem _A(n d:Nat)(hd:d<=n)(o:Option Int):bU n d o<=n:=by
 cases o with
 |none=>exact hd
 |some v=>
  show (if v<0 then (v+(n:Int)).toNat else min v.toNat n)<=n;by_cases hv:v<0
  ·rw[aH hv];omega
  rw[aB hv];exact Nat.min_le_right _ _
theorem T_(v:Int)(n d:Nat):(if v<0 then max (v+(n:Int)) 0 else min v (n:Int))=((bU n d (some v):Nat):Int):=by
 show (if v<0 then max (v+(n:Int)) 0 else min v (n:Int))=(((if v<0 then (v+(n:Int)).toNat else min v.toNat n):Nat):Int);by_cases hv:v<0
 ·simp only[aH hv];omega
 simp only[aB hv];omega
theorem fU_(lo hi:Option Int)(n:Nat):Builtin.Slice.sliceAdjust lo hi 1 (n:Int)=(((bU n 0 lo:Nat):Int),((bU n n hi:Nat):Int)):=by
 have h1:¬((1:Int)<0):=by omega
 unfold Builtin.Slice.sliceAdjust;simp only[h1,if_false];apply Prod.ext ?_ ?_
 ·cases lo with
  |none=>rfl
  |some v=>exact T_ v n 0
 cases hi with
 |none=>rfl
 |some v=>exact T_ v n n
theorem g2_(i j:Nat):Builtin.Slice.slicePlaces (i:Int) (j:Int) 1=j - i:=by
 unfold Builtin.Slice.slicePlaces;have h1:(1:Int) > 0:=by omega
 simp only[h1,if_true,Int.ediv_one];split<;>omega
theorem VU{v:Aa}{o:Option Int}{Q:Option Int->Ab->Prop}(p:IsPart v o)(h:Q o s):wpAny (model prog w) A (Builtin.Slice.slicePartIndex v) Q E s:=by
 cases p with
 |none=>exact slicePart_none h
 |int i t=>exact slicePart_int h
theorem WK{sl:Addr}{vl vu:Aa}{lo hi:Option Int}{n:Nat}{Q:Int × Int × Nat->Ab->Prop}(hs:s.heap.IsSliceOf sl vl vu .none)(pl:IsPart vl lo)(pu:IsPart vu hi)
  (h:Q (((bU n 0 lo:Nat):Int),1,bU n n hi - bU n 0 lo) s):wpAny (model prog w) A (Builtin.Slice.sliceApplied (.ref sl) (pure (n:Int))) Q E s:=by
 let#[os,qq,xc,xa]:=id hs;unfold Builtin.Slice.sliceApplied Builtin.Slice.sliceFields;apply aq (aq (wpAny_field qq xa (x:=vl) Z (aq (wpAny_field qq xa (x:=vu) Z (aq (wpAny_field qq xa (x:=.none) Z (aU ?_)))))));apply aq (slicePart_none ?_);show wpAny _ _ (if ((1:Int) == 0)=true then _ else _) _ _ s;rw[aB (by decide)];apply aq (VU pl (aq (VU pu (aq (aU ?_)))));show wpAny _ _ (match Builtin.Slice.sliceAdjust lo hi 1 (n:Int) with|(lo,hi)=>pure (lo,(1:Int),Builtin.Slice.slicePlaces lo hi 1)) _ _ s;rw[fU_ lo hi n];show wpAny _ _ (pure (((bU n 0 lo:Nat):Int),(1:Int),Builtin.Slice.slicePlaces ((bU n 0 lo:Nat):Int) ((bU n n hi:Nat):Int) 1)) _ _ s;rw[g2_];exact aU h
theorem ie_(xs:Array Aa)(i k:Nat):((List.range k).filterMap λ(m:Nat)=>xs[((i:Int)+(m:Int) * 1).toNat]?).toArray=((xs.toList.drop i).take k).toArray:=by
 have e:(λ(m:Nat)=>xs[((i:Int)+(m:Int) * 1).toNat]?)=λm=>xs[i+m]?:=by
  funext m
  have:((i:Int)+(m:Int) * 1).toNat=i+m:=by omega
  rw[this]
 rw[e];have:=pick_run xs i k;rw[List.filterMap_map] at this;have e2:((λx=>xs[x]?) ∘ λx=>i+x)=λm=>xs[i+m]?:=rfl;rw[e2] at this;rw[this]
theorem fX{t sl:Addr}{items:Array Aa}{vl vu:Aa}{lo hi:Option Int}{Q:Aa->Ab->Prop}(ht:IsTup s.heap t items)(hs:s.heap.IsSliceOf sl vl vu .none)(pl:IsPart vl lo)(pu:IsPart vu hi)
  (hw:¬(bU items.size 0 lo=0/\bU items.size items.size hi=items.size))
  (h:Q (.ref s.heap.objs.size) { s with heap:=s.heap.push { cls:=.type "tuple",data:=.seq ((items.toList.drop (bU items.size 0 lo)).take (bU items.size items.size hi - bU items.size 0 lo)).toArray } })
  (hsz:items.size<=sizeLine):wpAny (model prog w) A (getItem (.ref t) (.ref sl)) Q E s:=by
 have fU:sizeOk (.seq ((items.toList.drop (bU items.size 0 lo)).take (bU items.size items.size hi - bU items.size 0 lo)).toArray):=by
  show ((items.toList.drop (bU items.size 0 lo)).take (bU items.size items.size hi - bU items.size 0 lo)).toArray.size<=sizeLine;rw[cg,d6,zO,qJ];omega
 have hj:bU items.size items.size hi<=items.size:=_A _ _ (bj _) hi;let#[os,qq,xc,xa]:=id hs;have Bt:s.TypeIs (.ref sl) "slice":=#[os,qq,xc];unfold getItem
 try with_reducible apply mQ ?_
 first|refine aq (aU ?_)|skip
 apply aq (wpAny_sequenceKey ht.typeIs (by decide) ?_)
 apply aq (wpAny_callSpecial?_slot (name:=Str.ofString "__getitem__") ht.typeIs DF
  (wpAny_call_entry DF ht.typeIs entry_tuple_getitem ?_ (args_tuple_getitem _ _)))
 show wpAny _ _ (Builtin.Tuple.tupleItemsOf (.ref t) >>= _) _ _ s;apply aq (tupleItemsOf_ ht ?_);apply aq (wpAny_typeOf Bt ?_);rw[aH (by decide)];apply aq (WK hs pl pu ?_)
 have kE:¬((((bU items.size 0 lo:Nat):Int) == 0&&(1:Int) == 1&&(bU items.size items.size hi - bU items.size 0 lo) == items.size)=true):=by
  intro q;rw[Bool.and_eq_true,Bool.and_eq_true] at q;have q1:((bU items.size 0 lo:Nat):Int)=0:=eq_of_beq q.1.1;have q2:bU items.size items.size hi - bU items.size 0 lo=items.size:=eq_of_beq q.2;exact hw #[by omega,by omega]
 show wpAny _ _ (if (((bU items.size 0 lo:Nat):Int) == 0&&(1:Int) == 1&&(bU items.size items.size hi - bU items.size 0 lo) == items.size)=true then _ else _) _ _ s;rw[aB kE,ie_]
 first
  |exact aq (m:=Builtin.Tuple.tupleExact _) (mU (aU ⟨_,rfl,aU h⟩) fU)
  |exact aq (m:=Builtin.Tuple.tupleExact _) (mU (aq (aU (aU ⟨_,rfl,aU h⟩))) fU)
  |exact aq (aq (m:=Builtin.Tuple.tupleExact _) (mU (aU (aU ⟨_,rfl,aU h⟩)) fU))
  |exact aq (aq (m:=Builtin.Tuple.tupleExact _) (mU (aU ⟨_,rfl,aU h⟩) fU))
end
end HT
namespace L2
open PySem PySem.Spec PyProof.Rows
abbrev TO:=St->Hp->(Option Int->Hp->Prop)->Prop
def PO(X:Cx)(e:Option Expr)(t:TO):Prop:=
 ∀(pins:List (Addr × Obj)) (s:Ab) (σ:St) (H:Hp) (Q:Option Int->Hp->Prop),Inv X pins σ H s->t σ H Q->
  wpAny (model X.prog X.w) X.A (evalPart e X.env) (λu s'=>∃o H',Inv X pins σ H' s'/\IsPart u o/\Q o H') X.xe s
def vU:TO:=λ_ H Q=>Q none H
inductive qW (Q:Option Int->Hp->Prop) (x:V) (H1:Hp):Prop
 |mk:∀i,x=.int i->Q (some i) H1->qW Q x H1
def Eg(t:TE):TO:=λσ H Q=>t σ H λx H1=>qW Q x H1
section
variable{X:Cx}{e:Expr}{te:TE}{lo hi:Option Expr}{tl th:TO}{pos p2:Pos}
theorem vD:PO X none vU:=by
 intro pins s σ H Q I h;rw[evalPart_none];exact aU #[none,H,I,.none,h]
theorem vC(h:PE X e te):PO X (some e) (Eg te):=by
 intro pins s σ H Q I hw;rw[evalPart_some];apply aV (h pins s σ H _ I hw) λu s1 ⟨x,H1,I1,r1,q1⟩=>?_;let#[i,rfl,q]:=q1;let#[t,rfl]:=r1;exact#[some i,H1,I1,.int i t,q]
def Il(X:Cx)(r:V->Option Int->Option Int->Hp->VK->Prop):Prop:=
 ∀(pins:List (Addr × Obj)) (s:Ab) (σ:St) (H:Hp) (x:V) (v vl vu:Aa) (lo hi:Option Int) (sl:Addr) (Q:VK),Inv X pins σ H s->RelV x v->s.heap.IsSliceOf sl vl vu .none->IsPart vl lo->IsPart vu hi->r x lo hi H Q->
  ∃T id,typeLookup (.type T) "__getitem__"=pure (some (.builtin id))/\s.TypeIs v T/\wpAny (model X.prog X.w) X.A (getItem v (.ref sl)) (EP X pins σ Q) X.xe s
def YD(r:V->Option Int->Option Int->Hp->VK->Prop)(te:TE)(tl th:TO):TE:=λσ H Q=>te σ H λx H1=>tl σ H1 λl H2=>th σ H2 λu H3=>r x l u H3 Q
theorem vF{r:V->Option Int->Option Int->Hp->VK->Prop}(hr:Il X r)(he:PE X e te)(hl:PO X lo tl)(hu:PO X hi th):PE X (.Subscript e (.Slice lo hi none p2) pos) (YD r te tl th):=by
 intro pins s σ H Q I h;apply Subscript_ (aV (he pins s σ H _ I h) λv s1 ⟨x,H1,I1,r1,q1⟩=>?_);apply wpAny_Slice (aV (hl pins s1 σ H1 _ I1 q1) λvl s2 ⟨l,H2,I2,pl,q2⟩=>aV (hu pins s2 σ H2 _ I2 q2) λvu s3 ⟨u,H3,I3,pu,q3⟩=>?_);rw[evalPart_none];apply aU ?_;have I4:Inv X pins σ H3 { s3 with heap:=s3.heap.push { cls:=.type "slice",data:=.fields (List.toArray [vl,vu,.none]) } }:=I3.kept (t':=s3.toks) λb ob q=>cj _ q;let#[T,id,hT,ht,hg]:=hr pins { s3 with heap:=s3.heap.push { cls:=.type "slice",data:=.fields (List.toArray [vl,vu,.none]) } } σ H3 x v vl vu l u s3.heap.objs.size Q I4 r1 (Heap.IsSliceOf.new ..) pl pu q3;show wpAny (model X.prog X.w) X.A (subscriptTail e (.Slice lo hi none p2) v (.ref s3.heap.objs.size)) (EP X pins σ Q) X.xe { s3 with heap:=s3.heap.push { cls:=.type "slice",data:=.fields (List.toArray [vl,vu,.none]) } };exact tail_any (ops:=[.ref s3.heap.objs.size,v]) ht hT hg (by with_unfolding_all rfl)
def dX(xs:ag)(lo hi:Option Int):ag:=(xs.drop (HT.bU xs.length 0 lo)).take (HT.bU xs.length xs.length hi - HT.bU xs.length 0 lo)
theorem Wh(xs:ag)(lo hi:Option Int):(dX xs lo hi).length<=xs.length:=by
 unfold dX;rw[d6,zO];omega
inductive EI (K:af) (x:V) (lo:Option Int) (hi:Option Int) (H:Hp) (Q:VK):Prop
 |mk:∀a xs,x=.ref a->gL K H a xs->¬(HT.bU xs.length 0 lo=0/\HT.bU xs.length xs.length hi=xs.length)->(∀p,H p=none->Q (.ref p) (upd H p (.tup (dX xs lo hi))))->EI K x lo hi H Q
theorem _z:Il X (EI X.K):=by
 intro pins s σ H x v vl vu lo hi sl Q I rx hs pl pu h;let#[a,xs,rfl,hx,hw,q]:=h;cases rx;let#[its,r,ht,hz]:=I.tuple hx;have hlen:its.toArray.size=xs.length:=by rw[cg];exact r.length.symm
 apply⟨"tuple",_,PyProof.Rows.slot_tuple_getitem.lookup,ht.typeIs,?_⟩;apply HT.fX ht hs pl pu (by rw[hlen];exact hw) ?_ (by rw[hlen];exact hz);rw[hlen];apply⟨.ref s.heap.objs.size,_,I.laid (t':=s.toks) (o:=.tup (dX xs lo hi)) (λb ob q=>cj _ q) (bj _) ?_,rfl,q _ (I.aI.fresh (bj _))⟩;exact⟨nC (Wh xs lo hi) hz,_,(r.drop (HT.bU xs.length 0 lo)).take (HT.bU xs.length xs.length hi - HT.bU xs.length 0 lo),IsTup.new _ _,_,eh _ rfl,rfl⟩
end
end L2
namespace L2
open PySem PySem.Spec PyProof.Rows
def wM(n:Nat)(i:Int):Option Nat:=if 0<=i then (if i<n then some i.toNat else none) else if -(n:Int)<=i then some (i+n).toNat else none
def eZ{α:Type}(xs:List α)(i:Int):Option α:=(wM xs.length i).bind λj=>xs[j]?
theorem Ug{n:Nat}{i:Int}{j:Nat}(h:wM n i\j):seqIndex? i n\j/\j<n/\-(n:Int)<=i/\i<n:=by
 unfold wM at h;by_cases h0:0<=i
 ·rw[aH h0] at h;by_cases h1:i<n
  ·rw[aH h1] at h;have e:i.toNat=j:=dY h;exact#[by rw[seqIndex_of h0 h1,e],by omega,by omega,h1]
  rw[aB h1] at h;cases h
 rw[aB h0] at h;by_cases h1:-(n:Int)<=i
 ·rw[aH h1] at h;have e:(i+n).toNat=j:=dY h;exact#[by rw[seqIndex_neg Z1 h1,e],by omega,h1,by omega]
 rw[aB h1] at h;cases h
theorem OH{α:Type}{xs:List α}{i:Int}{v:α}(h:eZ xs i\v):∃j,seqIndex? i xs.length\j/\xs[j]? = some v/\j<xs.length/\-(xs.length:Int)<=i/\i<xs.length:=by
 unfold eZ at h;cases e:wM xs.length i with
 |none=>rw[e] at h;cases h
 |some j=>
  rw[e] at h;let#[h1,h2,h3,h4]:=Ug e;exact#[j,h1,h,h2,h3,h4]
theorem fP{α:Type}{xs:List α}{j:Nat}{v:α}(h:xs[j]? = some v):eZ xs (j:Int)\v:=by
 have hj:j<xs.length:=(cU.mp h).1
 have e:wM xs.length (j:Int)\j:=by
  unfold wM;rw[aH Z1,aH Z1];simp
 unfold eZ;rw[e];exact h
def xX(b:Expr):Prop:=∀o i,subscripted b false o i=operate [o,i] (getItem o i)
def DU(X:Cx)(r:R2):Prop:=
 ∀(value slice:Expr) (pins:List (Addr × Obj)) (s:Ab) (σ:St) (H:Hp) (x y:V) (v u:Aa) (Q:VK),Inv X pins σ H s->RelV x v->RelV y u->r x y H Q->
  subscripted slice false v u=operate [v,u] (getItem v u)->wpAny (model X.prog X.w) X.A (subscriptTail value slice v u) (EP X pins σ Q) X.xe s
def MtR(X:Cx)(id:String)(r:V->ag->Hp->VK->Prop):Prop:=
 ∀(pins:List (Addr × Obj)) (s:Ab) (σ:St) (H:Hp) (x:V) (xs:ag) (v:Aa) (us:aj) (Q:VK),Inv X pins σ H s->RelV x v->Vals xs us->r x xs H Q->
  wpAny (model X.prog X.w) X.A (call (.builtin id) (v::us)) (EP X pins σ Q) X.xe s
section
variable{X:Cx}{a b:Expr}{ta tb:TE}{pos:Pos}
theorem bA{r:R2}(hr:DU X r)(ha:PE X a ta)(hb:PE X b tb)(hs:xX b:=by exact λ_ _=>rfl):PE X (.Subscript a b pos) (Eh r ta tb):=by
 intro pins s σ H Q I h;exact Subscript_ (Cb ha hb I h λv u s2 x y H2 I2 rx ry q=>hr a b pins s2 σ H2 x y v u Q I2 rx ry q (hs _ _))
inductive wo (K:af) (x:V) (y:V) (H:Hp) (Q:VK):Prop
 |mk:∀p xs i v,x=.ref p->y=.int i->dM K H p xs->eZ xs i\v->Q v H->wo K x y H Q
inductive mC (K:af) (x:V) (y:V) (H:Hp) (Q:VK):Prop
 |mk:∀p xs i v,x=.ref p->y=.int i->gL K H p xs->eZ xs i\v->Q v H->mC K x y H Q
inductive EO (x:V) (y:V) (H:Hp) (Q:VK):Prop
 |mk:∀z i c,x=.str z->y=.int i->z.length<=sizeLine->eZ z.cps.toList i\c->Q (.str ⟨(List.toArray [c])⟩) H->EO x y H Q
theorem fA:DU X (wo X.K):=by
 intro value slice pins s σ H x y v u Q I rx ry h hs;let#[p,xs,i,z,rfl,rfl,hq,he,q]:=h;cases rx;let#[t,rfl]:=ry;let#[its,r,pl,hz]:=I.list hq;let#[j,h1,h2,h3,h4,h5]:=OH he;let#[w,ew,mz]:=r.get h2;let hl:=r.length;let hn:=gn;have fin:EP X pins σ Q w s:=⟨z,H,I,mz,q⟩;by_cases h0:0<=i
 ·have hj:i.toNat=j:=by
   rw[seqIndex_of h0 h5] at h1;exact dY h1
  exact item_listR pl.isList h0 Z1 (by rw[hj];simpa using ew) fin hs
 have hj:(i+(its.toArray.size:Int)).toNat=j:=by
  rw[seqIndex_neg Z1 h4] at h1;rw[cg,<- hl];exact dY h1
 exact subscriptTail_builtinR (x:=w) pl.isList.typeIs slot_list_getitem.lookup
  (wpAny_getItem_list_neg (Q:=λr s'=>r=w/\EP X pins σ Q r s') pl.isList Z1 (by rw[cg]<;>omega) Z1 (by rw[hj];simpa using ew) ⟨rfl,fin⟩) hs
theorem c_:DU X (mC X.K):=by
 intro value slice pins s σ H x y v u Q I rx ry h hs;let#[p,xs,i,z,rfl,rfl,hq,he,q]:=h;cases rx;let#[t,rfl]:=ry;let#[its,r,pl,hz]:=I.tuple hq;let#[j,h1,h2,h3,h4,h5]:=OH he;let#[w,ew,mz]:=r.get h2;let hl:=r.length;let hn:=gn;have fin:EP X pins σ Q w s:=⟨z,H,I,mz,q⟩
 exact subscriptTail_builtinR (x:=w) pl.typeIs slot_tuple_getitem.lookup
  (getItem_tuple (j:=j) (Q:=λr s'=>r=w/\EP X pins σ Q r s') pl Z1 Z1 (by rw[cg,<- hl];exact h1) ⇑ew ⟨rfl,fin⟩) hs
theorem ME:DU X EO:=by
 intro value slice pins s σ H x y v u Q I rx ry h hs;let#[z,i,c,rfl,rfl,hz,he,q]:=h;let#[t,rfl]:=rx;let#[t',rfl]:=ry;let#[j,h1,h2,h3,h4,h5]:=OH he;have hl:z.cps.toList.length=z.length:=by simp[Str.length]
 rw[hl] at h1 h4 h5;let hn:=gn
 exact tail_any (typeIs_str s z t) slot_str_getitem.lookup (getItem_str (c:=c) (by
  have e1:decide (i < -(2 ^ 63:Int))=false:=dJ Z1;have e2:decide (i ≥ 2 ^ 63)=false:=dJ Z1;rw[e1,e2,Bool.or_false]) (by rw[h1];simpa using h2) ⟨.str ⟨(List.toArray [c])⟩,H,I.tok _,⟨_,rfl⟩,q⟩) hs
theorem g3_(its:aj)(n j:Nat)(u:Aa):Obj.mapSeq (·.setIfInBounds j u) { cls:=.type "list",data:=.seq its.toArray n }={ cls:=.type "list",data:=.seq (its.set j u).toArray n }:=by
 simp[Obj.mapSeq]
theorem Inv.lst{pins:List (Addr × Obj)}{σ:St}{H:Hp}{s:Ab}{p:Addr}{xs:ag}(I:Inv X pins σ H s)(h:H p\.lst xs) :
  ∃(its:aj) (n:Nat),Vals xs its/\s.heap.get? p=some { cls:=.type "list",data:=.seq its.toArray n }/\xs.length<=sizeLine:=by
 let#[z,its,n,r,e]:=I.aI p _ h;exact⟨its,n,r,e,z⟩
theorem Inv.A1{pins:List (Addr × Obj)}{σ:St}{H:Hp}{s:Ab}{p:Addr}{xs ys:ag}{its its':aj}{n n':Nat}{f:Obj->Obj}(I:Inv X pins σ H s)(h:H p\.lst xs)
  (ho:s.heap.get? p=some { cls:=.type "list",data:=.seq its.toArray n }) (hf:f { cls:=.type "list",data:=.seq its.toArray n }={ cls:=.type "list",data:=.seq its'.toArray n' }) (r:Vals ys its') (hz:ys.length<=sizeLine) (t:Nat) :
  Inv X pins σ (upd H p (.lst ys)) { s with heap:=s.heap.update p f,toks:=t }:=by
 have e:(s.heap.update p f).get? p=some { cls:=.type "list",data:=.seq its'.toArray n' }:=by
  rw[Heap.get?_update_self f ho (by rw[hf]<;>rfl),hf]
 apply I.write (x:=p) (e:=p) (by rw[h];trivial) (.inl rfl) (λb u hb q=>(mV _ _ (Ne.symm hb)).trans q) ⟨_,e⟩ ?_;exact⟨hz,its',n',r,e⟩
inductive yE (o:V) (i:V) (v:V) (H:Hp) (Q:Hp->Prop):Prop
 |mk:∀p xs k j,o=.ref p->i=.int k->H p\.lst xs->wM xs.length k\j->Q (upd H p (.lst (xs.set j v)))->yE o i v H Q
theorem Px:Ip X yE:=by
 intro pins s σ H o i v ov iv u Q I ro ri rv h;let#[p,xs,k,j,rfl,rfl,hp,hj,q]:=h;cases ro;let#[t,rfl]:=ri;let#[its,n,r,ho,hz]:=I.lst hp;let#[h1,h2,h3,h4]:=Ug hj;let hl:=r.length;let hn:=gn
 have I':Inv X pins σ (upd H p (.lst (xs.set j v))) { s with heap:=s.heap.update p (Obj.mapSeq (·.setIfInBounds j u)) }:=
  I.A1 hp ho (g3_ its n j u) (r.set rv j) (by rw[List.length_set];exact hz) s.toks
 by_cases h0:0<=k
 ·have hk:k.toNat=j:=by
   rw[seqIndex_of h0 h4] at h1;exact dY h1
  exact PySem.W.ki_setAt ho h0 Z1 (by rw[cg,<- hl];exact h4) (by rw[hk];exact⟨_,I',q⟩)
 have hk:(k+(its.toArray.size:Int)).toNat=j:=by
  rw[seqIndex_neg Z1 h3] at h1;rw[cg,<- hl];exact dY h1
 exact PySem.W.ki_setBack ho Z1 (by rw[cg,<- hl];exact h3) Z1 (by rw[hk];exact⟨_,I',q⟩)
theorem ed_(lo hi:Option Int)(n:Nat):(sliceBounds lo hi none n).1=((HT.bU n 0 lo:Nat):Int)/\(sliceBounds lo hi none n).2.1=((HT.bU n n hi:Nat):Int)/\(sliceBounds lo hi none n).2.2=1:=by
 apply⟨?_,?_,rfl⟩
 ·cases lo with
  |none=>simp[sliceBounds,HT.bU]
  |some i=>
   simp only[sliceBounds,HT.bU,Option.getD_none,show (1:Int) > 0 by decide,if_true];by_cases h:i<0
   ·simp only[h,if_true]<;>omega
   simp only[h,if_false]<;>omega
 cases hi with
 |none=>simp[sliceBounds,HT.bU]
 |some i=>
  simp only[sliceBounds,HT.bU,Option.getD_none,show (1:Int) > 0 by decide,if_true];by_cases h:i<0
  ·simp only[h,if_true]<;>omega
  simp only[h,if_false]<;>omega
theorem dE_(its:aj)(lo hi:Option Int):slicePick its.toArray lo hi none=((its.drop (HT.bU its.length 0 lo)).take (HT.bU its.length its.length hi - HT.bU its.length 0 lo)).toArray:=by
 let#[h1,h2,h3]:=ed_ lo hi its.toArray.size;unfold slicePick;rw[h1,h2,h3];simp only[sliceRange_one,pick_run,cg]<;>rfl
inductive EK (K:af) (x:V) (lo:Option Int) (hi:Option Int) (H:Hp) (Q:VK):Prop
 |mk:∀a xs,x=.ref a->dM K H a xs->(∀p,H p=none->Q (.ref p) (upd H p (.lst (dX xs lo hi))))->EK K x lo hi H Q
theorem B7:Il X (EK X.K):=by
 intro pins s σ H x v vl vu lo hi sl Q I rx hs pl pu h;let#[a,xs,rfl,hx,q]:=h;cases rx;let#[its,r,ht,hz]:=I.list hx;let hlen:=r.length;apply⟨"list",_,slot_list_getitem.lookup,ht.isList.typeIs,?_⟩;apply wpAny_getItem_list_slice ht.isList hs pl pu .none Z2 ?_ (by rw[cg]<;>omega)
 rw[dE_,<- hlen];apply⟨.ref s.heap.objs.size,_,I.laid (t':=s.toks) (o:=.lst (dX xs lo hi)) (λb ob q=>cj _ q) (bj _) ?_,rfl,q _ (I.aI.fresh (bj _))⟩;exact⟨nC (Wh xs lo hi) hz,_,0,(r.drop (HT.bU xs.length 0 lo)).take (HT.bU xs.length xs.length hi - HT.bU xs.length 0 lo),eh _ rfl⟩
def uB:V->Bool
 |.non=>true
 |.bl _=>true
 |.int _=>true
 |.str _=>true
 |_=>false
def mO:V->V->Bool
 |.non,.non=>true
 |.bl a,.bl b=>a == b
 |.bl a,.int b=>(if a then 1 else 0) == b
 |.int a,.bl b=>a == (if b then 1 else 0)
 |.int a,.int b=>a == b
 |.str a,.str b=>a == b
 |_,_=>false
theorem GQ{A:Ag}{s:Ab}{y x:V}{u v:Aa}(ry:RelV y u)(rx:RelV x v)(fy:uB y=true)(fx:uB x=true):SeqAt.EqAt A s u v (mO y x):=by
 cases y with
 |non=>
  cases ry;cases x with
  |non=>cases rx;exact SeqAt.EqAt.same _
  |bl b=>cases rx;exact SeqAt.EqAt.none_bool b
  |int b=>let#[t,rfl]:=rx;exact SeqAt.EqAt.none_int b t
  |str b=>let#[t,rfl]:=rx;exact SeqAt.EqAt.none_str b t
  |_=>exact absurd (show false=true from fx) g6
 |bl a=>
  cases ry;cases x with
  |non=>cases rx;exact SeqAt.EqAt.bool_none a
  |bl b=>cases rx;exact SeqAt.EqAt.bool_bool a b
  |int b=>let#[t,rfl]:=rx;exact SeqAt.EqAt.bool_int a b t
  |str b=>let#[t,rfl]:=rx;exact SeqAt.EqAt.bool_str a b t
  |_=>exact absurd (show false=true from fx) g6
 |int a=>
  let#[t',rfl]:=ry;cases x with
  |non=>cases rx;exact SeqAt.EqAt.int_none a t'
  |bl b=>cases rx;exact SeqAt.EqAt.int_bool a t' b
  |int b=>let#[t,rfl]:=rx;exact SeqAt.EqAt.int_int a t' b t
  |str b=>let#[t,rfl]:=rx;exact SeqAt.EqAt.int_str a t' b t
  |_=>exact absurd (show false=true from fx) g6
 |str a=>
  let#[t',rfl]:=ry;cases x with
  |non=>cases rx;exact SeqAt.EqAt.str_none a t'
  |bl b=>cases rx;exact SeqAt.EqAt.str_bool a t' b
  |int b=>let#[t,rfl]:=rx;exact SeqAt.EqAt.str_int a t' b t
  |str b=>let#[t,rfl]:=rx;exact SeqAt.EqAt.str_str a t' b t
  |_=>exact absurd (show false=true from fx) g6
 |_=>exact absurd (show false=true from fy) g6
def xm(x:V)(u:Aa):Bool:=match u with
 |.none=>mO .non x
 |.bool b=>mO (.bl b) x
 |.int i _=>mO (.int i) x
 |.str z _=>mO (.str z) x
 |_=>false
theorem SL{x y:V}{u:Aa}(r:RelV y u)(f:uB y=true):xm x u=mO y x:=by
 cases y with
 |non=>cases r;rfl
 |bl b=>cases r;rfl
 |int i=>let#[t,rfl]:=r;rfl
 |str z=>let#[t,rfl]:=r;rfl
 |_=>exact absurd (show false=true from f) g6
theorem Ov{x:V}:∀{xs:ag} {us:aj},Vals xs us->xs.all uB=true->us.any (xm x)=xs.any λy=>mO y x
 |_,_,.nil,_=>rfl
 |y::xs,u::us,.cons r t,f=>by
  rw[List.all_cons,Bool.and_eq_true] at f;rw[List.any_cons,List.any_cons,SL r f.1,Ov t f.2]
theorem O0{A:Ag}{s:Ab}{x:V}{v:Aa}(rx:RelV x v)(fx:uB x=true):∀{xs:ag} {us:aj},Vals xs us->xs.all uB=true->∀u∈us,SeqAt.EqAt A s u v (xm x u)
 |_,_,.nil,_=>λu hu=>by cases hu
 |y::xs,u::us,.cons r t,f=>λu' hu=>by
  rw[List.all_cons,Bool.and_eq_true] at f;rcases cQ.mp hu with rfl|hu
  ·rw[SL r f.1];exact GQ r rx f.1 fx
  exact O0 rx fx t f.2 u' hu
def Fv(x:V)(xs:ag):Bool:=xs.any λy=>mO y x
inductive IZ (K:af) (neg:Bool) (x:V) (y:V) (H:Hp) (Q:VK):Prop
 |mk:∀p xs,y=.ref p->(dM K H p xs∨gL K H p xs)->uB x=true->xs.all uB=true->Q (.bl (if neg then !Fv x xs else Fv x xs)) H->IZ K neg x y H Q
theorem VC:dN X (compareOp .In) (IZ X.K false):=by
 intro pins s σ H x y v u Q I rx ry h;let#[p,xs,rfl,hq,fx,fs,q]:=h;cases ry;rcases hq with hq|hq
 ·let#[its,r,pl,hz]:=I.list hq;apply SeqAt.in_listAt (xm x) pl.isList (λw hw=>O0 rx fx r fs w ⇑hw) ⟨.bl _,H,I,rfl,?_⟩;rw[show its.toArray.any (xm x)=its.any (xm x) by simp,Ov r fs];exact q
 let#[its,r,pl,hz]:=I.tuple hq;apply SeqAt.in_tupleAt (xm x) pl (λw hw=>O0 rx fx r fs w ⇑hw) ⟨.bl _,H,I,rfl,?_⟩;rw[show its.toArray.any (xm x)=its.any (xm x) by simp,Ov r fs];exact q
inductive QQ (K:af) (xs:ag) (H:Hp) (Q:VK):Prop
 |mk:∀p ys,xs=[.ref p]->(dM K H p ys∨gL K H p ys)->Q (.int ys.length) H->QQ K xs H Q
theorem iy:gB X (.builtin "len") (QQ X.K):=by
 intro pins s σ H xs us Q I r h;let#[p,ys,rfl,hq,q]:=h;let#[u,rfl,rx]:=vals1 r;cases rx;let hn:=gn;rcases hq with hq|hq
 ·let#[its,r',pl,hz]:=I.list hq;let hlen:=r'.length;exact Calls.call_len_list pl.isList (by simp only[cg]<;>omega) ⟨.int ys.length,H,I.tok _,⟨s.toks+1,by rw[cg,hlen]⟩,q⟩
 let#[its,r',pl,hz]:=I.tuple hq;let hlen:=r'.length;exact len_tuple pl (by simp only[cg]<;>omega) ⟨.int ys.length,H,I.tok _,⟨s.toks+1,by rw[cg,hlen]⟩,q⟩
inductive Wq (xs:ag) (H:Hp) (Q:VK):Prop
 |mk:∀z,xs=[.str z]->z.length<=sizeLine->Q (.int z.length) H->Wq xs H Q
theorem es_:gB X (.builtin "len") Wq:=by
 intro pins s σ H xs us Q I r h;let#[z,rfl,hz,q]:=h;let#[u,rfl,t,rfl]:=vals1 r;let hn:=gn;exact len_str Z1 ⟨.int z.length,H,I.tok _,⟨_,rfl⟩,q⟩
inductive Wt (K:af) (xs:ag) (H:Hp) (Q:VK):Prop
 |mk:∀p ys,xs=[.ref p]->(dM K H p ys∨gL K H p ys)->(∀l,H l=none->Q (.ref l) (upd H l (.lst ys)))->Wt K xs H Q
theorem eA_:gB X (.type "list") (Wt X.K):=by
 intro pins s σ H xs us Q I r h;let#[p,ys,rfl,hq,q]:=h;let#[u,rfl,rx]:=vals1 r;cases rx
 have fin:∀(its:aj),Vals ys its->ys.length<=sizeLine->∀(h':Heap) (c':Nat),(∀b o',s.heap.get? b\o'->h'.get? b\o')->
   h'.get? s.heap.objs.size=some { cls:=.type "list",dict:=none,data:=.seq its.toArray c',slots:=#[] }->EP X pins σ Q (.ref s.heap.objs.size) { s with heap:=h' }:=λits r' hz h' c' kp e=>
  #[.ref s.heap.objs.size,_,I.laid (t':=s.toks) kp (bj _) (show eC X.prog X.w _ h' _ (.lst ys) from #[hz,its,c',r',e]),Z,q _ (I.aI.fresh (bj _))]
 rcases hq with hq|hq
 ·let#[its,r',pl,hz]:=I.list hq;let hlen:=r'.length;let#[o,ho,hc,n,hd]:=pl.isList;exact call_list_seq p (.inl Z) ho hc hd (λh' c' kp e=>fin its r' hz h' c' kp e) (by simp only[cg]<;>omega)
 let#[its,r',pl,hz]:=I.tuple hq;let hlen:=r'.length;let#[o,ho,hc,n,hd]:=pl;exact call_list_seq p (.inr Z) ho hc hd (λh' c' kp e=>fin its r' hz h' c' kp e) (by simp only[cg]<;>omega)
inductive QS (K:af) (xs:ag) (H:Hp) (Q:VK):Prop
 |mk:∀p ys,xs=[.ref p]->((dM K H p ys/\∀l,H l=none->Q (.ref l) (upd H l (.tup ys)))∨(gL K H p ys/\Q (.ref p) H))->QS K xs H Q
theorem dy_:gB X (.type "tuple") (QS X.K):=by
 intro pins s σ H xs us Q I r h;let#[p,ys,rfl,h]:=h;let#[u,rfl,rx]:=vals1 r;cases rx;rcases h with⟨hq,q⟩|⟨hq,q⟩
 ·let#[its,r',pl,hz]:=I.list hq;let hlen:=r'.length;apply call_tuple_list pl.isList (λh' kp=>?_) (by simp only[cg]<;>omega)
  have I1:Inv X pins σ H { s with heap:=h' }:=I.kept (t':=s.toks) kp
  have I2:Inv X pins σ (upd H h'.objs.size (.tup ys)) { s with heap:=h'.push { cls:=.type "tuple",data:=.seq its.toArray } }:=
   I1.laid (t':=s.toks) (λb o e=>cj _ e) (bj _) (show eC X.prog X.w _ _ _ (.tup ys) from ⟨hz,its,r',IsTup.new _ _,_,eh _ rfl,rfl⟩)
  exact⟨.ref h'.objs.size,_,I2,rfl,q _ (I1.aI.fresh (bj _))⟩
 let#[its,r',pl,hz]:=I.tuple hq;exact call_tuple_same pl ⟨.ref p,H,I,rfl,q⟩
def RH(K:af)(T:String)(x:V)(H:Hp):Prop:=match x with
 |.str _=>T="str"
 |.int _=>T="int"
 |.ref p=>(T="list"/\∃xs,dM K H p xs)∨(T="tuple"/\∃o,K.lookup p\o/\o.cls=.type "tuple"/\o.dict=none) ∨
   (T="dict"/\((∃kvs,H p\.dK kvs)∨∃kvs,H p\.dT kvs))∨(T="set"/\∃S n,H p\.set S n)
 |_=>False
theorem _K{pins:List (Addr × Obj)}{σ:St}{H:Hp}{s:Ab}{T:String}{x:V}{v:Aa}(I:Inv X pins σ H s)(r:RelV x v)(ty:RH X.K T x H) :
  s.TypeIs v T/\∀a,v=.ref a->∃ob,s.heap.get? a\ob/\ob.dict=none:=by
 cases x with
 |str z=>
  let#[t,rfl]:=r;cases (show T="str" from ty);exact#[typeIs_str s z t,λ_ e=>nomatch e]
 |int i=>
  let#[t,rfl]:=r;cases (show T="int" from ty);exact#[typeIs_int s i t,λ_ e=>nomatch e]
 |ref p=>
  cases r;rcases ty with⟨rfl,xs,hq⟩|⟨rfl,o,hk,hc,hd⟩|⟨rfl,hk⟩|⟨rfl,S,n,hk⟩
  ·let#[its,_,pl,_]:=I.list hq;apply#[pl.isList.typeIs,λa e=>?_];cases e;let#[o,n,e,c,hd,_]:=pl;exact#[o,e,hd]
  ·apply#[#[o,I.gr p o hk,hc],λa e=>?_];cases e;exact#[o,I.gr _ o hk,hd]
  ·have z:∃o,s.heap.get? p\o/\o.ExactDict:=by
    rcases hk with⟨kvs,hk⟩|⟨kvs,hk⟩
    ·let#[_,_,_,_,o,_,_,e,ex,_]:=I.aI p _ hk;exact#[o,e,ex]
    let#[_,_,_,_,o,_,_,e,ex,_]:=I.aI p _ hk;exact#[o,e,ex]
   let#[o,e,ex]:=z;apply#[#[o,e,ex.1],λa e2=>?_];cases e2;exact#[o,e,ex.2.1]
  ·let#[o,_,_,_,e,ex,_]:=I.aI p _ hk;apply#[#[o,e,ex.1],λa e2=>?_];cases e2;exact#[o,e,ex.2.1]
 |_=>exact False.elim ty
def YG(K:af)(T:String)(r:V->ag->Hp->VK->Prop)(to:TE)(t:TA):TE:=λσ H Q=>to σ H λx H1=>RH K T x H1/\t σ H1 λxs H2=>r x xs H2 Q
variable{o e:Expr}{es:List Expr}{to:TE}{t:TA}{name:Str}{apos cO:Pos}{T id:String}{r:V->ag->Hp->VK->Prop}
theorem kW(pa:PlainAttrs T)(slot:Slot T name id)(hty:typeOf (.builtin id)=pure (.type "method_descriptor"))(hm:MtR X id r)(ho:PE X o to)(ha:PA X (e::es) t)
  (h9:attributeBase o name X.env (eval o X.env)=eval o X.env:=by rfl)
  (NA:((backTo cO (starEach (e::es) X.env)).all (λx=>!x.1)&&(backToKw cO (keywordEach [] X.env)).all (λx=>x.1.isSome)
   && decide ((e::es).length+([]:List Keyword).length+(if ([]:List Keyword).isEmpty then 0 else 1)<30))=true:=by rfl)
  (jU:(apos.endLine == cO.line)=true:=by rfl) (hs:starEach (e::es) X.env=(false,eval e X.env)::starEach es X.env:=by rfl) (A_:(backTo cO (starEach es X.env)).any (·.1)=false:=by rfl) :
  PE X (.Call (.Attribute o name apos) (e::es) [] cO) (YG X.K T r to t):=by
 intro pins s σ H Q I h;apply wpAny_Call_method_late h9 NA jU Z (aV (ho pins s σ H _ I h) λv s1 ⟨x,H1,I1,r1,ty,q1⟩=>?_);let#[h1,h2]:=_K I1 r1 ty;apply#[T,id,pa,slot,hty,h1,h2,?_];let hA:=ha cO pins s1 σ H1 _ I1 q1;rw[hs] at hA ⊢;apply Calls.callWith_builtin (by show (false || (backTo cO (starEach es X.env)).any (·.1))=false;rw[A_]<;>rfl) (Calls.evalArgs_plain ?_)
 exact aV hA λus s2 ⟨vs,H2,I2,r2,q2⟩=>hm pins s2 σ H2 x vs v us Q I2 r1 r2 q2
end
end L2
namespace L2
open PySem PySem.Spec PyProof.Rows
def WW(X:Cx)(id:String)(r:V->ag->Hp->VK->Prop):Prop:=
 ∀(pins:List (Addr × Obj)) (s:Ab) (σ:St) (H:Hp) (x:V) (xs:ag) (v:Aa) (us:aj) (Q:VK),Inv X pins σ H s->RelV x v->Vals xs us->r x xs H Q->
  wpAny (model X.prog X.w) X.A (call (.builtin id) (v::us)) (EP X pins σ Q) X.xe s
theorem Vals.one:∀{x:V} {us:aj},Vals [x] us->∃u,us=[u]/\RelV x u
 |_,_,.cons r .nil=>#[_,Z,r]
theorem Vals.two:∀{x y:V} {us:aj},Vals [x,y] us->∃u v,us=[u,v]/\RelV x u/\RelV y v
 |_,_,_,.cons r (.cons q .nil)=>#[_,_,Z,r,q]
section
variable{X:Cx}{pins:List (Addr × Obj)}{σ:St}{H:Hp}{s:Ab}{l b:Addr}{xs ys zs:ag}
theorem Inv.Fk{its its':aj}{n:Nat}{f:Array Aa->Array Aa}{t':Nat}(I:Inv X pins σ H s)(hH:H l\.lst xs)
  (e:s.heap.get? l=some { cls:=.type "list",data:=.seq its.toArray n }) (hf:f its.toArray=its'.toArray) (hv:Vals ys its') (hz:ys.length<=sizeLine) :
  Inv X pins σ (upd H l (.lst ys)) { s with heap:=s.heap.update l (Obj.mapSeq f),toks:=t' }:=by
 let q:=PySem.IsL.update e f;rw[hf] at q;apply I.write (x:=l) (e:=l) (by rw[hH];exact trivial) (.inl Z) (λb' u hb hu=>(mV s.heap (Obj.mapSeq f) (Ne.symm hb)).trans hu) #[_,q] ?_;exact#[hz,its',_,hv,q]
theorem Inv.wK{its:aj}{t':Nat}(I:Inv X pins σ H s)(hv:Vals ys its)(hz:ys.length<=sizeLine) :
  Inv X pins σ (upd H s.heap.objs.size (.lst ys)) { s with heap:=s.heap.push { cls:=.type "list",data:=.seq its.toArray },toks:=t' }:=
 I.laid (λ_ _ q=>cj _ q) (bj _) #[hz,its,0,hv,eh _ Z]
theorem Inv.fresh(I:Inv X pins σ H s):H s.heap.objs.size=none:=I.aI.fresh (bj _)
theorem Inv.mI(I:Inv X pins σ H s)(hH:H l\.lst xs):xs.length<=sizeLine/\∃(its:aj) (n:Nat),Vals xs its/\xs.length=its.length/\s.heap.get? l=some { cls:=.type "list",data:=.seq its.toArray n }:=by
 let#[z,its,n,r,e]:=I.aI l _ hH;exact#[z,its,n,r,r.length,e]
theorem tM{n:Nat}(h:n<=sizeLine):Builtin.List.listTooLong n=false:=by
 unfold Builtin.List.listTooLong;exact dJ Z1
end
section
variable{X:Cx}
inductive oE (x:V) (vs:ag) (H:Hp) (Q:VK):Prop
 |mk:∀l xs y,x=.ref l->vs=[y]->H l\.lst xs->xs.length<sizeLine->Q .non (upd H l (.lst (xs++[y])))->oE x vs H Q
theorem vJ:WW X "list.append" oE:=by
 intro pins s σ H x vs v us Q I rx rv h;let#[l,xs,y,rfl,rfl,hH,hz,q]:=h;cases rx;let#[u,rfl,ru]:=rv.one;let#[z,its,n,r,hl,e]:=I.mI hH;apply call_meets F.slot_list_append ⟨_,e,rfl⟩ F.entry_list_append (F.args_list_append_2 _ _) (PySem.list_append l its.toArray n u (by rw[cg];omega)) ⟨e,?_⟩;apply⟨.non,_,I.Fk (its':=its++[u]) hH e Z2 (r.append (.cons ru .nil)) ?_,rfl,q⟩;rw[fB,zQ];omega
inductive oB (x:V) (vs:ag) (H:Hp) (Q:VK):Prop
 |mk:∀l b xs zs,x=.ref l->vs=[.ref b]->H l\.lst xs->H b\.lst zs->xs.length+zs.length<=sizeLine->Q .non (upd H l (.lst (xs++zs)))->oB x vs H Q
theorem DH:WW X "list.extend" oB:=by
 intro pins s σ H x vs v us Q I rx rv h;let#[l,b,xs,zs,rfl,rfl,hH,hB,hz,q]:=h;cases rx;let#[u,rfl,ru]:=rv.one;cases ru;let#[z,its,n,r,hl,e]:=I.mI hH;let#[z2,gz,n2,r2,jW,e2]:=I.mI hB;have hsz:its.toArray.size+gz.toArray.size<=sizeLine:=by rw[cg,cg];omega
 have F5:¬(!its.toArray.isEmpty&&Builtin.List.listTooLong (its.toArray.size+gz.toArray.size))=true:=by
  rw[tM hsz,xP];exact g6
 apply call_meets F.slot_list_extend ⟨_,e,rfl⟩ F.entry_list_extend (F.args_list_extend_2 _ _)
  (AutoSeq1.list_extend_list_list_0 l its.toArray n b gz.toArray n2 F5 (by rw[cg];omega) Z1) ⟨e,e2,?_⟩
 apply⟨.non,_,I.Fk (its':=its++gz) hH e Z2 (r.append r2) ?_,rfl,q⟩;rw[fB];omega
inductive wx (x:V) (y:V) (H:Hp) (Q:VK):Prop
 |mk:∀l b xs zs,x=.ref l->y=.ref b->H l\.lst xs->H b\.lst zs->xs.length+zs.length<=sizeLine->(∀p,H p=none->Q (.ref p) (upd H p (.lst (xs++zs))))->wx x y H Q
theorem JG:dN X (binaryOp .Add) wx:=by
 intro pins s σ H x y v u Q I rx ry h;let#[l,b,xs,zs,rfl,rfl,hH,hB,hz,q]:=h;cases rx;cases ry;let#[z,its,n,r,hl,e]:=I.mI hH;let#[z2,gz,n2,r2,jW,e2]:=I.mI hB;apply PySem.P.add_list e e2 ?_ (by rw[cg,cg];omega);have ea:its.toArray++gz.toArray=(its++gz).toArray:=by simp
 rw[ea];exact⟨.ref _,_,I.wK (t':=s.toks) (r.append r2) (by rw[fB];omega),rfl,q _ I.fresh⟩
end
section
variable{prog:Ad}{w:Af}{A:Ag}{E:Aa->Ab->Prop}{s:Ab}
end
section
variable{X:Cx}
end
end L2
namespace L2
open PySem PySem.Spec PyProof.Rows
section
variable{κ:Type}[DecidableEq κ]
def bH(kvs:List (κ × V))(k:κ):aN:=(kvs.find? λkv=>decide (kv.1=k)).map (·.2)
def putK(kvs:List (κ × V))(k:κ)(v:V):List (κ × V):=
 if (kvs.any λkv=>decide (kv.1=k))=true then kvs.map (λkv=>if kv.1=k then (kv.1,v) else kv) else kvs++[(k,v)]
theorem Cd{p:κ × V}{r:List (κ × V)}{k:κ}(e:p.1=k):bH (p::r) k\p.2:=by simp[bH,xQ,e]
theorem Cf{p:κ × V}{r:List (κ × V)}{k:κ}(e:¬p.1=k):bH (p::r) k=bH r k:=by simp[bH,xQ,e]
theorem Hl(k:κ):∀kvs:List (κ × V),(kvs.any λkv=>decide (kv.1=k))=(bH kvs k).isSome
 |[]=>rfl
 |p::r=>by
  rw[List.any_cons];by_cases e:p.1=k
  ·simp only[Cd e,bP e,Bool.true_or,Option.isSome_some]
  rw[Cf e,dJ e,Bool.false_or];exact Hl k r
theorem QH(kvs:List (κ × V))(k:κ)(v:V):(putK kvs k v).length<=kvs.length+1:=by
 unfold putK;split
 ·rw[aA];omega
 rw[fB,ka,p9];omega
theorem DM{kvs:List (κ × V)}{k:κ}(v:V)(h:bH kvs k=none):putK kvs k v=kvs++[(k,v)]:=by
 unfold putK;rw[Hl,h];exact aB (by decide)
theorem eU.dW{o:aN}{u:Option Aa}(r:eU o u):o.isSome=u.isSome:=by
 cases o with
 |none=>cases u with
  |none=>rfl
  |some _=>exact (show False from r).elim
 |some _=>cases u with
  |none=>exact (show False from r).elim
  |some _=>rfl
theorem KV.val{kvs:List (κ × V)}{vs:List (κ × Aa)}(r:KV kvs vs)(k:κ):eU (bH kvs k) (valueAt vs k):=by
 unfold KV at r
 induction r with
 |nil=>exact True.intro
 |@cons p q ps qs h t ih=>
  let#[h1,h2]:=h;by_cases e:p.1=k
  ·have e':q.1=k:=h1.symm.trans e;have b:valueAt (q::qs) k\q.2:=by simp[valueAt,xQ,e']
   rw[Cd e,b];exact h2
  have e':¬q.1=k:=λz=>e (h1.trans z);have b:valueAt (q::qs) k=valueAt qs k:=by simp[valueAt,xQ,e']
  rw[Cf e,b];exact ih
theorem KV.any{kvs:List (κ × V)}{vs:List (κ × Aa)}(r:KV kvs vs)(k:κ):(kvs.any λkv=>decide (kv.1=k))=vs.any λkv=>decide (kv.1=k):=by
 unfold KV at r
 induction r with
 |nil=>rfl
 |cons h t ih=>rw[List.any_cons,List.any_cons,ih,h.1]
theorem KV.AL{kvs:List (κ × V)}{vs:List (κ × Aa)}(r:KV kvs vs)(k:κ){y:V}{u:Aa}(ry:RelV y u) :
  KV (kvs.map λkv=>if kv.1=k then (kv.1,y) else kv) (vs.map λkv=>if kv.1=k then (kv.1,u) else kv):=by
 unfold KV at r ⊢
 induction r with
 |nil=>exact .nil
 |@cons p q ps qs h t ih=>
  rw[eD,eD];apply .cons ?_ ih;let#[h1,h2]:=h;by_cases e:p.1=k
  ·rw[aH e,aH (h1.symm.trans e)];exact#[h1,ry]
  rw[aB e,aB (λz=>e (h1.trans z))];exact#[h1,h2]
theorem KV.put{kvs:List (κ × V)}{vs:List (κ × Aa)}(r:KV kvs vs)(k:κ){y:V}{u:Aa}(ry:RelV y u):KV (putK kvs k y) (stored vs k u):=by
 unfold putK stored;rw[r.any k];by_cases e:(vs.any λkv=>decide (kv.1=k))=true
 ·rw[aH e,aH e];exact r.AL k ry
 rw[aB e,aB e];exact Paired.snoc r #[Z,ry]
theorem KV.keys{kvs:List (κ × V)}{vs:List (κ × Aa)}(r:KV kvs vs):kvs.map (·.1)=vs.map (·.1):=by
 unfold KV at r
 induction r with
 |nil=>rfl
 |cons h t ih=>rw[eD,eD,ih,h.1]
theorem KV.length{kvs:List (κ × V)}{vs:List (κ × Aa)}(r:KV kvs vs):kvs.length=vs.length:=bK r
end
theorem vw{P:Ad}{w:Af}{k:Key}{u:Aa}(r:RelV (kV k) u):(eB P w).is k u=true:=by
 cases k with
 |inl i=>let#[t,e]:=(show ∃t,u=Value.int i t from r);subst e;exact f0_ P w i t
 |inr x=>let#[t,e]:=(show ∃t,u=Value.str x t from r);subst e;exact QI P w x t
theorem Vc{P:Ad}{w:Af}:∀{ks:ay} {us:aj},Vals (ks.map kV) us->ItemsAre (eB P w) ks us
 |[],_,r=>by rw[List.map_nil] at r;cases r;exact .nil
 |k::ks,_,r=>by
  rw[eD] at r;cases r with
  |cons h t=>exact .cons (vw h) (Vc t)
abbrev KT(H:Hp):List (ay × V)->List (ay × Addr × Aa)->Prop:=Paired λp q=>p.1=q.1/\H q.2.1\.tup (p.1.map kV)/\RelV p.2 q.2.2
theorem KT.val{H:Hp}{kvs:List (ay × V)}{xs:List (ay × Addr × Aa)}(r:KT H kvs xs)(k:ay):eU (bH kvs k) ((atKey xs k).map (·.2)):=by
 induction r with
 |nil=>exact True.intro
 |@cons p q ps qs h t ih=>
  let#[h1,_,h2]:=h;by_cases e:p.1=k
  ·have e':q.1=k:=h1.symm.trans e;have b:atKey (q::qs) k\q.2:=by simp[atKey,xQ,e']
   rw[Cd e,b];exact h2
  have e':¬q.1=k:=λz=>e (h1.trans z);have b:atKey (q::qs) k=atKey qs k:=by simp[atKey,xQ,e']
  rw[Cf e,b];exact ih
theorem KT.AL{H:Hp}{kvs:List (ay × V)}{xs:List (ay × Addr × Aa)}(r:KT H kvs xs)(k:ay){y:V}{u:Aa}(ry:RelV y u) :
  KT H (kvs.map λkv=>if kv.1=k then (kv.1,y) else kv) (xs.map (putAt k u)):=by
 induction r with
 |nil=>exact .nil
 |@cons p q ps qs h t ih=>
  rw[eD,eD];apply .cons ?_ ih;let#[h1,h2,h3]:=h;unfold putAt;by_cases e:p.1=k
  ·rw[aH e,aH (h1.symm.trans e)];exact#[h1,h2,ry]
  rw[aB e,aB (λz=>e (h1.trans z))];exact#[h1,h2,h3]
theorem KT.put{H:Hp}{kvs:List (ay × V)}{xs:List (ay × Addr × Aa)}(r:KT H kvs xs)(k:ay){b:Addr}{y:V}{u:Aa}(hb:H b\.tup (k.map kV))(ry:RelV y u) :
  KT H (putK kvs k y) (storedH xs k b u):=by
 have e:(kvs.any λkv=>decide (kv.1=k))=(atKey xs k).isSome:=by
  rw[Hl,(r.val k).dW,Option.isSome_map]
 unfold putK storedH;rw[e];by_cases q:(atKey xs k).isSome=true
 ·rw[aH q,aH q];exact r.AL k ry
 rw[aB q,aB q];exact Paired.snoc r #[Z,hb,ry]
theorem KT.keeps{H H':Hp}{kvs:List (ay × V)}{xs:List (ay × Addr × Aa)}(r:KT H kvs xs)(ht:∀b ys,H b\.tup ys->H' b\.tup ys):KT H' kvs xs:=
 Paired.bN r λ_ _ z=>#[z.1,ht _ _ z.2.1,z.2.2]
section
variable{P:Ad}{w:Af}{H:Hp}{h:Heap}{a:Addr}
theorem Sw{u:HO}(ok:eG P w H h)(e:Rd H a u):eC P w H h a u:=e.ok ok
theorem mT{kvs:List (Key × V)}(ok:eG P w H h)(e:Rd H a (.dK kvs)):kvs.length<=sizeLine/\(a == sysModules)=false/\∃vs,KV kvs vs/\h.DictOf (eB P w) a vs:=
 show eC P w H h a (.dK kvs) from Sw ok e
theorem BN{kvs:List (Key × V)}(ok:eG P w H h)(e:H a\.dK kvs):kvs.length<=sizeLine/\(a == sysModules)=false/\∃vs,KV kvs vs/\h.DictOf (eB P w) a vs:=mT ok (.inl e)
theorem Ds{ks:ay}(ok:eG P w H h)(e:H a\.tup (ks.map kV)):(tupleKind (eB P w)).is h ks a:=by
 let#[_,its,r,#[o,h1,h2,n,h3],_]:=(show eC P w H h a (.tup (ks.map kV)) from ok a _ e);exact#[o,its.toArray,n,h1,h2,h3,by simpa using Vc r]
theorem C7{kvs:List (ay × V)}(ok:eG P w H h)(e:Rd H a (.dT kvs)):kvs.length<=sizeLine/\(a == sysModules)=false /\
  ∃xs,KT H kvs xs/\h.DictOfH (tupleKind (eB P w)) a xs:=by
 let#[z,y,xs,r,o,es,ep,h1,h2,h3,h4,h5]:=(show eC P w H h a (.dT kvs) from Sw ok e);apply#[z,y,xs,r,o,es,ep,h1,h2,h3,h4,λx hx=>?_,h5]
 have all:∀{l:List (ay × V)} {m:List (ay × Addr × Aa)},KT H l m->∀x∈m,(tupleKind (eB P w)).is h x.1 x.2.1:=by
  intro l m q
  induction q with
  |nil=>intro x hx;exact nomatch hx
  |@cons p q ps qs hq t ih=>
   intro x hx;rcases cQ.mp hx with e|hx
   ·subst e;exact Ds ok (by rw[<- hq.1];exact hq.2.1)
   exact ih x hx
 exact all r x hx
theorem _X{kvs:List (ay × V)}(ok:eG P w H h)(e:H a\.dT kvs):kvs.length<=sizeLine/\(a == sysModules)=false /\
  ∃xs,KT H kvs xs/\h.DictOfH (tupleKind (eB P w)) a xs:=C7 ok (.inl e)
end
def gF(H:Hp)(a:Addr)(y:V)(r:aN):Prop:=
 (∃kvs k,Rd H a (.dK kvs)/\y=kV k/\r=bH kvs k)∨∃kvs k b,Rd H a (.dT kvs)/\y=.ref b/\H b\.tup (k.map kV)/\r=bH kvs k
def qb(H:Hp)(a:Addr)(y v:V)(H':Hp):Prop:=
 (∃kvs k,H a\.dK kvs/\y=kV k/\kvs.length<sizeLine/\H'=upd H a (.dK (putK kvs k v))) ∨
 ∃kvs k b,H a\.dT kvs/\y=.ref b/\H b\.tup (k.map kV)/\kvs.length<sizeLine/\H'=upd H a (.dT (putK kvs k v))
theorem gF.k{H:Hp}{a:Addr}{kvs:List (Key × V)}{k:Key}(e:H a\.dK kvs):gF H a (kV k) (bH kvs k):=.inl #[kvs,k,.inl e,Z,Z]
theorem gF.t{H:Hp}{a b:Addr}{kvs:List (ay × V)}{k:ay}(e:H a\.dT kvs)(eb:H b\.tup (k.map kV)):gF H a (.ref b) (bH kvs k):=.inr #[kvs,k,b,.inl e,Z,eb,Z]
theorem qb.k{H:Hp}{a:Addr}{kvs:List (Key × V)}{k:Key}{v:V}(e:H a\.dK kvs)(hl:kvs.length<sizeLine):qb H a (kV k) v (upd H a (.dK (putK kvs k v))):=.inl #[kvs,k,e,Z,hl,Z]
theorem qb.t{H:Hp}{a b:Addr}{kvs:List (ay × V)}{k:ay}{v:V}(e:H a\.dT kvs)(eb:H b\.tup (k.map kV))(hl:kvs.length<sizeLine) :
  qb H a (.ref b) v (upd H a (.dT (putK kvs k v))):=.inr #[kvs,k,b,e,Z,eb,hl,Z]
section
variable{X:Cx}{pins:List (Addr × Obj)}{σ:St}{H:Hp}{s:Ab}{a:Addr}{y v:V}{u r:Aa}{o:aN}{A:Ag}{E:Aa->Ab->Prop}
theorem Inv.big(I:Inv X pins σ H s):sysModules<s.heap.objs.size:=by
 have h:mainGlobals<s.heap.objs.size:=(I.mod.glob.keeps I.bk).lt;exact Nat.lt_trans (by decide) h
theorem hj_{Q:Aa->Ab->Prop}(hu:A.units+1<cLine)(I:Inv X pins σ H s)(g:gF H a y (some v))(ry:RelV y u)(h:∀w' s',Inv X pins σ H s'->RelV v w'->Q w' s') :
  wpAny (model X.prog X.w) A (getItem (.ref a) u) Q E s:=by
 rcases g with⟨kvs,k,e,ey,l⟩|⟨kvs,k,b,e,ey,eb,l⟩
 ·subst ey;let#[z,hd,vs,rel,dd]:=mT I.aI e;let#[w',hw,mz]:=eU.some_of (v:=v) (o:=valueAt vs k) (by rw[l];exact rel.val k);exact wpAny_getItem_of (vw ry) dd.mapOf hw (h w' _ (I.tok _) mz)
 subst ey;cases (show u=Value.ref b from ry);let#[z,hd,xs,rel,dd]:=C7 I.aI e;let#[w',hw,mz]:=eU.some_of (v:=v) (o:=(atKey xs k).map (·.2)) (by rw[l];exact rel.val k);let#[p,hp,ju]:=Option.map_eq_some_iff.mp hw;apply wpAny_getItem_heap (tupleKind_room_in1 hu) (Ds I.aI eb) dd hp ?_;rw[ju];exact h w' _ (I.tok _) mz
theorem Pa{Q:Aa->Ab->Prop}(hu:A.units+1<cLine)(I:Inv X pins σ H s)(g:gF H a y o)(ry:RelV y u)(h:∀s',Inv X pins σ H s'->Q (.bool o.isSome) s') :
  wpAny (model X.prog X.w) A (compareOp .In u (.ref a)) Q E s:=by
 rcases g with⟨kvs,k,e,ey,l⟩|⟨kvs,k,b,e,ey,eb,l⟩
 ·subst ey;let#[z,hd,vs,rel,dd]:=mT I.aI e;apply wpAny_in_of (vw ry) hd dd.mapOf ?_;rw[<- (rel.val k).dW,<- l];exact h _ (I.tok _)
 subst ey;cases (show u=Value.ref b from ry);let#[z,hd,xs,rel,dd]:=C7 I.aI e;apply wpAny_in_heap (tupleKind_room_in1 hu) (Ds I.aI eb) hd dd ?_;let q:=(rel.val k).dW;rw[Option.isSome_map] at q;rw[<- q,<- l];exact h _ (I.tok _)
theorem kU_{Q:Aa->Ab->Prop}(hu:A.units+1<cLine)(I:Inv X pins σ H s)(g:gF H a y o)(ry:RelV y u)(h:∀s',Inv X pins σ H s'->Q (.bool (!o.isSome)) s') :
  wpAny (model X.prog X.w) A (compareOp .NotIn u (.ref a)) Q E s:=by
 rcases g with⟨kvs,k,e,ey,l⟩|⟨kvs,k,b,e,ey,eb,l⟩
 ·subst ey;let#[z,hd,vs,rel,dd]:=mT I.aI e;apply wpAny_notIn_of (vw ry) hd dd.mapOf ?_;rw[<- (rel.val k).dW,<- l];exact h _ (I.tok _)
 subst ey;cases (show u=Value.ref b from ry);let#[z,hd,xs,rel,dd]:=C7 I.aI e;apply wpAny_notIn_heap (tupleKind_room_in1 hu) (Ds I.aI eb) hd dd ?_;let q:=(rel.val k).dW;rw[Option.isSome_map] at q;rw[<- q,<- l];exact h _ (I.tok _)
theorem J5{h':Heap}{t':Nat}{ob:HO}(I:Inv X pins σ H s)(mu:Iq (H a))(hs:Heap.SameBut a s.heap h')(he:∃q,h'.get? a\q)(new:eC X.prog X.w (upd H a ob) h' a ob) :
  Inv X pins σ (upd H a ob) { s with heap:=h',toks:=t' }:=
 I.write (x:=a) (e:=a) mu (.inl Z) (λb q hb z=>(hs.2 b hb).trans z) he new
theorem JH{P:Ad}{w:Af}{H':Hp}{h':Heap}{kvs:List (Key × V)}{vs:List (Key × Aa)}(z:kvs.length<=sizeLine)(hd:(a == sysModules)=false)(rel:KV kvs vs)(dd:h'.DictOf (eB P w) a vs) :
  eC P w H' h' a (.dK kvs):=#[z,hd,vs,rel,dd]
theorem hX_{H':Hp}{Q:Unit->Ab->Prop}(hu:A.units+1<cLine)(I:Inv X pins σ H s)(g:qb H a y v H')(ry:RelV y u)(rv:RelV v r)(h:∀s',Inv X pins σ H' s'->Q () s') :
  wpAny (model X.prog X.w) A (setItem (.ref a) u r) Q E s:=by
 rcases g with⟨kvs,k,e,ey,l,eH⟩|⟨kvs,k,b,e,ey,eb,l,eH⟩
 ·subst ey eH;let#[z,hd,vs,rel,dd]:=BN I.aI e;have hz:vs.length<=sizeLine:=by rw[<- rel.length];exact z
  have hl:(putK kvs k v).length<=sizeLine:=by have:=QH kvs k v;omega
  apply wpAny_setItem_pairs (hsz:=hz) (vw ry) dd λh' uw hs=>h _ ?_;have he:∃q,h'.get? a\q:=let #[q,_,_,hq,_]:=uw;#[q,hq];exact J5 I (by rw[e];exact True.intro) hs he (JH hl hd (rel.put k rv) uw)
 subst ey eH;cases (show u=Value.ref b from ry);let#[z,hd,xs,rel,dd]:=_X I.aI e;have hz:xs.length<=sizeLine:=by rw[<- bK rel];exact z
 have hl:(putK kvs k v).length<=sizeLine:=by have:=QH kvs k v;omega
 apply wpAny_setItem_heap (hsz:=hz) (tupleKind_room_in1 hu) (Ds I.aI eb) dd λh' uw hs=>h _ ?_;let#[q,es,ep,hq,h2,h3,h4,_,h5]:=uw;apply J5 I (by rw[e];exact True.intro) hs #[q,hq] #[hl,hd,_,(rel.put k eb rv).keeps λc ys ec=>?_,q,es,ep,hq,h2,h3,h4,h5];rw[aD (cb ec e nofun)];exact ec
end
section
variable{X:Cx}{pins:List (Addr × Obj)}{σ:St}{H:Hp}{s:Ab}{a:Addr}{kvs:List (Key × V)}{k:Key}{u:Aa}{A:Ag}{E:Aa->Ab->Prop}
theorem lN_{Q:Aa->Ab->Prop}(I:Inv X pins σ H s)(e:Rd H a (.dK kvs))(h:∀t s',Inv X pins σ H s'->Q (.int kvs.length t) s'):wpAny (model X.prog X.w) A (call (.builtin "len") [.ref a]) Q E s:=by
 let#[z,hd,vs,rel,dd]:=mT I.aI e;apply call_len_dict hd dd (by rw[<- rel.length];rw[b_] at z;omega) ?_;rw[<- rel.length];exact h _ _ (I.tok _)
end
def xY(i:Expr):Prop:=∀ov iv,subscripted i false ov iv=operate [ov,iv] (getItem ov iv)
theorem Ou{prog:Ad}{w:Af}{A:Ag}{E:Aa->Ab->Prop}{s:Ab}{env:Env}{value slice:Expr}{pos:Pos}{T id:String}{Q:Aa->Ab->Prop}
  (hl:typeLookup (.type T) "__getitem__"=pure (some (.builtin id))) (hs:xY slice)
  (h:wpAny (model prog w) A (eval value env) (λo aZ=>wpAny (model prog w) A (eval slice env) (λi iB=>iB.TypeIs o T/\wpAny (model prog w) A (getItem o i) Q E iB) E aZ) E s) :
  wpAny (model prog w) A (eval (.Subscript value slice pos) env) Q E s:=by
 apply Subscript_ (wpAny_mono h (λo aZ bX=>wpAny_mono bX (λi iB A7=>?_) λ_ _ x=>x) λ_ _ x=>x);let#[hT,A7]:=A7;unfold subscriptTail;apply aq ?_;rw[getitemInPython_of_ne hT.not_modules];apply aq (wpAny_specialOf hT hl ?_)
 have fin:wpAny (model prog w) A (subscripted slice false o i) (λr Et=>wpAny (model prog w) A (letTemporaryGo value o r >>= λ_=>pure r) Q E Et) E iB:=by
  rw[hs o i];exact wpAny_operating (wpAny_mono A7 (λr Et MG=>aq (wpAny_letTemporaryGo (aU MG))) λ_ _ x=>x)
 first
  |exact aU (aq fin)
  |exact aq (aU (aq fin))
  |exact aq fin
theorem eI_{X:Cx}{pins:List (Addr × Obj)}{σ:St}{H:Hp}{s:Ab}{a:Addr}{y:V}{o:aN}(I:Inv X pins σ H s)(g:gF H a y o):s.TypeIs (.ref a) "dict":=by
 rcases g with⟨kvs,k,e,_,_⟩|⟨kvs,k,b,e,_,_,_⟩
 ·let#[_,_,vs,_,dd]:=mT I.aI e;exact dd.typeIs
 let#[_,_,xs,_,dd]:=C7 I.aI e;exact dd.typeIs
inductive rh (Q:VK) (x:V) (y:V) (H2:Hp):Prop
 |mk:∀a v,x=.ref a->gF H2 a y (some v)->Q v H2->rh Q x y H2
def Ep(td ty:TE):TE:=λσ H Q=>td σ H λx H1=>ty σ H1 λy H2=>rh Q x y H2
inductive yl (Q:VK) (y:V) (x:V) (H2:Hp):Prop
 |mk:∀a o,x=.ref a->gF H2 a y o->Q (.bl o.isSome) H2->yl Q y x H2
def Lr(ty td:TE):TE:=λσ H Q=>ty σ H λy H1=>td σ H1 λx H2=>yl Q y x H2
inductive Vx (Q:VK) (y:V) (x:V) (H2:Hp):Prop
 |mk:∀a o,x=.ref a->gF H2 a y o->Q (.bl (!o.isSome)) H2->Vx Q y x H2
def vV(ty td:TE):TE:=λσ H Q=>ty σ H λy H1=>td σ H1 λx H2=>Vx Q y x H2
inductive sZ (D:Ends) (σ:St) (v:V) (x:V) (y:V) (H3:Hp):Prop
 |mk:∀a H4,x=.ref a->qb H3 a y v H4->D.nx σ H4->sZ D σ v x y H3
def ED(td ty tv:TE):TS:=λD σ H=>tv σ H λv H1=>td σ H1 λx H2=>ty σ H2 λy H3=>sZ D σ v x y H3
section
variable{X:Cx}{o i e value:Expr}{pos pos' pB:Pos}{td ty tv:TE}
theorem j9(hu:X.A.units+1<cLine)(ho:PE X o td)(hi:PE X i ty)(hs:xY i:=by exact λ_ _=>rfl):PE X (.Subscript o i pos) (Ep td ty):=by
 intro pins s σ H Q I h;apply Ou PySem.F.slot_dict_getitem.lookup hs (aV (ho pins s σ H _ I h) λu s1 ⟨x,H1,I1,rx,q1⟩=>aV (hi pins s1 σ H1 _ I1 q1) λiv s2 ⟨y,H2,I2,ry,a,v,ex,g,q2⟩=>?_);subst ex;obtain rfl:u=Value.ref a:=rx;exact#[eI_ I2 g,hj_ hu I2 g ry λw' s3 I3 mz=>#[v,H2,I3,mz,q2]]
theorem Dp(hu:X.A.units+1<cLine)(hi:PE X i ty)(ho:PE X o td):PC X .In i o (Lr ty td):=by
 intro pins s σ H Q I h;apply aV (hi pins s σ H _ I h) λiv s1 ⟨y,H1,I1,ry,q1⟩=>aV (ho pins s1 σ H1 _ I1 q1) λu s2 ⟨x,H2,I2,rx,a,ov,ex,g,q2⟩=>?_;subst ex;obtain rfl:u=Value.ref a:=rx;exact Pa hu I2 g ry λs3 I3=>#[.bl ov.isSome,H2,I3,Z,q2]
theorem Vk(hu:X.A.units+1<cLine)(hi:PE X i ty)(ho:PE X o td):PC X .NotIn i o (vV ty td):=by
 intro pins s σ H Q I h;apply aV (hi pins s σ H _ I h) λiv s1 ⟨y,H1,I1,ry,q1⟩=>aV (ho pins s1 σ H1 _ I1 q1) λu s2 ⟨x,H2,I2,rx,a,ov,ex,g,q2⟩=>?_;subst ex;obtain rfl:u=Value.ref a:=rx;exact kU_ hu I2 g ry λs3 I3=>#[.bl (!ov.isSome),H2,I3,Z,q2]
theorem xH(hu:X.A.units+1<cLine)(ho:PE X o td)(hi:PE X i ty)(hv:PE X value tv)(hs:swapsWith value (some (.Subscript o i pos')) pos.line X.env=pure false) :
  PS X (.Assign [.Subscript o i pos'] value pos) (ED td ty tv):=by
 intro pins s σ H D I h;apply wpAny_Assign_Subscript (aV (hv pins s σ H _ I h) λr s1 ⟨v,H1,I1,rv,q1⟩=>aV (ho pins s1 σ H1 _ I1 q1) λu s2 ⟨x,H2,I2,rx,q2⟩=>aV (hi pins s2 σ H2 _ I2 q2) λiv s3 ⟨y,H3,I3,ry,a,H4,ex,g,q3⟩=>?_) hs;subst ex;obtain rfl:u=Value.ref a:=rx;exact hX_ hu I3 g ry rv λs4 I4=>#[σ,H4,I4,q3]
end
theorem U6{P:Ad}{w:Af}{H:Hp}(h:Heap)(hb:sysModules<h.objs.size):eC P w H (h.push { cls:=.type "dict",data:=.dict #[] }) h.objs.size (.dK []):=
 #[g7 _,beq_eq_false_iff_ne.mpr (Ne.symm (dZ hb)),[],.nil,Heap.DictOf.new h]
theorem j8_{P:Ad}{w:Af}{H:Hp}(h:Heap)(hb:sysModules<h.objs.size):eC P w H (h.push { cls:=.type "dict",data:=.dict #[] }) h.objs.size (.dT []):=
 #[g7 _,beq_eq_false_iff_ne.mpr (Ne.symm (dZ hb)),[],.nil,_,#[],0,eh _ Z,#[Z,Z,Z],Z,Z,List.nodup_nil]
def Aj:TE:=λ_ H Q=>∀p,H p=none->Q (.ref p) (upd H p (.dK []))
def Ac:TE:=λ_ H Q=>∀p,H p=none->Q (.ref p) (upd H p (.dT []))
section
variable{X:Cx}{pos:Pos}
theorem Hk:PE X (.Dict [] [] pos) Aj:=λpins s σ H Q I h=>
 wpAny_Dict_empty #[.ref s.heap.objs.size,_,I.laid (a:=s.heap.objs.size) (o:=.dK []) (t':=s.toks) (λ_ _ q=>cj _ q) (bj _) (U6 s.heap I.big),Z,h _ (I.aI.fresh (bj _))]
theorem iG_:PE X (.Dict [] [] pos) Ac:=λpins s σ H Q I h=>
 wpAny_Dict_empty #[.ref s.heap.objs.size,_,I.laid (a:=s.heap.objs.size) (o:=.dT []) (t':=s.toks) (λ_ _ q=>cj _ q) (bj _) (j8_ s.heap I.big),Z,h _ (I.aI.fresh (bj _))]
end
def lE:List (TE × TE)->St->Hp->(List (V × V)->Hp->Prop)->Prop
 |[],_,H,Q=>Q [] H
 |(tk,tv)::r,σ,H,Q=>tk σ H λx H1=>tv σ H1 λy H2=>lE r σ H2 λps H3=>Q ((x,y)::ps) H3
abbrev VV:List (V × V)->List (Aa × Aa)->Prop:=Paired λp q=>RelV p.1 q.1/\RelV p.2 q.2
def K1(X:Cx)(pos:Pos)(keys:List (Option Expr))(values:List Expr)(vR:List (TE × TE)):Prop:=
 ∀(pins:List (Addr × Obj)) (s:Ab) (σ:St) (H:Hp) (Q:List (V × V)->Hp->Prop),Inv X pins σ H s->lE vR σ H Q->
  wpAny (model X.prog X.w) X.A (evalPairs (pairTrees keys values X.env pos)) (λvs s'=>∃ps H',Inv X pins σ H' s'/\VV ps vs/\Q ps H') X.xe s
theorem k5_{X:Cx}{pos:Pos}:K1 X pos [] [] []:=λpins s σ H Q I h=>pairTrees_nil_walk #[[],H,I,.nil,h]
theorem ia_{X:Cx}{pos:Pos}{k v:Expr}{ks:List (Option Expr)}{vs:List Expr}{tk tv:TE}{vR:List (TE × TE)}(hk:PE X k tk)(hv:PE X v tv)(hr:K1 X pos ks vs vR) :
  K1 X pos (some k::ks) (v::vs) ((tk,tv)::vR):=λpins s σ H Q I h=>
 pairTrees_cons_walk (aV (hk pins s σ H _ I h) λu s1 ⟨x,H1,I1,rx,q1⟩=>aV (hv pins s1 σ H1 _ I1 q1) λw2 s2 ⟨y,H2,I2,ry,q2⟩=>
  aV (hr pins s2 σ H2 _ I2 q2) λws s3 ⟨ps,H3,I3,rel,q3⟩=>#[(x,y)::ps,H3,I3,.cons #[rx,ry] rel,q3])
def p6(kvs more:List (Key × V)):List (Key × V):=more.foldl (λacc kv=>putK acc kv.1 kv.2) kvs
theorem KV.merge:∀{more:List (Key × V)} {rs:List (Key × Aa)} {kvs:List (Key × V)} {vs:List (Key × Aa)},KV more rs->KV kvs vs->KV (p6 kvs more) (merged vs rs):=by
 intro more rs kvs vs r;unfold KV at r
 induction r generalizing kvs vs with
 |nil=>intro q;exact q
 |@cons p q ps qs h t ih=>
  intro r0
  have e:KV (putK kvs p.1 p.2) (stored vs q.1 q.2):=by
   have:=r0.put p.1 h.2;rw[<- h.1];exact this
  exact ih e
theorem QM:∀(more kvs:List (Key × V)),(p6 kvs more).length<=kvs.length+more.length
 |[],kvs=>by show kvs.length<=kvs.length+0;omega
 |p::r,kvs=>by
  let h1:=QM r (putK kvs p.1 p.2);let h2:=QH kvs p.1 p.2;show (p6 (putK kvs p.1 p.2) r).length<=_;rw[ka];omega
theorem VT{P:Ad}{w:Af}:∀{kvs:List (Key × V)} {ws:List (Aa × Aa)},VV (kvs.map λkv=>(kV kv.1,kv.2)) ws->∃rs,Carries (eB P w) ws rs/\KV kvs rs
 |[],_,r=>by rw[List.map_nil] at r;cases r;exact#[[],True.intro,.nil]
 |p::kvs,_,r=>by
  rw[eD] at r;cases r with
  |@cons a b as bs h t=>
   let#[rs,c,q]:=VT (P:=P) (w:=w) t;let#[b1,b2]:=b;exact#[(p.1,b2)::rs,#[vw h.1,Z,c],.cons #[Z,h.2] q]
def En(vR:List (TE × TE)):TE:=λσ H Q=>∀p,H p=none->lE vR σ (upd H p (.dK [])) λps H2=>H2 p\.dK []/\∃kvs:List (Key × V),ps=kvs.map (λkv=>(kV kv.1,kv.2))/\kvs.length<=15/\Q (.ref p) (upd H2 p (.dK (p6 [] kvs)))
theorem k0_{X:Cx}{pos:Pos}{keys:List (Option Expr)}{values:List Expr}{vR:List (TE × TE)}(h:K1 X pos keys values vR)(jX:keys.all (·.isSome)=true)(hl:keys.length=values.length)(h0:keys≠[])
  (h15:keys.length<=15):PE X (.Dict keys values pos) (En vR):=by
 intro pins s σ H Q I q;let hn:=I.aI.fresh (bj s.heap.objs.size);let I1:=I.laid (a:=s.heap.objs.size) (o:=.dK []) (h':=s.heap.push { cls:=.type "dict",data:=.dict #[] }) (t':=s.toks) (λ_ _ q=>cj _ q) (bj _) (U6 s.heap I.big);apply wpAny_Dict_walk (knd:=eB X.prog X.w) jX hl h0 h15 (aV (h pins _ σ _ _ I1 (q _ hn)) λws s2 ⟨ps,H2,I2,rel,e,kvs,ep,lk,q2⟩=>?_);subst ep;let#[rs,c,rk]:=VT (P:=X.prog) (w:=X.w) rel;let#[z,hd,Rf,r0,dd]:=BN I2.aI e;cases r0;apply#[rs,c,dd,λh' uw hs=>#[.ref s.heap.objs.size,_,?_,Z,q2]]
 have hz:(p6 [] kvs).length<=sizeLine:=by
  let h1:=QM kvs [];rw[p9] at h1;rw[b_];omega
 have he:∃q,h'.get? s.heap.objs.size\q:=let #[q,_,_,hq,_]:=uw;#[q,hq];exact J5 I2 (by rw[e];exact True.intro) hs he (JH hz hd (rk.merge .nil) uw)
structure M1 (X:Cx) (o:Expr) (m:Str) (apos:Pos) (e:Expr) (cO:Pos):Prop where
 base:attributeBase o m X.env (eval o X.env)=eval o X.env
 few:((backTo cO (starEach [e] X.env)).all (λx=>!x.1)&&(backToKw cO (keywordEach [] X.env)).all (λx=>x.1.isSome)
  && decide (([e]:List Expr).length+([]:List Keyword).length+(if ([]:List Keyword).isEmpty then 0 else 1)<30))=true
 line:(apos.endLine == cO.line)=true
 trees:backTo cO (starEach [e] X.env)=[(false,eval e X.env)]
structure M2 (X:Cx) (o:Expr) (m:Str) (apos:Pos) (e f:Expr) (cO:Pos):Prop where
 base:attributeBase o m X.env (eval o X.env)=eval o X.env
 few:((backTo cO (starEach [e,f] X.env)).all (λx=>!x.1)&&(backToKw cO (keywordEach [] X.env)).all (λx=>x.1.isSome)
  && decide (([e,f]:List Expr).length+([]:List Keyword).length+(if ([]:List Keyword).isEmpty then 0 else 1)<30))=true
 line:(apos.endLine == cO.line)=true
 trees:backTo cO (starEach [e,f] X.env)=[(false,eval e X.env),(false,eval f X.env)]
def IsD(H:Hp)(a:Addr):Prop:=(∃kvs,Rd H a (.dK kvs))∨∃kvs,Rd H a (.dT kvs)
theorem SC{X:Cx}{pins:List (Addr × Obj)}{σ:St}{H:Hp}{s:Ab}{a:Addr}(I:Inv X pins σ H s)(d:IsD H a) :
  s.TypeIs (.ref a) "dict"/\(∀b,Value.ref a=.ref b->∃ob,s.heap.get? b\ob/\ob.dict=none)/\(a == sysModules)=false:=by
 rcases d with⟨kvs,e⟩|⟨kvs,e⟩
 ·let#[_,hd,vs,_,dd]:=mT I.aI e;apply#[dd.typeIs,λb q=>?_,hd];cases q;let#[ob,_,_,h1,h2,_]:=dd;exact#[ob,h1,h2.2.1]
 let#[_,hd,xs,_,dd]:=C7 I.aI e;apply#[dd.typeIs,λb q=>?_,hd];cases q;let#[ob,_,_,h1,h2,_]:=dd;exact#[ob,h1,h2.2.1]
section
variable{X:Cx}{pins:List (Addr × Obj)}{σ:St}{H:Hp}{s:Ab}{a:Addr}{y d:V}{u r:Aa}{o:aN}{A:Ag}{E:Aa->Ab->Prop}
end
section
variable{X:Cx}{o e f:Expr}{apos cO:Pos}{td ty tx:TE}
end
section
variable{X:Cx}{pins:List (Addr × Obj)}{σ:St}{H:Hp}{s:Ab}{a:Addr}{kvs:List (Key × V)}{A:Ag}{E:Aa->Ab->Prop}
theorem iU_{Q:Aa->Ab->Prop}(I:Inv X pins σ H s)(e:Rd H a (.dK kvs))(h:∀p s',H p=none->Inv X pins σ (upd H p (.dK kvs)) s'->Q (.ref p) s'):wpAny (model X.prog X.w) A (call (.type "dict") [.ref a]) Q E s:=by
 let#[z,hd,vs,rel,dd]:=mT I.aI e;apply kt_call_dict hd dd (by rw[<- rel.length];exact z) λh' uw hs=>?_;apply h _ _ (I.aI.fresh (bj _)) (I.laid (a:=s.heap.objs.size) (o:=.dK kvs) (t':=s.toks) (λb q hq=>?_) (bj _) (JH z (beq_eq_false_iff_ne.mpr (Ne.symm (dZ I.big))) rel uw));exact (hs.2 b (dZ (cy hq))).trans (cj _ hq)
end
section
variable{X:Cx}{pins:List (Addr × Obj)}{σ:St}{H:Hp}{s:Ab}{a:Addr}{y:V}{u:Aa}{A:Ag}{E:Aa->Ab->Prop}
end
end L2
namespace WZ
open PySem PySem.W PySem.Calls PyProof.Rows
theorem cS_{P:Params}{h:Heap}:∀(ns:List Int) (vs:aj),WellAll P h vs (ns.map WData.int)->IntsAre vs ns:=by
 intro ns
 induction ns with
 |nil=>
  intro vs w;rw[List.map_nil] at w;cases w;exact .nil
 |cons n ns ih=>
  intro vs w;rw[eD] at w;cases w with
  |cons a b=>
   cases a;exact .cons _ _ (ih _ b)
theorem hJ_{l:OpenLaw}{n:Nat}(hn:l.most\n){P:Params}{h:Heap}{args:List WData}{vals:aj}
  (wR:l.row.toRowW.claim.pre args=true) (MK:WellAll P h vals args) :
  ∃a vs ns,vals=[Value.ref a]/\args=[WData.list (ns.map WData.int)]/\h.get? a=some { cls:=.type "list",data:=.seq vs.toArray }/\IntsAre vs ns/\ns.length<=n:=by
 have hsh:WShape.hasAll [] args [.list .int]=true:=(pre_splitW wR).1;have hc:l.pre.holds [] { args:=args }=true:=(pre_splitW wR).2;let#[d,r,rfl,h1,h2]:=hasAllW_cons hsh;obtain rfl:=hasAllW_nil h2;let#[xs,rfl,h3]:=hasW_list h1;let#[ns,rfl]:=items_int h3
 have hlen:ns.length<=n:=by
  unfold OpenLaw.pre at hc
  have h4:(WTm.not (.lt (.lit (.int (n:Int))) (.len (.arg 0)))).holds [] { args:=[.list (ns.map .int)] }=true:=by
   let h4:=(holds_andW hc).1;rw[hn] at h4;exact h4
  let h5:=condW_of h4 (w_not (w_lt w_lit (w_len_list (w_arg Z))));rw[aA] at h5;apply Nat.le_of_not_lt λq=>?_;have q':(n:Int)<((ns.length:Nat):Int):=by omega
  first
   |(rw[bP q'] at h5;exact absurd h5 (by decide))
   |(simp at h5;omega)
 cases MK with
 |cons w1 w2=>
  cases w2;cases w1 with
  |list ho jX=>exact#[_,_,ns,Z,Z,ho,cS_ ns _ jX,hlen]
theorem i0_(l:OpenLaw)(args:List WData):l.row.toRowW.claim.post args (.bool true) args=true:=
 postW_of (r:=l.row.toRowW) (X:=(true == true))
  (show WShape.has [] (.bool true) .bool=true by first|rfl|decide|simp[WShape.has,WShape.arms,WShape.armsAll])
  (show (WTm.eq .res (.lit (.bool true))).value [] { args:=args,res:=some (.bool true),after:=args }=some (.bool (true == true)) from w_eq_bool (w_res Z) w_lit) Z
theorem j8{l:OpenLaw}{n:Nat}{q:Ad}{loose:ae}{XP:(Str->Option Aa)->Heap->Prop}{YP:Af->Heap->Prop}{d:DefRec}
  (hn:l.most\n) (uh:d.params.defaults=[])
  (call:∀(w:Af) (cX aZ:Ab) (mg mb:Str->Option Aa) (fa:Addr) (o:Obj) (pm cd doc:Aa) (a:Addr) (vs:aj) (ns:List Int),
   Ground q loose [] XP w cX mg mb aZ.heap->YP w aZ.heap->
   aZ.heap.get? fa\o->o.data=.func (docDef d.name d.params d.body d.scope pm cd doc)->aZ.heap.CodeRec cd d.name->mg d.name\.ref fa->
   aZ.heap.get? a=some { cls:=.type "list",data:=.seq vs.toArray }->IntsAre vs ns->ns.length<=n->aZ.gens=#[]->
   codeAny (model l.prog w) callerA (.call (.ref fa) #[[.ref a],[]]) (λr s'=>r=.ok (.ret (.bool true))/\OldK aZ.heap s'.heap/\s'.os=aZ.os/\AllBare s'.gens) aZ) :
  WalkO q loose XP YP l.row.toRowW d [] (λf vs=>PySem.call f vs):=by
 intro w cX aZ mg mb G Y fa o pm cd doc dV kV ho hd hZ hD hmg hg args vals as wR hlay hrd MK hlo;obtain rfl:dV=.none:=Dflts.none hD uh;obtain rfl:kV=.none:=Dflts.noKw hD;let#[a,vs,ns,rfl,rfl,Bb,hints,hlen]:=hJ_ hn wR MK;apply enter_call (codeAny_mono (call w cX aZ mg mb fa o pm cd doc a vs ns G Y ho (fd_plain hd) hZ hmg Bb hints hlen hg) λr s' hq=>?_);let#[rfl,h2,h3,h4]:=hq;exact#[.inl #[.bool true,.bool true,[],Z,λ_=>rfl,.bool true,i0_ l _,λ_=>#[List.Pairwise.nil,λ_ hm=>(nomatch hm)]],h2,h3,h4]
section
variable{prog:Ad}{w:Af}{A:Ag}{E:Aa->Ab->Prop}{s:Ab}{K:Frag}
end
end WZ
namespace L2
open PySem PySem.Spec PyProof.Rows
theorem Vb:∀{vs:aj} {ns:List Int},IntsAre vs ns->Vals (ns.map V.int) vs
 |_,_,.nil=>.nil
 |_,_,.cons n t h=>.cons #[t,Z] (Vb h)
end L2
namespace L2
open PySem PySem.Spec PyProof.Rows
end L2
namespace L2
open PySem PySem.Spec PyProof.Rows
def jw(s:Stmt)(j:Nat):Stmt:=match s with
 |.ClassDef _ _ _ body _ _ _ _ _ _ _=>body.getD j (.Pass #[0,0,0,0])
 |_=>.Pass #[0,0,0,0]
def jh(s:Stmt):Arguments:=match s with
 |.FunctionDef _ a _ _ _ _ _ _ _ _=>a
 |_=>{ posonlyargs:=[],args:=[],vararg:=none,kwonlyargs:=[],kw_defaults:=[],kwarg:=none,defaults:=[] }
def ib(s:Stmt):List Stmt:=match s with
 |.FunctionDef _ _ b _ _ _ _ _ _ _=>b
 |_=>[]
def a9(s:Stmt):Scope:=match s with
 |.FunctionDef _ _ _ _ _ _ sc _ _ _=>sc
 |_=>{ kind:=.function,names:=[],isGenerator:=false,isCoroutine:=false }
abbrev ba:jF:=λ_ _ _ _ _ _=>False
abbrev E0:XK:=λ_ _ _=>False
theorem oG{X:Cx}:xu ba X E0:=λ_ _ _ _ _ _ _ h=>h.elim
structure bg (K:af) (x qual:Str) (st:Stmt) (f:Addr) (fd:Ae):Prop where
 ex:∃(oc:Aa) (od:Option Addr) (kV doc pm:Aa) (an:Option Addr) (aO ct:Aa) (i8:Array (Option Aa)),
  fd=PySem.W.fnOf x qual (jh st) (ib st) (a9 st) .none kV doc pm an aO ct/\K.lookup f=some #[oc,od,.func fd,i8]/\PySem.W.codeIn K aO qual=true
 kp:PySem.W.keepIn K (.ref f)=true
section v
theorem bg.ok{x qual:Str}{st:Stmt}{f:Addr}{fd:Ae}{N ps:ae}{k:Nat}{sp:Sp}(F:bg K x qual st f fd)(S:br N ps (a9 st))(len:∀vs H Q E,sp vs H Q E->vs.length=ps.length)
  (fV:∀(aO:Aa) (A:Ag) (outer:List Env) (s:Ab) (H:Hp) (vs:ag) (Q:VK) (E:XK),a_ k (A.deeper (envOfC qual (a9 st) s.heap.objs.size f aO))->sp vs H Q E->
   ∃t,lA (jZ ba P w K mg base N qual (a9 st) f aO A outer s H E).AS (ib st) t/\t { nx:=λ_ H'=>Q .non H',rt:=Q } (start N vs) H):!ak ba (k+1) f fd ps sp:=by
 let#[oc,od,kV,doc,pm,an,aO,ct,i8,rfl,lk,hZ]:=F.ex;apply Sq lk hZ S len λA outer s H vs Q E hr kD=>?_;let#[t,h,q]:=fV aO A outer s H vs Q E hr kD;exact#[t,h.AS,q]
theorem bg.bI{x qual:Str}{st:Stmt}{f:Addr}{fd:Ae}{N ps:ae}{k:Nat}{sp:Sp}(F:bg K x qual st f fd)(S:br N ps (a9 st)) (fV:∀(aO:Aa) (A:Ag) (outer:List Env) (s:Ab) (H:Hp) (vs:ag) (Q:VK) (E:XK),a_ k (A.deeper (envOfC qual (a9 st) s.heap.objs.size f aO))->sp vs H Q E->
   ∃t,lA (jZ ba P w K mg base N qual (a9 st) f aO A outer s H E).AS (ib st) t/\t { nx:=λ_ H'=>Q .non H',rt:=Q } (start N vs) H) (len:∀vs H Q E,sp vs H Q E->vs.length=ps.length:=by intro vs H Q E h;first|(cases h;subst_vars;rfl)|(let#[rfl,_]:=h;rfl)|(let#[_,rfl,_]:=h;rfl)|(let#[_,_,rfl,_]:=h;rfl)|(let#[_,_,_,rfl,_]:=h;rfl)|(let#[_,_,_,_,rfl,_]:=h;rfl)|(let#[_,_,_,_,_,_,_,_,_,rfl,_]:=h;rfl)):!ak ba (k+1) f fd ps sp:=F.ok S len fV
theorem bg.binds{x qual:Str}{st:Stmt}{f:Addr}{fd:Ae}{ps:ae}(F:bg K x qual st f fd)
  (h:∀(kV doc pm:Aa) (an:Option Addr) (aO ct:Aa) (us:aj),us.length=ps.length->bindArgs (PySem.W.fnOf x qual (jh st) (ib st) (a9 st) .none kV doc pm an aO ct) #[us,[]]=pure (ps.zip us)):qE K fd ps []:=by
 let#[oc,od,kV,doc,pm,an,aO,ct,i8,rfl,lk,hZ]:=F.ex;exact .all (h kV doc pm an aO ct)
theorem MM{x qual:Str}{st:Stmt}{f:Addr}{oc:Aa}{od an:Option Addr}{i8:Array (Option Aa)}{kV doc pm aO ct:Aa}(l:K.lookup f=some #[oc,od,.func (PySem.W.fnOf x qual (jh st) (ib st) (a9 st) .none kV doc pm an aO ct),i8])
  (c:PySem.W.codeIn K aO qual=true) (k:PySem.W.keepIn K (.ref f)=true):bg K x qual st f (PySem.W.fnOf x qual (jh st) (ib st) (a9 st) .none kV doc pm an aO ct):=#[#[oc,od,kV,doc,pm,an,aO,ct,i8,Z,l,c],k]
end
theorem gC{A:Ag}{k:Nat}(hr:a_ k A):A.units+1<cLine:=Nat.lt_of_le_of_lt (Nat.add_le_add_left (by decide:1<=64) _) hr.units
section
variable{X:Cx}
theorem pv(i:Nat){x:Str}{pos:Pos}(hN:X.N[i]? = some x:=by rfl)(hv:Q5 X.env.scope x:=by first|exact Or.inl Z|exact Or.inr (Or.inl Z)|exact Or.inr (Or.inr Z))(hd:(x == ("__debug__":Str))=false:=by decide)
  (hZ:(x == ("__classdict__":Str))=false:=by decide):PE X (.Name x pos) (qT i):=lG_ hN hv hd hZ
inductive VW (xs:ag) (H:Hp) (Q:VK):Prop
 |mk:∀a kvs,xs=[V.ref a]->H a\.dK kvs->Q (.int kvs.length) H->VW xs H Q
theorem gT_:gB X (.builtin "len") VW:=by
 intro pins s σ H xs us Q I r h;let#[a,kvs,rfl,ha,q]:=h;let#[u,rfl,ru]:=vals1 r;cases ru;exact lN_ I (.inl ha) λt s' I'=>#[.int kvs.length,H,I',#[t,Z],q]
end
theorem aQ{A B:Prop}(h:B):if false=true then A else B:=by
 rw[aB g6];exact h
theorem bO{A B:Prop}(h:A):if true=true then A else B:=by
 rw[aH Z];exact h
theorem aM{c A B:Prop}[Decidable c](h1:c->A)(h2:¬c->B):if c then A else B:=by
 by_cases h:c
 ·rw[aH h];exact h1 h
 rw[aB h];exact h2 h
theorem tW{c A B:Prop}[Decidable c](hc:c)(h:B):if (!decide c)=true then A else B:=by
 rw[bP hc];exact aQ h
def aa(H H':Hp):Prop:=∀b o,H b\o->H' b\o
theorem aa.refl(H:Hp):aa H H:=λ_ _ h=>h
theorem aa.trans{H H1 H2:Hp}(a:aa H H1)(b:aa H1 H2):aa H H2:=λc o h=>b c o (a c o h)
theorem aa.free{H H':Hp}(e:aa H H'){l:Addr}(h:H' l=Option.none):H l=Option.none:=by
 cases q:H l with
 |none=>rfl
 |some o=>
  rw[e l o q] at h;cases h
section
variable{κ:Type}[DecidableEq κ]
theorem kv_{kvs:List (κ × V)}{k:κ}{v:V}(h:bH kvs k\v):k∈kvs.map (·.1):=by
 have q:(kvs.any λkv=>decide (kv.1=k))=true:=by
  rw[Hl,h]
  all_goals rfl
 let#[p,hp,e]:=List.any_eq_true.mp q;exact bJ.mpr #[p,hp,vy e]
theorem Us:∀{l:List κ} {k:κ},l.Nodup->¬k∈l->(l++[k]).Nodup
 |[],k,_,_=>by simp
 |a::r,k,h,hk=>by
  let#[h1,h2]:=oY.mp h;show (a::(r++[k])).Nodup;apply oY.mpr #[λm=>?_,Us h2 λm=>hk (cQ.mpr (Or.inr m))];rcases gD.mp m with q|q
  ·exact h1 q
  exact hk (cQ.mpr (Or.inl (List.mem_singleton.mp q).symm))
end
end L2
local macro_rules|`(%[$x,*|$_])=>do return (<-x.getElems.foldrM (λe (a:Lean.Term)=>if e.raw.isNatLit?.isSome then`(L2.eW (L2.pv $e) $a)else`(L2.eW $e $a)) (<-`(L2.bf)))
namespace L2
open PySem PySem.Spec PyProof.Rows
def jg(env:Env):List (Str × NameKind)->List (Str × Addr)->List (Str × Addr)
 |[],cs=>cs
 |(n,k)::r,cs=>jg env r (if k == .free then (n,(env.cells.lookup n).getD 0)::cs else cs)
theorem QN{env:Env}(f:Str × NameKind->List (Str × Addr)->Sem (ForInStep (List (Str × Addr))))
  (hf:∀n k cs,f (n,k) cs=if (k == .free)=true then (do let a <- cellOf env n;pure (.yield ((n,a)::cs))) else pure (.yield cs)) :
  ∀(names:List (Str × NameKind)) (cs:List (Str × Addr)),(∀x∈names,x.2=.free->∃c,env.cells.lookup x.1\c)->forIn names cs f=(pure (jg env names cs):Sem _)
 |[],cs,_=>by rw[List.forIn_nil];rfl
 |(n,k)::r,cs,h=>by
  rw[List.forIn_cons,hf];have hr:∀x∈r,x.2=.free->∃c,env.cells.lookup x.1\c:=λx hx=>h x (fb _ hx);unfold jg;by_cases hk:(k == NameKind.free)=true
  ·let#[c,hc]:=h (n,k) fQ ⇑hk;have hc:env.cells.lookup n\c:=hc;rw[aH hk,aH hk];have e:cellOf env n=pure c:=by unfold cellOf;rw[hc]
   rw[e];simp only[pure_bind];rw[QN f hf r _ hr,hc];rfl
  rw[aB hk,aB hk];simp only[pure_bind];exact QN f hf r _ hr
theorem Wr{scope:Scope}{env:Env}(h:∀x∈scope.names,x.2=.free->∃c,env.cells.lookup x.1\c):closureFor scope env=pure (jg env scope.names []):=by
 simp only[closureFor];rw[QN (env:=env) _ (λn k cs=>by by_cases hk:(k == NameKind.free)=true<;>simp[hk]) scope.names [] h]
 simp only[pure_bind]
theorem Wa{env:Env}:∀{names:List (Str × NameKind)} {cs:List (Str × Addr)} {x:Str} {c:Addr},(x,c)∈jg env names cs->(x,c)∈cs∨((x,NameKind.free)∈names/\c=(env.cells.lookup x).getD 0)
 |[],cs,x,c,h=>.inl h
 |(n,k)::r,cs,x,c,h=>by
  unfold jg at h;rcases Wa h with h|⟨h,e⟩
  ·by_cases hk:(k == NameKind.free)=true
   ·rw[aH hk] at h;rcases cQ.mp h with q|q
    ·cases q;have:k=.free:=⇑hk
     subst this;exact .inr #[fQ,Z]
    exact .inl q
   rw[aB hk] at h;exact .inl h
  exact .inr #[fb _ h,e]
theorem PV{env:Env}:∀{names:List (Str × NameKind)} {cs:List (Str × Addr)} {x:Str},(x,NameKind.free)∈names∨(∃c,(x,c)∈cs)->∃c,(x,c)∈jg env names cs
 |[],cs,x,h=>by
  rcases h with h|h
  ·cases h
  ·exact h
 |(n,k)::r,cs,x,h=>by
  unfold jg;apply PV ?_;rcases h with h|⟨c,h⟩
  ·rcases cQ.mp h with e|h
   ·cases e;exact .inr #[(env.cells.lookup n).getD 0,by rw[aH (by decide)];exact fQ]
   exact .inl h
  apply .inr #[c,?_];split
  ·exact fb _ h
  exact h
theorem QO:∀(names:List (Str × NameKind)) (n:Nat) (acc cl:List (Str × Addr)),cellsFrom n names (acc++cl)=cellsFrom n names acc++cl
 |[],_,_,_=>rfl
 |(x,k)::r,n,acc,cl=>by
  unfold cellsFrom;split
  ·exact QO r (n+1) ((x,n)::acc) cl
  exact QO r n acc cl
theorem QT:∀{names:List (Str × NameKind)} {n:Nat} {acc:List (Str × Addr)} {x:Str} {c:Addr},(x,c)∈cellsFrom n names acc->(x,c)∈acc∨(x,NameKind.cell)∈names
 |[],_,_,_,_,h=>.inl h
 |(y,k)::r,n,acc,x,c,h=>by
  unfold cellsFrom at h;by_cases hk:(k == NameKind.cell)=true
  ·rw[aH hk] at h;rcases QT h with h|h
   ·rcases cQ.mp h with e|h
    ·cases e;have:k=.cell:=⇑hk
     subst this;exact .inr fQ
    exact .inl h
   exact .inr (fb _ h)
  rw[aB hk] at h;rcases QT h with h|h
  ·exact .inl h
  exact .inr (fb _ h)
theorem QU{α:Type}:∀{l:List (Str × α)} {x:Str} {c:α},(x,c)∈l->∃c',l.lookup x\c'
 |(k,v)::r,x,c,h=>by
  rw[uO];cases hb:x == k with
  |true=>exact#[v,Z]
  |false=>
   rcases cQ.mp h with e|h
   ·cases e;simp at hb
   exact QU h
def j3(scope:Scope)(C:Addr)(env:Env):Env:=
 { scope:=relabel scope env,locals:=C,globals:=env.globals,cells:=cellsFrom (C+1) scope.names (jg env scope.names []),qual:=env.qual,func:=none,code:=env.code,frame:=env.frame,builtins:=env.builtins }
theorem Wv{M:Model}{A:Ag}{E:Aa->Ab->Prop}{s:Ab}{scope:Scope}{cl:List (Str × Addr)}{env:Env}{Q:Env->Ab->Prop}
  (h:Q { scope:=scope,locals:=s.heap.objs.size,globals:=env.globals,cells:=cellsFrom (s.heap.objs.size+1) scope.names cl,qual:=env.qual,func:=none,code:=env.code,frame:=env.frame,builtins:=env.builtins }
   { s with heap:=pushCells (s.heap.push { cls:=.type "dict",data:=.dict #[] }) scope.names }) :
  wpAny M A (newFunctionEnv scope env.globals cl [] env.qual none .none (some env)) Q E s:=by
 simp only[newFunctionEnv,Option.isSome_some,if_true];apply aq (wpAny_alloc ?_);apply aq (wpAny_layCells _ (λname kind cells=>by cases hkc:kind == NameKind.cell<;>simp[hkc]) _ _ _ _ ?_)
 rw[show ({ s with heap:=s.heap.push { cls:=.type "dict",data:=.dict #[] } }:Ab).heap.objs.size=s.heap.objs.size+1 from Heap.size_push ..];rw[List.forIn_nil];exact aq (aU (aU h))
def J3(PN:ae)(ps:Scope)(N:ae)(own:Nat)(fr:List Nat)(scope:Scope):Bool:=
 decide (scope.kind=.function)&&decide N.Nodup&&decide (own+fr.length=N.length)
 && (scope.names.all λy=>decide (scope.names.lookup y.1\y.2))
 && (scope.names.all λy=>if y.2=.free then decide (ps.names.lookup y.1\.cell) || decide (ps.names.lookup y.1\.free) else true)
 && ((fr.map λj=>PN[j]?) == (N.drop own).map some)
 && ((N.drop own).all λx=>decide (scope.names.lookup x\.free))
structure nI (PN:ae) (ps:Scope) (N:ae) (own:Nat) (fr:List Nat) (scope:Scope):Prop where
 kind:scope.kind=.function
 nd:N.Nodup
 len:own+fr.length=N.length
 look:∀y∈scope.names,scope.names.lookup y.1\y.2
 par:∀y∈scope.names,y.2=.free->ps.names.lookup y.1\.cell∨ps.names.lookup y.1\.free
 h_:(fr.map λj=>PN[j]?)=(N.drop own).map some
 frk:∀x∈N.drop own,scope.names.lookup x\.free
theorem nI.of{PN:ae}{ps:Scope}{N:ae}{own:Nat}{fr:List Nat}{scope:Scope}(h:J3 PN ps N own fr scope=true):nI PN ps N own fr scope:=by
 unfold J3 at h;simp only[Bool.and_eq_true,decide_eq_true_eq,List.all_eq_true,beq_iff_eq] at h;let#[#[#[#[#[#[h1,h2],h3],h4],h5],h6],h7]:=h;apply#[h1,h2,h3,h4,λy hy e=>?_,h6,h7];let q:=h5 y hy;rw[aH e] at q;simpa using q
def Ci(own:Nat)(fr:List Nat)(σ:St):St:=List.replicate own none++fr.map λj=>(σ[j]?).join
def iw(X:Cx)(N:ae)(scope:Scope)(fp:ai)(s:Ab)(H:Hp):Cx where
 prog:=X.prog
 w:=X.w
 K:=X.K
 mg:=X.mg
 base:=X.base
 A:=X.A
 N:=N
 cX:=s
 jk:=H
 env:=j3 scope s.heap.objs.size X.env
 outer:=X.stack
 stack:=X.stack
 ex:=fp
 fn:=λx=>decide (scope.names.lookup x\.local) || decide (scope.names.lookup x\.cell)
 calm:=X.calm
 pn:=[]
 xe:=λ_ _=>False
theorem Wn{ps:Scope}{env:Env}(he:env.scope=ps){x:Str}:∀{names:List (Str × NameKind)} {k:NameKind},names.lookup x\k->
  (names.map λ(n,k)=>if (k == NameKind.free&&env.scope.kind == .function&&env.kindOf n == some .cell) then (n,NameKind.cell) else (n,k)).lookup x =
   some (if (k == NameKind.free&&env.scope.kind == .function&&env.kindOf x == some .cell) then .cell else k)
 |(n,k')::r,k,h=>by
  rw[uO] at h;rw[eD];cases hb:x == n with
  |true=>
   rw[hb] at h;cases h;have e:x=n:=⇑hb
   subst e;dsimp only;split<;>simp[uO]
  |false=>
   rw[hb] at h;let ih:=Wn he (env:=env) h;dsimp only;split<;>(rw[uO,hb];exact ih)
theorem PQ{env:Env}{x:Str}:∀{names:List (Str × NameKind)} {k:NameKind},(names.map λ(n,k)=>if (k == NameKind.free&&env.scope.kind == .function&&env.kindOf n == some .cell) then (n,NameKind.cell) else (n,k)).lookup x\k->∃k',names.lookup x\k'/\(k'=k∨(k'=.free/\k=.cell))
 |(n,k')::r,k,h=>by
  rw[eD] at h;rw[uO];dsimp only at h;cases hb:x == n with
  |true=>
   apply#[k',Z,?_];by_cases hc:(k' == NameKind.free&&env.scope.kind == .function&&env.kindOf n == some .cell)=true
   ·rw[aH hc,uO,hb] at h;cases h;simp only[Bool.and_eq_true,beq_iff_eq] at hc;exact .inr #[hc.1.1,Z]
   ·rw[aB hc,uO,hb] at h;cases h;exact .inl Z
  |false=>
   have h':(r.map λ(n,k)=>if (k == NameKind.free&&env.scope.kind == .function&&env.kindOf n == some .cell) then (n,NameKind.cell) else (n,k)).lookup x\k:=by
    split at h<;>(rw[uO,hb] at h;exact h)
   exact PQ h'
theorem dK_{α:Type}{x:Str}{c:α}:∀{l r:List (Str × α)},(l++r).lookup x\c->(x,c)∈l∨(x,c)∈r:=λh=>gD.mp (p5 h)
section
variable{X:Cx}{pins:List (Addr × Obj)}{σ:St}{H:Hp}{s:Ab}{N:ae}{own:Nat}{fr:List Nat}{scope:Scope}{fp:ai}
theorem VM(I:Inv X pins σ H s)(S:nI X.N X.env.scope N own fr scope){x:Str}{c:Addr}(h:(x,c)∈jg X.env scope.names []):X.env.cells.lookup x\c/\(x,NameKind.free)∈scope.names:=by
 rcases Wa h with h|⟨h,e⟩
 ·cases h
 let#[c',hc]:=I.ok.has x (S.par _ h Z);apply#[?_,h];rw[e,hc];rfl
theorem Inv.block(I:Inv X pins σ H s)(S:nI X.N X.env.scope N own fr scope)(Jv:∀b∈fp,dh X pins H b)(hfo:∀b∈fp,∃o,s.heap.get? b\o) :
  Inv (iw X N scope fp s H) [] (Ci own fr σ) H { s with heap:=pushCells (s.heap.push { cls:=.type "dict",data:=.dict #[] }) scope.names }:=by
 have kept:∀b o,s.heap.get? b\o->(pushCells (s.heap.push { cls:=.type "dict",data:=.dict #[] }) scope.names).get? b\o:=λb o e=>pushCells_keeps _ _ b o (cj _ e);let Kj:=cellsFrom_ok scope.names (s.heap.push { cls:=.type "dict",data:=.dict #[] }) (s.heap.objs.size+1) [] #[λ_ _ hm=>(nomatch hm),List.Pairwise.nil] (by rw[Heap.size_push];exact bj _);rw[Heap.size_push] at Kj;have ecs:cellsFrom (s.heap.objs.size+1) scope.names (jg X.env scope.names [])=cellsFrom (s.heap.objs.size+1) scope.names []++jg X.env scope.names []:=QO _ _ [] _
 have hX:∀{x c},(cellsFrom (s.heap.objs.size+1) scope.names (jg X.env scope.names [])).lookup x\c->((x,c)∈cellsFrom (s.heap.objs.size+1) scope.names []/\(x,NameKind.cell)∈scope.names/\s.heap.objs.size+1<=c)∨(X.env.cells.lookup x\c/\(x,NameKind.free)∈scope.names):=λ{x c} h=>by
  rw[ecs] at h;rcases dK_ h with h|h
  ·apply .inl #[h,?_,(Kj.empty _ _ h).2];rcases QT h with q|q
   ·cases q
   exact q
  exact .inr (VM I S h)
 have EX:∀{x c},X.env.cells.lookup x\c->c<s.heap.objs.size:=λ{x c} h=>by
  let#[v,hv]:=I.cell x c h;exact hv.lt
 have hb:∀b∈fp,b<s.heap.objs.size:=λb hb=>let #[o,e]:=hfo b hb;cy e
 apply#[#[I.ok.mod,S.kind,I.ok.glob,I.ok.blt,bj _,λx y c h1 h2=>?_,λx hx=>?_,λx c hf h=>?_,I.ok.hd,I.ok.frames,.inl Z,λb zj=>#[dZ (hb b zj),λx c h=>?_],I.bs,?_,λb o e zj=>?_,λb zj hs=>?_,I.stack,I.i4],
  rfl,I.bare,Un.kept kept,#[_,(Heap.Ns.new s.heap (.type "dict")).keeps (pushCells_keeps _ _),λi x v h1 h2 h3=>?_],λx c h=>?_,I.aI.fresh (bj _),λx c h=>?_,λp hp=>absurd (show p∈([]:List (Addr × Obj)) from hp) Z2,I.aI.kept kept,?_]
 ·-- inj
  rcases hX h1 with⟨m1,k1,l1⟩|⟨m1,k1⟩<;>rcases hX h2 with⟨m2,k2,l2⟩|⟨m2,k2⟩
  ·exact name_of_addr Kj.apart m1 m2
  ·exact absurd (EX m2) (Nat.not_lt.mpr (Nat.le_of_succ_le l1))
  ·exact absurd (EX m1) (Nat.not_lt.mpr (Nat.le_of_succ_le l2))
  exact I.ok.inj x y c m1 m2
 ·-- has
  have key:(x,NameKind.cell)∈scope.names∨(x,NameKind.free)∈scope.names:=by
   rcases hx with hx|hx
   ·let#[k',e,q]:=PQ (env:=X.env) (show _\NameKind.cell from hx);let m:=p5 e;rcases q with q|⟨q,_⟩
    ·exact .inl (q▸m)
    exact .inr (q▸m)
   let#[k',e,q]:=PQ (env:=X.env) (show _\NameKind.free from hx);let m:=p5 e;rcases q with q|⟨_,q⟩
   ·exact .inr (q▸m)
   cases q
  show ∃c,(cellsFrom (s.heap.objs.size+1) scope.names (jg X.env scope.names [])).lookup x\c
  have:((cellsFrom (s.heap.objs.size+1) scope.names (jg X.env scope.names [])).lookup x).isSome=true:=by
   apply PySem.W.cellsFrom_some _ _ _ ?_;rcases key with q|q
   ·exact .inl (S.look _ q)
   let#[c,m]:=PV (env:=X.env) (names:=scope.names) (cs:=[]) (x:=x) (.inl q);let#[c',e]:=QU m;exact .inr (by rw[e];rfl)
  exact Cj.mp this
 ·-- DC
  rcases hX h with⟨_,_,l⟩|⟨_,k⟩
  ·exact Nat.le_of_succ_le l
  let e:=S.look _ k;have hf:(decide (scope.names.lookup x\.local) || decide (scope.names.lookup x\.cell))=true:=hf;rw[show scope.names.lookup x\.free from e] at hf;exact absurd hf (by decide)
 ·rcases hX h with⟨_,_,l⟩|⟨q,_⟩
  ·exact vN (jj (hb b zj) (Nat.le_of_succ_le l))
  exact (Jv b zj).2.2.2.2.1 x c q
 ·exact nC I.ok.uI I.sz
 ·rcases (Jv b zj).2.2.2.1 with q|q
  ·exact I.ok.tP b o e q
  exact absurd (jj (cy e) I.ok.uI) Z1
 ·rcases cQ.mp (I.iZ b hs) with q|q
  ·exact (Jv b zj).2.1 q
  exact (Jv b zj).2.2.1 q
 ·-- names
  have hi:own<=i:=by
   apply Nat.le_of_not_lt λdQ=>?_;unfold Ci at h2;rw[zS (by rw[DR];exact dQ),List.getElem?_replicate,aH dQ] at h2;cases h2
  have gI:(fr.map λj=>(σ[j]?).join)[i - own]? = some (some v):=by
   unfold Ci at h2;rw[xT (by rw[DR];exact hi),DR] at h2;exact h2
  have h1:N[i]? = some x:=h1;have hx:(N.drop own)[i - own]? = some x:=by rw[List.getElem?_drop,show own+(i - own)=i by omega];exact h1
  rw[dS] at gI;cases ej:fr[i - own]? with
  |none=>rw[ej] at gI;cases gI
  |some j=>
   rw[ej] at gI;have gI:(σ[j]?).join\v:=dY gI
   have wN:σ[j]? = some (some v):=by
    cases q:σ[j]? with
    |none=>rw[q] at gI;cases gI
    |some o=>rw[q] at gI;exact d9 some gI
   have hN:X.N[j]? = some x:=by
    let q:=d9 (λl=>l[i - own]?) S.h_;simp only[dS,ej,hx,Option.map_some] at q;exact dY q
   let kf:=S.frk x (dI hx);let mf:=p5 kf;let#[m,hm,hv]:=I.loc;let pk:=S.par _ mf Z;let#[u,ru,lk]:=hv j x v hN wN (pk.elim (λq=>.inr (.inl q)) λq=>.inr (.inr q));apply#[u,ru,?_];have R7:X.env.kindOf x\.cell∨X.env.kindOf x\.free:=pk;rcases lk with⟨k,_⟩|⟨_,c,hc,oP⟩
   ·rw[k] at R7;rcases R7 with q|q<;>cases q
   let#[c',m1]:=PV (env:=X.env) (names:=scope.names) (cs:=[]) (x:=x) (.inl mf);let e1:=(VM I S m1).1;rw[hc] at e1;cases e1;apply .inr #[?_,c,?_,oP.keeps kept]
   ·let q:=Wn (env:=X.env) Z kf;show (relabel scope X.env).names.lookup x\.cell∨(relabel scope X.env).names.lookup x\.free;unfold relabel;rw[q];split
    ·exact .inl Z
    exact .inr Z
   let#[c2,e2]:=Cj.mp (PySem.W.cellsFrom_some (x:=x) scope.names (s.heap.objs.size+1) (jg X.env scope.names []) (.inr (by let#[c',e]:=QU m1;rw[e];rfl)));show (cellsFrom (s.heap.objs.size+1) scope.names (jg X.env scope.names [])).lookup x\c;rcases hX e2 with⟨_,q,_⟩|⟨q,_⟩
   ·have:=S.look _ q;rw[show scope.names.lookup x\.free from kf] at this;cases this
   rw[hc] at q;cases q;exact e2
 ·-- cells
  rcases hX h with⟨q,_,_⟩|⟨q,_⟩
  ·exact#[_,(Kj.empty _ _ q).1]
  let#[v,hv]:=I.cell x c q;exact#[v,hv.keeps kept]
 ·rcases hX h with⟨q,_,l⟩|⟨q,_⟩
  ·exact I.aI.fresh Z1
  exact I.d8 x c q
 show (Ci own fr σ).length=N.length;unfold Ci;rw[fB,DR,aA];exact S.len
end
def Io(X:Cx)(ifs:List Expr)(t:TT):Prop:=
 ∀(pins:List (Addr × Obj)) (s:Ab) (σ:St) (H:Hp) (Q:Bool->Hp->Prop),Inv X pins σ H s->t σ H Q->
  wpAny (model X.prog X.w) X.A (forIn ifs true λc r=>if r=true then do let ok <- isTrue c X.env (eval c X.env);pure (ForInStep.yield ok) else pure (ForInStep.yield r)) (TP X pins σ Q) X.xe s
def vT:TT:=λ_ H Q=>Q true H
theorem eJ{σ:St}{H:Hp}{A B:Hp->Prop}(h:A H):vT σ H λb H4=>if b=true then A H4 else B H4:=by
 unfold vT;exact bO h
theorem jA{X:Cx}:Io X [] vT:=λ_ _ _ H _ I h=>wpAny_tests_nil #[H,I,h]
theorem Uj{X:Cx}{c:Expr}{t:TT}(h:PT X c t):Io X [c] t:=λpins s σ H Q I q=>wpAny_tests_one (h pins s σ H Q I q)
def Dg(J:It)(g:TG)(tc:TT)(te:TE)(ph:St)(D:Addr)(H1:Hp)(Q:VK):Prop:=∃W:Nat->Nat->St->Hp->Prop,
 (∃m,W 0 m ph (upd H1 D (.lst [])))/\∀i m bq H',W i m bq H'->(J.stop i H'/\Q (.ref D) H') ∨
  (J.go i H'/\∃Nx:St->Hp->Prop,(∀g8 H2,Nx g8 H2->∃m',m'<m/\W (i+1) m' g8 H2) /\
   ∀x H2,J.ya i H' x H2->g x bq H2 λkB H3=>tc kB H3 λb H4=>if b=true then te kB H4 λy H5=>∃out,H5 D\.lst out/\out.length<sizeLine/\Nx kB (upd H5 D (.lst (out++[y]))) else Nx kB H4)
def ym(wi:TI)(own:Nat)(fr:List Nat)(g:TG)(tc:TT)(te:TE):TE:=λσ H Q=>wi σ H λJ H1=>∀D,H1 D=none->Dg J g tc te (Ci own fr σ) D H1 Q
section
variable{X:Cx}{tg iter elt:Expr}{ifs:List Expr}{scope:Scope}{pos:Pos}{wi:TI}{g:TG}{tc:TT}{te:TE}{N:ae}
theorem Tt{R:Result->Ab->Prop}{own:Nat}{fr:List Nat}{pins:List (Addr × Obj)}{σ:St}{H1:Hp}{s2:Ab}{it:Addr}{fp:ai}{tn:Nat->Heap->Prop}{J:It}{D:Addr}{Q:VK}
  (S:nI X.N X.env.scope N own fr scope) (hc:X.calm=true) (hg:∀fp s H,PG (iw X N scope fp s H) tg g) (ht:∀fp s H,Io (iw X N scope fp s H) ifs tc) (he:∀fp s H,PE (iw X N scope fp s H) elt te)
  (I3:Inv X pins σ (upd H1 D (.lst [])) s2) (T:Turn X.prog X.w X.K tg J fp it tn) (st:tn 0 s2.heap) (f2:∀b∈fp,dh X pins (upd H1 D (.lst [])) b)
  (k:Dg J g tc te (Ci own fr σ) D H1 Q)
  (hR:∀H' s',Inv X pins σ H' s'->(∃m,s'.heap.Ns s2.heap.objs.size m)->H' s2.heap.objs.size=none->Q (.ref D) H'->R (.ok .next) s') :
  codeAny (model X.prog X.w) X.A (.compStart (.ListComp elt [#[tg,iter,ifs,0]] scope pos) 0 (.ref it) (.ref D) (j3 scope s2.heap.objs.size X.env)) R
   { s2 with heap:=pushCells (s2.heap.push { cls:=.type "dict",data:=.dict #[] }) scope.names }:=by
 let#[W,#[m0,w0],turn]:=k;let I4:=I3.block (N:=N) S f2 (λb hb=>let #[o,e,_]:=T.obj _ _ st b hb;#[o,e]);have kept:∀b o,s2.heap.get? b\o->(pushCells (s2.heap.push { cls:=.type "dict",data:=.dict #[] }) scope.names).get? b\o:=λb o e=>pushCells_keeps _ _ b o (cj _ e);have gN:tn 0 (pushCells (s2.heap.push { cls:=.type "dict",data:=.dict #[] }) scope.names):=T.keep _ _ _ st λb hb o e=>kept b o e
 have fx:∀{H':Hp},(∀b∈fp,H' b=none)->∀b∈fp,dh (iw X N scope fp s2 (upd H1 D (.lst []))) [] H' b:=λhn b hb=>
  #[hn b hb,(I4.ok.JO b hb).1,I4.ok.uu b hb,.inl hb,(I4.ok.JO b hb).2,λp hp=>absurd (show p∈([]:List (Addr × Obj)) from hp) Z2]
 have loop:codeAny (model X.prog X.w) X.A (.compLoop (.ListComp elt [#[tg,iter,ifs,0]] scope pos) 0 (.ref it) (.ref D) (j3 scope s2.heap.objs.size X.env)) R
   { s2 with heap:=pushCells (s2.heap.push { cls:=.type "dict",data:=.dict #[] }) scope.names }:=by
  apply codeAny_loop Z (λn s'=>∃i bq H',Inv (iw X N scope fp s2 (upd H1 D (.lst []))) [] bq H' s'/\tn i s'.heap/\(∀b∈fp,H' b=none)/\W i n bq H') (λn s' hI=>?_) m0 #[0,_,_,I4,gN,λb hb=>(f2 b hb).1,w0];let#[i,bq,H',I5,fM,oS,w5]:=hI;show wpAny _ X.A ((compTurn (.ListComp elt [#[tg,iter,ifs,0]] scope pos) 0 (.ref it) (.ref D) (j3 scope s2.heap.objs.size X.env)).onRaise (λx=>do noteFrame x (j3 scope s2.heap.objs.size X.env);theTreesLotGoes x)) _ _ s';apply wpAny_noted (wpAny_mono (E:=λ_ _=>False) ?_ (λ_ _ q=>q) λ_ _ q=>q.elim);rw[compTurn_list];apply aq (wpAny_standAt (aq ?_));rcases turn i n bq H' w5 with⟨stop,q⟩|⟨go,Nx,hN,step⟩
  ·apply aV (T.done (iw X N scope fp s2 (upd H1 D (.lst []))) Z Z Z hc i [] s' bq H' _ I5 (fx oS) fM stop) λr s6 ⟨hr,I6⟩=>?_;subst hr;apply aU (hR H' s6 (I3.zE I6.os I6.base I6.aI I6.bare λb hb=>?_) ?_ I6.free q)
   ·exact#[(f2 b hb).2.2.2.1,(f2 b hb).2.1,(f2 b hb).2.2.2.2.1,(f2 b hb).2.2.2.2.2]
   let#[m,hm,_]:=I6.loc;exact#[m,hm]
  apply aV (T.item (iw X N scope fp s2 (upd H1 D (.lst []))) Z Z Z hc i [] s' bq H' _ I5 (fx oS) fM go) λr s6 ⟨u,hr,h6⟩=>?_;subst hr;apply aq (aV h6 λ_ s7 ⟨x,H7,I7,r7,y7,jI,fr7⟩=>?_);let I7':=I7.pinned (fx fr7) (T.obj _ _ jI)
  have back:∀{u_:St} {H8:Hp} {s8:Ab},Inv (iw X N scope fp s2 (upd H1 D (.lst []))) ([]++xy fp s7.heap) u_ H8 s8->Nx u_ H8->∃m,m<n/\∃i bq H',Inv (iw X N scope fp s2 (upd H1 D (.lst []))) [] bq H' s8/\tn i s8.heap/\(∀b∈fp,H' b=none)/\W i m bq H':=λ{u_ H8 s8} I8 n8=>by
   let#[m',hm,w8]:=hN u_ H8 n8;apply#[m',hm,i+1,u_,H8,I8.eL,T.keep _ _ _ jI λb hb o e=>(I8.pin (b,o) (nA _ (nA _ (KQ hb e)))).1,λb hb=>?_,w8];let#[o,e,d]:=T.obj _ _ jI b hb;exact (I8.pin (b,o) (nA _ (nA _ (KQ hb e)))).2.1
  apply aq (aV (hg fp s2 (upd H1 D (.lst [])) _ s7 bq H7 x u _ I7' r7 (step x H7 y7)) λ_ s8 ⟨u_,H8,I8,q8⟩=>?_);apply aq (aV (ht fp s2 (upd H1 D (.lst [])) _ s8 u_ H8 _ I8 q8) λb s9 ⟨H9,I9,q9⟩=>?_);cases b with
  |false=>
   simp only[k_,if_false] at q9 ⊢;exact aU #[Z,back I9 q9]
  |true=>
   simp only[if_true] at q9 ⊢;apply aq (aq (aV (he fp s2 (upd H1 D (.lst [])) _ s9 u_ H9 _ I9 q9) λy LM ⟨yv,Cp,I10,Ze,out,hD,hz,Zi⟩=>?_));apply aq (aV (vJ (X:=iw X N scope fp s2 (upd H1 D (.lst []))) _ LM u_ Cp (.ref D) [yv] (.ref D) [y] (λ_ H'=>Nx u_ H') I10 Z (.cons Ze .nil) #[D,out,yv,Z,Z,hD,hz,Zi]) λ_ Cw ⟨_,H11,I11,_,Zh⟩=>?_);exact aU (aU #[Z,back I11 Zh])
 exact codeAny_compStart_list loop (T.self _ 0 _ _ _ gN loop)
theorem kX(N:ae)(own:Nat)(fr:List Nat)(hi:PI X tg iter wi)(hg:∀fp s H,PG (iw X N scope fp s H) tg g)(ht:∀fp s H,Io (iw X N scope fp s H) ifs tc)(he:∀fp s H,PE (iw X N scope fp s H) elt te)
  (S:J3 X.N X.env.scope N own fr scope=true:=by kernel_rfl) (hc:X.calm=true:=by rfl) (hs:∀x,foldedSetIterable iter X.env x=pure x:=by intro _;rfl) :
  PE X (.ListComp elt [#[tg,iter,ifs,0]] scope pos) (ym wi own fr g tc te):=by
 intro pins s σ H Q I h;let S':=nI.of S;rw[eval_ListComp];have ui:closureFor scope X.env=pure (jg X.env scope.names []):=Wr λx hx e=>I.ok.has x.1 (S'.par x hx e);apply wpAny_comprehension_free (use:=none) Z hs ui S'.kind (λx hx e=>by rw[S'.look x hx,e]) (aV (hi pins s σ H _ I h) λv s1 h1=>aV h1 λJh s2 h2=>?_);let#[it,fp,tn,J,H1,rfl,I2,T,dG,f2,k]:=h2;apply mU (Wv ?_);have hD:H1 s2.heap.objs.size=none:=I2.fresh;let I3:=I2.wK (ys:=[]) (its:=[]) (t':=s2.toks) .nil (g7 _);have kept:∀b o,s2.heap.get? b\o->(s2.heap.push { cls:=.type "list",data:=.seq ([]:aj).toArray }).get? b\o:=λb o e=>cj _ e;apply Tt (own:=own) (fr:=fr) (Q:=Q) S' hc hg ht he I3 T (T.keep _ _ _ dG λb hb o e=>kept b o e) (λb hb=>?_) (k _ hD) ?_
 ·apply#[?_,(f2 b hb).2];let#[o,e,_]:=T.obj _ _ dG b hb;rw[aD (dZ (cy e))];exact (f2 b hb).1
 rintro H' s' I' ⟨m,hm⟩ hn q;apply#[m,hm,λh' qp=>#[.ref s2.heap.objs.size,H',?_,Z,q]]
 exact I'.turned (t':=s'.toks) (λb o hb e=>qp.extBut b o hb e) hn (vN I3.lt) (.inr I3.sz) (λx c NM e=>by
  let#[v,hv]:=I3.cell x c NM
  exact absurd hv.lt (by rw[e];exact xV _)) λp hp e=>by
   have:=(I3.pin p hp).1;rw[e] at this;exact absurd (cy this) (xV _)
def Er(i:Nat)(te:TE):TS:=λD σ H=>te σ H λx H1=>D.nx (σ.set i (some x)) H1
theorem JZ{i:Nat}{x:Str}{px:Pos}(N:ae)(own:Nat)(fr:List Nat)(hN:X.N.Nodup)(hi':X.N[i]? = some x)(hx:Loc X.env.scope x)
  (hi:PI X tg iter wi) (hg:∀fp s H,PG (iw X N scope fp s H) tg g) (ht:∀fp s H,Io (iw X N scope fp s H) ifs tc) (he:∀fp s H,PE (iw X N scope fp s H) elt te) {pos':Pos}
  (S:J3 X.N X.env.scope N own fr scope=true:=by kernel_rfl) (hc:X.calm=true:=by rfl) (hs:∀x,foldedSetIterable iter X.env x=pure x:=by intro _;rfl)
  (hf:X.fn x=true∨X.env.scope.names.lookup x\.local:=by first|exact .inl Z|exact .inr Z|assumption)
  (hsw:swapsWith (.ListComp elt [#[tg,iter,ifs,0]] scope pos) (some (.Name x px)) pos'.line X.env=pure true:=by rfl) :
  PS X (.Assign [.Name x px] (.ListComp elt [#[tg,iter,ifs,0]] scope pos) pos') (Er i (ym wi own fr g tc te)):=by
 intro pins s σ H E I h;let S':=nI.of S;rw[exec_Assign_Name_used _ _ _ _ hsw];apply aq (wpAny_standAt (aq ?_));show wpAny _ X.A (do let _ <- comprehension (.ListComp elt [#[tg,iter,ifs,0]] scope pos) scope X.env _ (newList []) false (eval iter X.env) (some (assign (.Name x px) X.env))) _ _ s;have ui:closureFor scope X.env=pure (jg X.env scope.names []):=Wr λx hx e=>I.ok.has x.1 (S'.par x hx e)
 apply aq (wpAny_mono (wpAny_comprehension_free (use:=some (assign (.Name x px) X.env)) (Q:=λ_ s'=>SP X pins E .next s') Z hs ui S'.kind (λx hx e=>by rw[S'.look x hx,e]) (aV (hi pins s σ H _ I h) λv s1 h1=>aV h1 λJh s2 h2=>?_))
  (λ_ s' hq=>aU (aU hq)) λ_ _ e=>e)
 let#[it,fp,tn,J,H1,rfl,I2,T,dG,f2,k]:=h2;apply mU (Wv ?_);have hD:H1 s2.heap.objs.size=none:=I2.fresh;let I3:=I2.wK (ys:=[]) (its:=[]) (t':=s2.toks) .nil (g7 _);have kept:∀b o,s2.heap.get? b\o->(s2.heap.push { cls:=.type "list",data:=.seq ([]:aj).toArray }).get? b\o:=λb o e=>cj _ e;apply Tt (own:=own) (fr:=fr) (Q:=λx H1=>E.nx (σ.set i (some x)) H1) S' hc hg ht he I3 T (T.keep _ _ _ dG λb hb o e=>kept b o e) (λb hb=>?_) (k _ hD) ?_
 ·apply#[?_,(f2 b hb).2];let#[o,e,_]:=T.obj _ _ dG b hb;rw[aD (dZ (cy e))];exact (f2 b hb).1
 rintro H' s' I' ⟨m,hm⟩ hn q
 have vx:∀y c,X.env.cells.lookup y\c->c≠(s2.heap.push { cls:=.type "list",data:=.seq ([]:aj).toArray }).objs.size:=λy c NM e=>by
  let#[v,hv]:=I3.cell y c NM;exact absurd hv.lt (by rw[e];exact xV _)
 show wpAny _ X.A (assign (.Name x px) X.env (.ref s2.heap.objs.size)) _ _ s';apply wpAny_assign_Name (Ve (v:=V.ref s2.heap.objs.size) I' hN hi' hx Z (λqj I'' ⟨a,A8,ha⟩=>?_) hf)
 have hCa:(s2.heap.push { cls:=.type "list",data:=.seq ([]:aj).toArray }).objs.size≠a:=by
  rcases ha with e|e
  ·rw[e];exact vN I3.lt
  exact (vx x a e).symm
 apply#[m,hm.sameBut A8 hCa,λh' qp=>#[_,H',?_,q]]
 exact I''.turned (t':=qj.toks) (λb o hb e=>qp.extBut b o hb e) hn (vN I3.lt) (.inr I3.sz) vx λp hp e=>by
   have:=(I3.pin p hp).1;rw[e] at this;exact absurd (cy this) (xV _)
end
def DX(g:TG)(own:Nat)(fv:List aN)(dec:V->Hp->List aN->Prop):Prop:=
 ∀(x:V) (o:List aN) (H:Hp) (k:iL) (o3:List aN),o.length=own->dec x H o3->k (o3++fv) H->g x (o++fv) H k
theorem fq{fv:List aN}:DX (iG 0) 1 fv (λx _ o3=>o3=[some x]):=λx o H k o3 hl e h=>by
 subst e
 match o,hl with
 |[a],_=>exact h
inductive GT (K:af) (x:V) (H:Hp) (o3:List aN):Prop
 |mk:∀p u v,x=.ref p->gL K H p [u,v]->o3=[some u,some v]->GT K x H o3
inductive GS (K:af) (x:V) (H:Hp) (o3:List aN):Prop
 |mk:∀p u v w,x=.ref p->gL K H p [u,v,w]->o3=[some u,some v,some w]->GS K x H o3
theorem GC{K:af}{fv:List aN}:DX (ja K 2 (vt (iG 0) (vt (iG 1) xj))) 2 fv (GT K):=λx o H k o3 hl e h=>by
 let#[p,u,v,rfl,hp,rfl]:=e
 match o,hl with
 |[a,b],_=>exact#[p,[u,v],Z,hp,Z,u,[v],Z,v,[],Z,Z,h]
theorem N3{K:af}{fv:List aN}:DX (ja K 3 (vt (iG 0) (vt (iG 1) (vt (iG 2) xj)))) 3 fv (GS K):=λx o H k o3 hl e h=>by
 let#[p,u,v,w,rfl,hp,rfl]:=e
 match o,hl with
 |[a,b,c],_=>exact#[p,[u,v,w],Z,hp,Z,u,[v,w],Z,v,[w],Z,w,[],Z,Z,h]
theorem Kh{J:It}{g:TG}{tc:TT}{te:TE}{own:Nat}{fv:List aN}{dec:V->Hp->List aN->Prop}{D:Addr}{H:Hp}{Q:VK}{ph:St}(wN:ph=List.replicate own none++fv)(G:DX g own fv dec)(n:Nat)(Pv:Nat->ag->Hp->Prop)
  (h0:Pv 0 [] (upd H D (.lst []))) (FN:∀out H',Pv n out H'->J.stop n H'/\Q (.ref D) H')
  (Gj:∀i out H',i<n->Pv i out H'->J.go i H'/\∀x H2,J.ya i H' x H2->∃o3,dec x H2 o3/\o3.length=own/\∀Nx:Hp->Prop,(∀mE H2,Pv (i+1) mE H2->Nx H2)->
   tc (o3++fv) H2 λb H4=>if b=true then te (o3++fv) H4 λy H5=>∃gm,H5 D\.lst gm/\gm.length<sizeLine/\Nx (upd H5 D (.lst (gm++[y]))) else Nx H4) :
  Dg J g tc te ph D H Q:=by
 subst wN;apply#[λi m bq H'=>m=n - i/\i<=n/\(∃o:List aN,bq=o++fv/\o.length=own)/\∃out,Pv i out H',#[n,by simp,g7 _,#[_,Z,DR],_,h0],?_];rintro i m bq H' ⟨rfl,hi,⟨o,rfl,ho⟩,out,p⟩;by_cases dQ:i<n
 ·let#[go,k]:=Gj i out H' dQ p;apply .inr #[go,λg8 H2=>(∃o:List aN,g8=o++fv/\o.length=own)/\∃out,Pv (i+1) out H2,λg8 H2 q=>#[n - (i+1),by omega,Z,dQ,q],λx H2 y=>?_];let#[o3,d,l3,q]:=k x H2 y;exact G x o H2 _ o3 ho d (q (λH2=>(∃o:List aN,o3++fv=o++fv/\o.length=own)/\∃out,Pv (i+1) out H2) λmE H2 z=>#[#[o3,Z,l3],mE,z])
 have e:i=n:=by omega
 subst e;exact .inl (FN out H' p)
theorem k8{K:af}{a:Addr}{xs:ag}{g:TG}{tc:TT}{te:TE}{own:Nat}{fv:List aN}{dec:V->Hp->List aN->Prop}{D:Addr}{H:Hp}{Q:VK}{ph:St}(wN:ph=List.replicate own none++fv)(G:DX g own fv dec)(Pv:Nat->ag->Hp->Prop)
  (h0:Pv 0 [] (upd H D (.lst []))) (hl:∀i out H',i<=xs.length->Pv i out H'->dM K H' a xs) (hd:∀out H',Pv xs.length out H'->Q (.ref D) H')
  (Gj:∀i x out H',xs[i]? = some x->Pv i out H'->∃o3,dec x H' o3/\o3.length=own/\∀Nx:Hp->Prop,(∀mE H2,Pv (i+1) mE H2->Nx H2)->
   tc (o3++fv) H' λb H4=>if b=true then te (o3++fv) H4 λy H5=>∃gm,H5 D\.lst gm/\gm.length<sizeLine/\Nx (upd H5 D (.lst (gm++[y]))) else Nx H4) :
  Dg (Co K a) g tc te ph D H Q:=by
 apply Kh wN G xs.length Pv h0 (λout H' p=>#[#[xs,hl _ _ _ (bj _) p,bj _],hd out H' p]) λi out H' hi p=>?_;let q:=hl i out H' (Nat.le_of_lt hi) p;apply#[#[xs,xs[i],q,by simp[hi]],λx H2 y=>?_];let#[e,y]:=y;subst e;exact Gj i x out _ (y xs q) p
end L2
namespace jE
open PySem PySem.W PyProof.Rows
def Ok{α:Type}(f:Nat->Nat->Bool)(n:Nat):KasT α->(α->Prop)->Prop
 |.ret a,Q=>Q a
 |.ask i j k,Q=>i<n/\j<n/\Ok f n (k (f i j)) Q
theorem Ok.bind{α β:Type}{f:Nat->Nat->Bool}{n:Nat}{g:α->KasT β}{Q:β->Prop}:∀{t:KasT α} {R:α->Prop},Ok f n t R->(∀a,R a->Ok f n (g a) Q)->Ok f n (t.bind g) Q
 |.ret a,R,h,k=>k a h
 |.ask i j t,R,h,k=>#[h.1,h.2.1,Ok.bind h.2.2 k]
theorem Ok.imp{α:Type}{f:Nat->Nat->Bool}{n:Nat}{Q R:α->Prop}(k:∀a,Q a->R a):∀{t:KasT α},Ok f n t Q->Ok f n t R
 |.ret a,h=>k a h
 |.ask i j t,h=>#[h.1,h.2.1,Ok.imp k h.2.2]
theorem Ok.wp{α:Type}{f:Nat->Nat->Bool}{n:Nat}{cmp:Nat->Nat->(Bool->Ab->Prop)->Ab->Prop}{s:Ab}(hc:∀i j C,i<n->j<n->C (f i j) s->cmp i j C s){Q:α->Prop}{G:α->Ab->Prop}(k:∀a,Q a->G a s) :
  ∀{t:KasT α},Ok f n t Q->t.kasWp cmp G s
 |.ret a,h=>k a h
 |.ask i j t,h=>hc i j _ h.1 h.2.1 (Ok.wp hc k h.2.2)
structure Ord (f:Nat->Nat->Bool):Prop where
 fJ:∀i,f i i=false
 trans:∀{i j k},f j i=false->f k j=false->f k i=false
 IE:∀{i j},f i j=true->f j i=false
section
variable{f:Nat->Nat->Bool}(O:Ord f){N:Nat}
abbrev at'(p:Array Nat)(i:Nat):Nat:=p.getD i 0
def Up(f:Nat->Nat->Bool)(p:Array Nat)(k:Nat):Prop:=∀i j,i<=j->j<k->f (at' p j) (at' p i)=false
def Down(f:Nat->Nat->Bool)(p:Array Nat)(k:Nat):Prop:=∀i j,i<=j->j<k->f (at' p i) (at' p j)=false
def qa(f:Nat->Nat->Bool)(p:Array Nat)(lo k:Nat):Prop:=∀i,lo<=i->i<k->f (at' p i) (at' p (k - 1))=false/\f (at' p (k - 1)) (at' p i)=false
def Good(N:Nat)(p:Array Nat):Prop:=p.Perm (List.range N).toArray
theorem Good.size{p:Array Nat}(h:Good N p):p.size=N:=by
 have:=h.size_eq;simpa using this
theorem Good.lt{p:Array Nat}(h:Good N p)(hN:0<N)(i:Nat):at' p i<N:=by
 unfold at';by_cases hi:i<p.size
 ·have e:p.getD i 0=p[i]:=by simp[Array.getD,hi]
  rw[e];have m:p[i]∈(List.range N).toArray:=h.mem_iff.mp (Array.getElem_mem hi);simpa using m
 have e:p.getD i 0=0:=by simp[Array.getD,hi]
 rw[e];exact hN
theorem Good.rev{p:Array Nat}(h:Good N p)(i j:Nat):Good N (kas_rev p i j):=(mirror_perm _ _ _ _).trans h
theorem Good.bub{p:Array Nat}(h:Good N p)(i j:Nat):Good N (bubble p i j):=(bubble_perm _ _ _).trans h
theorem G0{p q:Array Nat}{i j:Nat}(h:p[i]? = q[j]?):at' p i=at' q j:=by
 unfold at';rw[Array.getD_eq_getD_getElem?,Array.getD_eq_getD_getElem?,h]
theorem BW{p:Array Nat}{i j:Nat}(hj:j<=p.size)(k:Nat):at' (kas_rev p i j) k=if i<=k/\k<j then at' p (i+j - 1 - k) else at' p k:=by
 let e:=getElem?_mirror_all (i:=i) hj k;unfold kas_rev;split
 ·rename_i c
  rw[aH c] at e;exact G0 e
 rename_i c
 rw[aB c] at e;exact G0 e
theorem SQ{p:Array Nat}{k l:Nat}(hk:k<p.size)(hl:l<=k)(i:Nat):at' (bubble p k (k - l)) i=if i=l then at' p k else if l<i/\i<=k then at' p (i - 1) else at' p i:=by
 let e:=getElem?_bubble hk (k - l) Z1 i;rw[show k - (k - l)=l by omega] at e;by_cases c:i=l
 ·rw[aH c] at e ⊢;exact G0 e
 rw[aB c] at e ⊢;split
 ·rename_i d
  rw[aH d] at e;exact G0 e
 rename_i d
 rw[aB d] at e;exact G0 e
include O
theorem Up.more{p:Array Nat}{n:Nat}(h:Up f p n)(h1:1<=n)(c:f (at' p n) (at' p (n - 1))=false):Up f p (n+1):=λi j oO hj=>by
 by_cases e:j<n
 ·exact h i j oO e
 have e:j=n:=by omega
 subst e;by_cases e2:i=j
 ·subst e2;exact O.fJ _
 exact O.trans (h i (j - 1) Z1 Z1) c
theorem Down.more{p:Array Nat}{n:Nat}(h:Down f p n)(h1:1<=n)(c:f (at' p (n - 1)) (at' p n)=false):Down f p (n+1):=λi j oO hj=>by
 by_cases e:j<n
 ·exact h i j oO e
 have e:j=n:=by omega
 subst e;by_cases e2:i=j
 ·subst e2;exact O.fJ _
 exact O.trans c (h i (j - 1) Z1 Z1)
theorem N6{p:Array Nat}(g:Good N p)(hN:0<N):∀(m n:Nat),1<=n->Up f p n->Ok f N (kas_asc p m n) λr=>n<=r/\r<=n+m/\Up f p r/\(r<n+m->f (at' p r) (at' p (r - 1))=true)
 |0,n,_,h=>#[bj _,bj _,h,λq=>absurd q Z1]
 |m+1,n,h1,h=>by
  apply#[g.lt hN _,g.lt hN _,?_];dsimp only;by_cases c:f (at' p n) (at' p (n - 1))=true
  ·rw[aH c];exact#[bj _,by omega,h,λ_=>c]
  rw[aB c];apply (N6 g hN m (n+1) Z1 (h.more O h1 ⇑c)).imp λr ⟨a,b,u,z⟩=>#[by omega,by omega,u,λq=>z Z1]
theorem qa.rev{p:Array Nat}{lo k:Nat}(h:qa f p lo k)(hk:k<=p.size)(i:Nat):f (at' (kas_rev p lo k) i) (at' p i)=false/\f (at' p i) (at' (kas_rev p lo k) i)=false:=by
 rw[BW hk];split
 ·rename_i c
  let#[a1,a2]:=h i c.1 c.2;let#[b1,b2]:=h (lo+k - 1 - i) Z1 Z1;exact#[O.trans a2 b1,O.trans b2 a1]
 exact#[O.fJ _,O.fJ _]
theorem Down.rev{p:Array Nat}{lo k n:Nat}(h:Down f p n)(l:qa f p lo k)(hk:k<=p.size):Down f (kas_rev p lo k) n:=λi j oO hj=>by
 let#[a1,_]:=l.rev O hk i;let#[_,b2]:=l.rev O hk j;exact O.trans (O.trans b2 (h i j oO hj)) a1
theorem J2(hN:0<N):∀(m:Nat) (p:Array Nat) (n q:Nat),Good N p->1<=n->q+1<=n->n+m<=N->Down f p n->qa f p (n - (q+1)) n->
  Ok f N (kas_desc m p n q) λr=>Good N r.1/\n<=r.2.1/\r.2.1<=n+m/\Down f r.1 r.2.1/\r.2.2+1<=r.2.1/\qa f r.1 (r.2.1 - (r.2.2+1)) r.2.1
 |0,p,n,q,g,h1,hq,hn,d,l=>#[g,bj _,bj _,d,hq,l]
 |m+1,p,n,q,g,h1,hq,hn,d,l=>by
  apply#[g.lt hN _,g.lt hN _,?_];dsimp only;by_cases c:f (at' p n) (at' p (n - 1))=true
  ·rw[aH c];have d2:Down f p (n+1):=d.more O h1 (O.IE c)
   have one:∀p':Array Nat,qa f p' (n+1 - (0+1)) (n+1):=λp' i h2 h3=>by
    have e:i=n+1 - 1:=by omega
    subst e;exact#[O.fJ _,O.fJ _]
   by_cases Tc:q > 0
   ·rw[aH Tc];have hk:n<=p.size:=by rw[g.size];omega
    exact (J2 hN m _ (n+1) 0 (g.rev _ _) Z1 Z1 Z1 (d2.rev O l hk) (one _)).imp λr ⟨a,b,b2,z⟩=>#[a,by omega,by omega,z]
   rw[aB Tc];exact (J2 hN m _ (n+1) 0 g Z1 Z1 Z1 d2 (one _)).imp λr ⟨a,b,b2,z⟩=>#[a,by omega,by omega,z]
  rw[aB c];apply#[g.lt hN _,g.lt hN _,?_];dsimp only;have c:f (at' p n) (at' p (n - 1))=false:=⇑c
  by_cases e:f (at' p (n - 1)) (at' p n)=true
  ·rw[aH e];exact#[g,bj _,by show n<=n+(m+1);omega,d,hq,l]
  rw[aB e];have e:f (at' p (n - 1)) (at' p n)=false:=⇑e
  apply (J2 hN m p (n+1) (q+1) g Z1 Z1 Z1 (d.more O h1 e) λi h2 h3=>?_).imp λr ⟨a,b,b2,z⟩=>#[a,by omega,by omega,z];show f (at' p i) (at' p n)=false/\f (at' p n) (at' p i)=false;by_cases ei:i=n
  ·subst ei;exact#[O.fJ _,O.fJ _]
  let#[a1,a2]:=l i Z1 Z1;exact#[O.trans e a1,O.trans a2 c]
def OJ(f:Nat->Nat->Bool)(N dc:Nat)(r:Nat × Array Nat):Prop:=Good N r.2/\1<=r.1/\r.1<=dc/\Up f r.2 r.1
theorem Uq(hN:0<N){p:Array Nat}{n dc:Nat}(g:Good N p)(h1:1<=n)(hn:n<=dc)(hr:dc<=N)(d:Down f p n):Ok f N (kas_tail3 n dc p) (OJ f N dc):=by
 unfold kas_tail3
 have u:Up f (kas_rev p 0 n) n:=λi j oO hj=>by
  rw[BW (by rw[g.size];omega),BW (by rw[g.size];omega),aH Z1,aH Z1];exact d _ _ Z1 Z1
 exact (N6 O (g.rev _ _) hN (dc - n) n h1 u).bind λm ⟨a,b,u,_⟩=>#[g.rev _ _,by show 1<=m;omega,by show m<=dc;omega,u]
theorem WB(hN:0<N){p:Array Nat}{n dc:Nat}(g:Good N p)(hn:n+1<=dc)(hr:dc<=N)(d:Down f p (n+1)):Ok f N (kas_descPart n dc p) (OJ f N dc):=by
 unfold kas_descPart;apply (J2 O hN (dc - (n+1)) p (n+1) 0 g Z1 Z1 Z1 d λi h2 h3=>?_).bind λr ⟨g',a,b,d',hq,l⟩=>?_
 ·have e:i=n+1 - 1:=by omega
  subst e;exact#[O.fJ _,O.fJ _]
 split
 ·exact Uq O hN (g'.rev _ _) Z1 Z1 hr (d'.rev O l (by rw[g'.size];omega))
 exact Uq O hN g' Z1 Z1 hr d'
theorem ip_(hN:0<N){p:Array Nat}{dc:Nat}(g:Good N p)(h1:1<=dc)(hr:dc<=N):Ok f N (kas_count dc p) (OJ f N dc):=by
 unfold kas_count;apply (N6 O g hN (dc - 1) 1 (bj _) λi j oO hj=>?_).bind λn ⟨a,b,u,st⟩=>?_
 ·have e:i=j:=by omega
  subst e;exact O.fJ _
 by_cases e:(n == dc)=true
 ·rw[aH e];exact#[g,a,by show n<=dc;omega,u]
 rw[aB e];have e:n≠dc:=⇑e
 let c:=st Z1;by_cases h2:n > 1
 ·rw[aH h2];apply#[g.lt hN _,g.lt hN _,?_];dsimp only;by_cases c2:f (at' p 0) (at' p (n - 1))=true
  ·rw[aH c2];exact#[g,a,by show n<=dc;omega,u]
  rw[aB c2];have c2:f (at' p 0) (at' p (n - 1))=false:=⇑c2
  apply WB O hN (g.rev _ _) Z1 hr λi j oO hj=>?_;by_cases ej:j<n
  ·rw[BW (by rw[g.size];omega),BW (by rw[g.size];omega),aH Z1,aH Z1];exact u _ _ Z1 Z1
  have ej:j=n:=by omega
  subst ej;by_cases ei:i=j
  ·subst ei;exact O.fJ _
  rw[BW (by rw[g.size];omega),BW (by rw[g.size];omega),aH Z1,aB Z1];exact O.trans (O.trans (O.IE c) c2) (u 0 _ Z1 Z1)
 rw[aB h2];have e1:n=1:=by omega
 subst e1;apply WB O hN g Z1 hr λi j oO hj=>?_;by_cases ei:i=j
 ·subst ei;exact O.fJ _
 have q1:i=0:=by omega
 have q2:j=1:=by omega
 subst q1;subst q2;exact O.IE c
theorem OX(hN:0<N){p:Array Nat}{k:Nat}(g:Good N p)(u:Up f p k):∀(m l r:Nat),r - l<=m->l<=r->r<=k->(∀i,i<l->f (at' p k) (at' p i)=false)->(∀i,r<=i->i<k->f (at' p k) (at' p i)=true)->
  Ok f N (kas_place p k m l r) λx=>x<=k/\(∀i,i<x->f (at' p k) (at' p i)=false)/\∀i,x<=i->i<k->f (at' p k) (at' p i)=true
 |0,l,r,hm,hl,hr,h1,h2=>by
  have e:l=r:=by omega
  subst e;exact#[hr,h1,h2]
 |m+1,l,r,hm,hl,hr,h1,h2=>by
  unfold kas_place;by_cases e:l ≥ r
  ·rw[aH e];have e:l=r:=by omega
   subst e;exact#[hr,h1,h2]
  rw[aB e];apply#[g.lt hN _,g.lt hN _,?_];dsimp only;by_cases c:f (at' p k) (at' p ((l+r) / 2))=true
  ·rw[aH c];apply OX hN g u m l _ Z1 Z1 Z1 h1 λi h3 h4=>?_;by_cases ei:f (at' p k) (at' p i)=true
   ·exact ei
   have ei:f (at' p k) (at' p i)=false:=⇑ei
   have:=O.trans (u _ i h3 h4) ei;rw[c] at this;cases this
  rw[aB c];have c:f (at' p k) (at' p ((l+r) / 2))=false:=⇑c
  exact OX hN g u m _ r Z1 Z1 hr (λi h3=>O.trans (u i _ Z1 Z1) c) h2
theorem SS(hN:0<N):∀(m:Nat) (p:Array Nat) (k:Nat),Good N p->k+m=N->Up f p k->Ok f N (kas_bin m p k) λr=>Good N r/\Up f r N
 |0,p,k,g,e,u=>by
  have e:k=N:=by omega
  subst e;exact#[g,u]
 |m+1,p,k,g,e,u=>by
  unfold kas_bin;apply (OX O hN g u k 0 k Z1 Z1 (bj _) (λi h=>absurd h Z1) λi h1 h2=>absurd h2 Z1).bind λl ⟨hl,h1,h2⟩=>?_;have hk:k<p.size:=by rw[g.size];omega
  apply SS hN m _ (k+1) (g.bub _ _) Z1 λi j oO hj=>?_;rw[SQ hk hl,SQ hk hl];by_cases ej:j=l
  ·rw[aH ej];by_cases ei:i=l
   ·rw[aH ei];exact O.fJ _
   rw[aB ei,aB Z1];exact h1 i Z1
  rw[aB ej];by_cases Vj:l<j/\j<=k
  ·rw[aH Vj];by_cases ei:i=l
   ·rw[aH ei];exact O.IE (h2 (j - 1) Z1 Z1)
   rw[aB ei];by_cases Vl:l<i/\i<=k
   ·rw[aH Vl];exact u _ _ Z1 Z1
   rw[aB Vl];exact u _ _ Z1 Z1
  rw[aB Vj];rw[aB (show ¬i=l by omega),aB (show ¬(l<i/\i<=k) by omega)];exact u _ _ Z1 Z1
theorem Ua(hN:0<N):Ok f N (kas_sort N) λp=>Good N p/\Up f p N:=by
 unfold kas_sort;apply (ip_ O hN (p:=(List.range N).toArray) (Array.Perm.refl _) hN (bj _)).bind λr ⟨g,h1,h2,u⟩=>?_;split
 ·rename_i c
  rw[show max r.1 1=r.1 by omega];exact SS O hN _ _ _ g Z1 u
 rename_i c
 have e:r.1=N:=by omega
 exact#[g,e▸u]
end
end jE
namespace jE
open PySem PySem.W PyProof.Rows
section
variable{prog:Ad}{w:Af}{A:Ag}{E:Aa->Ab->Prop}{s:Ab}
def x_(prog:Ad)(w:Af)(A:Ag)(f:Nat->Nat->Bool)(vs:aj)(s:Ab):Prop:=
 ∃κ,(∀Q:SortKind->Ab->Prop,Q κ s->wpAny (model prog w) A (keyKind' vs.toArray) Q (λ_ _=>False) s)/\∀i j C,i<vs.length->j<vs.length->C (f i j) s->kas_ask prog w A κ vs i j C s
def GV(a:Addr)(h h':Heap):Prop:=∀b o,b≠a->h.get? b\o->h'.get? b\o
def nu(p:Array Nat)(vs:aj):aj:=p.toList.map λi=>vs.getD i Value.none
theorem Wx(vs:aj):nu (List.range vs.length).toArray vs=vs:=by
 unfold nu;apply List.ext_getElem? ?_;intro i;simp only[dS];by_cases h:i<vs.length
 ·simp[h]
 simp[Nat.le_of_not_lt h]
theorem j7_{a:Addr}{vs:aj}{n:Nat}{f:Nat->Nat->Bool}{P:Fin->Ab->Prop}(O:Ord f)(ho:s.heap.get? a\seqObj "list" vs.toArray n)(bR:vs.length<64)
  (Bq:2<=vs.length->∀h',GV a s.heap h'->x_ prog w A f vs { s with heap:=h' })
  (h:∀(p:Array Nat) (h':Heap) (e:Nat),Good vs.length p->Up f p vs.length->h'.get? a\seqObj "list" (nu p vs).toArray e->GV a s.heap h'->P (.done (.ret .none)) { s with heap:=h' }) :
  wpAny (model prog w) A (Builtin.«list.sort» #[[.ref a],[]]) P E s:=by
 have haz:a<s.heap.objs.size:=cy ho;obtain⟨e1,CQ⟩:∃e1,(s.heap.update a (Obj.mapSeq λ_=>(#[]:Array Aa))).get? a\seqObj "list" #[] e1:=#[_,get?_update_seq ho (λ_=>#[])]
 have Fn:vs.length<=sizeLine:=by
  have:=b_;omega
 rw[list_sort_plain];apply aq (listItems_at ho Z (aq (listUpdate_at ho Z (aq (seqEpoch_at CQ Z (aq (wpAny_newTuple (aq (wpAny_newList (mQ ?_) (g7 _))) Fn)))) ⇑Fn (g7 _))))
 have keep:∀g:Array Aa->Array Aa,GV a s.heap ((((s.heap.update a (Obj.mapSeq λ_=>(#[]:Array Aa))).push (seqObj "tuple" vs.toArray 0)).push (seqObj "list" #[] 0)).update a (Obj.mapSeq g)):=λg b o hb e=>by
  apply (mV _ _ (Ne.symm hb)).trans (cj _ (cj _ ?_));exact (mV _ _ (Ne.symm hb)).trans e
 have Ft:GV a s.heap (((s.heap.update a (Obj.mapSeq λ_=>(#[]:Array Aa))).push (seqObj "tuple" vs.toArray 0)).push (seqObj "list" #[] 0)):=λb o hb e=>
  cj _ (cj _ ((mV _ _ (Ne.symm hb)).trans e))
 have CO:(((s.heap.update a (Obj.mapSeq λ_=>(#[]:Array Aa))).push (seqObj "tuple" vs.toArray 0)).push (seqObj "list" #[] 0)).get? a\seqObj "list" #[] e1:=cj _ (cj _ CQ);show wpAny (model prog w) A _ P E { s with heap:=((s.heap.update a (Obj.mapSeq λ_=>(#[]:Array Aa))).push (seqObj "tuple" vs.toArray 0)).push (seqObj "list" #[] 0) };dsimp only;by_cases h2:vs.toArray.size<2
 ·rw[aH h2,aH h2];apply aq (aU ?_);rw[StateT.run_pure]
  have xn:((vs.toArray.zip vs.toArray).map λx:Keyed=>x.2)=(nu (List.range vs.length).toArray vs).toArray:=by
   rw[Wx];apply Array.ext' ?_;simp[List.map_snd_zip]
  apply aq (aU (aq (seqEpoch_at CO Z (aq (listUpdate_at CO Z ?_ (g7 _) ?_)))))
  ·simp only[bne_self_eq_false,k_,if_false];apply aU (h (List.range vs.length).toArray _ _ (Array.Perm.refl _) (λi j oO hj=>?_) ((get?_update_seq CO _).trans (d9 (λz=>some (seqObj "list" z _)) xn)) (keep _))
   have e:i=j:=by
    simp only[cg] at h2;omega
   subst e;exact O.fJ _
  have e:((vs.toArray.zip vs.toArray).map λx:Keyed=>x.2).size<=sizeLine+1:=by
   simp only[Array.size_map,Array.size_zip,cg];omega
  exact e
 rw[aB h2,aB h2]
 have gI:2<=vs.length:=by
  simp only[cg] at h2;omega
 let#[κ,hk,hc]:=Bq gI _ Ft;apply aq (wpAny_mono (hk (λk s'=>k=κ/\s'=_) #[Z,Z]) (λk s' Gb=>?_) λ_ _ x=>x.elim);let#[rfl,rfl]:=Gb
 apply aq (wpAny_mono (kat_run (ks:=vs) (vs:=vs) (G:=λp s'=>s'={ s with heap:=((s.heap.update a (Obj.mapSeq λ_=>(#[]:Array Aa))).push (seqObj "tuple" vs.toArray 0)).push (seqObj "list" #[] 0) }/\Good vs.length p/\Up f p vs.length)
  (Q:=λfN s'=>∃p:Array Nat,arrOf fN=p.map (kas_item (vs.toArray.zip vs.toArray))/\failedOf fN=none/\s'={ s with heap:=((s.heap.update a (Obj.mapSeq λ_=>(#[]:Array Aa))).push (seqObj "tuple" vs.toArray 0)).push (seqObj "list" #[] 0) }/\Good vs.length p/\Up f p vs.length)
  rfl gI bR (λp fN s' _ q1 q2 q3=>#[p,q1,q2,q3]) (Ok.wp hc (λp q=>#[Z,q]) (Ua O Z1))) ?_ λ_ _ x=>x)
 rintro⟨⟨⟩,fN⟩ s' ⟨p,NO,hf,qp,g,u⟩;have qp:s'={ s with heap:=((s.heap.update a (Obj.mapSeq λ_=>(#[]:Array Aa))).push (seqObj "tuple" vs.toArray 0)).push (seqObj "list" #[] 0) }:=qp;subst qp
 have xn:((arrOf fN).map λx:Keyed=>x.2)=(nu p vs).toArray:=by
  rw[NO];apply Array.ext' ?_;unfold nu;simp only[Array.map_map,Array.toList_map,List.toList_toArray];apply uP λi _=>?_;show (kas_item (vs.toArray.zip vs.toArray) i).2=_;unfold kas_item;by_cases hi:i<vs.length
  ·simp[Array.getD,hi]
  simp[Array.getD,hi,Nat.le_of_not_lt hi]
 have esz:((arrOf fN).map λx:Keyed=>x.2).size=vs.length:=by
  rw[xn];unfold nu;simp only[cg,aA,qJ];exact g.size
 apply aq (seqEpoch_at CO Z (aq (listUpdate_at CO Z ?_ (g7 _) (by rw[esz];omega))));rw[hf];simp only[bne_self_eq_false,k_,if_false];exact aU (h p _ _ g u ((get?_update_seq CO _).trans (d9 (λz=>some (seqObj "list" z _)) xn)) (keep _))
theorem VR{x:Aa}{f:Nat->Nat->Bool}{Q:Aa->Ab->Prop}(O:Ord f)
  (mN:wpAny (model prog w) A.in1 (collect x) (λvs s1=>vs.length<64/\(2<=vs.length->∀h':Heap,(∀b o,s1.heap.get? b\o->h'.get? b\o)->x_ prog w A.in1.in1 f vs { s1 with heap:=h' }) /\
   ∀(p:Array Nat) (h':Heap) (e:Nat),Good vs.length p->Up f p vs.length->h'.get? s1.heap.objs.size\seqObj "list" (nu p vs).toArray e->(∀b o,s1.heap.get? b\o->h'.get? b\o)->Q (.ref s1.heap.objs.size) { s1 with heap:=h' }) E s) :
  wpAny (model prog w) A (call (.builtin "sorted") [x]) Q E s:=by
 apply Calls.call_function_entry kind_sorted plain_sorted entry_sorted (args_sorted1 _) ?_;unfold Builtin.«sorted»;apply aq (m:=checkCount "sorted" 1 1 _) (aU (aq (wpAny_mono mN (λvs s1 q=>?_) λ_ _ z=>z)));let#[bR,Bq,hQ]:=q;apply aq (wpAny_newList ?_ (by have:=b_;omega));have hn:(s1.heap.push (seqObj "list" vs.toArray 0)).get? s1.heap.objs.size\seqObj "list" vs.toArray 0:=eh _ Z
 have old:∀h',GV s1.heap.objs.size (s1.heap.push (seqObj "list" vs.toArray 0)) h'->∀b o,s1.heap.get? b\o->h'.get? b\o:=λh' k b o e=>
  k b o (dZ (cy e)) (cj _ e)
 apply aq (mQ (wpAny_call_entry slot_list_sort #[_,hn,Z] entry_list_sort (j7_ O hn bR (λh2 h' k=>Bq h2 h' (old h' k)) λp h' e g u q k=>#[_,Z,?_]) (args_list_sort _)));exact aU #[_,Z,hQ p h' e g u q (old h' k)]
end
end jE
namespace L2
open PySem PySem.Spec PyProof.Rows PySem.W jE
def js:Key->Key->Bool
 |.inl i,.inl j=>decide (i<j)
 |.inl _,.inr _=>true
 |.inr _,.inl _=>false
 |.inr x,.inr y=>decide (x.cps.toList<y.cps.toList)
def bL:ay->ay->Bool
 |[],[]=>false
 |[],_::_=>true
 |_::_,[]=>false
 |a::r,b::q=>if a=b then bL r q else js a b
theorem kn_:∀a:Key,js a a=false
 |.inl i=>by simp[js]
 |.inr x=>by simp[js,List.lt_irrefl]
theorem Vm:∀{a b:Key},js a b=true->js b a=false
 |.inl i,.inl j,h=>by
  simp only[js,decide_eq_true_eq,decide_eq_false_iff_not] at *;omega
 |.inl _,.inr _,_=>rfl
 |.inr _,.inl _,h=>by cases h
 |.inr x,.inr y,h=>by
  simp only[js,decide_eq_true_eq,decide_eq_false_iff_not] at *;exact λq=>List.lt_irrefl _ (List.lt_trans h q)
theorem Ud:∀{a b:Key},js a b=false->js b a=false->a=b
 |.inl i,.inl j,h,h2=>by
  simp only[js,decide_eq_false_iff_not] at *;rw[show i=j by omega]
 |.inl _,.inr _,h,_=>by cases h
 |.inr _,.inl _,_,h=>by cases h
 |.inr x,.inr y,h,h2=>by
  simp only[js,decide_eq_false_iff_not] at *;rw[ext_toList (List.le_antisymm (List.not_lt.mp h2) (List.not_lt.mp h))]
theorem gL_:∀{a b c:Key},js a b=true->js b c=true->js a c=true
 |.inl i,.inl j,.inl k,h,h2=>by
  simp only[js,decide_eq_true_eq] at *;omega
 |.inl _,.inl _,.inr _,_,_=>rfl
 |.inl _,.inr _,.inr _,_,_=>rfl
 |.inl _,.inr _,.inl _,_,h=>by cases h
 |.inr _,.inl _,_,h,_=>by cases h
 |.inr _,.inr _,.inl _,_,h=>by cases h
 |.inr x,.inr y,.inr z,h,h2=>by
  simp only[js,decide_eq_true_eq] at *;exact List.lt_trans h h2
theorem Pu:∀a:ay,bL a a=false
 |[]=>rfl
 |a::r=>by
  unfold bL;rw[aH Z];exact Pu r
theorem PM:∀{a b:ay},bL a b=true->bL b a=false
 |[],[],h=>by cases h
 |[],_::_,_=>rfl
 |_::_,[],h=>by cases h
 |a::r,b::q,h=>by
  unfold bL at h ⊢;by_cases e:a=b
  ·rw[aH e] at h;rw[aH e.symm];exact PM h
  rw[aB e] at h;rw[aB (Ne.symm e)];exact Vm h
theorem Pd:∀{a b:ay},bL a b=false->bL b a=false->a=b
 |[],[],_,_=>rfl
 |[],_::_,h,_=>by cases h
 |_::_,[],_,h=>by cases h
 |a::r,b::q,h,h2=>by
  unfold bL at h h2;by_cases e:a=b
  ·rw[aH e] at h;rw[aH e.symm] at h2;rw[e,Pd h h2]
  rw[aB e] at h;rw[aB (Ne.symm e)] at h2;exact absurd (Ud h h2) e
theorem WG:∀{a b c:ay},bL a b=true->bL b c=true->bL a c=true
 |[],_,[],h,h2=>by
  rename_i b
  cases b with
  |nil=>cases h
  |cons _ _=>cases h2
 |[],_,_::_,_,_=>rfl
 |_::_,[],_,h,_=>by cases h
 |_::_,_::_,[],_,h=>by cases h
 |a::r,b::q,c::t,h,h2=>by
  unfold bL at h h2 ⊢;by_cases e:a=b
  ·subst e;rw[aH Z] at h;by_cases e2:a=c
   ·rw[aH e2] at h2 ⊢;exact WG h h2
   rw[aB e2] at h2 ⊢;exact h2
  rw[aB e] at h;by_cases e2:b=c
  ·subst e2;rw[aB e];exact h
  rw[aB e2] at h2;let h3:=gL_ h h2;rw[aB (λq=>by rw[q,kn_] at h3;cases h3)];exact h3
theorem VX{a b c:ay}(h:bL b a=false)(h2:bL c b=false):bL c a=false:=by
 cases e:bL c a with
 |false=>rfl
 |true=>
  by_cases e1:bL a b=true
  ·have:=WG e e1;rw[h2] at this;cases this
  have e1:bL a b=false:=⇑e1
  have:=Pd e1 h;subst this;rw[h2] at e;cases e
def DY(ks:List ay):Prop:=ks.Pairwise λa b=>bL b a=false
theorem V7:∀{a b:List ay},a.Perm b->DY a->DY b->a=b
 |[],b,p,_,_=>by
  have:=p.length_eq;cases b with
  |nil=>rfl
  |cons _ _=>cases this
 |x::r,[],p,_,_=>by
  have:=p.length_eq;cases this
 |x::r,y::q,p,h1,h2=>by
  let#[a1,a2]:=List.pairwise_cons.mp h1;let#[b1,b2]:=List.pairwise_cons.mp h2
  have e:x=y:=by
   rcases cQ.mp (p.mem_iff.mp fQ) with m|m
   ·exact m
   rcases cQ.mp (p.mem_iff.mpr fQ) with m2|m2
   ·exact m2.symm
   exact Pd (b1 _ m) (a1 _ m2)
  subst e;rw[V7 ((List.perm_cons _).mp p) a2 b2]
def aX(ks:List ay):List ay:=ks.mergeSort λa b=>!bL b a
theorem k7(ks:List ay):(aX ks).Perm ks:=List.mergeSort_perm _ _
theorem gd_(ks:List ay):DY (aX ks):=by
 have:=List.pairwise_mergeSort (le:=λa b=>!bL b a) (λa b c h1 h2=>by
  simp only[Bool.not_eq_true'] at *;exact VX h1 h2) (λa b=>by
  simp only[Bool.or_eq_true,Bool.not_eq_true'];by_cases e:bL b a=true
  ·exact .inr (PM e)
  exact .inl ⇑e) ks
 exact this.imp λh=>by simpa using h
theorem Qw{ks qo:List ay}(p:qo.Perm ks)(h:DY qo):qo=aX ks:=V7 (p.trans (k7 ks).symm) h (gd_ ks)
theorem HZ{α:Type}{p:Array Nat}{n:Nat}(g:Good n p)(F:Nat->α):(p.toList.map F).Perm ((List.range n).map F):=by
 have e:p.toList.Perm (List.range n):=by
  have:=Array.perm_iff_toList_perm.mp g;simpa using this
 exact e.map F
theorem OL{p:Array Nat}{ks:List ay}{f:Nat->Nat->Bool}(hf:∀i j,i<ks.length->j<ks.length->f i j=bL (ks.getD i []) (ks.getD j []))(g:Good ks.length p)(u:Up f p ks.length):DY (p.toList.map λi=>ks.getD i []):=by
 unfold DY;rw[vM,List.pairwise_iff_getElem];intro i j hi hj oO;let hs:=g.size;rw[qJ] at hi hj;have Nk:j<ks.length:=by omega
 let q:=u i j (Nat.le_of_lt oO) Nk;have hN:0<ks.length:=by omega
 rw[hf _ _ (g.lt hN _) (g.lt hN _)] at q;have e1:at' p i=p.toList[i]:=by simp[at',Array.getD,hi]
 have e2:at' p j=p.toList[j]:=by simp[at',Array.getD,hj]
 rw[e1,e2] at q;exact q
theorem Po(ks:List ay):Ord λi j=>bL (ks.getD i []) (ks.getD j []):=#[λ_=>Pu _,λh h2=>VX h h2,λh=>PM h]
theorem Ij{α:Type}(d:α)(l:List α):((List.range l.length).map λi=>l.getD i d)=l:=by
 apply List.ext_getElem? ?_;intro i;simp only[dS];by_cases h:i<l.length
 ·simp[h]
 simp[Nat.le_of_not_lt h]
theorem Pr{ys:ag}{vs:aj}(r:Vals ys vs){p:Array Nat}(g:Good vs.length p):Vals (p.toList.map λi=>ys.getD i .non) (nu p vs):=by
 unfold nu
 have key:∀l:List Nat,(∀i∈l,i<vs.length)->Vals (l.map λi=>ys.getD i .non) (l.map λi=>vs.getD i Value.none):=λl=>by
  induction l with
  |nil=>exact λ_=>.nil
  |cons i l ih=>
   intro h;apply .cons ?_ (ih λj hj=>h j (fb _ hj));let hi:=h i fQ;have hy:i<ys.length:=by rw[r.length];exact hi
   let#[u,hu,ru]:=r.get (cw hy);have e1:ys.getD i .non=ys[i]:=by simp[hy]
   have e2:vs.getD i Value.none=u:=by simp[hu]
   show RelV (ys.getD i .non) (vs.getD i Value.none);rw[e1,e2];exact ru
 apply key p.toList λi hi=>?_;have m:i∈(List.range vs.length).toArray:=g.mem_iff.mp ⇑hi;simpa using m
theorem Uu:∀{ss:ae} {vs:aj},Vals (ss.map V.str) vs->StrsAre vs ss
 |[],_,.nil=>.nil
 |x::r,_,.cons h t=>by
  let#[tk,rfl]:=h;exact .cons x tk (Uu t)
def mY(ss:ae):ae:=(aX (ss.map λx=>[Sum.inr x])).map λk=>match k with
 |[.inr x]=>x
 |_=>⟨#[]⟩
def dH(x:Str):ay:=[Sum.inr x]
theorem gt_{prog:Ad}{w:Af}{A:Ag}{s:Ab}{ss:ae}{vs:aj}(r:StrsAre vs ss)(h2:2<=vs.length):x_ prog w A (λi j=>bL ((ss.map dH).getD i []) ((ss.map dH).getD j [])) vs s:=by
 apply#[oneType',λQ q=>?_,λi j C hi hj hC=>?_]
 ·match vs,h2 with
  |v₁::XM::t,_=>
   rw[keyKind_strs r];exact aU q
 unfold kas_ask;rw[keyLt'_oneType]
 have look:∀k,k<vs.length->∃x t,vs.getD k Value.none=.str x t/\(ss.map dH).getD k []=[Sum.inr x]:=λk hk=>by
  let e:=r.strs;let#[x,t,q]:=r.all vs[k] (nD hk);apply#[x,t,by simp[hk,q],?_]
  have Bj:k<ss.length:=by
   rw[<- e,aA];exact hk
  have e2:ss[k]=x:=by
   have e3:(vs.map strOf)[k]? = ss[k]?:=by rw[e]
   rw[dS,cw hk,cw Bj,q] at e3;exact (dY e3).symm
  simp[Bj,e2,dH]
 let#[x,t,e1,e2]:=look i hi;let#[y,u,e3,e4]:=look j hj;rw[e1,e3];dsimp only at hC;rw[e2,e4] at hC;apply oneLt_str ?_;unfold bL at hC;by_cases e:x=y
 ·subst e;rw[aH Z] at hC;have:decide (x.cps.toList<x.cps.toList)=false:=by simp[List.lt_irrefl]
  rw[this];exact hC
 rw[aB (λq=>e (iF q))] at hC;exact hC
def yP:Key->Bool
 |.inl _=>false
 |.inr _=>true
theorem hl_{prog:Ad}{w:Af}{A:Ag}{E:Aa->Ab->Prop}{s:Ab}{c:Bool}{a b:Key}{p q:Aa}{Q:Bool->Ab->Prop}(ra:RelV (kV a) p)(rb:RelV (kV b) q)(hk:yP a=yP b)(h:Q (js a b) s) :
  wpAny (model prog w) A (oneLt' c p q) Q E s:=by
 cases a with
 |inl i=>
  cases b with
  |inr y=>cases hk
  |inl j=>
   let#[t,rfl]:=ra;let#[u,rfl]:=rb;cases c with
   |true=>exact oneLt_int h
   |false=>exact kat_one _ _ (lt_int (show PySem.W.BoolBack Q (.bool _) s from h))
 |inr x=>
  cases b with
  |inl j=>cases hk
  |inr y=>
   let#[t,rfl]:=ra;let#[u,rfl]:=rb;cases c with
   |true=>exact oneLt_str h
   |false=>exact kat_one _ _ (PyProof.Rows.lt_str (show PySem.W.BoolBack Q (.bool _) s from h))
theorem T9{a b:Key}(hk:yP a=yP b):mO (kV a) (kV b)=decide (a=b):=by
 cases a with
 |inl i=>
  cases b with
  |inr y=>cases hk
  |inl j=>
   show (i == j)=_;by_cases e:i=j
   ·subst e;simp
   ·rw[dJ (λq=>e (Sum.inl.inj q))];simpa using e
 |inr x=>
  cases b with
  |inl j=>cases hk
  |inr y=>
   show (x == y)=_;by_cases e:x=y
   ·subst e;simp
   rw[dJ (λq=>e (iF q))];simpa using e
theorem UE(a:Key):uB (kV a)=true:=by cases a<;>rfl
theorem WC{prog:Ad}{w:Af}{A:Ag}{s:Ab}{Q:Bool->Ab->Prop}:∀{k1 k2:ay} {us vs:aj} (i:Nat),Vals (k1.map kV) us->Vals (k2.map kV) vs->k1.map yP=k2.map yP->Q (bL k1 k2) s->KatLex prog w A true false Q (us.zip vs) i s
 |[],[],_,_,i,.nil,.nil,_,h=>h
 |[],_::_,_,_,_,_,_,h,_=>by cases h
 |_::_,[],_,_,_,_,_,h,_=>by cases h
 |a::k1,b::k2,u::us,v::vs,i,.cons ra r1,.cons rb r2,hk,h=>by
  let#[e1,e2]:=List.cons.inj hk;apply kat_cons ?_;apply GQ ra rb (UE a) (UE b) prog w _ _ ?_;rw[T9 e1];unfold bL at h;by_cases e:a=b
  ·rw[aH e] at h;rw[bP e];exact kat_yes (WC (i+1) r1 r2 e2 h)
  rw[aB e] at h;rw[dJ e];exact kat_no (hl_ ra rb e1 h)
def bG(K:af)(H:Hp):ag->List ay->Prop:=Paired λy k=>∃a,y=V.ref a/\H a\.tup (k.map kV)
def BI(ks:List ay)(sh:List Bool):Prop:=sh≠[]/\∀k∈ks,k.map yP=sh
theorem U8{X:Cx}{pins:List (Addr × Obj)}{σ:St}{H:Hp}{s s':Ab}{A:Ag}{ys:ag}{ks:List ay}{sh:List Bool}{vs:aj}(I:Inv X pins σ H s)(r:Vals ys vs)(t:bG X.K H ys ks)(al:BI ks sh)(h2:2<=vs.length)
  (kp:∀b o,s.heap.get? b\o->s'.heap.get? b\o):x_ X.prog X.w A (λi j=>bL (ks.getD i []) (ks.getD j [])) vs s':=by
 have look:∀k,k<vs.length->∃a its,vs.getD k Value.none=.ref a/\Vals ((ks.getD k []).map kV) its/\IsTup s'.heap a its.toArray/\ks.getD k []∈ks:=λk hk=>by
  have hy:k<ys.length:=by rw[r.length];exact hk
  have zd:k<ks.length:=by rw[<- bK t];exact hy
  let#[u,hu,ru]:=r.get (cw hy)
  have gen:∀{ys:ag} {ks:List ay} (k:Nat) (hy:k<ys.length) (zd:k<ks.length),bG X.K H ys ks->∃a,ys[k]=V.ref a/\H a\.tup (ks[k].map kV):=λ{ys ks} k hy zd t=>by
   induction t generalizing k with
   |nil=>exact absurd hy Z2
   |cons h t ih=>
    cases k with
    |zero=>exact h
    |succ k=>exact ih k ⇑hy ⇑zd
  let#[a,e,sq]:=gen k hy zd t;let#[its,ri,ti,_]:=I.tuple (gL.of sq);rw[e] at ru;cases ru;have e2:ks.getD k []=ks[k]:=by simp[zd]
  apply#[a,its,by simp[hu],by rw[e2];exact ri,ti.keeps kp,?_];rw[e2];exact nD zd
 let#[pR,Gv]:=al
 obtain⟨c,Ez,rfl⟩:∃c Ez,sh=c::Ez:=by
  cases sh with
  |nil=>exact absurd Z pR
  |cons c Ez=>exact#[c,Ez,Z]
 apply#[tuples' true,λQ q=>?_,λi j C hi hj hC=>?_]
 ·have Bz:∀l:aj,(∀v∈l,∃(a:Addr) (its:aj) (k:ay),v=.ref a/\Vals (k.map kV) its/\IsTup s'.heap a its.toArray/\k.map yP=c::Ez)->∃fs,KatTups s'.heap l fs/\fs.length=l.length/\∀v∈fs,Looks (model X.prog X.w) s'.heap (typeOf v) (.type (if c then "str" else "int")):=λl=>by
   induction l with
   |nil=>exact λ_=>#[[],.nil,Z,λ_ h=>nomatch h]
   |cons v l ih=>
    intro h;let#[fs,h1,h2,h3]:=ih λv hv=>h v (fb _ hv);let#[a,its,k,rfl,rv,#[o,ho,hc,n,hd],hk]:=h v fQ
    match k,its,rv,hk with
    |k0::k,u::its,.cons r0 _,hk=>
     apply#[u::fs,.cons ho hc hd Z2 h1,by simp[h2],λv hv=>?_];rcases cQ.mp hv with e|hv
     ·subst e;let e0:=(List.cons.inj hk).1;cases k0 with
      |inl i=>
       let#[t,rfl]:=r0;rw[<- e0];exact .now
      |inr x=>
       let#[t,rfl]:=r0;rw[<- e0];exact .now
     exact h3 v hv
  let#[fs,h1,h3,h4]:=Bz vs λv hv=>by
   let#[k,hk,rfl]:=lj hv;let#[a,its,e,rv,ti,m]:=look k hk;apply#[a,its,_,?_,rv,ti,Gv _ m];rw[<- e];simp[hk]
  apply kat_kind h1 Z1 h4 (by cases c<;>decide) ?_
  have e:((Value.type (if c then "str" else "int")) != Value.type "tuple")=true:=by cases c<;>decide
  rw[e];exact q
 unfold kas_ask;let#[a,its,e1,r1,#[o,ho,_,n,hd],m1]:=look i hi;let#[b,gz,e2,r2,#[o2,Bc,_,n2,hd2],m2]:=look j hj;rw[e1,e2];apply kat_lt ho hd Bc hd2 ?_;let l1:=r1.length;let l2:=r2.length;let l3:=d9 List.length ((Gv _ m1).trans (Gv _ m2).symm);simp only[aA] at l1 l2 l3;rw[show decide (its.toArray.size<gz.toArray.size)=false by simp;omega];exact WC 0 r1 r2 ((Gv _ m1).trans (Gv _ m2).symm) hC
end L2
namespace di
open PySem PySem.W PyProof.Rows
section
variable{prog:Ad}{w:Af}{A:Ag}{E:Aa->Ab->Prop}{s:Ab}
def Raw(h:Heap)(d:Addr)(es:Array Ah)(ep:Nat):Prop:=∃o,h.get? d\o/\o.ExactDict/\o.data=.dict es ep
theorem Raw.d5{h h':Heap}{d:Addr}{es:Array Ah}{ep:Nat}(x:Raw h d es ep)(k:∀o,h.get? d\o->h'.get? d\o):Raw h' d es ep:=let #[o,e,r]:=x;#[o,k o e,r]
theorem Raw.ty{d:Addr}{es:Array Ah}{ep:Nat}(x:Raw s.heap d es ep):s.TypeIs (.ref d) "dict":=let #[o,e,c,_]:=x;#[o,e,c.1]
theorem iu_{d:Addr}{es:Array Ah}{ep:Nat}{Q:Aa->Ab->Prop}(hd:(d == sysModules)=false)(x:Raw s.heap d es ep)
  (q:Q (.ref s.heap.objs.size) { s with heap:=s.heap.push { cls:=.type "dict_keyiterator",data:=.fields (List.toArray [.ref d,.int 0 0,.int es.size 0,.int ep 0]) } }) :
  wpAny (model prog w) A (pyIter (.ref d)) Q E s:=by
 let#[o,ho,hc,xb]:=id x;apply wpAny_pyIter_slot x.ty F.slot_dict_iter (wpAny_call_entry F.slot_dict_iter x.ty F.entry_dict_iter ?_ (F.args_dict_iter_1 _));unfold Builtin.«dict.__iter__» Builtin.Dict.dictSlotNone;apply aq (aq (wpAny_notOrdered_dict x.ty (show wpAny _ _ (pure (Value.ref d)) _ _ s from aU (show wpAny _ _ (Builtin.Dict.showsAll d >>= _) _ _ s from ?_))));unfold Builtin.Dict.showsAll;rw[aB (by rw[hd];decide)];apply aq (aU (aq (wpAny_dictEntries ho xb (aq (wpAny_dictEpoch ho xb (aq (mU (aU #[_,Z,"dict_keyiterator",_,#[_,eh _ Z,Z],F.slot_dict_keyiterator_next.lookup,?_]))))))));exact q
theorem ix_{it d:Addr}{i ep:Nat}{es:Array Ah}{Q:Option Aa->Ab->Prop}(hit:s.heap.IsKeyIter it d i es.size ep)(x:Raw s.heap d es ep)(hi:i<es.size)
  (q:∀h',h'.IsKeyIter it d (i+1) es.size ep->Heap.SameBut it s.heap h'->Q (some es[i].key) { s with heap:=h' }):wpAny (model prog w) A (pyNext (.ref it)) Q E s:=by
 let#[o,ho,hc,hd]:=id hit;let#[od,FW,hZ,Bn]:=id x;unfold pyNext;apply aq (wpAny_attempt (wpAny_callSpecial?_slot (name:=Str.ofString "__next__") hit.typeIs F.slot_dict_keyiterator_next (wpAny_call_entry F.slot_dict_keyiterator_next hit.typeIs F.entry_dict_keyiterator_next ?_ (F.args_dict_keyiterator_next_1 _))));apply aq (aU (aq (aq ?_)))
 first|refine aq (wpAny_typeNameOfWhole_keyiter hit.typeIs (aU (aq (wpAny_fieldsOf ho hd ?_))))|refine aq (wpAny_typeNameOf_keyiter hit.typeIs (aU (aq (wpAny_fieldsOf ho hd ?_))))
 simp only[show Builtin.Dict_items.ownsTuple "dict_keyiterator"=false by decide,k_,if_false];apply (show wpAny _ _ (if (Value.ref d == Value.none)=true then _ else _) _ _ s from ?_);rw[aB (λz=>by cases z)];apply aq (aU (aq (wpAny_dictEntries FW Bn ?_)));rw[aB Z2];apply aq (aU (aq (wpAny_dictEpoch FW Bn ?_)));rw[aB Z2];apply aU ?_;simp only[show ¬((i:Int)<0) from by omega,if_false,qH,Array.getElem?_eq_getElem hi];apply aq ?_
 first|refine aq (wpAny_typeNameOfWhole_keyiter hit.typeIs (aU (aq (wpAny_isOneOf_keyiter hit.typeIs ?_))))|refine aq (wpAny_typeNameOf_keyiter hit.typeIs (aU (aq (wpAny_isOneOf_keyiter hit.typeIs ?_))))
 apply (show wpAny _ _ (setField (.ref it) 1 (rawInt ((i:Int)+1)) >>= _) _ _ s from aq (wpAny_setField ho hd Z2 ?_))
 have turned:(s.heap.update it (Obj.mapFields (·.setIfInBounds 1 (rawInt ((i:Int)+1))))).IsKeyIter it d (i+1) es.size ep:=
  #[_,Heap.get?_update_self _ ho (Obj.isFreed_of_fields (Obj.data_mapFields hd _)),(Obj.cls_mapFields ..).trans hc,by rw[Obj.data_mapFields hd];simp[rawInt]]
 apply aq (mQ (aq (wpAny_isOneOf_keyiter (s:={ s with heap:=s.heap.update it (Obj.mapFields (·.setIfInBounds 1 (rawInt ((i:Int)+1)))) }) turned.typeIs ?_)));exact (show wpAny _ _ (pure es[i].key) _ _ _ from aU (aU #[_,Z,aU (q _ turned (Heap.SameBut.update ..))]))
theorem iT_{it d:Addr}{ep:Nat}{es:Array Ah}{Q:Option Aa->Ab->Prop}(hh:A.handled=none)(hit:s.heap.IsKeyIter it d es.size es.size ep)(x:Raw s.heap d es ep)
  (q:∀h',Heap.ExtBut it s.heap h'->Q none { s with heap:=h' }):wpAny (model prog w) A (pyNext (.ref it)) Q E s:=by
 let#[o,ho,hc,hd]:=id hit;let#[od,FW,hZ,Bn]:=id x;unfold pyNext;apply aq (wpAny_attempt (wpAny_callSpecial?_slot (name:=Str.ofString "__next__") hit.typeIs F.slot_dict_keyiterator_next (wpAny_call_entry F.slot_dict_keyiterator_next hit.typeIs F.entry_dict_keyiterator_next ?_ (F.args_dict_keyiterator_next_1 _))));apply aq (aU (aq (aq ?_)))
 first|refine aq (wpAny_typeNameOfWhole_keyiter hit.typeIs (aU (aq (wpAny_fieldsOf ho hd ?_))))|refine aq (wpAny_typeNameOf_keyiter hit.typeIs (aU (aq (wpAny_fieldsOf ho hd ?_))))
 simp only[show Builtin.Dict_items.ownsTuple "dict_keyiterator"=false by decide,k_,if_false];apply (show wpAny _ _ (if (Value.ref d == Value.none)=true then _ else _) _ _ s from ?_);rw[aB (λz=>by cases z)];apply aq (aU (aq (wpAny_dictEntries FW Bn ?_)));rw[aB Z2];apply aq (aU (aq (wpAny_dictEpoch FW Bn ?_)));rw[aB Z2];apply aU ?_;simp only[show ¬((es.size:Int)<0) from by omega,if_false,qH,Array.getElem?_eq_none (bj _)];apply aq ?_
 first|refine aq (wpAny_typeNameOfWhole_keyiter hit.typeIs (aU ?g))|refine aq (wpAny_typeNameOf_keyiter hit.typeIs (aU ?g))
 apply (show wpAny _ _ (setField (.ref it) 0 .none >>= _) _ _ s from aq (wpAny_setField ho hd Z2 (show wpAny _ _ (newExc (.type "StopIteration") [] >>= _) _ _ _ from aq ?_)));simp only[newExc,newTuple];apply aq (mU (aq (m:=firstArgMember _ _) (wpAny_of_eq (a:=Value.none) (by first|rfl|(simp only[firstArgMember];rfl)) (mU ?_ (by size_fits)))) (by size_fits));simp only[raiseNew];apply aq (wpAny_handled ?_);rw[show A.in1.handled=none from hh];apply aq (aU (wpAny_throw ?_));exact aq (wpAny_isInstance (T:="StopIteration") (b:=true) #[_,eh _ Z,Z] isSubtype_stop (aU (q _ (((Heap.SameBut.update ..).extBut.push _).push _))))
theorem gC_(hh:A.handled=none)(I d:Addr)(pR:d≠I)(es:Array Ah)(ep:Nat) :
  Walks prog w A I [I,d] [I] es.size (λi v=>∃h:i<es.size,v=es[i].key) (λi h=>h.IsKeyIter I d i es.size ep/\Raw h d es ep) where
 sub:=λb hb=>by simp only[List.mem_singleton] at hb;simp[hb]
 frame:=λ_ _ _ st k=>#[st.1.at λo e=>k I Z2 o e,st.2.d5 λo e=>k d Z2 o e]
 item:=λi s Q E hi st hQ=>ix_ st.1 st.2 hi λh' Bk qp=>hQ _ h' s.toks #[hi,Z] #[Bk,st.2.d5 λo e=>qp.extBut d o pR e] λb o hb e=>qp.extBut b o (λh=>hb (by simp[h])) e
 done:=λs Q E st hQ=>iT_ hh st.1 st.2 λh' he'=>hQ h' s.toks λb o hb e=>he' b o (λh=>hb (by simp[h])) e
 self:=λ_ _ _ _ st hQ=>wpAny_pyIter_keyiter st.1 hQ
theorem k2_{d:Addr}{es:Array Ah}{ep:Nat}(lo:(d == sysModules)=false):KdlSrc prog w "dict" d d es.size (λi v=>∃h:i<es.size,v=es[i].key) (λh=>Raw h d es ep) where
 type:=λs x=>x.ty
 there:=λh x=>let #[o,e,_]:=x;#[cy e,cy e]
 keep:=λh h' x k=>x.d5 λo e=>k d (.inl Z) o e
 notList:=by decide
 notTuple:=by decide
 hint:=λ_ _ s _ x q=>kdl_hint_dict x.ty q
 iter:=λA s hh x=>#[_,_,λE Q q=>iu_ lo x q,gC_ hh _ d (let #[o,e,_]:=x;dZ (cy e)) es ep,#[#[_,eh _ Z,Z,Z],x.d5 λo e=>cj _ e]]
end
end di
namespace di
open PySem PySem.W PyProof.Rows
theorem d8_:typeLookup (.type "list") "keys"=pure none:=by rw[typeLookup_type,builtinLookup_eq_fast];kernel_rfl
theorem gu_{prog:Ad}{w:Af}{A:Ag}{s:Ab}{a:Addr}{xs:Array Aa}{k:Nat}{tk:Tok}{R:Result->Ab->Prop}(hx:s.heap.get? a\seqObj "list" xs k)(h:raisesAttr (.ref a) "keys" A R s) :
  codeAny (model prog w) A (.call (.builtin "list.__getattribute__") #[[.ref a,.str "keys" tk],[]]) R s:=by
 apply codeAny_call_builtin F.slot_list_getattribute.plain am_entry_list_getattribute (F.slot_list_getattribute.check _ _ _ _ _ _ _ _ #[_,hx,Z] (F.args_list_getattribute_2 _ _) ?_);exact meets_getattribute_miss_list a xs k #[] "keys" tk d8_ (by decide) (by size_fits) prog w A R s #[hx,h]
theorem AV{prog:Ad}{w:Af}{A:Ag}{E:Aa->Ab->Prop}{s:Ab}{a:Addr}{xs:Array Aa}{k:Nat}{Q:Option Aa->Ab->Prop}(hx:s.heap.get? a\seqObj "list" xs k)(hA:A.handled=none)
  (h:∀h' tk,(∀b o,s.heap.get? b\o->h'.get? b\o)->Q none { s with heap:=h',toks:=tk }):wpAny (model prog w) A (getAttr? (.ref a) "keys") Q E s:=by
 let#[hp,g,d,tk,os]:=s;have ty:∀vf,(#[hp,g,d,vf,os]:Ab).TypeIs (.ref a) "list":=λ_=>#[_,hx,Z];let f1:=sub_AttributeError;let f2:=F.slot_list_getattribute.lookup;let f3:=F.slot_list_getattribute.bind (.ref a);let f4:=am_list_getattr_none;unfold getAttr? getAttrBy? getAttrBy
 repeat (any_goals (first|assumption|exact ty _|wp_step))
 apply gu_ hx #[hA,λh' vf e yR=>?_];let#[t',u',he]:=yR.there;show wpAny _ _ (getattributeRaised _ _ _ _ _ _ _) _ _ _;unfold getattributeRaised
 repeat (any_goals (first|assumption|wp_step))
 exact h _ _ yR.keeps
end di
namespace di
open PySem PySem.W PyProof.Rows
theorem VL:entryFor table "dict.update.loop"\Builtin.«dict.update.loop»:=entryFor_of_tree (by kernel_rfl)
theorem KI:plainId "dict.update.loop"=true:=by decide +kernel
theorem SM(d it:Addr)(i:Int)(tk:Tok):Builtin.«dict.update.loop» #[[.ref d,.ref it,.int i tk,.none],[]]=(do
  let r <- pyNext (.ref it)
  match r with
  |none=>do Builtin.Dict.addKeywords d [];ret .none
  |some item=>do
   holding [item] (do
    let pair <- (Builtin.Dict.pairItems item).tryCatch λe=>do
     if !(<- isInstance e (.type "TypeError")) then throw e
     rule "dict.update.element-no-sequence"
     raiseError "TypeError" s!"cannot convert dictionary update sequence element #{i} to a sequence"
    match pair with
    |[k,v]=>holding [k,v] (dictSet d k v)
    |l=>do
     rule "dict.update.element-length"
     raiseError "ValueError" s!"dictionary update sequence element #{i} has length {l.length}; 2 is required")
   again (.builtin "dict.update.loop" #[[.ref d,.ref it,rawInt (i+1),.none],[]])):=by
 unfold Builtin.«dict.update.loop»;apply d9 (λf=>pyNext (.ref it) >>= f) (funext λr=>?_);cases r<;>rfl
section
variable{prog:Ad}{w:Af}{K:Type}[DecidableEq K]{knd:PySem.KeyKind prog w K}{A:Ag}
def Ot(knd:PySem.KeyKind prog w K)(h:Heap):aj->List (K × Aa)->Prop:=Paired λv p=>∃a key,v=.ref a/\IsTup h a (List.toArray [key,p.2])/\knd.is p.1 key=true
def hW(kvs:List (K × Aa))(ps:List (K × Aa)):List (K × Aa):=ps.foldl (λacc p=>stored acc p.1 p.2) kvs
theorem fY_(kvs:List (K × Aa))(k:K)(v:Aa):(stored kvs k v).length<=kvs.length+1:=by
 unfold stored;split
 ·simp
 simp
theorem WD{h:Heap}{b it l:Addr}{i:Nat}{ys:Array Aa}(t:IsTup h b ys)(q:h.IsListIter it l i):b≠it:=λz=>by
 let#[o,ho,hc,_]:=t;let#[o2,Bc,CZ,_]:=q;subst z;rw[ho] at Bc;cases Bc;rw[hc] at CZ;exact absurd CZ (by decide)
theorem f1_{h:Heap}{b d:Addr}{ys:Array Aa}{kvs:List (K × Aa)}(t:IsTup h b ys)(q:h.DictOf knd d kvs):b≠d:=λz=>by
 let#[o,ho,hc,_]:=t;let#[o2,es,ep,Bc,CZ,_]:=q;subst z;rw[ho] at Bc;cases Bc;let Jx:=CZ.1;rw[hc] at Jx;exact absurd Jx (by decide)
theorem Wf{h h':Heap}{d:Addr}{kvs:List (K × Aa)}(q:h.DictOf knd d kvs)(k:∀o,h.get? d\o->h'.get? d\o):h'.DictOf knd d kvs:=by
 let#[o,es,ep,ho,r]:=q;exact#[o,es,ep,k _ ho,r]
theorem iB_{it l d a:Addr}{i:Nat}{its:aj}{key x:Aa}{k:K}{kvs:List (K × Aa)}{s:Ab}{R:Result->Ab->Prop}{tk:Tok}(Bm:d≠it)(hi:its.toArray[i]? = some (.ref a))(ht:IsTup s.heap a (List.toArray [key,x]))(hk:knd.is k key=true)
  (hit:s.heap.IsListIter it l i) (hl:s.heap.IsList l its.toArray) (hd:s.heap.DictOf knd d kvs) (hz:kvs.length<=1000)
  (hR:∀h2,h2.DictOf knd d (stored kvs k x)->(∀b o,b≠d->b≠it->s.heap.get? b\o->h2.get? b\o)->h2.IsListIter it l (i+1)->codeAny (model prog w) A (.builtin "dict.update.loop" #[[.ref d,.ref it,rawInt ((i:Int)+1),.none],[]]) R { s with heap:=h2,toks:=s.toks+1 }) :
  codeAny (model prog w) A (.builtin "dict.update.loop" #[[.ref d,.ref it,.int i tk,.none],[]]) R s:=by
 apply codeAny_builtin VL ?_;rw[Around.under_plainId KI _,SM];apply aq (wpAny_pyNext_list_item hit hl hi λh1 Nl MP=>?_);let#[ot,hot,Gs,nt,hdt]:=id ht;have FT:h1.get? a\ot:=MP.extBut _ _ (WD ht hit) hot;apply aq (mQ (aq (wpAny_tryCatch ?_)));unfold Builtin.Dict.pairItems;apply aq (wpAny_typeOf (T:="tuple") #[ot,FT,Gs] ?_);rw[aH (by decide)];unfold seqItems?;apply aq (aq (wpAny_load FT ?_));rw[hdt];apply aU (aU ?_);apply (show wpAny _ _ (holding [key,x] (dictSet d key x)) _ _ _ from mQ (wpAny_dictSet_pairs hk (Wf hd λo q=>MP.extBut _ _ Bm q) (λh2 hd2 A8=>?_) (by have:=b_;omega)));exact aU #[plainId_quiet KI _,hR h2 hd2 (λb o h3 h4 q=>A8.extBut _ _ h3 (MP.extBut _ _ h4 q)) (Nl.extBut A8.extBut (Ne.symm Bm))]
theorem kt_{it l d:Addr}{i:Nat}{its:aj}{kvs:List (K × Aa)}{s:Ab}{R:Result->Ab->Prop}{tk:Tok}(Bm:d≠it)(hh:A.handled=none)(hi:its.toArray[i]? = none)
  (hit:s.heap.IsListIter it l i) (hl:s.heap.IsList l its.toArray) (hd:s.heap.DictOf knd d kvs)
  (hR:∀h',h'.DictOf knd d kvs->(∀b o,b≠it->s.heap.get? b\o->h'.get? b\o)->R (.ok (.ret .none)) { s with heap:=h' }) :
  codeAny (model prog w) A (.builtin "dict.update.loop" #[[.ref d,.ref it,.int i tk,.none],[]]) R s:=by
 apply codeAny_builtin VL ?_;rw[Around.under_plainId KI _,SM];apply aq (wpAny_pyNext_list_end hh hit hl hi λh' he=>?_);exact aq (m:=Builtin.Dict.addKeywords d []) (aU (aU (hR h' (Wf hd λo q=>he _ _ Bm q) λb o hb q=>he b o hb q)))
theorem lC_{it l d:Addr}(hil:l≠it)(Bm:d≠it)(Jw:d≠l)(hh:A.handled=none){its:aj}(rest:aj):∀(ps:List (K × Aa)) (i:Nat) (kvs:List (K × Aa)) (s:Ab) (R:Result->Ab->Prop) (tk:Tok),its.drop i=rest->Ot knd s.heap rest ps->
  s.heap.IsListIter it l i->s.heap.IsList l its.toArray->s.heap.DictOf knd d kvs->kvs.length+ps.length<=1000->
  (∀h' vf,h'.DictOf knd d (hW kvs ps)->(∀b o,b≠d->b≠it->s.heap.get? b\o->h'.get? b\o)->R (.ok (.ret .none)) { s with heap:=h',toks:=vf })->
  codeAny (model prog w) A (.builtin "dict.update.loop" #[[.ref d,.ref it,.int i tk,.none],[]]) R s:=by
 induction rest with
 |nil=>
  intro ps i kvs s R tk e hp hit hl hd hz hR;cases hp
  have hi:its.toArray[i]? = none:=by
   have:=d9 List.length e;simp only[zO,p9] at this;simp;omega
  exact kt_ Bm hh hi hit hl hd λh' gT kp=>hR h' s.toks gT λb o _ hb q=>kp b o hb q
 |cons v rest ih=>
  intro ps i kvs s R tk e hp hit hl hd hz hR;cases hp with
  |@cons _ p _ ps h0 hr=>
  let#[a,key,hv,ht,hk]:=h0;let#[k,x]:=p;subst hv
  have hi:its.toArray[i]? = some (.ref a):=by
   have q:(its.drop i)[0]? = some (.ref a):=by rw[e];rfl
   rw[List.getElem?_drop] at q;simpa using q
  have e':its.drop (i+1)=rest:=by
   rw[<- List.drop_drop,e];rfl
  simp only[ka] at hz;apply iB_ Bm hi ht hk hit hl hd Z1 λh2 hd2 kp wX=>?_;have c1:((i:Int)+1)=((i+1:Nat):Int):=by omega
  rw[c1];apply ih ps (i+1) (stored kvs k x) _ R 0 e' (L2.Paired.bN hr λv p ⟨b,ky,e1,t1,k1⟩=>#[b,ky,e1,?_,k1]) wX (hl.at λo q=>kp _ _ (Ne.symm Jw) hil q) hd2 (by have:=fY_ kvs k x;omega) λh' vf gT kp'=>hR h' vf gT λb o h3 h4 q=>kp' b o h3 h4 (kp b o h3 h4 q);let#[o,ho,r]:=id t1;exact#[o,kp _ _ (f1_ t1 hd) (WD t1 hit) ho,r]
theorem eb_{E:Aa->Ab->Prop}{s:Ab}{l:Addr}{its:aj}{n:Nat}{ps:List (K × Aa)}{Q:Aa->Ab->Prop}(hh:A.handled=none)(ho:s.heap.get? l\seqObj "list" its.toArray n)(hp:Ot knd s.heap its ps)(hz:ps.length<=1000)
  (h:∀h' vf,h'.DictOf knd s.heap.objs.size (hW [] ps)->(∀b o,s.heap.get? b\o->h'.get? b\o)->Q (.ref s.heap.objs.size) { s with heap:=h',toks:=vf }) :
  wpAny (model prog w) A (call (.type "dict") [.ref l]) Q E s:=by
 apply callType_codes (Q₁:=λobj aZ=>obj=.ref s.heap.objs.size/\aZ={ s with heap:=s.heap.push { cls:=.type "dict",data:=.dict #[] } }) F.kt_called_dict (F.kt_typeCall_dict_1 _) F.entry_dict_init (kt_code_dict_new _ #[Z,Z]) ?_;rintro obj aZ ⟨rfl,rfl⟩;have ub:(s.heap.push { cls:=.type "dict",data:=.dict #[] }).DictOf knd s.heap.objs.size []:=Heap.DictOf.new s.heap;have gH:(s.heap.push { cls:=.type "dict",data:=.dict #[] }).get? l\seqObj "list" its.toArray n:=cj _ ho;apply#[ub.typeIs,F.args_dict_init_2 _ _,?_];unfold Builtin.«dict.__init__» Builtin.Dict.selfAndRest;apply aq (aq (wpAny_notOrdered_dict ub.typeIs ?_));apply (show wpAny _ _ (pure (s.heap.objs.size,[Value.ref l])) _ _ _ from aU ?_);apply (show wpAny _ _ (Builtin.Dict.updateFrom "dict.__init__" s.heap.objs.size (.ref l) [] .none) _ _ _ from ?_);unfold Builtin.Dict.updateFrom;apply aq (wpAny_typeOf (T:="list") #[_,gH,Z] ?_);rw[aH (by decide)];apply aq (AV gH hh λh2 tk2 k2=>?_);simp only[Option.isNone_none,if_true];have jW:h2.get? l\seqObj "list" its.toArray n:=k2 _ _ gH;apply aq (wpAny_rule (aq (wpAny_pyIter_list #[_,jW,Z,_,Z] ?_)));apply aU #[plainId_quiet KI _,?_];have all:∀{b o},s.heap.get? b\o->(h2.push { cls:=.type "list_iterator",data:=.fields (List.toArray [.ref l,.int 0 0]) }).get? b\o:=λq=>cj _ (k2 _ _ (cj _ q))
 have hd2:h2.DictOf knd s.heap.objs.size []:=by
  let#[o,es,ep,ho,r]:=ub;exact#[o,es,ep,k2 _ _ ho,r]
 have Lu:s.heap.objs.size<h2.objs.size:=by
  let#[o,es,ep,ho,r]:=hd2;exact cy ho
 have lz:l<s.heap.objs.size:=cy ho
 apply lC_ (A:=A.in1) (knd:=knd) (its:=its) (it:=h2.objs.size) (l:=l) (d:=s.heap.objs.size) (dZ (Nat.lt_trans lz Lu)) (dZ Lu) (vN lz) hh its ps 0 [] _ _ 0 Z (L2.Paired.bN hp λv p ⟨b,ky,e1,t1,k1⟩=>#[b,ky,e1,t1.keeps λb o q=>all q,k1])
  #[_,eh _ Z,Z,Z] #[_,cj _ jW,Z,_,Z] (by
   let#[o,es,ep,ho,r]:=hd2;exact#[o,es,ep,cj _ ho,r]) ⇑hz λh' vf gT kp=>#[Z,h h' vf gT λb o q=>?_]
 have bl:b<s.heap.objs.size:=cy q;exact kp b o (dZ bl) (dZ (Nat.lt_trans bl Lu)) (all q)
end
end di
theorem zl{n:Nat}(h:decide (n<=16777216)=true:=by rfl):n<=PySem.sizeLine:=by
 rw[PySem.sizeLine_eq];exact vy h
namespace L2
open PySem PySem.Spec PyProof.Rows PySem.W jE di
theorem bG.same{K:af}{H H':Hp}{ys:ag}{ks:List ay}(t:bG K H ys ks)(e:aa H H'):bG K H' ys ks:=Paired.bN t λy k ⟨a,z,q⟩=>#[a,z,e _ _ q]
theorem aa.new{H:Hp}{l:Addr}{o:HO}(h:H l=none):aa H (upd H l o):=λb u e=>by rw[aD (bE e h)];exact e
section
variable{X:Cx}{pins:List (Addr × Obj)}{σ:St}{H H':Hp}{s:Ab}{h':Heap}{t':Nat}
theorem Inv.many(I:Inv X pins σ H s)(k:∀b o,s.heap.get? b\o->h'.get? b\o)(hold:aa H H')(ub:∀b,H b=none->b<s.heap.objs.size->H' b=none)
  (MX:∀b o,H' b\o->H b=none->∃xs its,o=.tup xs/\xs.length<=sizeLine/\Vals xs its/\IsTup h' b its.toArray/\∃o,h'.get? b\o/\o.dict=none):Inv X pins σ H' { s with heap:=h',toks:=t' }:=by
 apply I.un #[λb o q _ _ _=>k b o q,λb o q _ _ _=>#[o.slots,k b o q],λb o q n _=>ub b n (cy q),λb o q _=>#[o,k b o q],λb xs q=>hold b _ q,λb o u q=>hold b _ q,λb ps q=>#[#[],by rw[Array.append_empty];exact hold b _ q]] λb o q=>?_;cases e:H b with
 |some u=>
  let e2:=hold b u e;rw[q] at e2;cases e2;exact (I.aI b o e).d5 (λc v _ z=>k c v z) (λc z=>hold c _ z) λc xs z=>hold c _ z
 |none=>
  let#[xs,its,rfl,z,r,t]:=MX b o q e;exact#[z,its,r,t]
end
section
variable{X:Cx}{pins:List (Addr × Obj)}{σ:St}{H:Hp}{s:Ab}{A:Ag}{E:Aa->Ab->Prop}
theorem i7_{p:Addr}{ys:ag}{R:aj->Ab->Prop}(I:Inv X pins σ H s)(h:dM X.K H p ys)(hz:ys.length<=100000)(q:∀vs s1,Inv X pins σ H s1->Vals ys vs->R vs s1):wpAny (model X.prog X.w) A (collect (.ref p)) R E s:=by
 let#[its,r,pl,_]:=I.list h;let hl:=r.length;apply collect_list pl.isList (q its _ ?_ r) (by have:=b_;omega);apply I.kept (t':=s.toks) λb u e=>?_;have lt:b<s.heap.objs.size:=cy e;rw[Heap.get?_update_ne _ _ _ _ (dZ lt)];exact cj _ e
theorem KL{P:Nat->Aa->Prop}{acc:Array Aa}{ys:ag}(h:ItemsOf P acc ys.length)(hp:∀(j:Nat) v,P j v->∀y,ys[j]? = some y->RelV y v):Vals ys acc.toList:=by
 have gen:∀(ys:ag) (vs:aj),ys.length=vs.length->(∀(j:Nat) y v,ys[j]? = some y->vs[j]? = some v->RelV y v)->Vals ys vs:=λys=>by
  induction ys with
  |nil=>
   intro vs hl _;cases vs with
   |nil=>exact .nil
   |cons _ _=>cases hl
  |cons y ys ih=>
   intro vs hl h;cases vs with
   |nil=>cases hl
   |cons v vs=>exact .cons (h 0 y v Z Z) (ih vs ⇑hl λj y v a b=>h (j+1) y v ⇑a ⇑b)
 apply gen ys acc.toList (by rw[qJ];exact h.1.symm) λj y v a b=>hp j v (h.2 j v ?_) y a;rw[<- Array.getElem?_toList];exact b
theorem SF{d:Addr}{kvs:List (Key × V)}(I:Inv X pins σ H s)(h:Rd H d (.dK kvs)):∃(P:Nat->Aa->Prop) (OK:Heap->Prop),KdlSrc X.prog X.w "dict" d d (kvs.map λkv=>kV kv.1).length P OK/\OK s.heap/\∀(j:Nat) v,P j v->∀y,(kvs.map λkv=>kV kv.1)[j]? = some y->RelV y v:=by
 let#[z,hd,vs,rel,dd]:=mT I.aI h;let#[ep,dat]:=dd.dictAt;let hl:=rel.length;apply#[λi v=>∃k x,vs[i]? = some (k,x)/\(eB X.prog X.w).is k v=true,λh=>h.DictAt (eB X.prog X.w) d vs ep,(by rw[aA,hl];exact kdl_dict (knd:=eB X.prog X.w) (kvs:=vs) (ep:=ep) hd),dat,λj v ⟨k,x,e,hk⟩ y hy=>?_];rw[dS] at hy;have ek:kvs.map (·.1)=vs.map (·.1):=rel.keys;have e2:(kvs.map (·.1))[j]? = (vs.map (·.1))[j]?:=by rw[ek]
 rw[dS,dS,e] at e2;cases e3:kvs[j]? with
 |none=>rw[e3] at e2;cases e2
 |some kv=>
  rw[e3] at e2 hy;have e4:kv.1=k:=dY e2;have e5:kV kv.1=y:=dY hy;rw[<- e5,e4];have hk:xp k v=true:=hk;rcases qI hk with⟨i,t,rfl,rfl⟩|⟨x,t,rfl,rfl⟩
  ·exact#[t,Z]
  exact#[t,Z]
theorem SN{d:Addr}{kvs:List (Key × V)}{R:aj->Ab->Prop}(hh:A.handled=none)(I:Inv X pins σ H s)(h:Rd H d (.dK kvs))(q:∀vs s1,Inv X pins σ H s1->Vals (kvs.map λkv=>kV kv.1) vs->R vs s1):wpAny (model X.prog X.w) A (collect (.ref d)) R E s:=by
 let#[P,OK,S,ok,hp]:=SF I h;apply kdu_collect S hh ok ?_ λh' tk acc k a=>q _ _ (I.kept k) (KL a hp);rw[aA];exact (mT I.aI h).1
theorem _U{d:Addr}{kvs:List (ay × V)}(I:Inv X pins σ H s)(h:Rd H d (.dT kvs)):∃(ys:ag) (P:Nat->Aa->Prop) (OK:Heap->Prop),bG X.K H ys (kvs.map (·.1))/\ys.length<=sizeLine/\KdlSrc X.prog X.w "dict" d d ys.length P OK/\OK s.heap/\∀(j:Nat) v,P j v->∀y,ys[j]? = some y->RelV y v:=by
 let#[z,hd,xs,rel,o,es,ep,ho,hc,xb,Bl,nd]:=h.ok I.aI
 have l1:es.size=xs.length:=by
  have:=d9 List.length Bl;simpa using this
 let l2:=bK rel;apply#[xs.map λx=>V.ref x.2.1,λi v=>∃h:i<es.size,v=es[i].key,λh=>Raw h d es ep,?_,by rw[aA];omega,(by rw[aA,<- l1];exact k2_ (es:=es) (ep:=ep) hd),#[o,ho,hc,xb],λj v ⟨hj,e⟩ y hy=>?_]
 ·have gen:∀{kvs:List (ay × V)} {xs:List (ay × Addr × Aa)},KT H kvs xs->bG X.K H (xs.map λx=>V.ref x.2.1) (kvs.map (·.1)):=λ{kvs xs} r=>by
   induction r with
   |nil=>exact .nil
   |cons h _ ih=>exact .cons #[_,Z,h.2.1] ih
  exact gen rel
 rw[dS] at hy;have hx:j<xs.length:=by omega
 rw[cw hx] at hy;have e1:V.ref xs[j].2.1=y:=dY hy
 have e2:es[j]=entryOfKey (tupleKind (eB X.prog X.w)) xs[j]:=by
  have e3:es.toList[j]? = (xs.map (entryOfKey (tupleKind (eB X.prog X.w))))[j]?:=by rw[Bl]
  rw[dS,cw hx,Array.getElem?_toList,Array.getElem?_eq_getElem hj] at e3;exact dY e3
 rw[<- e1,e,e2];rfl
theorem _S{d:Addr}{kvs:List (ay × V)}{R:aj->Ab->Prop}(hh:A.handled=none)(I:Inv X pins σ H s)(h:Rd H d (.dT kvs))(q:∀ys vs s1,Inv X pins σ H s1->Vals ys vs->bG X.K H ys (kvs.map (·.1))->R vs s1):wpAny (model X.prog X.w) A (collect (.ref d)) R E s:=by
 let#[ys,P,OK,t,z,S,ok,hp]:=_U I h;exact kdu_collect S hh ok z λh' tk acc k a=>q ys _ _ (I.kept k) (KL a hp) t
def pZ(v d:Addr):HO:=.ext λh=>h.IsItemsView v d
def vz(v d:Addr):HO:=.ext λh=>h.IsValuesView v d
def oW(K:af)(H:Hp):ag->List (Key × V)->Prop:=Paired λy p=>∃a,y=V.ref a/\H a\.tup [kV p.1,p.2]
theorem hm_{v d:Addr}{kvs:List (Key × V)}{R:aj->Ab->Prop}(hh:A.handled=none)(I:Inv X pins σ H s)(hv:H v\pZ v d)(h:Rd H d (.dK kvs))(q:∀H1 ys vs s1,Inv X pins σ H1 s1->aa H H1->Vals ys vs->oW X.K H1 ys kvs->R vs s1) :
  wpAny (model X.prog X.w) A (collect (.ref v)) R E s:=by
 let#[z,hd,vs,rel,dd]:=mT I.aI h;let#[ep,dat]:=dd.dictAt;let#[iv,_,_]:=I.aI v _ hv;let hl:=rel.length;apply kdx_collect (knd:=eB X.prog X.w) (kvs:=vs) (ep:=ep) hh iv dat Z1 λh' tk as k la G=>?_;have up:∀b,b∈as->s.heap.objs.size<b:=G.above
 have zN:∀(j:Nat) b p,as[j]? = some b->kvs[j]? = some p->∃its,Vals [kV p.1,p.2] its/\IsTup h' b its.toArray/\∃o,h'.get? b\o/\o.dict=none:=λj b p hj hp=>by
  let#[key,kk,x,e1,e2,e3]:=G.pairs j b hj
  have gen:∀{kvs:List (Key × V)} {vs:List (Key × Aa)},KV kvs vs->∀(j:Nat),vs[j]? = some (kk,x)->kvs[j]? = some p->p.1=kk/\RelV p.2 x:=λ{kvs vs} r=>by
   induction r with
   |nil=>intro j e;simp at e
   |@cons p' q _ _ h _ ih=>
    intro j e e';cases j with
    |zero=>
     have e:q=(kk,x):=⇑e
     have e':p'=p:=⇑e'
     subst e';rw[e] at h;exact h
    |succ j=>exact ih j ⇑e ⇑e'
  let#[g1,g2]:=gen rel j e1 hp;apply#[[key,x],.cons ?_ (.cons g2 .nil),#[_,e3,Z,_,Z],_,e3,Z];rw[g1];have e2:xp kk key=true:=e2;rcases qI e2 with⟨i,t,rfl,rfl⟩|⟨x,t,rfl,rfl⟩
  ·exact#[t,Z]
  exact#[t,Z]
 have look:∀{as:ai} {kvs:List (Key × V)},as.Pairwise (· < ·)->∀(j:Nat) b p,as[j]? = some b->kvs[j]? = some p->(as.zip kvs).lookup b\p:=λ{as}=>by
  induction as with
  |nil=>intro kvs _ j b p e;simp at e
  |cons a as ih=>
   intro kvs pw j b p e e';cases kvs with
   |nil=>simp at e'
   |cons q kvs=>
    let#[p1,p2]:=List.pairwise_cons.mp pw;show ((a,q)::as.zip kvs).lookup b\p;cases j with
    |zero=>
     have e:a=b:=⇑e
     have e':q=p:=⇑e'
     subst e;subst e';rw[List.lookup_cons_self]
    |succ j=>
     have e:as[j]? = some b:=⇑e
     have e':kvs[j]? = some p:=⇑e'
     let lt:=p1 b (dI e);rw[uO,show (b == a)=false by simp only[beq_eq_false_iff_ne];exact vN lt];exact ih p2 j b p e e'
 have lk:as.length=kvs.length:=by omega
 let H1:Hp:=λb=>if b∈as then ((as.zip kvs).lookup b).map λp=>HO.tup [kV p.1,p.2] else H b
 have Gz:∀(j:Nat) b p,as[j]? = some b->kvs[j]? = some p->H1 b\.tup [kV p.1,p.2]:=λj b p e e'=>by
  show (if b∈as then _ else _)=_;rw[aH (dI e),look G.rise j b p e e'];rfl
 have oR:∀b,b∉as->H1 b=H b:=λb hb=>aB hb;have old:∀b,b<s.heap.objs.size->b∉as:=λb hb m=>absurd (up b m) Z1;apply q H1 (as.map V.ref) _ _ (I.many (t':=tk) k (λb o e=>by rw[oR b (old b (I.aI.lt e))];exact e) (λb e hb=>by rw[oR b (old b hb)];exact e) λb o e e0=>?_) (λb o e=>by rw[oR b (old b (I.aI.lt e))];exact e) ?_ ?_
 ·by_cases m:b∈as
  ·let#[j,hj]:=List.mem_iff_getElem?.mp m
   have jl:j<kvs.length:=by
    have:=(cU.mp hj).1;omega
   let e':=Gz j b kvs[j] hj (cw jl);rw[e] at e';cases e';let#[its,r,t]:=zN j b _ hj (cw jl);exact#[_,its,Z,zl,r,t]
  rw[oR b m,e0] at e;cases e
 ·have gen:∀as:ai,Vals (as.map V.ref) (as.map Value.ref):=λas=>by
   induction as with
   |nil=>exact .nil
   |cons a as ih=>exact .cons Z ih
  exact gen as
 have gen:∀(DQ:ai) (fL:List (Key × V)),DQ.length=fL.length->(∀(j:Nat) b p,DQ[j]? = some b->fL[j]? = some p->H1 b\.tup [kV p.1,p.2])->oW X.K H1 (DQ.map V.ref) fL:=λDQ=>by
  induction DQ with
  |nil=>
   intro fL hl _;cases fL with
   |nil=>exact .nil
   |cons _ _=>cases hl
  |cons a DQ ih=>
   intro fL hl h;cases fL with
   |nil=>cases hl
   |cons p fL=>exact .cons #[a,Z,h 0 a p Z Z] (ih fL ⇑hl λj b p e e'=>h (j+1) b p ⇑e ⇑e')
 exact gen as kvs lk Gz
end
end L2
namespace L2
open PySem PySem.Spec PyProof.Rows PySem.W jE di
theorem j9_{a b:ae}(h:a.map dH=b.map dH):a=b:=by
 induction a generalizing b with
 |nil=>
  cases b with
  |nil=>rfl
  |cons _ _=>cases h
 |cons x a ih=>
  cases b with
  |nil=>cases h
  |cons y b=>
   let#[h1,h2]:=List.cons.inj h;have h1:[(Sum.inr x:Key)]=[Sum.inr y]:=h1;cases h1;rw[ih h2]
theorem Wb(ss:ae):(mY ss).map dH=aX (ss.map dH):=by
 have all:∀k∈aX (ss.map dH),∃x,k=dH x:=λk hk=>by
  let#[x,_,e]:=bJ.mp ((k7 _).mem_iff.mp hk);exact#[x,e.symm]
 have gen:∀l:List ay,(∀k∈l,∃x,k=dH x)->(l.map λk=>match k with | [.inr x]=>x|_=>(⟨#[]⟩:Str)).map dH=l:=λl=>by
  induction l with
  |nil=>exact λ_=>rfl
  |cons k l ih=>
   intro h;let#[x,rfl]:=h k fQ;rw[eD,eD,ih λk hk=>h k (fb _ hk)];rfl
 exact gen _ all
theorem zL(ss:ae):(mY ss).Perm ss:=by
 have p:((mY ss).map dH).Perm (ss.map dH):=by rw[Wb];exact k7 _
 have back:∀l:ae,(l.map dH).map (λk=>match k with | [.inr x]=>x|_=>(⟨#[]⟩:Str))=l:=λl=>by
  rw[cu]
  induction l with
  |nil=>rfl
  |cons x l ih=>rw[eD,ih];rfl
 let q:=p.map (λk=>match k with | [.inr x]=>x|_=>(⟨#[]⟩:Str));rwa [back,back] at q
section
variable{X:Cx}{pins:List (Addr × Obj)}{σ:St}{H:Hp}{s:Ab}
theorem dY_{u:Aa}{ss:ae}{Q:VK}(bR:ss.length<64)(mN:wpAny (model X.prog X.w) X.A.in1 (collect u) (λvs s1=>∃H1,Inv X pins σ H1 s1/\Vals (ss.map V.str) vs/\∀l,H1 l=none->Q (.ref l) (upd H1 l (.lst ((mY ss).map V.str)))) X.xe s) :
  wpAny (model X.prog X.w) X.A (call (.builtin "sorted") [u]) (EP X pins σ Q) X.xe s:=by
 apply VR (Po (ss.map dH)) (aV mN λvs s1 ⟨H1,I1,r,q⟩=>?_);have hl:vs.length=ss.length:=by rw[<- r.length,aA]
 apply#[by omega,λh2 h' _=>gt_ (Uu r) h2,λp h' e g up hD kp=>?_];have g':Good (ss.map dH).length p:=by rw[aA,<- hl];exact g
 let asc:=OL (ks:=ss.map dH) (λi j _ _=>rfl) g' (by rw[aA,<- hl];exact up)
 have perm:(p.toList.map λi=>(ss.map dH).getD i []).Perm (ss.map dH):=by
  have:=HZ g' λi=>(ss.map dH).getD i [];rwa [Ij] at this
 let es:=Qw perm asc
 have inr:∀i∈p.toList,i<ss.length:=λi hi=>by
  have m:i∈(List.range vs.length).toArray:=g.mem_iff.mp ⇑hi;rw[hl] at m;simpa using m
 have e1:(p.toList.map λi=>ss.getD i ⟨#[]⟩)=mY ss:=by
  apply j9_ ?_;rw[Wb,<- es,cu];apply uP λi hi=>?_;have:=inr i hi;simp[this]
 let rv:=Pr r g
 have e2:(p.toList.map λi=>(ss.map V.str).getD i .non)=(mY ss).map V.str:=by
  rw[<- e1,cu];apply uP λi hi=>?_;have:=inr i hi;simp[this]
 rw[e2] at rv;apply#[.ref s1.heap.objs.size,_,I1.laid (t':=s1.toks) kp (bj _) (show eC X.prog X.w _ h' _ (.lst ((mY ss).map V.str)) from #[?_,nu p vs,e,rv,hD]),Z,q _ (I1.aI.fresh (bj _))];rw[aA,(zL ss).length_eq];have:=b_;omega
theorem iA_{K:af}{H:Hp}{ys:ag}{ks:List ay}(t:bG K H ys ks):∀l:List Nat,(∀i∈l,i<ys.length)->bG K H (l.map λi=>ys.getD i .non) (l.map λi=>ks.getD i []):=λl=>by
 induction l with
 |nil=>exact λ_=>.nil
 |cons i l ih=>
  intro h;apply .cons ?_ (ih λj hj=>h j (fb _ hj));let hi:=h i fQ
  have gen:∀{ys:ag} {ks:List ay} (i:Nat),i<ys.length->bG K H ys ks->∃a,ys.getD i .non=V.ref a/\H a\.tup ((ks.getD i []).map kV):=λ{ys ks} i hy t=>by
   induction t generalizing i with
   |nil=>exact absurd hy Z2
   |cons h t ih=>
    cases i with
    |zero=>exact h
    |succ i=>exact ih i ⇑hy
  exact gen i hi t
theorem WE{u:Aa}{ks:List ay}{sh:List Bool}{Q:VK}(bR:ks.length<64)(al:BI ks sh)
  (mN:wpAny (model X.prog X.w) X.A.in1 (collect u) (λvs s1=>∃H1 ys,Inv X pins σ H1 s1/\Vals ys vs/\bG X.K H1 ys ks/\∀l zs,H1 l=none->bG X.K H1 zs (aX ks)->zs.Perm ys->Q (.ref l) (upd H1 l (.lst zs))) X.xe s) :
  wpAny (model X.prog X.w) X.A (call (.builtin "sorted") [u]) (EP X pins σ Q) X.xe s:=by
 apply VR (Po ks) (aV mN λvs s1 ⟨H1,ys,I1,r,t,q⟩=>?_);let l1:=r.length;let l2:=bK t;have hl:vs.length=ks.length:=by omega
 apply#[by omega,λh2 h' k=>U8 I1 r t al h2 k,λp h' e g up hD kp=>?_];have g':Good ks.length p:=by rw[<- hl];exact g
 let asc:=OL (ks:=ks) (λi j _ _=>rfl) g' (by rw[<- hl];exact up)
 have perm:(p.toList.map λi=>ks.getD i []).Perm ks:=by
  have:=HZ g' λi=>ks.getD i [];rwa [Ij] at this
 let es:=Qw perm asc
 have inr:∀i∈p.toList,i<ys.length:=λi hi=>by
  have m:i∈(List.range vs.length).toArray:=g.mem_iff.mp ⇑hi;rw[<- l1] at m;simpa using m
 let tz:=iA_ t p.toList inr;rw[es] at tz;let rv:=Pr r g
 have pz:(p.toList.map λi=>ys.getD i .non).Perm ys:=by
  have:=HZ (n:=ys.length) (by rw[l1];exact g) λi=>ys.getD i .non;rwa [Ij] at this
 apply#[.ref s1.heap.objs.size,_,I1.laid (t':=s1.toks) kp (bj _) (show eC X.prog X.w _ h' _ (.lst (p.toList.map λi=>ys.getD i .non)) from #[?_,nu p vs,e,rv,hD]),Z,q _ _ (I1.aI.fresh (bj _)) tz pz];rw[pz.length_eq];have:=b_;omega
end
section
variable{X:Cx}
inductive oz (K:af) (xs:ag) (H:Hp) (Q:VK):Prop
 |mk:∀d kvs sh,xs=[.ref d]->H d\.dT kvs->BI (kvs.map (·.1)) sh->kvs.length<64->(∀l zs,H l=none->bG K H zs (aX (kvs.map (·.1)))->Q (.ref l) (upd H l (.lst zs)))->oz K xs H Q
theorem eV_(hc:X.calm=true):gB X (.builtin "sorted") (oz X.K):=by
 intro pins s σ H xs us Q I r h;let#[d,kvs,sh,rfl,hd,al,bR,q]:=h;let#[u,rfl,ru]:=vals1 r;cases ru;exact WE (by rw[aA];exact bR) al (_S (I.ok.hd hc) I (.inl hd) λys vs s1 I1 r1 t=>⟨H,ys,I1,r1,t,λl zs n t' _=>q l zs n t'⟩)
inductive oA (xs:ag) (H:Hp) (Q:VK):Prop
 |mk:∀d kvs ss,xs=[.ref d]->H d\.dK kvs->kvs.map (·.1)=ss.map Sum.inr->ss.length<64->(∀l,H l=none->Q (.ref l) (upd H l (.lst ((mY ss).map V.str))))->oA xs H Q
theorem eD_(hc:X.calm=true):gB X (.builtin "sorted") oA:=by
 intro pins s σ H xs us Q I r h;let#[d,kvs,ss,rfl,hd,ek,bR,q]:=h;let#[u,rfl,ru]:=vals1 r;cases ru;apply dY_ bR (SN (I.ok.hd hc) I (.inl hd) λvs s1 I1 r1=>⟨H,I1,?_,q⟩)
 have e:(kvs.map λkv=>kV kv.1)=ss.map V.str:=by
  rw[show (kvs.map λkv=>kV kv.1)=(kvs.map (·.1)).map kV by rw[cu];rfl,ek,cu];rfl
 rwa [e] at r1
inductive tw (K:af) (xs:ag) (H:Hp) (Q:VK):Prop
 |mk:∀(v d:Addr) (kvs:List (Key × V)) (ks:List (Key × Key)) (sh:List Bool),xs=[.ref v]->H v\pZ v d->H d\.dK kvs->kvs=ks.map (λk:Key × Key=>(k.1,kV k.2))->BI (ks.map λk=>[k.1,k.2]) sh->ks.length<64->(∀l H1 zs,aa H H1->H1 l=none->bG K H1 zs (aX (ks.map λk=>[k.1,k.2]))->Q (.ref l) (upd H1 l (.lst zs)))->tw K xs H Q
theorem gj_(hc:X.calm=true):gB X (.builtin "sorted") (tw X.K):=by
 intro pins s σ H xs us Q I r h;let#[v,d,kvs,ks,sh,rfl,hv,hd,ek,al,bR,q]:=h;let#[u,rfl,ru]:=vals1 r;cases ru;apply WE (by rw[aA];exact bR) al (hm_ (I.ok.hd hc) I hv (.inl hd) λH1 ys vs s1 I1 sm r1 t=>⟨H1,ys,I1,r1,?_,λl zs n t' _=>q l H1 zs sm n t'⟩);subst ek
 have gen:∀(ks:List (Key × Key)) (ys:ag),oW X.K H1 ys (ks.map (λk:Key × Key=>(k.1,kV k.2)))->bG X.K H1 ys (ks.map λk=>[k.1,k.2]):=λks=>by
  induction ks with
  |nil=>
   intro ys t;cases t;exact .nil
  |cons k ks ih=>
   intro ys t;cases t with
   |cons h t=>exact .cons h (ih _ t)
 exact gen ks ys t
inductive tE (xs:ag) (H:Hp) (Q:VK):Prop
 |mk:∀d kvs,xs=[.ref d]->Rd H d (.dK kvs)->(∀l,H l=none->Q (.ref l) (upd H l (.lst (kvs.map λkv=>kV kv.1))))->tE xs H Q
theorem PZ(hc:X.calm=true):gB X (.type "list") tE:=by
 intro pins s σ H xs us Q I r h;let#[d,kvs,rfl,hd,q]:=h;let#[u,rfl,ru]:=vals1 r;cases ru;let#[P,OK,S,ok,hp]:=SF I hd;let z:=(mT I.aI hd).1;apply kdl_call S (I.ok.hd hc) ok (by rw[aA];exact z) λh' tk acc c k hD a=>?_;apply#[.ref s.heap.objs.size,_,I.laid (t':=tk) k (bj _) (show eC X.prog X.w _ h' _ (.lst (kvs.map λkv=>kV kv.1)) from #[by rw[aA];exact z,acc.toList,c,KL a hp,by rw[Array.toArray_toList];exact hD]),Z,q _ I.fresh]
theorem KV.hW{κ:Type}[DecidableEq κ]:∀{more:List (κ × V)} {rs:List (κ × Aa)} {kvs:List (κ × V)} {vs:List (κ × Aa)},KV more rs->KV kvs vs->KV (more.foldl (λacc kv=>putK acc kv.1 kv.2) kvs) (di.hW vs rs):=λ{more rs kvs vs} h=>by
 induction h generalizing kvs vs with
 |nil=>exact λh=>h
 |@cons p q _ _ h _ ih=>
  intro h2;let#[k,y]:=p;let#[k',u]:=q;let#[h1,h3]:=h;have h1:k=k':=h1;subst h1;exact ih (h2.put k h3)
inductive oC (K:af) (xs:ag) (H:Hp) (Q:VK):Prop
 |mk:∀p ys kvs,xs=[.ref p]->H p\.lst ys->oW K H ys kvs->kvs.length<=1000->(∀l,H l=none->Q (.ref l) (upd H l (.dK (p6 [] kvs))))->oC K xs H Q
theorem DK(hc:X.calm=true):gB X (.type "dict") (oC X.K):=by
 intro pins s σ H xs us Q I r h;let#[p,ys,kvs,rfl,hp,t,hz,q]:=h;let#[u,rfl,ru]:=vals1 r;cases ru;let#[z,its,n,rv,hl,ho]:=I.mI hp
 have gen:∀{ys:ag} {its:aj} {kvs:List (Key × V)},Vals ys its->oW X.K H ys kvs->∃ps,KV kvs ps/\Ot (eB X.prog X.w) s.heap its ps:=λ{ys its kvs} rv t=>by
  induction t generalizing its with
  |nil=>
   cases rv;exact#[[],.nil,.nil]
  |@cons y p ys kvs h t ih=>
   cases rv with
   |cons r0 rv=>
    let#[ps,h1,h2]:=ih rv;let#[a,e,sq]:=h;subst e;cases r0;let#[tv,rt,it,_]:=I.tuple (gL.of sq);let#[key,x,e2,rk,rx]:=vals2 rt;subst e2;apply#[(p.1,x)::ps,Paired.cons (show p.1=p.1/\RelV p.2 x from #[Z,rx]) h1,Paired.cons (show ∃a' Fs,Value.ref a=.ref a'/\IsTup s.heap a' (List.toArray [Fs,x])/\(eB X.prog X.w).is p.1 Fs=true from #[a,key,Z,it,vw rk]) h2]
 let#[ps,h1,h2]:=gen rv t;let lp:=KV.length h1;apply eb_ (knd:=eB X.prog X.w) (I.ok.hd hc) ho h2 Z1 λh' tk hd kp=>?_;apply#[.ref s.heap.objs.size,_,I.laid (t':=tk) kp (bj _) (JH ?_ (beq_eq_false_iff_ne.mpr (Ne.symm (dZ I.big))) (KV.hW h1 .nil) hd),Z,q _ I.fresh];have:=QM kvs [];have:=b_;simp only[p9] at *;show (p6 [] kvs).length<=sizeLine;omega
theorem Pj:∀{bs:List Bool} {vs:aj},Vals (bs.map V.bl) vs->vs=bs.map Value.bool
 |[],_,.nil=>rfl
 |b::bs,_,.cons h t=>by
  cases h;rw[Pj t];rfl
inductive AN (K:af) (g:List Bool->Bool) (xs:ag) (H:Hp) (Q:VK):Prop
 |mk:∀p bs,xs=[.ref p]->dM K H p (bs.map V.bl)->Q (.bl (g bs)) H->AN K g xs H Q
theorem UN(hc:X.calm=true):gB X (.builtin "all") (AN X.K λbs=>bs.all id):=by
 intro pins s σ H xs us Q I r h;let#[p,bs,rfl,hp,q]:=h;let#[u,rfl,ru]:=vals1 r;cases ru;let#[its,rv,pl,z]:=I.list hp;obtain rfl:=Pj rv;let hl:=pl.isList;have lt:p<s.heap.objs.size:=by let#[_,e,_]:=hl;exact cy e
 apply call_all_walk (wpAny_pyIter_list hl ⟨s.heap.objs.size,[s.heap.objs.size,p],[s.heap.objs.size],(bs.map Value.bool).toArray.size,_,_,λi=>(bs[i]?).getD true,rfl,Walks.list (A:=X.A.in1) (I.ok.hd hc) _ p (dZ lt) _,⟨⟨_,eh _ rfl,rfl,rfl⟩,hl.push _⟩,λi v s' Q' E' hP hQ=>?_,λh' tk hk=>?_⟩)
 ·have hP:(bs.map Value.bool).toArray[i]? = some v:=hP;simp only[List.getElem?_toArray,dS] at hP;cases e:bs[i]? with
  |none=>rw[e] at hP;cases hP
  |some b=>
   have hQ:Q' ((bs[i]?).getD true) s':=hQ;rw[e] at hP hQ;cases hP;exact qw hQ
 have e:((List.range (bs.map Value.bool).toArray.size).all λi=>(bs[i]?).getD true)=bs.all id:=by
  rw[cg,aA];exact LSm.range_all bs
 rw[e];exact#[.bl _,H,I.kept (LSm.kept_iter hk),Z,q]
theorem ih_(hc:X.calm=true):gB X (.builtin "any") (AN X.K λbs=>bs.any id):=by
 intro pins s σ H xs us Q I r h;let#[p,bs,rfl,hp,q]:=h;let#[u,rfl,ru]:=vals1 r;cases ru;let#[its,rv,pl,z]:=I.list hp;obtain rfl:=Pj rv;let hl:=pl.isList;have lt:p<s.heap.objs.size:=by let#[_,e,_]:=hl;exact cy e
 apply call_any_walk (wpAny_pyIter_list hl #[s.heap.objs.size,[s.heap.objs.size,p],[s.heap.objs.size],(bs.map Value.bool).toArray.size,_,_,λi=>(bs[i]?).getD false,Z,Walks.list (A:=X.A.in1) (I.ok.hd hc) _ p (dZ lt) _,#[#[_,eh _ Z,Z,Z],hl.push _],λi v s' Q' E' hP hQ=>?_,λh' tk hk=>?_])
 ·have hP:(bs.map Value.bool).toArray[i]? = some v:=hP;simp only[List.getElem?_toArray,dS] at hP;cases e:bs[i]? with
  |none=>rw[e] at hP;cases hP
  |some b=>
   have hQ:Q' ((bs[i]?).getD false) s':=hQ;rw[e] at hP hQ;cases hP;exact qw hQ
 have e:((List.range (bs.map Value.bool).toArray.size).any λi=>(bs[i]?).getD false)=bs.any id:=by
  rw[cg,aA];exact LSm.range_any bs
 rw[e];exact#[.bl _,H,I.kept (LSm.kept_iter hk),Z,q]
theorem SZ:∀{ns:List Int} {vs:aj},Vals (ns.map V.int) vs->IntsAre vs ns
 |[],_,.nil=>.nil
 |n::ns,_,.cons h t=>by
  let#[tk,rfl]:=h;exact .cons _ _ (SZ t)
inductive EM (K:af) (xs:ag) (H:Hp) (Q:VK):Prop
 |mk:∀(p:Addr) (ns:List Int),xs=[.ref p]->dM K H p (ns.map V.int)->0<ns.length->(∀m,m∈ns->(∀a∈ns,a<=m)->Q (.int m) H)->EM K xs H Q
theorem il_(hc:X.calm=true):gB X (.builtin "max") (EM X.K):=by
 intro pins s σ H xs us Q I r h;let#[p,ns,rfl,hp,hn,q]:=h;let#[u,rfl,ru]:=vals1 r;cases ru;let#[its,rv,pl,z]:=I.list hp;let hi:=SZ rv;let#[xs,e]:=hi.allInts.items;let hl:=pl.isList;have Bd:ns=xs.toList.map (·.1):=by rw[<- hi.numsOf,<- nums_intItems,<- e]
 have hsz:0<xs.size:=by
  let h3:=hn;rw[Bd] at h3;simpa using h3
 rw[e] at hl;apply max_intList (I.ok.hd hc) hl hsz λv h' tk hv hk=>?_;let#[t,rfl]:=intItems_at hv;let#[h1,h2]:=argBest_gt (numAt xs) (xs.size - 1);apply#[.int _,H,I.kept hk,#[t,Z],q _ ?_ λa ha=>?_]
 ·rw[Bd,numAt_eq];exact getD_mem (by rw[aA,qJ];omega)
 rw[Bd] at ha;let#[j,hj,rfl]:=mem_getD ha;rw[aA,qJ] at hj;rw[<- numAt_eq];exact h2 j Z1
end
end L2
namespace K2
open PySem PySem.SeqAt PyProof.Rows
open AutoSeq1 (wpAny_loadPart')
open MeetsSeq MeetsSeq2 MeetsSeq3 SeqRoads2
theorem lW_(l b:Addr)(xs ys:Array Aa)(n m:Nat)(dl db:Option Addr)(sl sb:Array (Option Aa))(hs:xs.size=ys.size)(e:Nat->Bool)(k:Nat) :
  ∀i:Nat,xs.size - i=k->Meets (Builtin.«list.__eq__.loop» #[[.ref l,.ref b,rawInt i,rawInt 3],[]])
   (λA R s=>(s.heap.get? l=some { cls:=.type "list",dict:=dl,data:=.seq xs n,slots:=sl }/\s.heap.get? b=some { cls:=.type "list",dict:=db,data:=.seq ys m,slots:=sb }) /\
    (∀j (h1:j<xs.size) (h2:j<ys.size),EqAt A.in1 s xs[j] ys[j] (e j))/\R (.ok (.ret (.bool (!((List.range xs.size).drop i).all e)))) s):=by
 induction k with
 |zero=>
  intro i hk prog w A R s ⟨⟨gl,gb⟩,he,h⟩;let#[hp,g,d,tk,os]:=s
  wp_walk using p4 gl,p4 gb
  rw[show xs[((i:Nat):Int).toNat]? = none by simp;omega,show ys[((i:Nat):Int).toNat]? = none by simp;omega];rw[show (List.range xs.size).drop i=[] by simp;omega] at h
  wp_walk using p4 gl,p4 gb
  apply (show R (.ok (.ret (.bool (xs.size != ys.size)))) _ from ?_);rw[show (xs.size != ys.size)=false by simp[hs]];exact h
 |succ k ih=>
  intro i hk prog w A R s ⟨⟨gl,gb⟩,he,h⟩;let#[hp,g,d,tk,os]:=s
  wp_walk using p4 gl,p4 gb
  have z1:i<xs.size:=by omega
  have z2:i<ys.size:=by omega
  have q1:xs[((i:Nat):Int).toNat]? = some xs[i]:=by simp[z1]
  have q2:ys[((i:Nat):Int).toNat]? = some ys[i]:=by simp[z2]
  rw[show (List.range xs.size).drop i=i::(List.range xs.size).drop (i+1) by simp[List.drop_eq_getElem_cons,z1],List.all_cons] at h;rw[q1,q2];apply aq (he i z1 z2 prog w _ _ ?_);cases c:e i with
  |true=>
   rw[c] at h
   wp_walk
   rw[show ((i:Int)+1)=((i+1:Nat):Int) by omega];apply#[plainId_quiet plain_eq_loop _,codeAny_builtin entry_eq_loop ?_];rw[Around.under_plainId plain_eq_loop _];exact ih (i+1) Z1 prog w A R _ #[#[gl,gb],he,by simpa using h]
  |false=>
   rw[c] at h
   wp_walk using p4 gl,p4 gb
   rw[q1,q2]
   wp_walk
   simpa using h
theorem j5_(l b:Addr)(xs ys:Array Aa)(n m:Nat)(dl db:Option Addr)(sl sb:Array (Option Aa))(hs:xs.size=ys.size)(e:Nat->Bool) :
  Meets (Builtin.«list.__ne__» #[[.ref l,.ref b],[]])
   (λA R s=>(s.heap.get? l=some { cls:=.type "list",dict:=dl,data:=.seq xs n,slots:=sl }/\s.heap.get? b=some { cls:=.type "list",dict:=db,data:=.seq ys m,slots:=sb }) /\
    (∀j (h1:j<xs.size) (h2:j<ys.size),EqAt A.in1 s xs[j] ys[j] (e j))/\R (.ok (.ret (.bool (!(List.range xs.size).all e)))) s):=by
 intro prog w A R s ⟨⟨gl,gb⟩,he,h⟩;let#[hp,g,d,tk,os]:=s;let f3:=AutoSeq1.sub_list_list;have no:¬(xs.size != ys.size)=true:=by simp[hs]
 wp_walk using p4 gl,p4 gb
 apply#[plainId_quiet plain_eq_loop _,codeAny_builtin entry_eq_loop ?_];rw[Around.under_plainId plain_eq_loop _];exact lW_ l b xs ys n m dl db sl sb hs e _ 0 Z prog w A R _ #[#[gl,gb],he,by simpa using h]
theorem i8_(l b:Addr)(xs ys:Array Aa)(n m:Nat)(dl db:Option Addr)(sl sb:Array (Option Aa))(hs:(xs.size != ys.size)=true) :
  Meets (Builtin.«list.__ne__» #[[.ref l,.ref b],[]])
   (λA R s=>(s.heap.get? l=some { cls:=.type "list",dict:=dl,data:=.seq xs n,slots:=sl }/\s.heap.get? b=some { cls:=.type "list",dict:=db,data:=.seq ys m,slots:=sb })/\R (.ok (.ret (.bool true))) s):=
 .of_wp λprog w A R s ⟨⟨gl,gb⟩,h⟩=>by
  let#[hp,g,d,tk,os]:=s;let f3:=AutoSeq1.sub_list_list
  wp_walk using p4 gl,p4 gb
  exact#[_,Z,h]
section
variable{prog:Ad}{w:Af}{A:Ag}{E:Aa->Ab->Prop}{s:Ab}
theorem pL{l b:Addr}{xs ys:Array Aa}{e:Nat->Bool}{Q:Aa->Ab->Prop}(hl:s.heap.IsList l xs)(hb:s.heap.IsList b ys)(hs:xs.size=ys.size)(hu:A.units<cLine)
  (he:∀j (h1:j<xs.size) (h2:j<ys.size),EqAt A.in1 s xs[j] ys[j] (e j)) (h:Q (.bool (!(List.range xs.size).all e)) s):wpAny (model prog w) A (compareOp .NotEq (.ref l) (.ref b)) Q E s:=by
 let#[#[c1,d1,t1,l1],o1,k1,n1,z1]:=id hl;let#[#[c2,d2,t2,l2],o2,k2,n2,z2]:=id hb;simp only at k1 z1 k2 z2;subst k1 z1 k2 z2;exact richCompare_meets_room (op:=.NotEq) #[_,o1,Z] #[_,o2,Z] F.slot_list_ne F.entry_list_ne (F.args_list_ne_2 _ _) (j5_ l b xs ys n1 n2 d1 d2 l1 l2 hs e) #[#[o1,o2],he,show Value.bool (!(List.range xs.size).all e)≠Value.notImplemented/\Q (.bool (!(List.range xs.size).all e)) s from #[(λx=>nomatch x),h]] hu
theorem hU{l b:Addr}{xs ys:Array Aa}{Q:Aa->Ab->Prop}(hl:s.heap.IsList l xs)(hb:s.heap.IsList b ys)(hs:(xs.size != ys.size)=true)(hu:A.units<cLine)(h:Q (.bool true) s):wpAny (model prog w) A (compareOp .NotEq (.ref l) (.ref b)) Q E s:=by
 let#[#[c1,d1,t1,l1],o1,k1,n1,z1]:=id hl;let#[#[c2,d2,t2,l2],o2,k2,n2,z2]:=id hb;simp only at k1 z1 k2 z2;subst k1 z1 k2 z2;exact richCompare_meets_room (op:=.NotEq) #[_,o1,Z] #[_,o2,Z] F.slot_list_ne F.entry_list_ne (F.args_list_ne_2 _ _) (i8_ l b xs ys n1 n2 d1 d2 l1 l2 hs) #[#[o1,o2],show Value.bool true≠Value.notImplemented/\Q (.bool true) s from #[(λx=>nomatch x),h]] hu
end
end K2
namespace L2
open PySem PySem.Spec PyProof.Rows PySem.W jE di
abbrev Rp(D:Type):=Hp->V->D->Prop
structure jm (X:Cx) (n:Nat) {D:Type} [DecidableEq D] (R:Rp D):Prop where
 eq:∀{pins:List (Addr × Obj)} {σ:St} {H:Hp} {s:Ab} {A:Ag} {x y:V} {u v:Aa} {d e:D},Inv X pins σ H s->RelV x u->RelV y v->R H x d->R H y e->A.units+n<cLine->SeqAt.EqAt A s u v (decide (d=e))
 one:∀{pins:List (Addr × Obj)} {σ:St} {H:Hp} {s:Ab} {x:V} {d e:D},Inv X pins σ H s->R H x d->R H x e->d=e
def rS:Rp Str:=λ_ x d=>x=.str d
def rZ:Rp Int:=λ_ x d=>x=.int d
def r2(K:af){D1 D2:Type}(R1:Rp D1)(R2:Rp D2):Rp (D1 × D2):=λH x d=>∃a u v,x=.ref a/\gL K H a [u,v]/\R1 H u d.1/\R2 H v d.2
def rL(K:af){D:Type}(R:Rp D):Rp (List D):=λH x ds=>∃a xs,x=.ref a/\dM K H a xs/\Paired (R H) xs ds
section
variable{X:Cx}
theorem ia:jm X 0 rS where
 eq:=λ{pins σ H s A x y u v d e} I ru rv hx hy hu=>by
  have hx:x=.str d:=hx;have hy:y=.str e:=hy;subst hx;subst hy;let q:=GQ (A:=A) (s:=s) ru rv Z Z
  have e2:mO (.str d) (.str e)=decide (d=e):=by
   show (d == e)=_;by_cases h:d=e
   ·subst h;simp
   simp[h]
  rwa [e2] at q
 one:=λ{pins σ H s x d e} I hx hy=>by
  have hx:x=.str d:=hx;have hy:x=.str e:=hy;rw[hx] at hy;exact V.str.inj hy
theorem P0:jm X 0 rZ where
 eq:=λ{pins σ H s A x y u v d e} I ru rv hx hy hu=>by
  have hx:x=.int d:=hx;have hy:y=.int e:=hy;subst hx;subst hy;let q:=GQ (A:=A) (s:=s) ru rv Z Z
  have e2:mO (.int d) (.int e)=decide (d=e):=by
   show (d == e)=_;by_cases h:d=e
   ·subst h;simp
   simp[h]
  rwa [e2] at q
 one:=λ{pins σ H s x d e} I hx hy=>by
  have hx:x=.int d:=hx;have hy:x=.int e:=hy;rw[hx] at hy;exact V.int.inj hy
theorem vL{h:Heap}{a:Addr}{its:Array Aa}(t:IsTup h a its):h.IsTuple a its:=t
theorem Hb{n m:Nat}{D1 D2:Type}[DecidableEq D1][DecidableEq D2]{R1:Rp D1}{R2:Rp D2}(c1:jm X n R1)(c2:jm X m R2):jm X (max n m+1) (r2 X.K R1 R2) where
 one:=λ{pins σ H s x d e} I hx hy=>by
  let#[a,u,v,rfl,t,q1,q2]:=hx;let#[b,u',v',e0,t',Cz,Cy]:=hy;cases e0;let e1:=I.eV t t';cases e1;exact Prod.ext (c1.one I q1 Cz) (c2.one I q2 Cy)
 eq:=λ{pins σ H s A x y u v d e} I ru rv hx hy hu=>by
  let yR:=hx;let hy':=hy;let#[a,x1,x2,rfl,t,q1,q2]:=hx;let#[b,y1,y2,rfl,t',Cz,Cy]:=hy;cases ru;cases rv;by_cases xh:a=b
  ·subst xh;let e1:=I.eV t t';cases e1;have:d=e:=Prod.ext (c1.one I q1 Cz) (c2.one I q2 Cy);rw[bP this];exact SeqAt.EqAt.same _
  let#[its,r,it,_]:=I.tuple t;let#[its',r',MA,_]:=I.tuple t';let#[u1,u2,rfl,r1,r2]:=vals2 r;let#[w1,w2,rfl,LR,LQ]:=vals2 r'
  let key:=SeqAt.EqAt.of_refs xh (SeqAt.RcAt.tuples (A:=A) (s:=s) (e:=λj=>if j=0 then decide (d.1=e.1) else decide (d.2=e.2)) (vL it) (vL MA) Z1 λj h1 h2=>by
   match j,h1,h2 with
   |0,_,_=>exact c1.eq I r1 LR q1 Cz (by show A.units+1+n<cLine;omega)
   |1,_,_=>exact c2.eq I r2 LQ q2 Cy (by show A.units+1+m<cLine;omega))
  have e3:((List.range (min [u1,u2].toArray.size [w1,w2].toArray.size)).all (λj=>if j=0 then decide (d.1=e.1) else decide (d.2=e.2))&&[u1,u2].toArray.size == [w1,w2].toArray.size)=decide (d=e):=by
   show (decide (d.1=e.1)&&(decide (d.2=e.2)&&true)&&true)=_;by_cases h1:d.1=e.1
   ·by_cases h2:d.2=e.2
    ·have:d=e:=Prod.ext h1 h2;simp[this]
    have:¬d=e:=λz=>h2 (by rw[z]);simp[h1,h2,this]
   have:¬d=e:=λz=>h1 (by rw[z]);simp[h1,this]
  rw[e3] at key;exact key
theorem ie{α β:Type}{F:α->β->Prop}:∀{l:List α} {m:List β},Paired F l m->∀(i:Nat) (h1:i<l.length) (h2:i<m.length),F l[i] m[i]
 |_,_,.cons h t,0,_,_=>h
 |_,_,.cons h t,i+1,h1,h2=>ie t i ⇑h1 ⇑h2
theorem QR{D:Type}[DecidableEq D]:∀{ds es:List D},ds.length=es.length->((List.range ds.length).all λj=>decide (ds[j]? = es[j]?))=decide (ds=es):=λ{ds es} hl=>by
 by_cases h:ds=es
 ·subst h;simp
 rw[dJ h]
 have:∃i,i<ds.length/\ds[i]?≠es[i]?:=by
  apply Classical.byContradiction λhn=>h ?_;apply List.ext_getElem? ?_;intro i;by_cases hi:i<ds.length
  ·exact Classical.byContradiction λq=>hn #[i,hi,q]
  rw[List.getElem?_eq_none Z1,List.getElem?_eq_none Z1]
 let#[i,hi,q]:=this;rw[List.all_eq_false];exact#[i,by simpa using hi,by simpa using q]
theorem PR{D:Type}[DecidableEq D]{n:Nat}{R:Rp D}(c:jm X n R){pins:List (Addr × Obj)}{σ:St}{H:Hp}{s:Ab}(I:Inv X pins σ H s):∀{xs:ag} {ds es:List D},Paired (R H) xs ds->Paired (R H) xs es->ds=es
 |_,_,_,.nil,.nil=>rfl
 |_,_,_,.cons h t,.cons h' t'=>by rw[c.one I h h',PR c I t t']
theorem Hc{D:Type}[DecidableEq D]{n:Nat}{R:Rp D}(c:jm X n R){pins:List (Addr × Obj)}{σ:St}{H:Hp}{s:Ab}{A:Ag}(I:Inv X pins σ H s){xs ys:ag}{us vs:aj}{ds es:List D}(ru:Vals xs us)(rv:Vals ys vs)(hx:Paired (R H) xs ds)(hy:Paired (R H) ys es)(hu:A.units+n<cLine) :
  ∀j (h1:j<us.toArray.size) (h2:j<vs.toArray.size),SeqAt.EqAt A s us.toArray[j] vs.toArray[j] (decide (ds[j]? = es[j]?)):=λj h1 h2=>by
 let l1:=ru.length;let l2:=rv.length;let l3:=bK hx;let l4:=bK hy;simp only[cg] at h1 h2;let q:=c.eq (A:=A) I (ie ru j Z1 h1) (ie rv j Z1 h2) (ie hx j Z1 Z1) (ie hy j Z1 Z1) hu
 have e:decide (ds[j]? = es[j]?)=decide (ds[j]' Z1=es[j]' Z1):=by
  rw[cw Z1,cw Z1];by_cases z:ds[j]' Z1=es[j]' Z1
  ·simp[z]
  simp[z]
 rw[e];exact q
def pI{D:Type}[DecidableEq D](R:Rp D)(neg:Bool):V->V->Hp->VK->Prop:=λx y H Q=>∃d e,R H x d/\R H y e/\Q (.bl (if neg then !decide (d=e) else decide (d=e))) H
theorem SJ{n:Nat}{D:Type}[DecidableEq D]{R:Rp D}(c:jm X n R)(hu:X.A.units+n+1<cLine):dN X (compareOp .Eq) (pI (rL X.K R) false):=by
 intro pins s σ H x y v u Q I rx ry h;let#[d,e,#[a,xs,rfl,t,q],#[b,ys,rfl,t',q'],hq]:=h;cases rx;cases ry;let#[us,r,pl,_]:=I.list t;let#[vs,r',mD,_]:=I.list t';let l1:=r.length;let l2:=r'.length;let l3:=bK q;let l4:=bK q';by_cases hl:d.length=e.length
 ·apply SeqAt.eq_listAt pl.isList mD.isList (by simp only[cg];omega) Z1 (Hc c I r r' q q' (A:=X.A.in1) (by show X.A.units+1+n<cLine;omega)) #[.bl _,H,I,Z,?_];rw[show us.toArray.size=d.length by simp only[cg];omega,QR hl];exact hq
 apply SeqAt.eq_list_lengthsAt pl.isList mD.isList (by simp only[cg,bne_iff_ne];omega) Z1 #[.bl _,H,I,Z,?_];have hq:Q (.bl (decide (d=e))) H:=hq;rwa [dJ (λz=>hl (by rw[z]))] at hq
theorem l6_{n:Nat}{D:Type}[DecidableEq D]{R:Rp D}(c:jm X n R)(hu:X.A.units+n+1<cLine):dN X (compareOp .NotEq) (pI (rL X.K R) true):=by
 intro pins s σ H x y v u Q I rx ry h;let#[d,e,#[a,xs,rfl,t,q],#[b,ys,rfl,t',q'],hq]:=h;cases rx;cases ry;let#[us,r,pl,_]:=I.list t;let#[vs,r',mD,_]:=I.list t';let l1:=r.length;let l2:=r'.length;let l3:=bK q;let l4:=bK q';have hq:Q (.bl (!decide (d=e))) H:=hq;by_cases hl:d.length=e.length
 ·apply K2.pL pl.isList mD.isList (by simp only[cg];omega) Z1 (Hc c I r r' q q' (A:=X.A.in1) (by show X.A.units+1+n<cLine;omega)) #[.bl _,H,I,Z,?_];rw[show us.toArray.size=d.length by simp only[cg];omega,QR hl];exact hq
 apply K2.hU pl.isList mD.isList (by simp only[cg,bne_iff_ne];omega) Z1 #[.bl _,H,I,Z,?_];rwa [dJ (λz=>hl (by rw[z]))] at hq
def AM(K:af){D:Type}[DecidableEq D](R:Rp D)(neg:Bool):V->V->Hp->VK->Prop:=λx y H Q=>∃d es,R H x d/\rL K R H y es/\Q (.bl (if neg then !decide (d∈es) else decide (d∈es))) H
theorem SI{D:Type}[DecidableEq D]{n:Nat}{R:Rp D}(c:jm X n R){pins:List (Addr × Obj)}{σ:St}{H:Hp}{s:Ab}{A:Ag}(I:Inv X pins σ H s){x:V}{u:Aa}{d:D}(ru:RelV x u)(hx:R H x d)(hu:A.units+n<cLine):∀{ys:ag} {vs:aj} {es:List D},Vals ys vs->Paired (R H) ys es->
  ∃f:Aa->Bool,(∀w∈vs,SeqAt.EqAt A s w u (f w))/\vs.any f=decide (d∈es):=λ{ys vs es} rv hy=>by
 let f:Aa->Bool:=λw=>@decide (∃y e,RelV y w/\R H y e/\e=d) (Classical.propDecidable _)
 have sound:∀y w e,RelV y w->R H y e->f w=decide (e=d):=λy w e h1 h2=>by
  by_cases z:e=d
  ·rw[bP z];exact @bP _ (Classical.propDecidable _) #[y,e,h1,h2,z]
  rw[dJ z];apply @dJ _ (Classical.propDecidable _) λ⟨y',e',g1,g2,g3⟩=>z ?_;have:y'=y:=RelV.inj g1 h1;subst this;rw[<- g3];exact c.one I h2 g2
 apply#[f,?_,?_]
 ·induction rv generalizing es with
  |nil=>exact λw hw=>nomatch hw
  |cons h t ih=>
   cases hy with
   |cons g t'=>
    intro w hw;rcases cQ.mp hw with rfl|hw
    ·rw[sound _ _ _ h g];exact c.eq I h ru g hx hu
    exact ih t' w hw
 induction rv generalizing es with
 |nil=>
  cases hy;simp
 |cons h t ih=>
  cases hy with
  |@cons _ e _ es g t'=>
   rw[List.any_cons,ih t',sound _ _ _ h g];by_cases z:e=d
   ·subst z;simp
   by_cases z2:d∈es
   ·simp[z2]
   have:¬d∈e::es:=λq=>by
    rcases cQ.mp q with q|q
    ·exact z q.symm
    exact z2 q
   rw[dJ z,dJ z2,dJ this];rfl
theorem NU{n:Nat}{D:Type}[DecidableEq D]{R:Rp D}(c:jm X n R)(hu:X.A.units+n+1<cLine):dN X (compareOp .In) (AM X.K R false):=by
 intro pins s σ H x y v u Q I rx ry h;let#[d,es,hx,#[a,ys,rfl,t,q],hq]:=h;cases ry;let#[us,r,pl,_]:=I.list t;let#[f,h1,h2]:=SI c I (A:=X.A.in1) rx hx (by show X.A.units+1+n<cLine;omega) r q;apply SeqAt.in_listAt f pl.isList (λw hw=>h1 w ⇑hw) #[.bl _,H,I,Z,?_];rw[show us.toArray.any f=us.any f by simp,h2];exact hq
theorem Vw{n:Nat}{D:Type}[DecidableEq D]{R:Rp D}(c:jm X n R)(hu:X.A.units+n+1<cLine):dN X (compareOp .NotIn) (AM X.K R true):=by
 intro pins s σ H x y v u Q I rx ry h;let#[d,es,hx,#[a,ys,rfl,t,q],hq]:=h;cases ry;let#[us,r,pl,_]:=I.list t;let#[f,h1,h2]:=SI c I (A:=X.A.in1) rx hx (by show X.A.units+1+n<cLine;omega) r q;apply SeqAt.notIn_listAt f pl.isList (λw hw=>h1 w ⇑hw) #[.bl _,H,I,Z,?_];rw[show us.toArray.any f=us.any f by simp,h2];exact hq
end
end L2
namespace L2
open PySem PySem.Spec PyProof.Rows PySem.W jE di
section
variable{X:Cx}
inductive ER (K:af) (xs:ag) (H:Hp) (Q:VK):Prop
 |mk:∀x T t b,xs=[x,.ty T]->d7 K H x t->PySem.W.kitOne K t (.type T)\b->Q (.bl b) H->ER K xs H Q
theorem iW:gB X (.builtin "isinstance") (ER X.K):=by
 intro pins s σ H xs us Q I r h;let#[x,T,t,b,rfl,ty,e,q]:=h;let#[u,w',rfl,ru,mz]:=vals2 r;cases (show w'=Value.type T from mz);exact Wg I ru ty e λtk=>#[.bl b,H,I.tok tk,Z,q]
inductive VY (x:V) (y:V) (H:Hp) (Q:VK):Prop
 |mk:∀i j,x=.str i->y=.str j->Q (.bl (!decide (j.cps.toList<i.cps.toList))) H->VY x y H Q
theorem Va:dN X (compareOp .LtE) VY:=by
 intro pins s σ H x y v u Q I rx ry h;let#[i,j,rfl,rfl,q]:=h;let#[t,rfl]:=rx;let#[t',rfl]:=ry;exact PySem.P.le_str ⟨.bl _,H,I,rfl,q⟩
inductive qS (mk:Addr->Addr->HO) (Q:VK) (x:V) (H1:Hp):Prop
 |mk:∀d kvs,x=.ref d->H1 d\.dK kvs->(∀v,H1 v=none->Q (.ref v) (upd H1 v (mk v d)))->qS mk Q x H1
def yc(mk:Addr->Addr->HO)(td:TE):TE:=λσ H Q=>td σ H λx H1=>qS mk Q x H1
theorem Ul{pins:List (Addr × Obj)}{σ:St}{H:Hp}{s:Ab}{d:Addr}{cls:String}(I:Inv X pins σ H s)(φ:Heap->Prop)(hφ:φ (s.heap.push { cls:=.type cls,data:=.fields (List.toArray [.ref d]) }))(hs:∀h1 h2:Heap,φ h1->(∀o,h1.get? s.heap.objs.size\o->h2.get? s.heap.objs.size\o)->φ h2) :
  Inv X pins σ (upd H s.heap.objs.size (.ext φ)) { s with heap:=s.heap.push { cls:=.type cls,data:=.fields (List.toArray [.ref d]) } }:=
 I.laid (t':=s.toks) (λ_ _ q=>cj _ q) (bj _) #[hφ,#[_,eh _ Z],hs]
theorem G5{o:Expr}{td:TE}{apos cO:Pos}(ho:PE X o td)(h9:attributeBase o "items" X.env (eval o X.env)=eval o X.env:=by rfl)(jU:(apos.endLine == cO.line)=true:=by rfl):PE X (.Call (.Attribute o "items" apos) [] [] cO) (yc pZ td):=by
 intro pins s σ H Q I h;apply wpAny_Call_method0_late h9 jU (aV (ho pins s σ H _ I h) λv s1 ⟨x,H1,I1,r1,d,kvs,e,hd,q⟩=>?_);subst e;cases r1;let#[t1,t2,t3]:=SC I1 (.inl #[kvs,.inl hd]);let#[_,_,vs,rel,dd]:=BN I1.aI hd;apply#["dict","dict.items",PySem.F.plainAttrs_dict,PySem.F.slot_dict_items,PySem.F.type_dict_items,t1,t2,Calls.callWith_builtin Z (PySem.evalArgs_none ?_)];apply call_meetsIn PySem.F.slot_dict_items t1 PySem.F.entry_dict_items (PySem.F.args_dict_items_1 _) (meets_dict_items (eB X.prog X.w) d t3) #[#[vs,dd],?_];exact#[.ref _,_,Ul I1 _ #[_,eh _ Z,Z,Z] λh1 h2 ⟨o,e,r⟩ k=>#[o,k o e,r],Z,q _ I1.fresh]
theorem VG{o:Expr}{td:TE}{apos cO:Pos}(ho:PE X o td)(h9:attributeBase o "values" X.env (eval o X.env)=eval o X.env:=by rfl)(jU:(apos.endLine == cO.line)=true:=by rfl):PE X (.Call (.Attribute o "values" apos) [] [] cO) (yc vz td):=by
 intro pins s σ H Q I h;apply wpAny_Call_method0_late h9 jU (aV (ho pins s σ H _ I h) λv s1 ⟨x,H1,I1,r1,d,kvs,e,hd,q⟩=>?_);subst e;cases r1;let#[t1,t2,t3]:=SC I1 (.inl #[kvs,.inl hd]);let#[_,_,vs,rel,dd]:=BN I1.aI hd;apply#["dict","dict.values",PySem.F.plainAttrs_dict,PySem.F.slot_dict_values,PySem.F.type_dict_values,t1,t2,Calls.callWith_builtin Z (PySem.evalArgs_none ?_)];apply call_meetsIn PySem.F.slot_dict_values t1 PySem.F.entry_dict_values (PySem.F.args_dict_values_1 _) (meets_dict_values (eB X.prog X.w) d t3) #[#[vs,dd],?_];exact#[.ref _,_,Ul I1 _ #[_,eh _ Z,Z,Z] λh1 h2 ⟨o,e,r⟩ k=>#[o,k o e,r],Z,q _ I1.fresh]
end
section
variable{X:Cx}{pins:List (Addr × Obj)}{σ:St}{H:Hp}{s:Ab}{d:Addr}{kvs:List (Key × V)}
theorem Inv.freeze(I:Inv X pins σ H s)(h:H d\.dK kvs):∃o,s.heap.get? d\o/\Inv X pins σ (upd H d (.frz o (.dK kvs))) s:=by
 let#[z,hd,vs,rel,dd]:=BN I.aI h;let#[o,es,ep,ho,r]:=id dd;have other:∀{b u},H b\u->u≠.dK kvs->upd H d (.frz o (.dK kvs)) b\u:=λ{b u} e ne=>by rw[aD (cb e h ne)];exact e
 apply#[o,ho,I.un (h':=s.heap) (t':=s.toks) #[λb u q _ _ _=>q,λb u q _ _ _=>#[u.slots,q],λb u q n _=>?_,λb u q _=>#[u,q],λb xs q=>other q Z2,λb u v q=>other q Z2,λb ps q=>#[#[],by rw[Array.append_empty];exact other q Z2]] λb u q=>?_]
 ·by_cases e:b=d
  ·subst e;rw[h] at n;cases n
  rw[aD e];exact n
 by_cases e:b=d
 ·subst e;rw[au] at q;cases q;exact#[ho,z,hd,vs,rel,dd]
 rw[aD e] at q;exact (I.aI b u q).d5 (λc v _ z=>z) (λc z=>other z Z2) λc xs z=>other z Z2
theorem Inv.pC{o:Obj}(I:Inv X pins σ H s)(h:H d\.frz o (.dK kvs))(h0:∀o u,X.jk d≠some (.frz o u)):Inv X pins σ (upd H d (.dK kvs)) s:=by
 have other:∀{b u},H b\u->(∀o v,u≠.frz o v)->upd H d (.dK kvs) b\u:=λ{b u} e ne=>by rw[aD (cb e h (ne _ _))];exact e
 have oH:∀{b},H b=none->upd H d (.dK kvs) b=none:=λ{b} e=>by
  rw[aD (λz=>by subst z;rw[h] at e;cases e)];exact e
 apply#[I.ok,I.os,I.bare,#[I.base.keep,I.base.slot,λb u q n hx=>oH (I.base.free b u q n hx),I.base.there,λb xs q=>other (I.base.g9 b xs q) Z2,λb u v q=>?_,λb ps q=>?_],I.loc,I.cell,oH I.free,λx c e=>oH (I.d8 x c e),λp hp=>?_,λb u q=>?_,I.len]
 ·have:=I.base.fZ b u v q;rw[aD (λz=>by subst z;exact h0 _ _ q)];exact this
 ·let#[more,e]:=I.base.gM b ps q;exact#[more,other e Z2]
 ·let#[a1,a2,a3]:=I.pin p hp;exact#[a1,oH a2,a3]
 by_cases e:b=d
 ·subst e;rw[au] at q;cases q;let#[ho,z,hd,vs,rel,dd]:=I.aI b _ h;exact#[z,hd,vs,rel,dd]
 rw[aD e] at q;exact (I.aI b u q).d5 (λc v _ z=>z) (λc z=>other z Z2) λc xs z=>other z Z2
end
def Ef(t:TE):TE:=λσ H Q=>∃d kvs,H d\.dK kvs/\t σ H λv H1=>∃o,H1 d\.frz o (.dK kvs)/\Q v (upd H1 d (.dK kvs))
theorem kH_{X:Cx}{e:Expr}{t:TE}(h:PE X e t):PE X e (Ef t):=by
 intro pins s σ H Q I q;let#[d,kvs,hd,q]:=q;apply aV (h pins s σ H _ I q) λu s' ⟨v,H1,I1,r,o,hf,q1⟩=>#[v,_,I1.pC hf (λo u z=>?_),r,q1];have:=I.base.fZ _ _ _ z;rw[hd] at this;cases this
def WX(d:Addr)(o:Obj)(kvs:List (Key × V)):It:=#[λi H=>H d\.frz o (.dK kvs)/\i<kvs.length,λi H x H'=>H'=H/\∃k,kvs[i]? = some (k,x),λi H=>H d\.frz o (.dK kvs)/\kvs.length<=i]
theorem KP{X:Cx}{pins:List (Addr × Obj)}{σ:St}{H:Hp}{s:Ab}{d:Addr}{kvs:List (Key × V)}{o:Obj}{es:Array Ah}{ep:Nat}(I:Inv X pins σ H s)(h:H d\.frz o (.dK kvs))(ho:o.data=.dict es ep):∃vs,KV kvs vs/\s.heap.DictAt (eB X.prog X.w) d vs ep:=by
 let#[e,z,hd,vs,rel,o',zq,zr,e',c',d',r]:=I.aI d _ h;rw[e] at e';cases e';rw[ho] at d';cases d';exact#[vs,rel,o,es,e,c',ho,r]
theorem Nv{κ:Type}{kvs:List (κ × V)}{vs:List (κ × Aa)}(r:KV kvs vs):∀(i:Nat) {k:κ} {x:V},kvs[i]? = some (k,x)->∃u,vs[i]? = some (k,u)/\RelV x u:=by
 induction r with
 |nil=>intro i k x e;simp at e
 |@cons p q _ _ h _ ih=>
  intro i k x e;cases i with
  |zero=>
   have e:p=(k,x):=⇑e
   subst e;apply#[q.2,?_,h.2];rw[List.getElem?_cons_zero];have h1:k=q.1:=h.1;rw[h1]
  |succ i=>exact ih i ⇑e
theorem gO_{P:Ad}{w:Af}{K:af}{tg:Expr}(d it:Addr)(o:Obj)(kvs:List (Key × V)){es:Array Ah}{ep:Nat}(ho:o.data=.dict es ep):Turn P w K tg (WX d o kvs) [it] it (λi h=>h.IsValIter it d i kvs.length ep) where
 mem:=by simp
 obj:=λi h st b hb=>by
  obtain rfl:b=it:=⇑hb
  let#[o,e,c,d]:=st;exact#[o,e,λv z=>by rw[d] at z;cases z]
 keep:=λi h h' st k=>st.at λo e=>k it Z2 o e
 item:=by
  intro X hP hw hK hc i pins s σ H E I hf st hg;subst hP hw hK;let#[hd,hi]:=hg;let#[vs,rel,dat]:=KP I hd ho;obtain⟨⟨k,x⟩,hx⟩:∃p,kvs[i]? = some p:=#[kvs[i],by simp[hi]];let#[u,hu,ru]:=Nv rel i hx;let#[f0,f1,f2,f3,f4,f5]:=hf it Z2;rw[rel.length] at st;apply wpAny_pyNext_values_item st dat hu λh' fN sb=>?_;have I1:Inv X pins σ H { s with heap:=h' }:=I.turned (t':=s.toks) (λb o hb e=>(sb.2 b hb).trans e) f0 f1 f3 f4 f5;let#[o',e,c,dd]:=id fN;apply#[u,Z,FQ (s:={ s with heap:=h' }) e c dd (by decide) #[x,H,I1,ru,#[Z,k,hx],?_,λb hb=>(hf b hb).1]];show h'.IsValIter it d (i+1) kvs.length ep;rw[rel.length];exact fN
 done:=by
  intro X hP hw hK hc i pins s σ H E I hf st hg;subst hP hw hK;let#[hd,hi]:=hg;let#[vs,rel,dat]:=KP I hd ho;let#[f0,f1,f2,f3,f4,f5]:=hf it Z2;rw[rel.length] at st hi;exact wpAny_pyNext_values_end (I.ok.hd hc) st dat (by simp;omega) λh' eb=>#[Z,I.turned (t':=s.toks) (λb o hb e=>eb b o hb e) f0 f1 f3 f4 f5]
 self:=λ_ _ _ _ _ st h=>wpAny_pyIter_valiter st h
inductive tX (R:It->Hp->Prop) (x:V) (H1:Hp):Prop
 |mk:∀v d kvs,x=.ref v->H1 v\vz v d->H1 d\.dK kvs->(∀o,R (WX d o kvs) (upd H1 d (.frz o (.dK kvs))))->tX R x H1
def Fy(tv:TE):TI:=λσ H R=>tv σ H λx H1=>tX R x H1
theorem jG_{X:Cx}{tg e:Expr}{tv:TE}(he:PE X e tv):PI X tg e (Fy tv):=by
 intro pins s σ H R I h;apply aV (he pins s σ H _ I h) λu s1 ⟨x,H1,I1,r1,v,d,kvs,ex,hv,hd,q⟩=>?_;subst ex;cases r1;let#[iv,_,_]:=I1.aI v _ hv;let#[o,ho,I2]:=I1.freeze hd;let#[z,_,vs,rel,o',es,ep,iq,c',dt,r]:=BN I1.aI hd;rw[ho] at iq;cases iq;have pR:v≠d:=cb hv hd nofun;apply wpAny_pyIter_values (knd:=eB X.prog X.w) (kvs:=vs) (ep:=ep) iv #[o,es,ho,c',dt,r] ?_;apply#[s1.heap.objs.size,[s1.heap.objs.size],_,_,_,Z,I2.kept (t':=s1.toks) λb o e=>cj _ e,gO_ d _ o kvs dt,?_,λb hb=>?_,q o]
 ·rw[rel.length];exact#[_,eh _ Z,Z,Z]
 obtain rfl:b=s1.heap.objs.size:=⇑hb
 exact I2.jY (bj _) (I2.aI.fresh (bj _))
def Q_(x:Str):It:=#[λi _=>i<x.cps.size,λi H v H'=>H'=H/\∃c,x.cps[i]? = some c/\v=.str ⟨(List.toArray [c])⟩,λi _=>x.cps.size<=i]
theorem g6_{P:Ad}{w:Af}{K:af}{tg:Expr}(it:Addr)(x:Str)(t:Tok):Turn P w K tg (Q_ x) [it] it (λi h=>i<=x.cps.size/\h.IsStrIter it "str_ascii_iterator" x t i) where
 mem:=by simp
 obj:=λi h st b hb=>by
  obtain rfl:b=it:=⇑hb
  let#[o,e,c,d]:=st.2;exact#[o,e,λv z=>by rw[d] at z;cases z]
 keep:=λi h h' st k=>#[st.1,let #[o,ho,r]:=st.2;#[o,k it Z2 o ho,r]]
 item:=by
  intro X hP hw hK hc i pins s σ H E I hf st hg;subst hP hw hK;have hg:i<x.cps.size:=hg;let#[f0,f1,f2,f3,f4,f5]:=hf it Z2;apply wpAny_pyNext_ascii_item st.2 (c:=x.cps[i]) (by simp[hg]) λh' fN sb=>?_;have I1:Inv X pins σ H { s with heap:=h',toks:=s.toks+1 }:=I.turned (t':=s.toks+1) (λb o hb e=>(sb.2 b hb).trans e) f0 f1 f3 f4 f5;let#[o',e,c,dd]:=id fN;exact#[_,Z,FQ (s:={ s with heap:=h',toks:=s.toks+1 }) e c dd (by decide) #[.str ⟨(List.toArray [x.cps[i]])⟩,H,I1,#[_,Z],#[Z,_,by simp[hg],Z],#[hg,fN],λb hb=>(hf b hb).1]]
 done:=by
  intro X hP hw hK hc i pins s σ H E I hf st hg;subst hP hw hK;have hg:x.cps.size<=i:=hg;let#[f0,f1,f2,f3,f4,f5]:=hf it Z2;exact wpAny_pyNext_ascii_end (I.ok.hd hc) st.2 (by simp[hg]) λh' eb=>#[Z,I.turned (t':=s.toks) (λb o hb e=>eb b o hb e) f0 f1 f3 f4 f5]
 self:=λ_ _ _ _ _ st h=>wpAny_pyIter_striter_ascii st.2 h
theorem hb_{P:Ad}{w:Af}{K:af}{tg:Expr}(it:Addr)(x:Str)(t:Tok):Turn P w K tg (Q_ x) [it] it (λi h=>i<=x.cps.size/\h.IsStrIter it "str_iterator" x t i) where
 mem:=by simp
 obj:=λi h st b hb=>by
  obtain rfl:b=it:=⇑hb
  let#[o,e,c,d]:=st.2;exact#[o,e,λv z=>by rw[d] at z;cases z]
 keep:=λi h h' st k=>#[st.1,let #[o,ho,r]:=st.2;#[o,k it Z2 o ho,r]]
 item:=by
  intro X hP hw hK hc i pins s σ H E I hf st hg;subst hP hw hK;have hg:i<x.cps.size:=hg;let#[f0,f1,f2,f3,f4,f5]:=hf it Z2;apply wpAny_pyNext_wide_item st.2 (c:=x.cps[i]) (by simp[hg]) λh' fN sb=>?_;have I1:Inv X pins σ H { s with heap:=h',toks:=s.toks+1 }:=I.turned (t':=s.toks+1) (λb o hb e=>(sb.2 b hb).trans e) f0 f1 f3 f4 f5;let#[o',e,c,dd]:=id fN;exact#[_,Z,FQ (s:={ s with heap:=h',toks:=s.toks+1 }) e c dd (by decide) #[.str ⟨(List.toArray [x.cps[i]])⟩,H,I1,#[_,Z],#[Z,_,by simp[hg],Z],#[hg,fN],λb hb=>(hf b hb).1]]
 done:=by
  intro X hP hw hK hc i pins s σ H E I hf st hg;subst hP hw hK;have hg:x.cps.size<=i:=hg;let#[f0,f1,f2,f3,f4,f5]:=hf it Z2;exact wpAny_pyNext_wide_end (I.ok.hd hc) st.2 (by simp[hg]) λh' eb=>#[Z,I.turned (t':=s.toks) (λb o hb e=>eb b o hb e) f0 f1 f3 f4 f5]
 self:=λ_ _ _ _ _ st h=>wpAny_pyIter_striter_wide st.2 h
inductive yQ (R:It->Hp->Prop) (v:V) (H1:Hp):Prop
 |mk:∀x,v=.str x->R (Q_ x) H1->yQ R v H1
def MD(tl:TE):TI:=λσ H R=>tl σ H λv H1=>yQ R v H1
theorem lJ_{X:Cx}{tg l:Expr}{tl:TE}(hl:PE X l tl):PI X tg l (MD tl):=by
 intro pins s σ H R I h;apply aV (hl pins s σ H _ I h) λv s1 ⟨y,H1,I1,r1,x,e,q⟩=>?_;subst e;let#[t,rfl]:=r1
 have fp:∀b∈[s1.heap.objs.size],dh X pins H1 b:=λb hb=>by
  obtain rfl:b=s1.heap.objs.size:=⇑hb
  exact I1.jY (bj _) (I1.aI.fresh (bj _))
 cases ha:x.cps.all (· < 128)
 ·apply wpAny_pyIter_wide ha ?_;exact#[s1.heap.objs.size,[s1.heap.objs.size],_,_,H1,Z,I1.kept (t':=s1.toks) λb o e=>cj _ e,hb_ _ x t,#[g7 _,_,eh _ Z,Z,Z],fp,q]
 apply wpAny_pyIter_ascii ha ?_;exact#[s1.heap.objs.size,[s1.heap.objs.size],_,_,H1,Z,I1.kept (t':=s1.toks) λb o e=>cj _ e,g6_ _ x t,#[g7 _,_,eh _ Z,Z,Z],fp,q]
end L2
namespace L2
open PySem PySem.Spec PyProof.Rows PySem.W jE di
theorem LU{X:Cx}{f:Aa->Aa->Sem Aa}{K:af}(r:af->R2)(h:dN X f (r X.K))(hK:X.K=K:=by rfl):dN X f (r K):=by
 subst hK;exact h
theorem zD{X:Cx}{f:Aa}{K:af}(r:af->ag->Hp->VK->Prop)(h:gB X f (r X.K))(hK:X.K=K:=by rfl):gB X f (r K):=by
 subst hK;exact h
theorem A4{X:Cx}{K:af}(r:af->R2)(h:DU X (r X.K))(hK:X.K=K:=by rfl):DU X (r K):=by
 subst hK;exact h
abbrev EN(K:af):=QQ K
abbrev tq(K:af):=QS K
theorem Qt{X:Cx}{K:af}(hK:X.K=K:=by rfl):gB X (.builtin "len") (EN K):=zD EN iy hK
theorem JS{X:Cx}{K:af}(hK:X.K=K:=by rfl):gB X (.type "tuple") (tq K):=zD tq dy_ hK
theorem J7{X:Cx}{N:ae}{scope:Scope}{fp:ai}{s:Ab}{H:Hp}{es:List Expr}{k:Nat}{pos:Pos}{t:xW}{n:Nat}(h:DT (iw X N scope fp s H) es t)(hc:X.calm=true:=by rfl)
  (hn:(assignEach es (iw X N scope fp s H).env).length=n:=by rfl) (wQ:(assignEach es (iw X N scope fp s H).env).findIdx? (·.1)=none:=by rfl):PG (iw X N scope fp s H) (.Tuple es k pos) (ja X.K n t):=kJ (X:=iw X N scope fp s H) hc h hn wQ
end L2
abbrev zx:PySem.Str:="_law_rule_here"
abbrev BU:PySem.Str:="ways_by_name"
abbrev xq:PySem.Str:="_law_script"
abbrev BJ:PySem.Str:="checked_words"
abbrev BF:PySem.Str:="checked_start"
abbrev BL:PySem.Str:="pieces_by_hand"
abbrev BS:PySem.Str:="rising_neighbours"
abbrev qA:PySem.Str:="_law_digit"
abbrev BK:PySem.Str:="neighbours_by_hand"
abbrev ux:PySem.Str:="_law_stand_here"
abbrev vv:PySem.Str:="strength_by_hand"
abbrev qt:PySem.Str:="weight_by_name"
abbrev qD:PySem.Str:="heaviest_first"
abbrev BP:PySem.Str:="abcdefghijklmnopqrstuvwxyz"
abbrev oU:PySem.Str:="level_by_hand"
abbrev iR:PySem.Str:="load_by_hand"
abbrev eY:PySem.Str:="_law_state"
abbrev kQ:List PySem.Str:=["self","one","other"]
abbrev qy:List PySem.Str:=["goods","stand","rule"]
abbrev kP:List PySem.Str:=["goods","placed"]
abbrev uH:List PySem.Str:=[eY,"_law_base"]
abbrev jx:List PySem.Str:=["self","hand"]
abbrev fO:List PySem.Str:=["thing"]
abbrev vp:List PySem.Str:=["sight","rule","moment"]
abbrev vq:List PySem.Str:=["sight","hand","words"]
abbrev oV:List PySem.Str:=["self","thing"]
abbrev kj:List PySem.Str:=["sight","one","other","guard","given"]
abbrev gJ:List PySem.Str:=["self"]
abbrev zt:List PySem.Str:=["name","weight","ways"]
abbrev uZ:List PySem.Str:=["_law_goods",ux,zx,"_law_moment"]
abbrev qC:List PySem.Str:=["one","other"]
abbrev uY:List PySem.Str:=["_law_goods",ux,zx,"_law_many"]
abbrev ki:List PySem.Str:=["goods","placed","rule","moment"]
abbrev Dh:List PySem.Str:=["self","goods","placed"]
abbrev Dc:List PySem.Str:=["goods","placed","rule"]
abbrev uX:List PySem.Str:=[eY,"_law_most_hands","_law_most_pieces"]
abbrev De:List PySem.Str:=["sight","hand","guard"]
abbrev uW:List PySem.Str:=[eY,"_law_pieces_here","_law_hands"]
abbrev pd:List PySem.Str:=["goods","stand","rule","paper"]
abbrev zu:List PySem.Str:=["self","piece"]
abbrev kg:List PySem.Str:=[eY,"_law_many"]
abbrev ke:List PySem.Str:=["paper","word","length"]
abbrev o_:List PySem.Str:=["self","piece","one","other"]
abbrev kb:List PySem.Str:=["thing","least","most"]
abbrev BH:List PySem.Str:=["thing","least"]
abbrev uV:List PySem.Str:=[eY,"_law_ties","_law_most"]
abbrev uU:List PySem.Str:=["goods","placed","rule","t","long"]
abbrev o9:List PySem.Str:=["guard","lead","burden"]
abbrev uT:List PySem.Str:=["goods","stand","rule","moment"]
abbrev uS:List PySem.Str:=["goods","placed","rule","sums"]
abbrev o8:List PySem.Str:=["_law_tie",eY]
abbrev o7:List PySem.Str:=["self","hands","ties"]
abbrev o6:List PySem.Str:=[xq,"_law_k"]
abbrev o5:List PySem.Str:=["self","web","pieces"]
namespace Ev
open PySem L2
def top(i:Nat):Stmt:=PySem.Challenge.pw_evenpieces_k53_rings_spoilt.main.body.getD i (.Pass #[0,0,0,0])
abbrev wj:Stmt:=top 3
abbrev lW:Stmt:=top 5
abbrev sN:Stmt:=top 6
abbrev Oh:Stmt:=top 7
abbrev sL:Stmt:=top 8
abbrev OE:Stmt:=top 9
abbrev tj:Stmt:=top 10
abbrev sV:Stmt:=top 64
abbrev AE:Stmt:=top 65
abbrev sH:Stmt:=top 66
abbrev sM:Stmt:=top 67
abbrev i6:Stmt:=top 69
def A0(a b:Str):Bool:=decide (a.cps.toList<b.cps.toList)
def aK(a b:Str):Str × Str:=if A0 a b=true then (a,b) else (b,a)
section v
theorem bF{N p:List Str}{c:Scope}(h:br N p c:=by exact#[Z,Z,Z,by decide +kernel,Z,by decide +kernel,by decide +kernel]):br N p c:=h
theorem r_:br qC qC (a9 Oh):=bF
def Ks:Sp:=λvs H Q _=>∃a b,vs=[.str a,.str b]/\∀t,H t=none->Q (.ref t) (upd H t (.tup [.str (aK a b).1,.str (aK a b).2]))
theorem hI_{f:Addr}{fd:Ae}(F:bg K "lesser_first" "lesser_first" Oh f fd):!ak ba 1 f fd qC Ks:=by
 exists F.bI r_;let#[a,b,rfl,k]:=h;apply#[_,aC (aY (UK (cn gq_ (pv 0) (pv 1)) (dR %[0,1|0]) (dR %[1,0|0]))),?_];apply#[_,Z,_,Z,a,b,Z,Z,_,Z,?_];apply aM (λc=>?_) (λc=>?_)
 ·apply#[_,Z,_,Z,zl,λt ht=>?_];have:=k t ht;rwa [show aK a b=(a,b) from aH c] at this
 apply#[_,Z,_,Z,zl,λt ht=>?_];have:=k t ht;rwa [show aK a b=(b,a) from aB c] at this
theorem v_:br kb kb (a9 lW):=bF
def Oi:Sp:=λvs H Q _=>∃i a b:Int,vs=[.int i,.int a,.int b]/\Q (.bl (decide (a<=i)&&decide (i<=b))) H
structure Bi (mg:Str->Option Aa):Prop where
 iD:mg "isinstance"=none
 int:mg "int"=none
 bool:mg "bool"=none
 str:mg "str"=none
 tuple:mg "tuple"=none
 list:mg "list"=none
 dict:mg "dict"=none
 len:mg "len"=none
 all:mg "all"=none
 sorted:mg "sorted"=none
 max:mg "max"=none
 range:mg "range"=none
 any:mg "any"=none
 enum:mg "enumerate"=none
 min:mg "min"=none
 abs:mg "abs"=none
structure bc (P:Ad) (w:Af) (K:af) (mg:Str->Option Aa) (base:Heap) (k:Nat) (x:Str) (ps:ae) (sp:Sp):Prop where
 ex:∃f fd,ak P w K mg base ba k f fd ps sp/\mg x\.ref f/\PySem.W.keepIn K (.ref f)=true/\qE K fd ps []
theorem aP{n_:Nat}{X:Cx}{k:Nat}{x:Str}{ps:ae}{sp:Sp}{p pos:Pos}{e:Expr}{es:List Expr}{t:TA}(c:bc X.prog X.w X.K X.mg X.base k x ps sp)(hr:a_ n_ X.A)(ha:PA X (e::es) t)(hg:Gl X x:=by rfl)(pU:(x == ("__debug__":Str))=false:=by decide)
  (he:starEach (e::es) X.env=(false,eval e X.env)::starEach es X.env:=by rfl) (jt:(backTo pos (starEach es X.env)).any (·.1)=false:=by rfl) (hk:k<=n_:=by decide):PE X (.Call (.Name x p) (e::es) [] pos) (yn sp [] E0 t):=by
 let#[f,fd,F,m,kp,b]:=c.ex;exact kT_ F (hr.mono hk) hg m kp b .nil oG ha pU he jt
theorem yu:br fO fO (a9 wj):=bF
def rM:Sp:=λvs H Q _=>∃i:Int,vs=[.int i]/\Q (.bl true) H
theorem lI_{f:Addr}{fd:Ae}(F:bg K "is_whole" "is_whole" wj f fd)(B:Bi mg):!ak ba 1 f fd fO rM:=by
 exists F.bI yu;let#[i,rfl,k]:=h;apply#[_,aC (aY (kL (bY iW (by rfl) B.iD iI %[0,iU (v:=.ty "int") (by rfl) B.int JM Z|0]) (kK (SH (bY iW (by rfl) B.iD iI %[0,iU (v:=.ty "bool") (by rfl) B.bool PyProof.Rows.Boot.«bool» rfl|0]))))),?_];exact#[_,Z,_,_,_,_,Z,.int i,Z,_,Z,bO #[_,Z,_,_,_,_,Z,.int i,Z,_,Z,k]]
theorem iP_{f:Addr}{fd:Ae}(F:bg K "is_whole_within" "is_whole_within" lW f fd)(cI:!bc 1 "is_whole" fO rM):!ak ba 2 f fd kb Oi:=by
 exists F.bI v_;let#[i,a,b,rfl,k]:=h;apply#[_,aC (aY (kL (aP cI hr %[0|0]) (kK (Pg pV pV (pv 1) (pv 0) (pv 2))))),?_];apply#[_,Z,i,Z,_,Z,bO ?_];apply#[_,Z,_,Z,_,_,Z,Z,_,Z,?_];apply aM (λc=>?_) (λc=>?_)
 ·apply#[_,Z,_,_,Z,Z,?_];rw[c] at k;exact k
 rw[show decide (a<=i)=false by simpa using c] at k;exact k
def jP(c:Nat):Bool:=decide (97<=c)&&decide (c<=122)
def gZ(x:Str):Bool:=decide (1<=x.length)&&decide (x.length<=8)&&x.cps.toList.all jP
theorem As:br fO fO (a9 sN):=bF
def JL:Sp:=λvs H Q _=>∃x:Str,vs=[.str x]/\x.length<=100000/\∀H',aa H H'->Q (.bl (gZ x)) H'
theorem kJ_{c:Nat}:(!decide ((⟨(List.toArray [c])⟩:Str).cps.toList<("a":Str).cps.toList))=decide (97<=c):=by
 have e:("a":Str).cps.toList=[97]:=by decide +kernel
 rw[e];show (!decide ([c] < [97]))=decide (97<=c);by_cases h:97<=c
 ·have:¬[c] < [97]:=by simp[List.cons_lt_cons_iff];omega
  simp[this,h]
 have:[c] < [97]:=by simp[List.cons_lt_cons_iff];omega
 simp[this,h]
theorem jI_{c:Nat}:(!decide (("z":Str).cps.toList<(⟨(List.toArray [c])⟩:Str).cps.toList))=decide (c<=122):=by
 have e:("z":Str).cps.toList=[122]:=by decide +kernel
 rw[e];show (!decide ([122] < [c]))=decide (c<=122);by_cases h:c<=122
 ·have:¬[122] < [c]:=by simp[List.cons_lt_cons_iff];omega
  simp[this,h]
 have:[122] < [c]:=by simp[List.cons_lt_cons_iff];omega
 simp[this,h]
theorem kA_{f:Addr}{fd:Ae}(F:bg K "is_name" "is_name" sN f fd)(B:Bi mg){t8:Tok}(m8:mg "MOST_LETTERS"\.int 8 t8):!ak ba 1 f fd fO JL:=by
 exists F.bI As;let#[x,rfl,hz,k]:=h;let sz:=b_
 apply#[_,ax (bw (uA (eF (dF (bY iW (by rfl) B.iD iI %[0,iU (v:=.ty "str") (by rfl) B.str Dr Z|0])))
   (uL (eF (U4 pV pV az (bY es_ (by rfl) B.len gX %[0|0]) (xM (v:=.int 8) (by rfl) m8 #[t8,Z]))))).pt (aC (aY qz)) bx)
  (aC (aY (bY (UN Z) (by rfl) B.all PyProof.Rows.Boot.«all» (eW
   (kX ["letter"] 1 [] (lJ_ (pv 0)) (λfp s H=>gg (i:=0) (show (["letter"]:ae).Nodup by decide +kernel) Z (Or.inl Z)) (λfp s H=>jA) (λfp s H=>Pg Va Va ck (pv 0) ck)) bf)))),?_]
 apply#[_,Z,_,_,_,_,Z,.str x,Z,_,Z,?_];apply aQ ?_;apply#[_,Z,x,Z,by omega,_,_,Z,Z,_,Z,?_]
 have fin:(decide (1<=x.length)&&decide (x.length<=8))=false->∀H',aa H H'->Q (.bl false) H':=λe H' sm=>by
  have:=k H' sm;rwa [show gZ x=false by unfold gZ;rw[e];rfl] at this
 apply aM (λc=>?_) (λc=>?_)
 ·have c1:1<=x.length:=by
   have:(1:Int)<=(x.length:Int):=⇑c
   omega
  apply#[_,_,Z,Z,_,Z,?_];apply aM (λc2=>?_) (λc2=>?_)
  ·-- too long
   have c3:¬x.length<=8:=by
    have:¬((x.length:Int)<=8):=⇑c2
    omega
   exact fin (by rw[dJ c3,xP]) H (aa.refl H)
  have c3:x.length<=8:=by
   have:(x.length:Int)<=8:=⇑c2
   omega
  apply#[_,Z,x,Z,λD hD=>?_];apply Kh (own:=1) (fv:=[]) Z fq x.cps.size (λi out H'=>H'=upd H D (.lst out)/\out=((x.cps.toList.take i).map jP).map V.bl) #[Z,by simp] (λout H' ⟨e1,e2⟩=>?_) (λi out H' hi ⟨e1,e2⟩=>?_)
  ·apply#[bj _,D,x.cps.toList.map jP,Z,.of ?_,?_]
   ·rw[e1,au,e2,zR Z2]
   have:=k H' (by rw[e1];exact aa.new hD);rwa [show gZ x=(x.cps.toList.map jP).all id by unfold gZ;rw[bP c1,bP c3,List.all_map];rfl] at this
  apply#[hi,λv H2 y=>?_];let#[eH,c,hc,rfl]:=y;subst eH;apply#[_,Z,Z,λNx hN=>eJ ?_]
  have lo:out.length<sizeLine:=by
   rw[e2];have hs:x.length=x.cps.size:=rfl;simp only[aA,d6,qJ];omega
  have nx:Nx (upd H2 D (.lst (out++[V.bl (jP c)]))):=hN (out++[V.bl (jP c)]) _ #[by rw[e1,TX],by
   rw[e2,iS];simp[hc]]
  have WO:H2 D\.lst out:=by rw[e1,au]
  apply#[_,Z,_,_,Z,Z,_,Z,?_];rw[kJ_];apply aM (λc2=>?_) (λc2=>?_)
  ·apply#[_,_,Z,Z,out,WO,lo,?_];rw[jI_];rwa [show jP c=decide (c<=122) by unfold jP;rw[c2];rfl] at nx
  apply#[out,WO,lo,?_];rwa [show jP c=false by unfold jP;rw[show decide (97<=c)=false by simpa using c2];rfl] at nx
 have c1:¬1<=x.length:=by
  have:¬((1:Int)<=(x.length:Int)):=⇑c
  omega
 exact#[_,Z,bO (fin (by rw[dJ c1];rfl) H (aa.refl H))]
end
end Ev
namespace Ev
open PySem L2
def kT(t:Str × Str):ay:=[.inr t.1,.inr t.2]
def zv(t:Str × Str):Prop:=gZ t.1=true/\gZ t.2=true/\t.1≠t.2
theorem Kn{x:Str}(h:gZ x=true):x.length<=8:=by
 unfold gZ at h;simp only[Bool.and_eq_true,decide_eq_true_eq] at h;exact h.1.2
theorem yV{H:Hp}{p:Addr}{t:Str × Str}(h:H p\.tup ((kT t).map kV)):H p\.tup [.str t.1,.str t.2]:=h
section v
theorem Ar:br fO fO (a9 sL):=bF
def rG:Sp:=λvs H Q _=>∃(p:Addr) (a b:Str),vs=[.ref p]/\H p\.tup [.str a,.str b]/\a.length<=100000/\b.length<=100000/\∀H',aa H H'->Q (.bl (gZ a&&gZ b&&!decide (a=b))) H'
theorem km_{f:Addr}{fd:Ae}(F:bg K "is_pair_of_names" "is_pair_of_names" sL f fd)(B:Bi mg)(cN:!bc 1 "is_name" fO JL):!ak ba 2 f fd fO rG:=by
 exists F.bI Ar;let#[p,a,b,rfl,hp,la,lb,k]:=h
 apply#[_,ax (bw (uA (eF (dF (bY iW (by rfl) B.iD iI %[0,iU (v:=.ty "tuple") (by rfl) B.tuple vE Z|0])))
   (uL (cn qB (bY iy (by rfl) B.len gX %[0|0]) az))).pt (aC (aY qz)) bx)
  (aC (aY (kL (aP cN hr %[bA c_ (pv 0) az|0]) (kL (aP cN hr %[bA c_ (pv 0) az|0])
   (kK (m_ qB (bA c_ (pv 0) az) (bA c_ (pv 0) az))))))),?_]
 apply#[_,Z,_,_,_,_,Z,.tup hp,Z,_,Z,aQ ?_];apply#[_,Z,p,_,Z,.inr (.of hp),Z,_,Z,?_];apply tW (show V.int ((2:Nat):Int)=V.int 2 from Z) ?_;apply#[_,Z,p,_,_,_,Z,Z,.of hp,Z,a,Z,la,λH1 s1=>#[_,Z,?_]];let yW:=s1 _ _ hp;apply aM (λc=>?_) (λc=>?_)
 ·apply#[_,Z,p,_,_,_,Z,Z,.of yW,Z,b,Z,lb,λH2 s2=>#[_,Z,?_]];let ju:=s2 _ _ yW;let kk:=k H2 (s1.trans s2);apply aM (λc2=>?_) (λc2=>?_)
  ·apply#[_,Z,p,_,_,_,Z,Z,.of ju,Z,_,Z,p,_,_,_,Z,Z,.of ju,Z,Z,?_];rw[c,c2] at kk
   have e:decide (V.str a=V.str b)=decide (a=b):=by
    by_cases z:a=b
    ·simp[z]
    simp[z]
   show Q (.bl (!decide (V.str a=V.str b))) H2;rw[e];exact kk
  rw[c,show gZ b=false by simpa using c2] at kk;exact kk
 let kk:=k H1 s1;rw[show gZ a=false by simpa using c] at kk;exact kk
theorem Kw:br ["ties","found","pair","tie"] ["ties"] (a9 OE):=bF
def Pm(K:af):Sp:=λvs H Q _=>∃(l:Addr) (ys:ag) (ts:Xb),vs=[.ref l]/\H l\.lst ys/\bG K H ys (ts.map kT)/\(∀t∈ts,zv t)/\(ts.map λt=>kT (aK t.1 t.2)).Nodup/\ts.length<64 /\
 ∀l' zs H',aa H H'->H l'=none->H' l'\.lst zs->bG K H' zs (aX (ts.map λt=>kT (aK t.1 t.2)))->Q (.ref l') H'
theorem oZ{α β γ:Type}{F:α->γ->Prop}{g:β->γ}{ys:List α}{ts:List β}(t:Paired F ys (ts.map g)){i:Nat}{y:α}(h:ys[i]? = some y):∃x,ts[i]? = some x/\F y (g x):=by
 have hi:i<ys.length:=(cU.mp h).1;let hl:=bK t;rw[aA] at hl;have:=ie t i hi (by rw[aA];omega);rw[List.getElem_map] at this;apply#[ts[i],cw Z1,?_];rw[(cU.mp h).2] at this;exact this
theorem zP{κ:Type}[DecidableEq κ]{kvs:List (κ × V)}{k:κ}(h:k∉kvs.map (·.1)):bH kvs k=none:=by
 cases e:bH kvs k with
 |none=>rfl
 |some v=>exact absurd (kv_ e) h
theorem DP{α β:Type}(g:α->β){ts:List α}{i:Nat}{x:α}(h:ts[i]? = some x):(ts.take (i+1)).map g=(ts.take i).map g++[g x]:=by
 rw[iS,h,dC];rfl
theorem HY{α β:Type}{g:α->β}{ts:List α}{i:Nat}{x:α}(h:(ts.map g).Nodup)(hx:ts[i]? = some x):g x∉(ts.take i).map g:=by
 intro m;have hi:i<ts.length:=(cU.mp hx).1;let#[y,hy,e]:=bJ.mp m;let#[j,hj,e2]:=lj hy;rw[d6] at hj;rw[List.getElem_take] at e2;rw[uQ,vM,List.pairwise_iff_getElem] at h;apply h j i Z1 hi Z1 ?_;rw[e2,e,(cU.mp hx).2]
theorem gy_{f:Addr}{fd:Ae}(F:bg K "sorted_ties" "sorted_ties" OE f fd)(B:Bi mg)(cP:!bc 2 "is_pair_of_names" fO rG)(cL:!bc 1 "lesser_first" qC Ks):!ak ba 3 f fd ["ties"] (Pm K):=by
 exists F.bI Kw;let#[l,ys,ts,rfl,hl,tu,good,nd,bR,k]:=h;let hu:=gC hr;let sz:=b_
 apply#[_,ax (bw (eF (dF (bY iW (by rfl) B.iD iI %[0,iU (v:=.ty "list") (by rfl) B.list zK Z|0]))) eE bx)
  (ax (bh 1 Kw.nd iG_)
  (ax (fC eS Z (d_ (pv 0)) (cq 2 Kw.nd)
   (ax (bw (eF (dF (aP cP hr %[2|0]))) eE bx)
   (ax (bh 3 Kw.nd (aP cL hr %[bA c_ (pv 2) az,bA c_ (pv 2) az|0]))
   (ax (bw (xv (Dp hu (pv 3) (pv 1))) eE bx)
   (aC (xH hu (pv 1) (pv 3) qz Z))))))
  (aC (aY (bY (eV_ Z) (by rfl) B.sorted Kp %[1|0]))))),?_]
 apply#[_,Z,_,_,_,_,Z,.lst hl,Z,_,Z,aQ ?_];intro d hd;have s0:aa H (upd H d (.dT [])):=aa.new hd;apply#[_,Z,l,Z,#[_,.of (s0 _ _ hl)],iK (K:=K) (a:=l) (xs:=ys) (λi σ H2=>∃(v3 v4:aN),σ=[some (.ref l),some (.ref d),v3,v4]/\aa H H2/\H2 d\.dT ((ts.take i).map λt=>(kT (aK t.1 t.2),V.bl true))) #[none,none,Z,s0,au] (λi σ H2 _ ⟨_,_,_,s2,_⟩=>.of (s2 _ _ hl)) ?_ ?_]
 ·rintro i y σ H2 hy ⟨v3,v4,rfl,s2,hd2⟩;let#[t,ht,a,rfl,ha]:=oZ tu hy;let#[g1,g2,g3]:=good t (dI ht);let iP:=s2 _ _ (yV ha);apply#[_,Z,a,t.1,t.2,Z,iP,by have:=Kn g1;omega,by have:=Kn g2;omega,λH3 s3=>#[_,Z,?_]];let jv:=s3 _ _ iP;let mL:=s3 _ _ hd2;rw[g1,g2,dJ g3];apply aQ ?_;apply#[_,Z,a,_,_,_,Z,Z,.of jv,Z,_,Z,a,_,_,_,Z,Z,.of jv,Z,t.1,t.2,Z,λb hb=>?_];have s4:aa H3 (upd H3 b (.tup [.str (aK t.1 t.2).1,.str (aK t.1 t.2).2])):=aa.new hb;let TM:=s4 _ _ mL;have TU:upd H3 b (.tup [.str (aK t.1 t.2).1,.str (aK t.1 t.2).2]) b\.tup ((kT (aK t.1 t.2)).map kV):=au
  have vi:bH ((ts.take i).map λt=>(kT (aK t.1 t.2),V.bl true)) (kT (aK t.1 t.2))=none:=zP (by
   rw[cu];exact HY (g:=λt=>kT (aK t.1 t.2)) nd ht)
  apply#[_,Z,_,Z,d,_,Z,.t (k:=kT (aK t.1 t.2)) TM TU,_,Z,?_];rw[vi];apply aQ ?_;apply#[_,Z,_,Z,d,_,Z,.t (k:=kT (aK t.1 t.2)) TM TU (by rw[aA,d6];omega),?_];apply#[_,_,Z,λc o e=>?_,?_]
  ·rw[aD (bE e hd)];exact s4 _ _ (s3 _ _ (s2 _ _ e))
  rw[au,DM _ vi,DP _ ht]
 rintro σ H2 ⟨v3,v4,rfl,s2,hd2⟩;let le:=bK tu;rw[aA] at le;rw[le,e_] at hd2;apply#[_,Z,d,_,[true,true],Z,hd2,#[by decide,λk hk=>?_],by rw[aA];exact bR,λl' zs hn tz=>?_]
 ·rw[cu] at hk;let#[t,_,rfl]:=bJ.mp hk;rfl
 rw[cu] at tz;exact k l' zs _ (s2.trans (aa.new hn)) (s2.free hn) au (tz.same (aa.new hn))
theorem AC:br ["ties"] ["ties"] (a9 tj):=bF
def rR(K:af):Sp:=λvs H Q _=>∃(l:Addr) (ys:ag) (ts:Xb),vs=[.ref l]/\H l\.lst ys/\bG K H ys (ts.map kT)/\ts.length<=1000 /\
 ∀l' zs H',aa H H'->H l'=none->H' l'\.lst zs->bG K H' zs (ts.map kT)->Q (.ref l') H'
theorem Ca{K:af}{H:Hp}{ys:ag}{ks:List ay}{a:Addr}{k:ay}(t:bG K H ys ks)(h:H a\.tup (k.map kV)):bG K H (ys++[.ref a]) (ks++[k]):=Paired.snoc t #[a,Z,h]
theorem iV{H H1:Hp}{D:Addr}{o:HO}(h:aa H H1)(hD:H D=none):aa H (upd H1 D o):=λb u e=>by rw[aD (bE e hD)];exact h b u e
theorem jC{K:af}{H:Hp}{ys:ag}{ks:List ay}{D:Addr}{o:HO}{xs:ag}(t:bG K H ys ks)(hD:H D\.lst xs):bG K (upd H D o) ys ks:=Paired.bN t λy k ⟨a,z,q⟩=>#[a,z,by rw[aD (cb q hD nofun)];exact q]
theorem k9_{f:Addr}{fd:Ae}(F:bg K "ties_anew" "ties_anew" tj f fd):!ak ba 1 f fd ["ties"] (rR K):=by
 exists F.bI AC;let#[l,ys,ts,rfl,hl,tu,hz,k]:=h;let sz:=b_
 apply#[_,aC (aY (kX qC 2 [] (d_ (pv 0)) (λfp s H=>J7 (n:=2) (dD (gg (i:=0) (show (qC:ae).Nodup by decide +kernel) Z (Or.inl Z)) (dD (gg (i:=1) (show (qC:ae).Nodup by decide +kernel) Z (Or.inl Z)) iT)))
  (λfp s H=>jA) (λfp s H=>dR %[0,1|0]))),?_]
 apply#[_,Z,l,Z,#[_,.of hl],λD hD=>?_];let le:=bK tu;rw[aA] at le;apply k8 (own:=2) (fv:=[]) (xs:=ys) Z GC (λi out H'=>aa H H'/\H' D\.lst out/\bG K H' out ((ts.take i).map kT)) #[aa.new hD,au,.nil] (λi out H' _ ⟨sm,_,_⟩=>.of (sm _ _ hl)) (λout H' ⟨sm,hd,tz⟩=>?_) (λi x out H' hx ⟨sm,hd,tz⟩=>?_)
 ·rw[le,e_] at tz;exact k D out H' sm hD hd tz
 let#[t,ht,a,rfl,ha]:=oZ tu hx;apply#[_,#[a,_,_,Z,.of (sm _ _ (yV ha)),Z],Z,λNx hN=>eJ ?_];apply#[_,Z,_,Z,zl,λp hp=>#[out,(aa.new hp) _ _ hd,?_,?_]]
 ·have:=bK tz;rw[aA,d6] at this;omega
 have ju:upd H' p (.tup [.str t.1,.str t.2]) p\.tup ((kT t).map kV):=au;apply hN (out++[.ref p]) _ #[iV (sm.trans (aa.new hp)) hD,au,?_];rw[DP _ ht];exact jC (Ca (tz.same (aa.new hp)) ju) ((aa.new hp) _ _ hd)
end
end Ev
namespace Ev
open PySem L2
def kH(h:Str × Int):ay:=[.inr h.1,.inl h.2]
def zp(h:Str × Int):Prop:=gZ h.1=true/\1<=h.2/\h.2<=1000
def A3:ay->Key × V
 |[k,v]=>(k,kV v)
 |_=>(.inl 0,.non)
def dj(hs:Xa):List (Key × V):=(aX (hs.map kH)).map A3
theorem Ti{H:Hp}{p:Addr}{t:Str × Int}(h:H p\.tup ((kH t).map kV)):H p\.tup [.str t.1,.int t.2]:=h
theorem V3:∀(more kvs:List (Key × V)),(kvs.map (·.1)++more.map (·.1)).Nodup->p6 kvs more=kvs++more
 |[],kvs,_=>by
  show kvs=kvs++[];rw[xR]
 |p::more,kvs,h=>by
  show p6 (putK kvs p.1 p.2) more=kvs++p::more
  have hn:bH kvs p.1=none:=zP λm=>by
   rw[eD,List.nodup_append] at h;exact h.2.2 p.1 m p.1 fQ Z
  rw[DM _ hn,V3 more (kvs++[(p.1,p.2)])]
  ·simp
  simpa using h
theorem DJ{more:List (Key × V)}(h:(more.map (·.1)).Nodup):p6 [] more=more:=by
 rw[V3 more [] ⇑h];rfl
theorem V8(hs:Xa):((dj hs).map (·.1)).Perm (hs.map λh=>Sum.inr h.1):=by
 unfold dj;rw[cu];let p:=(k7 (hs.map kH)).map λk=>(A3 k).1;rw[cu] at p;exact p
theorem Wu{hs:Xa}(h:(hs.map (·.1)).Nodup):((dj hs).map (·.1)).Nodup:=by
 apply (V8 hs).nodup_iff.mpr ?_;have:(hs.map λh=>(Sum.inr h.1:Key))=(hs.map (·.1)).map Sum.inr:=by rw[cu];rfl
 rw[this,uQ,vM];exact h.imp λn e=>n (iF e)
theorem j6{k:Nat}{A:Ag}(hr:a_ k A)(n:Nat)(h:n+1<=64:=by decide):A.units+n+1<cLine:=by
 have:=hr.units;omega
section v
theorem Ay:br fO fO (a9 sV):=bF
def rN:Sp:=λvs H Q _=>∃(p:Addr) (a:Str) (n:Int),vs=[.ref p]/\H p\.tup [.str a,.int n]/\a.length<=100000/\∀H',aa H H'->Q (.bl (gZ a&&(decide (1<=n)&&decide (n<=1000)))) H'
theorem jT_{f:Addr}{fd:Ae}(F:bg K "is_hand_with_strength" "is_hand_with_strength" sV f fd)(B:Bi mg)(cN:!bc 1 "is_name" fO JL)(cW:!bc 2 "is_whole_within" kb Oi){tk:Tok}(mS:mg "MOST_STRENGTH"\.int 1000 tk) :
  ak P w K mg base ba 3 f fd fO rN:=by
 exists F.bI Ay;let#[p,a,n,rfl,hp,la,k]:=h
 apply#[_,ax (bw (uA (eF (dF (bY iW (by rfl) B.iD iI %[0,iU (v:=.ty "tuple") (by rfl) B.tuple vE Z|0])))
   (uL (cn qB (bY iy (by rfl) B.len gX %[0|0]) az))).pt (aC (aY qz)) bx)
  (aC (aY (kL (aP cN hr %[bA c_ (pv 0) az|0]) (kK (aP cW hr %[bA c_ (pv 0) az,az,xM (v:=.int 1000) (by rfl) mS #[tk,Z]|0]))))),?_]
 apply#[_,Z,_,_,_,_,Z,.tup hp,Z,_,Z,aQ ?_];apply#[_,Z,p,_,Z,.inr (.of hp),Z,_,Z,?_];apply tW (show V.int ((2:Nat):Int)=V.int 2 from Z) ?_;apply#[_,Z,p,_,_,_,Z,Z,.of hp,Z,a,Z,la,λH1 s1=>#[_,Z,?_]];let yW:=s1 _ _ hp;let kk:=k H1 s1;apply aM (λc=>?_) (λc=>?_)
 ·apply#[_,Z,p,_,_,_,Z,Z,.of yW,Z,n,1,1000,Z,?_];rw[c] at kk;exact kk
 rw[show gZ a=false by simpa using c] at kk;exact kk
theorem rW:br ["hands","found","hand"] ["hands"] (a9 AE):=bF
def yq(K:af):Sp:=λvs H Q _=>∃(l:Addr) (ys:ag) (hs:Xa),vs=[.ref l]/\H l\.lst ys/\bG K H ys (hs.map kH)/\(∀h∈hs,zp h)/\(hs.map (·.1)).Nodup/\1<=hs.length/\hs.length<=8 /\
 ∀d H',aa H H'->H d=none->H' d\.dK (dj hs)->Q (.ref d) H'
theorem l4_{f:Addr}{fd:Ae}(F:bg K "checked_strengths" "checked_strengths" AE f fd)(B:Bi mg)(cH:!bc 3 "is_hand_with_strength" fO rN){tk:Tok}(mH:mg "MOST_HANDS"\.int 8 tk):!ak ba 4 f fd ["hands"] (yq K):=by
 exists F.bI rW;let#[l,ys,hs,rfl,hl,tu,good,nd,h1,h8,k]:=h;let hu:=gC hr;let sz:=b_;let le:=bK tu;rw[aA] at le
 apply#[_,ax (bw (uA (eF (dF (bY iW (by rfl) B.iD iI %[0,iU (v:=.ty "list") (by rfl) B.list zK Z|0])))
   (uL (eF (U4 pV pV az (bY iy (by rfl) B.len gX %[0|0]) (xM (v:=.int 8) (by rfl) mH #[tk,Z]))))).pt eE bx)
  (ax (bh 1 rW.nd Hk)
  (ax (fC eS Z (d_ (pv 0)) (cq 2 rW.nd)
   (ax (bw (eF (dF (aP cH hr %[2|0]))) eE bx)
   (ax (bw (xv (Dp hu (bA c_ (pv 2) az) (pv 1))) eE bx)
   (aC (xH hu (pv 1) (bA c_ (pv 2) az) (bA c_ (pv 2) az) Z)))))
  (aC (aY (iH (DK Z) (by rfl) B.dict uJ %[bY (gj_ Z) (by rfl) B.sorted Kp %[G5 (pv 1)|0]|0]))))),?_]
 apply#[_,Z,_,_,_,_,Z,.lst hl,Z,_,Z,aQ ?_];apply#[_,Z,l,_,Z,.inl (.of hl),_,_,Z,Z,_,Z,?_];rw[bP (show (1:Int)<=(ys.length:Int) by omega)];apply bO #[_,_,Z,Z,_,Z,?_];rw[bP (show (ys.length:Int)<=8 by omega)];apply aQ ?_;intro d hd;have s0:aa H (upd H d (.dK [])):=aa.new hd;apply#[_,Z,l,Z,#[_,.of (s0 _ _ hl)],iK (K:=K) (a:=l) (xs:=ys) (λi σ H2=>∃(v2:aN),σ=[some (.ref l),some (.ref d),v2]/\aa H H2/\H2 d\.dK ((hs.take i).map λh=>(Sum.inr h.1,V.int h.2))) #[none,Z,s0,au] (λi σ H2 _ ⟨_,_,s2,_⟩=>.of (s2 _ _ hl)) ?_ ?_]
 ·rintro i y σ H2 hy ⟨v2,rfl,s2,hd2⟩;let#[t,ht,a,rfl,ha]:=oZ tu hy;let#[g1,g2,g3]:=good t (dI ht);let iP:=s2 _ _ (Ti ha);apply#[_,Z,a,t.1,t.2,Z,iP,by have:=Kn g1;omega,λH3 s3=>#[_,Z,?_]];let jv:=s3 _ _ iP;let mL:=s3 _ _ hd2;rw[g1,bP g2,bP g3];apply aQ ?_
  have vi:bH ((hs.take i).map λh=>((Sum.inr h.1:Key),V.int h.2)) (Sum.inr t.1)=none:=zP (by
   rw[cu];let q:=HY (g:=λh:Str × Int=>h.1) nd ht;intro m;let#[h,hh,e]:=bJ.mp m;exact q (bJ.mpr #[h,hh,iF e]))
  apply#[_,Z,a,_,_,_,Z,Z,.of jv,Z,_,Z,d,_,Z,.k (k:=Sum.inr t.1) mL,_,Z,?_];rw[vi];apply aQ ?_;apply#[_,Z,a,_,_,_,Z,Z,.of jv,Z,_,Z,_,Z,a,_,_,_,Z,Z,.of jv,Z,d,_,Z,.k (k:=Sum.inr t.1) mL (by rw[aA,d6];omega),?_];apply#[_,Z,λc o e=>?_,?_]
  ·rw[aD (bE e hd)];exact s3 _ _ (s2 _ _ e)
  rw[au,DM _ vi,DP _ ht]
 rintro σ H2 ⟨v2,rfl,s2,hd2⟩;rw[le,e_] at hd2;apply#[_,Z,d,_,Z,hd2,λv hv=>?_];have s3:aa H2 (upd H2 v (pZ v d)):=aa.new hv;apply#[v,d,_,hs.map λh=>(Sum.inr h.1,Sum.inl h.2),[true,false],Z,au,s3 _ _ hd2,by rw[cu];rfl,#[by decide,λq hq=>?_],by rw[aA];omega,λl' H4 zs s4 hn tz=>?_]
 ·rw[cu] at hq;let#[h,_,rfl]:=bJ.mp hq;rfl
 have ez:((hs.map λh=>((Sum.inr h.1:Key),(Sum.inl h.2:Key))).map λk=>[k.1,k.2])=hs.map kH:=by rw[cu];rfl
 rw[ez] at tz
 have pz:oW K (upd H4 l' (.lst zs)) zs (dj hs):=by
  have shape:∀k∈aX (hs.map kH),∃a b,k=[a,b]:=λk hk=>by
   let#[h,_,e]:=bJ.mp ((k7 _).mem_iff.mp hk);exact#[_,_,e.symm]
  have gen:∀(ks:List ay) (zs:ag),(∀k∈ks,∃a b,k=[a,b])->bG K (upd H4 l' (.lst zs)) zs ks->oW K (upd H4 l' (.lst zs)) zs (ks.map A3):=λks=>by
   intro zs;generalize upd H4 l' (.lst zs)=HH;intro sh t
   induction t with
   |nil=>exact .nil
   |cons h t ih=>
    let#[a,b,rfl]:=sh _ fQ;exact .cons h (ih λk hk=>sh k (fb _ hk))
  exact gen _ _ shape (tz.same (aa.new hn))
 apply#[l',zs,_,Z,au,pz,?_,λd' gT=>?_]
 ·have:=(V8 hs).length_eq;simp only[aA] at this;omega
 rw[DJ (Wu nd)];have EE:aa H (upd H4 l' (.lst zs)):=(s2.trans (s3.trans s4)).trans (aa.new hn);exact k d' _ (EE.trans (aa.new gT)) (EE.free gT) au
theorem JV:br ["ties","strengths","found","one","other"] ["ties","strengths"] (a9 sH):=bF
inductive lH (K:af) (vs:ag) (H:Hp) (Q:VK) (E:XK):Prop
 |mk:∀(l d:Addr) (ys:ag) (ts:Xb) (kvs:List (Key × V)),vs=[.ref l,.ref d]->H l\.lst ys->bG K H ys (ts.map kT)->(∀t∈ts,zv t)->(ts.map λt=>kT (aK t.1 t.2)).Nodup->ts.length<64->H d\.dK kvs->(∀t∈ts,(bH kvs (Sum.inr t.1)).isSome=true/\(bH kvs (Sum.inr t.2)).isSome=true)->(∀l' zs H',aa H H'->H l'=none->H' l'\.lst zs->bG K H' zs (aX (ts.map λt=>kT (aK t.1 t.2)))->Q (.ref l') H')->lH K vs H Q E
theorem zJ(a b:Str):aK a b=(a,b)∨aK a b=(b,a):=by
 unfold aK;split
 ·exact .inl rfl
 exact .inr rfl
theorem jW_{f:Addr}{fd:Ae}(F:bg K "checked_ties" "checked_ties" sH f fd)(B:Bi mg)(cS:!bc 3 "sorted_ties" ["ties"] (Pm K)):!ak ba 4 f fd ["ties","strengths"] (lH K):=by
 exists F.bI JV;let#[l,d,ys,ts,kvs,rfl,hl,tu,good,nd,bR,hd,there,k]:=h;let hu:=gC hr
 apply#[_,ax (bh 2 JV.nd (aP cS hr %[0|0]))
  (ax (bw (xv (JD (pv 2))) eE bx)
  (ax (fC eS Z (d_ (pv 2)) (kJ Z (dD (cq 3 JV.nd) (dD (cq 4 JV.nd) iT)))
   (aC (bw (uA (xv (Vk hu (pv 3) (pv 1))) (uL (xv (Vk hu (pv 4) (pv 1))))).pt eE bx)))
  (aC (aY (pv 2))))),?_]
 apply#[_,Z,l,ys,ts,Z,hl,tu,good,nd,bR,λl' zs H1 s1 hf gH tz=>?_];apply#[_,Z,_,Z,aQ ?_];apply#[_,Z,l',Z,#[_,.of gH],iK (K:=K) (a:=l') (xs:=zs) (λi σ H2=>∃(v3 v4:aN),σ=[some (.ref l),some (.ref d),some (.ref l'),v3,v4]/\H2=H1) #[none,none,Z,Z] (λi σ H2 _ ⟨_,_,_,e⟩=>by subst e;exact .of gH) ?_ ?_]
 ·rintro i y σ H2 hy ⟨v3,v4,rfl,rfl⟩;let ez:=bK tz;have hi:i<zs.length:=(cU.mp hy).1;let#[a,e,ha]:=ie tz i hi Z1;rw[(cU.mp hy).2] at e;subst e;let#[t,ht,e]:=bJ.mp ((k7 _).mem_iff.mp (nD (show i<(aX (ts.map λt=>kT (aK t.1 t.2))).length by omega)));rw[<- e] at ha;let#[t1,t2]:=there t ht
  have both:(bH kvs (Sum.inr (aK t.1 t.2).1)).isSome=true/\(bH kvs (Sum.inr (aK t.1 t.2).2)).isSome=true:=by
   rcases zJ t.1 t.2 with q|q
   ·rw[q];exact#[t1,t2]
   rw[q];exact#[t2,t1]
  let vm:=s1 _ _ hd;apply#[a,_,Z,.of (yV ha),Z,_,_,Z,_,_,Z,Z,?_];apply#[_,Z,_,Z,d,_,Z,.k (k:=Sum.inr (aK t.1 t.2).1) vm,_,Z,?_];rw[both.1];apply aQ ?_;apply#[_,Z,_,Z,d,_,Z,.k (k:=Sum.inr (aK t.1 t.2).2) vm,_,Z,?_];rw[both.2];apply aQ ?_;exact#[_,_,Z,Z]
 rintro σ H2 ⟨v3,v4,rfl,rfl⟩;exact#[_,Z,k l' zs _ s1 hf gH tz]
def near(ns:ae)(ts:Xb)(n:Str):ae:=ns.filter λo=>decide (aK n o∈ts)
theorem lQ:br ["names","ties","found","hand"] ["names","ties"] (a9 sM):=bF
def je(ns:ae)(as:ai):List (Key × V):=(ns.zip as).map λp=>(Sum.inr p.1,V.ref p.2)
inductive lK (K:af) (vs:ag) (H:Hp) (Q:VK) (E:XK):Prop
 |mk:∀(l1 l2:Addr) (ns:ae) (zs:ag) (ts:Xb),vs=[.ref l1,.ref l2]->H l1\.lst (ns.map V.str)->H l2\.lst zs->bG K H zs (ts.map kT)->ns.Nodup->ns.length<=1000->l1≠l2->(∀d as H',aa H H'->H d=none->as.length=ns.length->H' d\.dK (je ns as)->(∀(i:Nat) n a,ns[i]? = some n->as[i]? = some a->H a=none/\H' a\.lst ((near ns ts n).map V.str))->Q (.ref d) H')->lK K vs H Q E
theorem N9{K:af}{H:Hp}:∀{ts:Xb} {zs:ag},bG K H zs (ts.map kT)->Paired (r2 K rS rS H) zs ts
 |[],_,.nil=>.nil
 |t::ts,_,.cons ⟨a,e,h⟩ r=>.cons #[a,_,_,e,.of (yV h),Z,Z] (N9 r)
theorem jy{ns:ae}{i:Nat}{x:V}(h:(ns.map V.str)[i]? = some x):∃n,ns[i]? = some n/\x=.str n:=by
 rw[dS] at h;cases e:ns[i]? with
 |none=>rw[e] at h;cases h
 |some n=>rw[e] at h;exact#[n,Z,(dY h).symm]
theorem Wy{α:Type}(p:α->Bool){l:List α}{i:Nat}{x:α}(h:l[i]? = some x):(l.take (i+1)).filter p=(l.take i).filter p++(if p x then [x] else []):=PySem.take_succ_filter p l i x h
theorem kS_{f:Addr}{fd:Ae}(F:bg K "neighbours_of_all" "neighbours_of_all" sM f fd)(cL:!bc 1 "lesser_first" qC Ks):!ak ba 2 f fd ["names","ties"] (lK K):=by
 exists F.bI lQ;let#[l1,l2,ns,zs,ts,rfl,gH,jW,tz,nd,h8,pR,k]:=h;let hu:=gC hr;let MN:=hr.units;let sz:=b_
 apply#[_,ax (bh 2 lQ.nd Hk)
  (ax (fC eS Z (d_ (pv 0)) (cq 3 lQ.nd)
   (aC (xH hu (pv 2) (pv 3) (kX ["other","hand","ties"] 1 [3,1] (d_ (pv 0)) (λfp s H=>gg (i:=0) (show (["other","hand","ties"]:ae).Nodup by decide +kernel) Z (Or.inl Z))
    (λfp s H=>Uj (cn (LU (K:=K) (λK=>AM K (r2 K rS rS) false) (NU (Hb ia ia) (j6 hr _))) (aP cL hr %[1,0|0]) (pv 2) (by with_unfolding_all rfl))) (λfp s H=>pv 0)) Z)))
  (aC (aY (pv 2)))),?_]
 intro d hd;have s0:aa H (upd H d (.dK [])):=aa.new hd
 apply#[_,Z,l1,Z,#[_,.of (s0 _ _ gH)],iK (K:=K) (a:=l1) (xs:=ns.map V.str) (λi σ H2=>∃(v3:aN) (as:ai),σ=[some (.ref l1),some (.ref l2),some (.ref d),v3]/\aa H H2/\as.length=i/\H2 d\.dK (je (ns.take i) as) /\
  ∀(j:Nat) n a,ns[j]? = some n->as[j]? = some a->H a=none/\a≠d/\H2 a\.lst ((near ns ts n).map V.str)) #[none,[],Z,s0,Z,au,λj n a _ e=>by simp at e] (λi σ H2 _ ⟨_,_,_,s2,_⟩=>.of (s2 _ _ gH)) ?_ ?_]
 ·rintro i y σ H2 hy ⟨v3,as,rfl,s2,la,hd2,lists⟩;let#[n,hn,rfl]:=jy hy;have hi:i<ns.length:=(cU.mp hn).1
  have lk:(je (ns.take i) as).length=i:=by
   unfold je;rw[aA,List.length_zip,d6];omega
  apply#[_,Z,l1,Z,#[_,.of (s2 _ _ gH)],λD hD=>?_];apply k8 (own:=1) (fv:=[some (.str n),some (.ref l2)]) (xs:=ns.map V.str) Z fq (λj out H'=>aa H2 H'/\H' D\.lst out/\out=((ns.take j).filter λo=>decide (aK n o∈ts)).map V.str) #[aa.new hD,au,Z] (λj out H' _ ⟨sm,_,_⟩=>.of (sm _ _ (s2 _ _ gH))) (λout H' ⟨sm,fo,eo⟩=>?_) (λj x out H' hx ⟨sm,fo,eo⟩=>?_)
  ·rw[aA,e_] at eo
   have vi:bH (je (ns.take i) as) (Sum.inr n)=none:=zP λm=>by
    unfold je at m;rw[cu] at m;let#[p,hp,e]:=bJ.mp m;have e:p.1=n:=iF e;let q:=HY (g:=id) (by rw[List.map_id];exact nd) hn;rw[List.map_id] at q;exact q (e▸(List.of_mem_zip hp).1)
   have Sh:D≠d:=λz=>by subst z;rw[hD] at hd2;cases hd2
   apply#[_,Z,_,Z,d,_,Z,.k (k:=Sum.inr n) (sm _ _ hd2) Z1,?_];apply#[_,as++[D],Z,λc o e=>?_,by rw[fB,la];rfl,?_,λj n' a Be ha=>?_]
   ·rw[aD (bE e hd)];exact sm _ _ (s2 _ _ e)
   ·rw[au,DM _ vi];congr 2;unfold je;rw[iS,hn,List.zip_append (by rw[d6];omega),dC];rfl
   by_cases hj:j<as.length
   ·rw[zS hj] at ha;let#[q1,q2,q3]:=lists j n' a Be ha;apply#[q1,q2,?_];rw[aD q2];exact sm _ _ q3
   have hj2:j=i:=by
    have:=(cU.mp ha).1;rw[fB] at this;simp only[zQ] at this;omega
   subst hj2;rw[xT Z1,la,Nat.sub_self] at ha;have ha:D=a:=⇑ha
   subst ha;rw[hn] at Be;cases Be;apply#[s2.free hD,Sh,?_];rw[aD Sh,fo,eo];rfl
  let#[o,ho,rfl]:=jy hx;apply#[_,Z,Z,λNx hN=>?_];apply#[_,Z,_,Z,n,o,Z,λt ht=>?_];have s3:aa H' (upd H' t (.tup [.str (aK n o).1,.str (aK n o).2])):=aa.new ht;let Yu:=((tz.same s2).same sm).same s3
  have lo:out.length<sizeLine:=by
   rw[eo,aA];have:=List.length_filter_le (λo=>decide (aK n o∈ts)) (ns.take j);rw[d6] at this;omega
  apply#[_,Z,aK n o,ts,#[t,_,_,Z,.of au,Z,Z],#[l2,zs,Z,.of (s3 _ _ (sm _ _ (s2 _ _ jW))),N9 Yu],_,Z,?_];apply aM (λc=>?_) (λc=>?_)
  ·apply#[_,Z,out,s3 _ _ fo,lo,hN _ _ #[iV (sm.trans s3) hD,au,?_]];have c:decide (aK n o∈ts)=true:=⇑c
   rw[Wy _ ho,aH c,dC,eo];rfl
  apply hN _ _ #[sm.trans s3,s3 _ _ fo,?_];have c:¬decide (aK n o∈ts)=true:=⇑c
  rw[Wy _ ho,aB c,xR,eo]
 rintro σ H2 ⟨v3,as,rfl,s2,la,hd2,lists⟩;rw[aA] at la hd2;rw[e_] at hd2;exact#[_,Z,k d as _ s2 hd la hd2 λj n a h1 h2=>#[(lists j n a h1 h2).1,(lists j n a h1 h2).2.2]]
end
end Ev
namespace Ev
open PySem L2
abbrev sU:Stmt:=jw i6 0
abbrev wk:Stmt:=jw i6 1
abbrev mi:Stmt:=jw i6 2
abbrev Qi:Stmt:=jw i6 3
abbrev md:Stmt:=jw i6 4
abbrev sI:Stmt:=jw i6 5
abbrev lY:Stmt:=jw i6 6
abbrev sP:Stmt:=jw i6 7
def GG:ay->Str
 |.inr a::_=>a
 |_=>⟨#[]⟩
def K8:ay->Str × Str
 |[.inr a,.inr b]=>(a,b)
 |_=>(⟨#[]⟩,⟨#[]⟩)
def aF(hs:Xa):ae:=(aX (hs.map kH)).map GG
def aJ(ts:Xb):Xb:=(aX (ts.map λt=>kT (aK t.1 t.2))).map K8
theorem Km(ts:Xb):(aJ ts).map kT=aX (ts.map λt=>kT (aK t.1 t.2)):=by
 unfold aJ;rw[cu]
 have all:∀k∈aX (ts.map λt=>kT (aK t.1 t.2)),∃t:Str × Str,k=kT t:=λk hk=>by
  let#[t,_,e]:=bJ.mp ((k7 _).mem_iff.mp hk);exact#[_,e.symm]
 generalize aX (ts.map λt=>kT (aK t.1 t.2))=l at all
 induction l with
 |nil=>rfl
 |cons k l ih=>
  let#[t,rfl]:=all k fQ;rw[eD,ih λk hk=>all k (fb _ hk)];rfl
theorem VS(hs:Xa):∀k∈aX (hs.map kH),∃h:Str × Int,h∈hs/\k=kH h:=λk hk=>by
 let#[t,ht,e]:=bJ.mp ((k7 _).mem_iff.mp hk);exact#[t,ht,e.symm]
theorem UQ(hs:Xa):((dj hs).map λkv=>kV kv.1)=(aF hs).map V.str:=by
 unfold dj aF;rw[cu,cu];apply uP λk hk=>?_;let#[h,_,rfl]:=VS hs k hk;rfl
theorem U1(hs:Xa):(dj hs).map (·.1)=(aF hs).map Sum.inr:=by
 unfold dj aF;rw[cu,cu];apply uP λk hk=>?_;let#[h,_,rfl]:=VS hs k hk;rfl
theorem iz(hs:Xa):(aF hs).Perm (hs.map (·.1)):=by
 unfold aF;let p:=(k7 (hs.map kH)).map GG;rw[cu] at p;exact p
theorem Vr{κ:Type}[DecidableEq κ]{kvs:List (κ × V)}{k:κ}(h:k∈kvs.map (·.1)):(bH kvs k).isSome=true:=by
 rw[<- Hl];let#[p,hp,e]:=bJ.mp h;exact List.any_eq_true.mpr #[p,hp,bP e]
theorem J_{hs:Xa}{n:Str}:(bH (dj hs) (Sum.inr n)).isSome=decide (n∈hs.map (·.1)):=by
 by_cases h:n∈hs.map (·.1)
 ·rw[bP h];apply Vr ?_;rw[U1];exact bJ.mpr #[n,(iz hs).mem_iff.mpr h,Z]
 rw[dJ h,zP]
 ·rfl
 rw[U1];intro m;let#[x,hx,e]:=bJ.mp m;cases e;exact h ((iz hs).mem_iff.mp hx)
theorem Mb:¬((vv:Str)="sorted_pairs"):=by decide +kernel
theorem Ma:¬((vv:Str)=BK):=by decide +kernel
theorem Z5:¬(("sorted_pairs":Str)=BK):=by decide +kernel
def cZ(d1 l2 d3:Addr):List (Str × V):=aE BK (.ref d3) (aE "sorted_pairs" (.ref l2) (aE vv (.ref d1) []))
theorem JK(d1 l2 d3:Addr):(cZ d1 l2 d3).lookup (vv:Str)\.ref d1:=by
 unfold cZ;rw[fe,aB Ma,fe,aB Mb,fe,aH Z]
theorem lF_(d1 l2 d3:Addr):(cZ d1 l2 d3).lookup ("sorted_pairs":Str)\.ref l2:=by
 unfold cZ;rw[fe,aB Z5,fe,aH Z]
theorem Nq(d1 l2 d3:Addr):(cZ d1 l2 d3).lookup (BK:Str)\.ref d3:=by
 unfold cZ;rw[fe,aH Z]
theorem iJ(d1 l2 d3:Addr){m:Str}(h1:¬m=vv)(h2:¬m="sorted_pairs")(h3:¬m=BK):(cZ d1 l2 d3).lookup m=none:=by
 unfold cZ;rw[fe,aB h3,fe,aB h2,fe,aB h1]
 all_goals rfl
structure fF (K:af) (C:Addr) (H:Hp) (p:Addr) (hs:Xa) (ts:Xb) (fp:ai):Prop where
 ex:∃(dx d1 l2 d3:Addr) (zs:ag) (as:ai),fp=p::d1::l2::d3::as/\H p\.ins C dx (cZ d1 l2 d3)/\H d1\.dK (dj hs)/\H l2\.lst zs/\bG K H zs ((aJ ts).map kT)/\H d3\.dK (je (aF hs) as)/\as.length=(aF hs).length /\
  ∀(i:Nat) n a,(aF hs)[i]? = some n->as[i]? = some a->H a\.lst ((near (aF hs) (aJ ts) n).map V.str)
theorem fF.keep{K:af}{C:Addr}{H H':Hp}{p:Addr}{hs:Xa}{ts:Xb}{fp:ai}(W:fF K C H p hs ts fp)(k:∀b∈fp,∀o,H b\o->H' b\o)(kt:∀b xs,H b\.tup xs->H' b\.tup xs):fF K C H' p hs ts fp:=by
 let#[dx,d1,l2,d3,zs,as,rfl,h1,h2,h3,h4,h5,h6,h7]:=W.ex;apply#[dx,d1,l2,d3,zs,as,Z,k _ Z2 _ h1,k _ Z2 _ h2,k _ Z2 _ h3,Paired.bN h4 λy q ⟨a,e,z⟩=>#[a,e,kt _ _ z],k _ Z2 _ h5,h6,λi n a e1 e2=>k _ ?_ _ (h7 i n a e1 e2)];have:=dI e2;simp[this]
theorem fF.same{K:af}{C:Addr}{H H':Hp}{p:Addr}{hs:Xa}{ts:Xb}{fp:ai}(W:fF K C H p hs ts fp)(s:aa H H'):fF K C H' p hs ts fp:=W.keep (λb _ o e=>s b o e) λb xs e=>s b _ e
structure Good (hs:Xa) (ts:Xb):Prop where
 aI:∀h∈hs,zp h
 yY:(hs.map (·.1)).Nodup
 h1:1<=hs.length
 h8:hs.length<=8
 tok:∀t∈ts,zv t
 RK:(ts.map λt=>kT (aK t.1 t.2)).Nodup
 qf:ts.length<64
 IG:∀t∈ts,t.1∈hs.map (·.1)/\t.2∈hs.map (·.1)
theorem Good.tR{hs:Xa}{ts:Xb}(G:Good hs ts):(aF hs).Nodup:=(iz hs).nodup_iff.mpr G.yY
theorem Good.fS{hs:Xa}{ts:Xb}(G:Good hs ts):(aF hs).length=hs.length:=by
 rw[(iz hs).length_eq,aA]
theorem DN(ts:Xb):(aJ ts).length=ts.length:=by
 unfold aJ;rw[aA,(k7 _).length_eq,aA]
structure Txt (K:af) (mg:Str->Option Aa) (C:Addr):Prop where
 cl:nJ K C
 nS:kF K C vv
 nP:kF K C "sorted_pairs"
 nN:kF K C BK
section v
theorem lS:br ["self","hands","ties","strengths","checked"] o7 (a9 sU):=bF
inductive GW (K:af) (C:Addr) (vs:ag) (H:Hp) (Q:VK) (E:XK):Prop
 |mk:∀(p dx lh lt:Addr) (ys zs:ag) (hs:Xa) (ts:Xb),vs=[.ref p,.ref lh,.ref lt]->H p\.ins C dx []->H lh\.lst ys->bG K H ys (hs.map kH)->H lt\.lst zs->bG K H zs (ts.map kT)->Good hs ts->(∀fp H',(∀b o,H b\o->b≠p->H' b\o)->fF K C H' p hs ts fp->(∀b∈fp,b=p∨H b=none)->Q .non H')->GW K C vs H Q E
theorem kc_{f C:Addr}{fd:Ae}(F:bg K "__init__" "Web.__init__" sU f fd)(T:Txt K mg C)(B:Bi mg)(cS:!bc 4 "checked_strengths" ["hands"] (yq K))(cT:!bc 4 "checked_ties" ["ties","strengths"] (lH K))(cN:!bc 2 "neighbours_of_all" ["names","ties"] (lK K)) :
  ak P w K mg base ba 5 f fd o7 (GW K C):=by
 exists F.bI lS;let#[p,dx,lh,lt,ys,zs,hs,ts,rfl,hp,pT,th,dQ,tt,G,k]:=h
 apply#[_,ax (bh 3 lS.nd (aP cS hr %[1|0]))
  (ax (bh 4 lS.nd (aP cT hr %[2,3|0]))
  (ax (vG (pv 0) (pv 3) Z) (ax (vG (pv 0) (pv 4) Z)
  (aC (vG (pv 0) (aP cN hr %[iH (PZ Z) (by rfl) B.list zK %[3|0],4|0]) Z))))),?_]
 apply#[_,Z,lh,ys,hs,Z,pT,th,G.aI,G.yY,G.h1,G.h8,λd1 H1 s1 f1 vm=>?_];apply#[_,Z,_,Z,lt,d1,zs,ts,_,Z,s1 _ _ dQ,tt.same s1,G.tok,G.RK,G.qf,vm,λt ht=>?_,λl2 DZ H2 s2 f2 jW tz=>?_]
 ·rw[J_,J_];exact#[bP (G.IG t ht).1,bP (G.IG t ht).2]
 let Bo:=s2 _ _ vm;let ju:=s2 _ _ (s1 _ _ hp);have p1:p≠d1:=cb ju Bo nofun;have p2:p≠l2:=cb ju jW nofun;apply#[_,Z,_,Z,p,C,dx,[],Z,ju,T.cl,T.nS,by show 0<1000;decide,?_];apply#[_,Z,_,Z,p,C,dx,_,Z,au,T.cl,T.nP,by show 1<1000;decide,?_]
 let H3:Hp:=upd (upd H2 p (.ins C dx (aE vv (.ref d1) []))) p (.ins C dx (aE "sorted_pairs" (.ref l2) (aE vv (.ref d1) [])))
 have h3:∀{b o},H2 b\o->b≠p->H3 b\o:=λe ne=>by
  show upd (upd H2 p _) p _ _=_;rw[aD ne,aD ne];exact e
 have NY:H3 p\.ins C dx (aE "sorted_pairs" (.ref l2) (aE vv (.ref d1) [])):=au
 have E8:∀{b},H3 b=none->H2 b=none:=λ{b} e=>by
  by_cases z:b=p
  ·subst z;rw[NY] at e;cases e
  have e:upd (upd H2 p _) p _ b=none:=e;rw[aD z,aD z] at e;exact e
 have RG:bG K H3 DZ ((aJ ts).map kT):=by
  rw[Km];exact Paired.bN tz λy q ⟨a,e,z⟩=>#[a,e,h3 z (cb z ju nofun)]
 apply#[_,Z,d1,_,Z,.inl (h3 Bo p1.symm),λl1 gH=>?_];rw[UQ];have s4:aa H3 (upd H3 l1 (.lst ((aF hs).map V.str))):=aa.new gH;have L8:l1≠l2:=(bE (H:=H3) (h3 jW p2.symm) gH).symm;apply#[_,Z,l1,l2,aF hs,DZ,aJ ts,Z,au,s4 _ _ (h3 jW p2.symm),RG.same s4,G.tR,by rw[G.fS];have:=G.h8;omega,L8,λd3 as H5 s5 f5 la mL lists=>?_];let CN:=s5 _ _ (s4 _ _ NY);apply#[_,Z,p,C,dx,_,Z,CN,T.cl,T.nN,by show 2<1000;decide,?_]
 have up:∀{b o},H2 b\o->b≠p->upd H5 p (.ins C dx (cZ d1 l2 d3)) b\o:=λe ne=>by
  rw[aD ne];exact s5 _ _ (s4 _ _ (h3 e ne))
 have oS:∀{b},upd H3 l1 (.lst ((aF hs).map V.str)) b=none->H b=none:=λe=>s1.free (s2.free (E8 (s4.free e)));have NK:d3≠p:=(bE (s4 _ _ NY) f5).symm;apply k (p::d1::l2::d3::as) _ (λb o e ne=>up (s2 _ _ (s1 _ _ e)) ne) #[dx,d1,l2,d3,DZ,as,Z,au,up Bo p1.symm,up jW p2.symm,?_,?_,la,λi n a e1 e2=>?_] λb hb=>?_
 ·exact Paired.bN (RG.same (s4.trans s5)) λy q ⟨a,e,z⟩=>#[a,e,by rw[aD (cb z CN nofun)];exact z]
 ·rw[aD NK];exact mL
 ·let#[q1,q2]:=lists i n a e1 e2;rw[aD (cb q2 CN nofun)];exact q2
 simp only[cQ] at hb;rcases hb with rfl|rfl|rfl|rfl|hb
 ·exact .inl Z
 ·exact .inr f1
 ·exact .inr (s1.free f2)
 ·exact .inr (oS f5)
 let#[i,hi,e]:=lj hb;have e1:as[i]? = some b:=by rw[cw hi,e]
 have hn:i<(aF hs).length:=by omega
 exact .inr (oS (lists i _ b (cw hn) e1).1)
end
end Ev
namespace Ev
open PySem L2
structure bo (P:Ad) (w:Af) (K:af) (mg:Str->Option Aa) (base:Heap) (C:Addr) (k:Nat) (m:Str) (ps:ae) (sp:Sp):Prop where
 ex:∃f fd,ak P w K mg base ba k f fd ps sp/\Meth K C m f/\qE K fd ps []
theorem fG{X:Cx}{C:Addr}{k:Nat}{m:Str}{ps:ae}{sp:Sp}{pos apos:Pos}{o e:Expr}{es:List Expr}{ta:TE}{t:TA}{pl:Sem Bool}(c:bo X.prog X.w X.K X.mg X.base C k m ps sp)(cl:nJ X.K C)(hr:a_ k X.A)(he:PE X o ta)(ha:PA X (e::es) t)
  (wQ:starEach (e::es) X.env=(false,eval e X.env)::starEach es X.env:=by rfl) (jt:(backTo pos (starEach es X.env)).any (·.1)=false:=by rfl)
  (ht:eval (.Call (.Attribute o m apos) (e::es) [] pos) X.env=(do
   let ov <- eval o X.env
   standAt apos.atName
   let (f,first) <- holding [ov] (getMethod ov m pl)
   callWith pos f first (backTo pos (starEach (e::es) X.env)) (backToKw pos (keywordEach [] X.env))):=by rfl) :
  PE X (.Call (.Attribute o m apos) (e::es) [] pos) (nR C m sp [] E0 ta t):=by
 let#[f,fd,F,hm,b]:=c.ex;exact jD_ he cl hm F hr b .nil oG ha wQ jt ht
theorem uK{X:Cx}{C:Addr}{k:Nat}{m:Str}{ps:ae}{sp:Sp}{pos apos:Pos}{o:Expr}{ta:TE}{pl:Sem Bool}(c:bo X.prog X.w X.K X.mg X.base C k m ps sp)(cl:nJ X.K C)(hr:a_ k X.A)(he:PE X o ta)
  (ht:eval (.Call (.Attribute o m apos) [] [] pos) X.env=(do
   let ov <- eval o X.env
   standAt apos.atName
   let (f,first) <- holding [ov] (getMethod ov m pl)
   callWith pos f first (backTo pos (starEach [] X.env)) (backToKw pos (keywordEach [] X.env))):=by rfl) :
  PE X (.Call (.Attribute o m apos) [] [] pos) (nR C m sp [] E0 ta lF):=by
 let#[f,fd,F,hm,b]:=c.ex;exact je_ he cl hm F hr b .nil oG ht
theorem fS_{hs:Xa}(nd:(hs.map (·.1)).Nodup){x:Str}{n:Int}(h:(x,n)∈hs):bH (dj hs) (Sum.inr x)\.int n:=by
 have m:((Sum.inr x:Key),V.int n)∈dj hs:=by
  unfold dj;apply bJ.mpr #[kH (x,n),(k7 _).mem_iff.mpr (bJ.mpr #[_,h,Z]),Z]
 let nk:=Wu nd;generalize dj hs=kvs at m nk
 induction kvs with
 |nil=>cases m
 |cons p r ih=>
  let#[n1,n2]:=oY.mp nk;rcases cQ.mp m with e|m
  ·rw[<- e];exact Cd Z
  rw[Cf (λe:p.1=Sum.inr x=>n1 (bJ.mpr #[_,m,e.symm]))];exact ih m n2
theorem h6_{ns:ae}{as:ai}(nd:ns.Nodup)(la:as.length=ns.length){i:Nat}{n:Str}(hn:ns[i]? = some n):∃a,as[i]? = some a/\bH (je ns as) (Sum.inr n)\.ref a:=by
 induction ns generalizing as i with
 |nil=>simp at hn
 |cons x ns ih=>
  cases as with
  |nil=>cases la
  |cons b as=>
   let#[n1,n2]:=oY.mp nd;cases i with
   |zero=>
    have e:x=n:=⇑hn
    subst e;exact#[b,Z,Cd Z]
   |succ i=>
    have hn:ns[i]? = some n:=⇑hn
    let#[a,h1,h2]:=ih n2 ⇑la hn;apply#[a,by simpa using h1,?_];show bH ((Sum.inr x,V.ref b)::je ns as) (Sum.inr n)=_;rw[Cf λe=>n1 (by rw[show x=n from iF e];exact dI hn)];exact h2
section v
theorem yw:br oV oV (a9 wk):=bF
inductive jL (K:af) (C:Addr) (vs:ag) (H:Hp) (Q:VK) (E:XK):Prop
 |mk:∀(p:Addr) (x:Str) (hs:Xa) (ts:Xb) (fp:ai),vs=[.ref p,.str x]->fF K C H p hs ts fp->Q (.bl (decide (x∈hs.map (·.1)))) H->jL K C vs H Q E
theorem lE_{f C:Addr}{fd:Ae}(F:bg K "has_hand" "Web.has_hand" wk f fd)(T:Txt K mg C)(B:Bi mg):!ak ba 1 f fd oV (jL K C):=by
 exists F.bI yw;let#[p,x,hs,ts,fp,rfl,W,k]:=h;let hu:=gC hr;let#[dx,d1,l2,d3,zs,as,rfl,h1,h2,h3,h4,h5,h6,h7]:=W.ex;apply#[_,aC (aY (kL (bY iW (by rfl) B.iD iI %[1,iU (v:=.ty "str") (by rfl) B.str Dr Z|0]) (kK (GN (Dp hu (pv 1) (dz (pv 0) Z)))))),?_];apply#[_,Z,_,_,_,_,Z,.str x,Z,_,Z,bO ?_];apply#[_,Z,_,Z,p,C,dx,_,_,Z,h1,T.cl,T.nS,JK _ _ _,d1,_,Z,.k (k:=Sum.inr x) h2,?_];rw[J_];exact k
theorem wg:br gJ gJ (a9 mi):=bF
inductive Dx (K:af) (C:Addr) (vs:ag) (H:Hp) (Q:VK) (E:XK):Prop
 |mk:∀(p:Addr) (hs:Xa) (ts:Xb) (fp:ai),vs=[.ref p]->fF K C H p hs ts fp->(∀l,H l=none->Q (.ref l) (upd H l (.lst ((aF hs).map V.str))))->Dx K C vs H Q E
theorem is_{f C:Addr}{fd:Ae}(F:bg K "hands" "Web.hands" mi f fd)(T:Txt K mg C)(B:Bi mg):!ak ba 1 f fd gJ (Dx K C):=by
 exists F.bI wg;let#[p,hs,ts,fp,rfl,W,k]:=h;let#[dx,d1,l2,d3,zs,as,rfl,h1,h2,h3,h4,h5,h6,h7]:=W.ex;apply#[_,aC (aY (iH (PZ Z) (by rfl) B.list zK %[dz (pv 0) Z|0])),?_];apply#[_,Z,p,C,dx,_,_,Z,h1,T.cl,T.nS,JK _ _ _,d1,_,Z,.inl h2,λl hl=>?_];rw[UQ];exact k l hl
theorem fe':br jx jx (a9 Qi):=bF
inductive DO (K:af) (C:Addr) (vs:ag) (H:Hp) (Q:VK) (E:XK):Prop
 |mk:∀(p:Addr) (x:Str) (n:Int) (hs:Xa) (ts:Xb) (fp:ai),vs=[.ref p,.str x]->fF K C H p hs ts fp->(hs.map (·.1)).Nodup->(x,n)∈hs->Q (.int n) H->DO K C vs H Q E
theorem eE_{f C:Addr}{fd:Ae}(F:bg K "strength" "Web.strength" Qi f fd)(T:Txt K mg C)(cH:!bo C 1 "has_hand" oV (jL K C)):!ak ba 2 f fd jx (DO K C):=by
 apply F.bI fe' λaO A outer s H vs Q E hr h=>?_;let#[p,x,n,hs,ts,fp,rfl,W,nd,hx,k]:=h;let hu:=gC hr;let#[dx,d1,l2,d3,zs,as,rfl,h1,h2,h3,h4,h5,h6,h7]:=id W.ex;apply#[_,ax (bw (eF (dF (fG cH T.cl hr (pv 0) %[1|0]))) eE bx) (aC (aY (j9 hu (dz (pv 0) Z) (pv 1)))),?_];apply#[_,Z,p,dx,_,Z,h1,iJ _ _ _ Z0 Z0 Z0,_,Z,p,x,hs,ts,_,Z,W,_,Z,?_];rw[bP (bJ.mpr #[_,hx,Z])];apply aQ ?_;apply#[_,Z,p,C,dx,_,_,Z,h1,T.cl,T.nS,JK _ _ _,_,Z,d1,_,Z,?_,k];rw[<- fS_ nd hx];exact .k (k:=Sum.inr x) h2
theorem wc:br jx jx (a9 md):=bF
inductive J6 (K:af) (C:Addr) (vs:ag) (H:Hp) (Q:VK) (E:XK):Prop
 |mk:∀(p:Addr) (x:Str) (hs:Xa) (ts:Xb) (fp:ai),vs=[.ref p,.str x]->fF K C H p hs ts fp->(aF hs).Nodup->x∈hs.map (·.1)->(∀l,H l=none->Q (.ref l) (upd H l (.lst ((near (aF hs) (aJ ts) x).map V.str))))->J6 K C vs H Q E
theorem SR{H:Hp}{hs:Xa}{ts:Xb}{as:ai}{x:Str}(nd:(aF hs).Nodup)(hx:x∈hs.map (·.1))(la:as.length=(aF hs).length)
  (h7:∀(i:Nat) n a,(aF hs)[i]? = some n->as[i]? = some a->H a\.lst ((near (aF hs) (aJ ts) n).map V.str)):∃a,bH (je (aF hs) as) (Sum.inr x)\.ref a/\H a\.lst ((near (aF hs) (aJ ts) x).map V.str):=by
 let#[i,hi,e]:=lj ((iz hs).mem_iff.mpr hx);have hn:(aF hs)[i]? = some x:=by rw[cw hi,e]
 let#[a,h1,h2]:=h6_ nd la hn;exact⟨a,h2,h7 i x a hn h1⟩
theorem ig_{f C:Addr}{fd:Ae}(F:bg K "neighbours" "Web.neighbours" md f fd)(T:Txt K mg C)(B:Bi mg)(cH:!bo C 1 "has_hand" oV (jL K C)):!ak ba 2 f fd jx (J6 K C):=by
 exists F.bI wc;let#[p,x,hs,ts,fp,rfl,W,nd,hx,k]:=h;let hu:=gC hr;let#[dx,d1,l2,d3,zs,as,rfl,h1,h2,h3,h4,h5,h6,h7]:=id W.ex;let#[a,e1,ha]:=SR nd hx h6 h7;apply#[_,ax (bw (eF (dF (fG cH T.cl hr (pv 0) %[1|0]))) eE bx) (aC (aY (iH eA_ (by rfl) B.list zK %[j9 hu (dz (pv 0) Z) (pv 1)|0]))),?_];apply#[_,Z,p,dx,_,Z,h1,iJ _ _ _ Z0 Z0 Z0,_,Z,p,x,hs,ts,_,Z,W,_,Z,?_];rw[bP hx];apply aQ ?_;apply#[_,Z,p,C,dx,_,_,Z,h1,T.cl,T.nN,Nq _ _ _,_,Z,d3,.ref a,Z,?_,a,_,Z,.inl (.of ha),k];rw[<- e1];exact .k (k:=Sum.inr x) h5
theorem Ap:br kQ kQ (a9 sI):=bF
theorem Hj{H:Hp}:∀ns:ae,Paired (rS H) (ns.map V.str) ns
 |[]=>.nil
 |_::ns=>.cons Z (Hj ns)
theorem wa:br gJ gJ (a9 lY):=bF
inductive Od (K:af) (C:Addr) (vs:ag) (H:Hp) (Q:VK) (E:XK):Prop
 |mk:∀(p:Addr) (hs:Xa) (ts:Xb) (fp:ai),vs=[.ref p]->fF K C H p hs ts fp->ts.length<64->(∀l zs H',aa H H'->H l=none->H' l\.lst zs->bG K H' zs ((aJ ts).map kT)->Q (.ref l) H')->Od K C vs H Q E
theorem iL_{f C:Addr}{fd:Ae}(F:bg K "ties" "Web.ties" lY f fd)(T:Txt K mg C)(cA:!bc 1 "ties_anew" ["ties"] (rR K)):!ak ba 2 f fd gJ (Od K C):=by
 exists F.bI wa;let#[p,hs,ts,fp,rfl,W,bR,k]:=h;let#[dx,d1,l2,d3,zs,as,rfl,h1,h2,h3,h4,h5,h6,h7]:=W.ex;apply#[_,aC (aY (aP cA hr %[dz (pv 0) Z|0])),?_];exact#[_,Z,p,C,dx,_,_,Z,h1,T.cl,T.nP,lF_ _ _ _,l2,zs,aJ ts,Z,h3,h4,by rw[DN];omega,k]
theorem Av:br gJ gJ (a9 sP):=bF
def gq(hs:Xa)(ts:Xb):List Int:=(aF hs).map λn=>((near (aF hs) (aJ ts) n).length:Int)
inductive lM (K:af) (C:Addr) (vs:ag) (H:Hp) (Q:VK) (E:XK):Prop
 |mk:∀(p:Addr) (hs:Xa) (ts:Xb) (fp:ai),vs=[.ref p]->fF K C H p hs ts fp->0<(aF hs).length->(aF hs).length<=1000->(∀m H',aa H H'->m∈gq hs ts->(∀a∈gq hs ts,a<=m)->Q (.int m) H')->lM K C vs H Q E
theorem kh_{f C:Addr}{fd:Ae}(F:bg K "most_neighbours" "Web.most_neighbours" sP f fd)(T:Txt K mg C)(B:Bi mg):!ak ba 1 f fd gJ (lM K C):=by
 exists F.bI Av;let#[p,hs,ts,fp,rfl,W,h0,h8,k]:=h;let sz:=b_;let#[dx,d1,l2,d3,zs,as,rfl,h1,h2,h3,h4,h5,h6,h7]:=W.ex
 apply#[_,aC (aY (bY (il_ Z) (by rfl) B.max Dt %[kH_ (kX ["row"] 1 [] (jG_ (VG (dz (pv 0) Z))) (λfp s H=>gg (i:=0) (show (["row"]:ae).Nodup by decide +kernel) Z (Or.inl Z)) (λfp s H=>jA)
  (λfp s H=>bY (Qt (K:=K)) (by rfl) B.len gX %[0|0]))|0])),?_]
 apply#[d3,_,h5,_,Z,p,C,dx,_,_,Z,h1,T.cl,T.nN,Nq _ _ _,d3,_,Z,h5,λv hv=>?_];have s1:aa H (upd H v (vz v d3)):=aa.new hv;apply#[v,d3,_,Z,au,s1 _ _ h5,λo D hD=>?_]
 have lk:(je (aF hs) as).length=(aF hs).length:=by
  unfold je;rw[aA,List.length_zip];omega
 have H_:∀{b u},H b\u->u≠.dK (je (aF hs) as)->upd (upd H v (vz v d3)) d3 (.frz o (.dK (je (aF hs) as))) b\u:=λe ne=>by
  rw[aD (cb e h5 ne)];exact s1 _ _ e
 apply Kh (own:=1) (fv:=[]) Z fq (aF hs).length (λi out H'=>aa (upd (upd H v (vz v d3)) d3 (.frz o (.dK (je (aF hs) as)))) H'/\H' D\.lst out/\out=((gq hs ts).take i).map V.int) #[aa.new hD,au,Z] (λout H' ⟨sm,fo,eo⟩=>?_) (λi out H' hi ⟨sm,fo,eo⟩=>?_)
 ·let hf:=sm _ _ (show upd (upd H v (vz v d3)) d3 (.frz o (.dK (je (aF hs) as))) d3\_ from au);have Dd:D≠d3:=cb fo hf nofun;have ll:(gq hs ts).length=(aF hs).length:=by unfold gq;rw[aA]
  rw[<- ll,e_] at eo;apply#[#[hf,by omega],o,hf,D,gq hs ts,Z,.of ?_,by omega,λm hm hle=>k m _ (λb u e=>?_) hm hle]
  ·rw[aD Dd,fo,eo]
  by_cases z:b=d3
  ·subst z;rw[au,<- h5];exact e
  rw[aD z];exact sm _ _ (by rw[aD z];exact s1 _ _ e)
 let hf:=sm _ _ (show upd (upd H v (vz v d3)) d3 (.frz o (.dK (je (aF hs) as))) d3\_ from au);apply#[#[hf,by omega],λx H2 y=>?_];let#[eH,kk,hk]:=y;subst eH;have hn:(aF hs)[i]? = some (aF hs)[i]:=cw hi;have ha:as[i]? = some (as[i]' Z1):=cw Z1
 have ex:x=.ref (as[i]' Z1):=by
  unfold je at hk;rw[dS,cw (by rw[List.length_zip];omega),List.getElem_zip] at hk;exact (Prod.mk.inj (dY hk)).2.symm
 subst ex;let MQ:=h7 i _ _ hn ha;apply#[_,Z,Z,λNx hN=>eJ ?_];apply#[_,Z,_,_,Z,.inl (.of (sm _ _ (H_ MQ nofun))),out,fo,?_,hN _ _ #[iV sm hD,au,?_]]
 ·rw[eo,aA,d6];unfold gq;rw[aA];omega
 rw[DP _ (show (gq hs ts)[i]? = some (((near (aF hs) (aJ ts) (aF hs)[i]).length:Nat):Int) by unfold gq;rw[dS,hn];rfl),eo,aA]
end
end Ev
namespace L2
open PySem PySem.Spec PyProof.Rows PySem.W
def Ir(K:af)(a:Addr):It:=
 #[λi H=>∃xs x,dM K H a xs/\xs[i]? = some x,λi H y H'=>∃t x,y=.ref t/\H t=none/\(∀xs,dM K H a xs->xs[i]? = some x)/\H'=upd H t (.tup [.int i,x]),λi H=>∃xs,dM K H a xs/\xs.length=i]
theorem Inv.nO{X:Cx}{pins:List (Addr × Obj)}{σ:St}{H:Hp}{s:Ab}{h':Heap}{t':Nat}{fp:ai}{T:Addr}{xs:ag}{its:aj}(I:Inv X pins σ H s)(k:∀b o,b∉fp->s.heap.get? b\o->h'.get? b\o)(hf:∀b∈fp,dh X pins H b)
  (hT:s.heap.objs.size<=T) (hz:xs.length<=sizeLine) (r:Vals xs its) (ht:IsTup h' T its.toArray/\∃o,h'.get? T\o/\o.dict=none):Inv X pins σ (upd H T (.tup xs)) { s with heap:=h',toks:=t' }:=by
 have fT:H T=none:=I.aI.fresh hT;have nf:∀b u,H b\u->b∉fp:=λb u e hb=>by rw[(hf b hb).1] at e;cases e
 have old:∀{b u},H b\u->upd H T (.tup xs) b\u:=λe=>by rw[aD (bE e fT)];exact e
 apply I.step (g':=s.gens) (d':=s.drawn) (ch:=fp) (λb hb=>?_) (λb o _ _ hc e _=>k b o hc e) (λb o _ _ hc e _=>#[o.slots,k b o hc e]) (λb o _ e n=>?_)
  (λb o hc e=>#[o,k b o hc e]) (λb ys e=>old e) (λb o u e=>old e) (λb ps e=>#[#[],by rw[Array.append_empty];exact old e]) (λm hm=>?_) (λb u e=>?_) I.bare
 ·let#[f0,f1,f2,f3,f4,f5]:=hf b hb;exact#[f3,f1,f4,f5]
 ·rw[aD (λz=>by subst z;exact absurd (cy e) (Nat.not_lt.mpr hT))];exact n
 ·let#[o,es,ep,ho,r]:=hm;exact#[o,es,ep,k _ o (λhb=>(hf _ hb).2.1 Z) ho,r]
 by_cases z:b=T
 ·subst z;rw[au] at e;cases e;exact#[hz,its,r,ht]
 rw[aD z] at e;apply (I.aI b u e).d5 (λc v hc q=>k c v ?_ q) (λ_ q=>old q) λ_ _ q=>old q;rcases hc with z|z
 ·rw[z];exact nf b u e
 exact nf c _ z
theorem Inv.iY{X:Cx}{pins:List (Addr × Obj)}{σ:St}{H:Hp}{s:Ab}{h':Heap}{t':Nat}{fp:ai}(I:Inv X pins σ H s)(k:∀b o,b∉fp->s.heap.get? b\o->h'.get? b\o)(hf:∀b∈fp,dh X pins H b):Inv X pins σ H { s with heap:=h',toks:=t' }:=by
 have nf:∀b u,H b\u->b∉fp:=λb u e hb=>by rw[(hf b hb).1] at e;cases e
 apply I.step (g':=s.gens) (d':=s.drawn) (ch:=fp) (λb hb=>?_) (λb o _ _ hc e _=>k b o hc e) (λb o _ _ hc e _=>#[o.slots,k b o hc e]) (λb o _ e n=>n)
  (λb o hc e=>#[o,k b o hc e]) (λb ys e=>e) (λb o u e=>e) (λb ps e=>#[#[],by rw[Array.append_empty];exact e]) (λm hm=>?_) (λb u e=>?_) I.bare
 ·let#[f0,f1,f2,f3,f4,f5]:=hf b hb;exact#[f3,f1,f4,f5]
 ·let#[o,es,ep,ho,r]:=hm;exact#[o,es,ep,k _ o (λhb=>(hf _ hb).2.1 Z) ho,r]
 apply (I.aI b u e).d5 (λc v hc q=>k c v ?_ q) (λ_ q=>q) λ_ _ q=>q;rcases hc with z|z
 ·rw[z];exact nf b u e
 exact nf c _ z
theorem gE_{P:Ad}{w:Af}{K:af}{elts:List Expr}{k:Nat}{pos:Pos}(a e it:Addr)(h1:e≠it)(h2:a≠e)(h3:a≠it):Turn P w K (.Tuple elts k pos) (Ir K a) [e,it] e (λi h=>(∃old,IsEnum h e it i old)/\h.IsListIter it a i) where
 mem:=by simp
 obj:=λi h st b hb=>by
  let#[#[old,q],o,e2,c,d]:=st;rcases cQ.mp hb with rfl|hb
  ·exact#[_,q,λv z=>by cases z]
  obtain rfl:b=it:=⇑hb
  exact#[o,e2,λv z=>by rw[d] at z;cases z]
 keep:=λi h h' st kk=>by
  let#[#[old,q],dG]:=st;exact#[#[old,kk e Z2 _ q],dG.at λo q2=>kk it Z2 o q2]
 item:=by
  intro X hP hw hK hc i pins s σ H E I hf st hg;subst hP hw hK;let#[xs,x,hq,hx]:=hg;let#[its,rv,p,hz]:=I.list hq;let#[u,hu,ru]:=rv.get hx;let W:=WalksT.enumerate (prog:=X.prog) (w:=X.w) (A:=X.A) (I.ok.hd hc) e it a h1 h2 h3 its.toArray
  have hi:i<its.toArray.size:=by
   simp only[cg];exact (cU.mp hu).1
  let#[old,he]:=st.1;let hit:=st.2;apply wpAny_pyNext_enum_item he hit p.isList (x:=u) (by rw[List.getElem?_toArray];exact hu) h1 λh' ho Bk Jz hsz hk=>?_;have NC:e<s.heap.objs.size:=cy he;have Nn:it<s.heap.objs.size:=by let#[_,x,_]:=hit;exact cy x
  have mid:(∃x,IsEnumOut h' e it ((i:Int)+1) x s.heap.objs.size)/\h'.IsListIter it a (i+1)/\h'.IsList a its.toArray/\s.heap.objs.size≠e/\s.heap.objs.size≠it:=#[#[_,ho],Bk,p.isList.at λo x=>hk a o h2 h3 x,vN NC,vN Nn];have kk:∀b o,b∉[e,it]->s.heap.get? b\o->h'.get? b\o:=λb o hb x=>hk b o (λe'=>hb (by simp[e'])) (λe'=>hb (by simp[e'])) x;have MC:h'.IsTuple s.heap.objs.size (List.toArray [.int i s.toks,u]):=#[_,Jz,Z,_,Z];obtain⟨T,eT⟩:∃T,T=s.heap.objs.size:=#[_,Z];obtain⟨t,et⟩:∃t,t=s.toks:=#[_,Z];obtain⟨tk,Jn⟩:∃tk,tk=s.toks+1:=#[_,Z];rw[<- eT] at MC mid Jz ⊢;have hT:s.heap.objs.size<=T:=Nat.le_of_eq eT.symm;rw[<- et] at MC Jz;rw[<- Jn];apply#[_,Z,W.go elts k pos i T { s with heap:=h',toks:=tk } _ _ mid λgI fN Mt=>?_];have nT:T∉[e,it]:=W.apart i T h' mid
  have MB:gI.IsTuple T (List.toArray [.int i t,u]):=by
   let#[o,q,r]:=MC;exact#[o,Mt T o nT q,r]
  have I1:Inv X pins σ (upd H T (.tup [.int i,x])) { s with heap:=gI,toks:=tk }:=I.nO (t':=tk) (fp:=[e,it]) (its:=[.int i t,u]) (λb o hb q=>Mt b o hb (kk b o hb q)) hf hT (zl) (.cons #[t,Z] (.cons ru .nil)) #[MB,_,Mt T _ nT Jz,Z];apply#[.ref T,_,I1,Z,#[T,x,Z,I.aI.fresh hT,λys hy=>by rw[I.jR hy hq];exact hx,Z],#[?_,fN.2.1],λb hb=>?_]
  ·let#[old,q]:=fN.1;exact#[old,by simpa using q]
  rw[aD (λz:b=T=>nT (by rw[<- z];exact hb))];exact (hf b hb).1
 done:=by
  intro X hP hw hK hc i pins s σ H E I hf st hg;subst hP hw hK;let#[xs,hq,hx]:=hg;let#[its,rv,p,hz]:=I.list hq;let W:=WalksT.enumerate (prog:=X.prog) (w:=X.w) (A:=X.A) (I.ok.hd hc) e it a h1 h2 h3 its.toArray
  have hn:its.toArray.size=i:=by
   have:=rv.length;simp only[cg];omega
  apply W.done s _ _ (by rw[hn];exact#[st.1,st.2,p.isList]) λh' tk kk=>#[Z,I.iY (t':=tk) (fp:=[e,it]) kk hf]
 self:=λA i s Q E st h=>by
  let#[old,q]:=st.1;exact wpAny_pyIter_enum q h
inductive t_ (K:af) (R:It->Hp->Prop) (vs:ag) (H1:Hp):Prop
 |mk:∀a,vs=[.ref a]->(∃xs,dM K H1 a xs)->R (Ir K a) H1->t_ K R vs H1
def FC(K:af)(ta:TA):TI:=λσ H R=>ta σ H λvs H1=>t_ K R vs H1
theorem Ub{X:Cx}{elts:List Expr}{kk:Nat}{p2:Pos}{a:Expr}{ta:TA}{p pos:Pos}(hg:Gl X "enumerate")(hm:X.mg "enumerate"=none)(ha:PA X [a] ta)(hs:starEach [a] X.env=[(false,eval a X.env)]:=by rfl):PI X (.Tuple elts kk p2) (.Call (.Name "enumerate" p) [a] [] pos) (FC X.K ta):=by
 intro pins s σ H R I h;apply Call_ (Dq I hg hm boot_enumerate (PyProof.Rows.callWith_type1 (aV (ha pos pins s σ H _ I h) λus s1 ⟨vs,H1,I1,r1,q1⟩=>?_) hs Z));let#[l,e,#[xs,hq],q]:=q1;subst e;cases r1 with
 |cons r rr=>
  cases rr;cases r;let#[its,rv,pl,hz]:=I1.list hq;have ll:l<s1.heap.objs.size:=by let#[_,e,_]:=pl.isList;exact cy e
  apply call_enumerate_list pl.isList λh' he hi hn kp=>?_;apply wpAny_pyIter_enum he ?_;apply#[s1.heap.objs.size+1,[s1.heap.objs.size+1,s1.heap.objs.size],_,_,H1,Z,I1.kept (t':=s1.toks) kp,gE_ l _ _ (Nat.succ_ne_self _) (dZ (Nat.lt_succ_of_lt ll)) (dZ ll),#[#[_,he],hi],λb hb=>?_,q]
  have e:s1.heap.objs.size<=b:=by
   rcases cQ.mp hb with rfl|hb
   ·exact Nat.le_succ _
   obtain rfl:b=s1.heap.objs.size:=⇑hb
   exact bj _
  exact I1.jY e (I1.aI.fresh e)
theorem US{K:af}{a:Addr}{xs:ag}{g:TG}{tb:TS}{D:Ends}{σ:St}{H:Hp}(Pv:Nat->St->Hp->Prop)(h0:Pv 0 σ H)(hl:∀i σ H,i<=xs.length->Pv i σ H->dM K H a xs)
  (hs:∀i x σ H,xs[i]? = some x->Pv i σ H->∀t,H t=none->g (.ref t) σ (upd H t (.tup [.int i,x])) λg8 H2=>tb { D with nx:=Pv (i+1),ct:=Pv (i+1),bk:=D.nx } g8 H2) (hd:∀σ H,Pv xs.length σ H->D.nx σ H) :
  ∃W:Nat->Nat->St->Hp->Prop,(∃m,W 0 m σ H)/\∀i m σ H,W i m σ H->
   ((Ir K a).stop i H/\D.nx σ H)∨((Ir K a).go i H/\∃N:St->Hp->Prop,(∀bq H',N bq H'->∃m',m'<m/\W (i+1) m' bq H')/\∀x H',(Ir K a).ya i H x H'->g x σ H' λg8 H2=>tb { D with nx:=N,ct:=N,bk:=D.nx } g8 H2):=by
 apply#[λi m σ H=>m=xs.length - i/\i<=xs.length/\Pv i σ H,#[xs.length,by simp,g7 _,h0],?_];rintro i m σ H ⟨rfl,hi,p⟩;let q:=hl i σ H hi p;by_cases dQ:i<xs.length
 ·apply .inr #[#[xs,xs[i],q,by simp[dQ]],Pv (i+1),λbq H' p'=>#[xs.length - (i+1),by omega,Z,dQ,p'],λx H' y=>?_];let#[t,x,rfl,ht,y,rfl]:=y;exact hs i x σ H (y xs q) p t ht
 have e:i=xs.length:=by omega
 subst e;exact .inl #[#[xs,q,Z],hd σ H p]
theorem NV(a b c:Str):Fv (.str a) [.str b,.str c]=(decide (b=a) || decide (c=a)):=by
 have e:∀x y:Str,mO (.str x) (.str y)=decide (x=y):=λx y=>by
  have:=T9 (a:=Sum.inr x) (b:=Sum.inr y) Z;rw[show mO (.str x) (.str y)=mO (kV (Sum.inr x)) (kV (Sum.inr y)) from Z,this];by_cases z:x=y
  ·simp[z]
  simp[z]
 unfold Fv;simp only[List.any_cons,List.any_nil,Bool.or_false,e]
end L2
namespace L2
open PySem PySem.Spec PyProof.Rows
section
variable{M:Model}{A:Ag}{E:Aa->Ab->Prop}{s:Ab}{base:Heap}{env:Env}{outer:List Env}{L e:Addr}{cls cx fl:Aa}{Q:Unit->Ab->Prop}
end
end L2
namespace L2
open PySem PySem.Spec PyProof.Rows
theorem eC.here{P:Ad}{w:Af}{H:Hp}{h:Heap}{a:Addr}{o:HO}(x:eC P w H h a o):∃u,h.get? a\u:=by
 cases o with
 |lst xs=>let#[_,_,_,_,e]:=x;exact#[_,e]
 |tup xs=>let#[_,_,_,#[o,e,_],_]:=x;exact#[_,e]
 |dK kvs=>let#[_,_,_,_,o,_,_,e,_]:=x;exact#[_,e]
 |dT kvs=>let#[_,_,_,_,o,_,_,e,_]:=x;exact#[_,e]
 |set S n=>let#[o,_,_,_,e,_]:=x;exact#[_,e]
 |ins C dx fs=>let#[_,_,_,e,_]:=x;exact#[_,e]
 |own y=>exact x
 |xd fs=>let#[_,#[_,_,_,e,_],_]:=x;exact#[_,e]
 |rng lo hi=>let#[_,_,_,e]:=x;exact#[_,e]
 |frz ob u=>let#[e,_]:=x;exact#[_,e]
 |tbl ps=>exact#[_,show h.get? a\_ from x]
 |met f y=>exact#[_,show h.get? a\_ from x]
 |ext φ=>let#[_,e,_]:=x;exact e
def DW(B:Heap)(l:List Env)(H:Hp)(h0 h:Heap):Prop:=
 ∀b o,h.get? b\o->b∉h_ l->((H b).isSome=true∨∃o0,h0.get? b\o0)->B.get? b\o
section
variable{P:Ad}{w:Af}{H H':Hp}{B h0 h h1:Heap}{l:List Env}
theorem h8_(aI:eG P w H' h)(fr:∀b∈h_ l,H' b=none)(i:DW B l H' h0 h)(st:B.StaysIn h1):eG P w H' h1:=λb o e=>
 (aI b o e).d5 (λc u hc q=>by
  have hs:∃x,H' c\x:=by
   rcases hc with z|z
   ·exact#[o,z▸e]
   exact#[_,z]
  let#[x,hx]:=hs;exact st c u (i c u q (λm=>by rw[fr c m] at hx;cases hx) (.inl (by rw[hx];rfl)))) (λ_ q=>q) (λ_ _ q=>q)
theorem i9_(un:Un (h_ l) [] H H' h0 h)(ff:h.FunFrames B l)(i:DW B l H' h0 h)(st:B.StaysIn h1)(up:h.UpToSlots h1):Un (h_ l) [] H H' h0 h1 where
 keep:=λb o q n hb hx=>st b o (i b o (un.keep b o q n hb hx) hb (.inr #[o,q]))
 slot:=λb o q n hb hx=>by
  let#[sl,e]:=un.slot b o q n hb hx;let#[_,o',e',d]:=ff.mem hb;rw[e] at e';cases e';let#[IP,e2]:=up b _ e d;exact#[IP,e2]
 free:=un.free
 there:=λb o q hx=>by
  let#[o',e]:=un.there b o q hx;by_cases hb:b∈h_ l
  ·let#[_,o2,e',d]:=ff.mem hb;rw[e] at e';cases e';let#[IP,e2]:=up b _ e d;exact#[_,e2]
  exact#[o',st b o' (i b o' e hb (.inr #[o,q]))]
 g9:=un.g9
 fZ:=un.fZ
 gM:=un.gM
theorem iH_(aI:eG P w H' h)(un:Un (h_ l) [] H H' h0 h)(i:DW B l H' h0 h)(st:B.StaysIn h1):DW B l H' h0 h1:=λb o e hb c=>by
 have:∃u,h.get? b\u:=by
  rcases c with z|⟨o0,z⟩
  ·let#[x,hx]:=Cj.mp z;exact (aI b x hx).here
  exact un.there b o0 z Z2
 let#[u,hu]:=this;let q:=i b u hu hb c;have:=st b u q;rw[e] at this;cases this;exact q
end
section
variable{X:Cx}{pins:List (Addr × Obj)}{σ:St}{H H':Hp}{s s1:Ab}{B h:Heap}{a:Addr}{cls a0:Aa}{E:XK}
theorem iR_(I:Inv X pins σ H s)(un:Un (h_ X.stack) [] H H' s.heap h):∀b∈h_ X.stack,H' b=none:=λb hb=>by
 let#[_,o,ho,_]:=I.stack.mem hb;exact un.free b o ho (I.i4 b hb) Z2
end
section
variable{P:Ad}{w:Af}{K:af}{mg:Str->Option Aa}{base:Heap}{N:ae}{qual:Str}{scope:Scope}{f:Addr}{cd:Aa}{A:Ag}{outer:List Env}{s:Ab}{H:Hp}{E:XK}
end
section
variable{X:Cx}{x:Str}{C:Addr}{bm:aj}{B newId A5:String}{np cO pos:Pos}{e₀:Expr}{t:TA}{E:XK}
end
section v
end
end L2
namespace L2
open PySem PySem.Spec PySem.Calls PyProof.Rows PySem.W Builtin Builtin.ObjectAttr Builtin.Getset_descriptor
structure Ra (K:af) (C:Addr):Prop where
 cl:(clsIn K C).isSome=true
 ga:findIn K (.ref C) "__getattribute__"\some (.builtin "BaseException.__getattribute__")
 ha:findIn K (.ref C) "__getattr__"\none
 ca:findIn K (.ref C) "__class__"\some (.builtin "object.__class__")
 gt:specialIn K (.builtin "object.__class__") "__get__"\some (.builtin "getset_descriptor.__get__")
 tk:takesIn K (.builtin "object.__class__")\true
 mo:mroIn K C (.type "object")\true
 mb:mroIn K C (.type "BaseException")\true
section
variable{prog:Ad}{w:Af}{A:Ag}{E:Aa->Ab->Prop}{s:Ab}{K:af}{x C:Addr}
end
section
variable{X:Cx}
inductive yG (K:af) (xs:ag) (H:Hp) (Q:VK):Prop
 |mk:∀x C t b,xs=[x,.ref C]->d7 K H x t->PySem.W.kitOne K t (.ref C)\b->Q (.bl b) H->yG K xs H Q
theorem hH_:gB X (.builtin "isinstance") (yG X.K):=by
 intro pins s σ H xs us Q I r h;let#[x,C,t,b,rfl,ty,e,q]:=h;let#[u,w',rfl,ru,mz]:=vals2 r;cases (show w'=Value.ref C from mz);exact Wg I ru ty e λtk=>#[.bl b,H,I.tok tk,Z,q]
end
end L2
namespace L2
open PySem PySem.Spec PyProof.Rows
section
variable{X:Cx}{pins:List (Addr × Obj)}{σ:St}{H:Hp}{s:Ab}{a:Addr}
end
section
variable{X:Cx}{st:Stmt}{e c:Expr}{te:XS->TE}{t u:XS->TS}{pos:Pos}{a b:List Stmt}{tc:TT}
end
section
variable{X:Cx}{k:Nat}{f C:Addr}{fd:Ae}{ps:ae}{sp:Sp}{gR:ag}{ds:aj}{ES:XS}{x m:Str}{p pos apos:Pos}{e o:Expr}{es:List Expr}{ta:TE}{t:TA}
end
section
variable{X:Cx}{i:Nat}{x n:Str}{D C:Addr}{np A9 pos:Pos}{B8:Stmt}{rB body:List Stmt}{tb:XS->TS}{ts:TS}
end
end L2
namespace L2
open PySem
end L2
namespace Ev
open PySem L2
abbrev s_:Stmt:=top 77
abbrev mq:Stmt:=top 78
abbrev sT:Stmt:=top 80
abbrev LJ:Stmt:=top 11
abbrev OT:Stmt:=top 31
abbrev lV:Stmt:=top 32
abbrev mr:Stmt:=top 72
abbrev OI:Stmt:=top 73
abbrev O4:Stmt:=top 74
abbrev GZ:Stmt:=top 75
abbrev Of:Stmt:=top 24
abbrev Pn:Stmt:=top 25
abbrev LI:Stmt:=top 12
abbrev sO:Stmt:=top 26
abbrev Oa:Stmt:=top 27
abbrev O6:Stmt:=top 68
abbrev Kc:Stmt:=top 4
abbrev iC:Stmt:=top 34
abbrev JR:Stmt:=top 35
abbrev sY:Stmt:=top 36
abbrev AG:Stmt:=top 37
abbrev AF:Stmt:=top 38
abbrev Pp:Stmt:=top 39
abbrev Pi:Stmt:=top 40
abbrev QE:Stmt:=top 41
abbrev Hv:Stmt:=top 42
abbrev Ph:Stmt:=top 43
abbrev jN:Stmt:=top 44
abbrev Ow:Stmt:=top 46
abbrev Qd:Stmt:=top 47
abbrev O3:Stmt:=top 48
abbrev Pt:Stmt:=top 45
abbrev Oq:Stmt:=top 49
abbrev On:Stmt:=top 33
abbrev lU:Stmt:=top 85
abbrev me:Stmt:=top 79
abbrev sG:Stmt:=top 81
abbrev OR:Stmt:=top 82
abbrev l7:Stmt:=top 83
abbrev sJ:Stmt:=top 84
abbrev Og:Stmt:=top 86
abbrev ma:Stmt:=top 51
abbrev l_:Stmt:=top 52
abbrev lZ:Stmt:=top 28
abbrev OO:Stmt:=top 55
abbrev OG:Stmt:=top 56
abbrev Ob:Stmt:=top 57
abbrev mn:Stmt:=top 58
abbrev ml:Stmt:=top 59
abbrev OM:Stmt:=top 60
abbrev sQ:Stmt:=top 87
abbrev sR:Stmt:=top 90
abbrev AH:Stmt:=top 88
abbrev AD:Stmt:=top 89
abbrev hG:Stmt:=top 91
def aR(l:Addr)(H H':Hp):Prop:=∀b o,H b\o->b≠l->H' b\o
theorem aR.refl(l:Addr)(H:Hp):aR l H H:=λ_ _ e _=>e
theorem aR.trans{l:Addr}{H H1 H2:Hp}(h:aR l H H1)(h2:aR l H1 H2):aR l H H2:=λb o e n=>h2 b o (h b o e n) n
theorem aR.of{l:Addr}{H H1:Hp}(h:aa H H1):aR l H H1:=λb o e _=>h b o e
theorem aR.upd{l:Addr}{H:Hp}{o:HO}:aR l H (upd H l o):=λb u e n=>by rw[aD n];exact e
def bW(H:Hp)(l:Addr):Prop:=(∃n:Int,H l\.lst [.int n])∨∃n m c:Int,H l\.lst [.int n,.int m,.int c]
theorem bW.some{H:Hp}{l:Addr}(h:bW H l):∃xs,H l\.lst xs:=by
 rcases h with⟨n,e⟩|⟨n,m,c,e⟩
 ·exact#[_,e]
 exact#[_,e]
theorem aR.free{l b:Addr}{H H':Hp}(h:aR l H H')(s:bW H' l)(e:H' b=none):H b=none:=by
 cases z:H b with
 |none=>rfl
 |some o=>
  by_cases q:b=l
  ·subst q;let#[xs,e2]:=s.some;rw[e] at e2;cases e2
  rw[h b o z q] at e;cases e
theorem fP{α:Type}{xs:List α}{i:Int}(h0:0<=i)(h1:i<xs.length):eZ xs i=xs[i.toNat]?:=by
 unfold eZ wM;rw[aH h0,aH h1];rfl
section v
def vH:Sp:=λvs H Q _=>∃(l:Addr) (b:Int),vs=[.ref l,.int b]/\0<b/\b<1073741824/\bW H l/\∀r H',0<=r->r<b->aR l H H'->bW H' l->Q (.int r) H'
theorem small(x:Int):-(2 ^ 64)<x % 2147483647/\x % 2147483647<2 ^ 64:=by
 let h1:=Int.emod_nonneg x (b:=2147483647) (by decide);let h2:=Int.emod_lt_of_pos x (b:=2147483647) (by decide);exact#[by omega,by omega]
end
end Ev
namespace Ev
open PySem L2
theorem UC:(BP:Str).cps.toList=[97,98,99,100,101,102,103,104,105,106,107,108,109,110,111,112,113,114,115,116,117,118,119,120,121,122]:=by decide +kernel
theorem _y{r:Int}(h0:0<=r)(h1:r<26):∃c,eZ (BP:Str).cps.toList r\c/\jP c=true:=by
 rw[UC,fP h0 ⇑h1];have hn:r.toNat<26:=by omega
 apply#[_,cw ⇑hn,?_];have all:∀c∈[97,98,99,100,101,102,103,104,105,106,107,108,109,110,111,112,113,114,115,116,117,118,119,120,121,122],jP c=true:=by decide +kernel
 exact all _ (nD _)
end Ev
namespace Ev
open PySem L2
theorem wX{α:Type}{a b:α}{r:Int}(h0:0<=r)(h1:r<2):eZ [a,b] r\a∨eZ [a,b] r\b:=by
 have:r=0∨r=1:=by omega
 rcases this with rfl|rfl
 ·exact .inl Z
 exact .inr Z
section
theorem jD{K:af}{H H':Hp}{l:Addr}{ys:ag}{ks:List ay}(t:bG K H ys ks)(b:aR l H H'){xs:ag}(hl:H l\.lst xs):bG K H' ys ks:=Paired.bN t λy k ⟨a,z,q⟩=>#[a,z,b _ _ q (cb q hl nofun)]
theorem Vh{K:af}{H:Hp}{D:Addr}{ns:ae}(h:H D\.lst (ns.map V.str)):rL K rS H (.ref D) ns:=#[D,_,Z,.of h,Hj ns]
end
end Ev
namespace Ev
open PySem L2
def kO(t:Str × Str):ay:=kT (aK t.1 t.2)
structure TI (ns:ae) (k j:Nat) (ts:Xb):Prop where
 at':∀t∈ts,∃(a b:Nat) (x y:Str),b<a/\(a<k∨(a=k/\b<j))/\ns[a]? = some x/\ns[b]? = some y/\(t=(x,y)∨t=(y,x))
 nd:(ts.map kO).Nodup
 len:ts.length<=7 * k+j
theorem GL{a b:Str × Str}(h:kT a=kT b):a=b:=by
 unfold kT at h;let#[h1,h2]:=List.cons.inj h;let#[h2,_]:=List.cons.inj h2;exact Prod.ext (iF h1) (iF h2)
theorem HK{ns:ae}(nd:ns.Nodup){i j:Nat}{x:Str}(h:ns[i]? = some x)(h2:ns[j]? = some x):i=j:=by
 let#[hi,e1]:=cU.mp h;let#[hj,e2]:=cU.mp h2;exact (List.getElem_inj nd).mp (e1.trans e2.symm)
theorem kV_{a b c d:Str}(h:kO (a,b)=kO (c,d)):(a=c/\b=d)∨(a=d/\b=c):=by
 let h:=GL h;dsimp only at h;rcases zJ a b with e|e<;>rcases zJ c d with e2|e2<;>rw[e,e2] at h<;>let h1:=(Prod.mk.inj h).1<;>let h2:=(Prod.mk.inj h).2
 ·exact .inl #[h1,h2]
 ·exact .inr #[h1,h2]
 ·exact .inr #[h2,h1]
 exact .inl #[h2,h1]
theorem bW.same{H H':Hp}{l:Addr}(h:bW H l)(s:aa H H'):bW H' l:=by
 rcases h with⟨n,e⟩|⟨n,m,c,e⟩
 ·exact .inl #[n,s _ _ e]
 exact .inr #[n,m,c,s _ _ e]
end Ev
namespace Ev
open PySem L2
theorem hc_{a b:Str}(h:A0 a b=true):A0 b a=false:=Vm (a:=Sum.inr a) (b:=Sum.inr b) h
theorem jM_{a b:Str}(h:A0 a b=false)(h2:A0 b a=false):a=b:=iF (Ud (a:=Sum.inr a) (b:=Sum.inr b) h h2)
theorem Qk(a b:Str):aK a b=aK b a:=by
 unfold aK;by_cases h:A0 a b=true
 ·rw[aH h,aB (by rw[hc_ h];decide)]
 by_cases h2:A0 b a=true
 ·rw[aB h,aH h2]
 have:=jM_ ⇑h ⇑h2;subst this;rw[aB h]
theorem VD{ts:Xb}{x:Str × Str}:x∈aJ ts ↔ ∃t∈ts,aK t.1 t.2=x:=by
 have e:kT x∈(aJ ts).map kT ↔ x∈aJ ts:=#[λh=>by
  let#[y,hy,e]:=bJ.mp h;rw[<- GL e];exact hy,λh=>bJ.mpr #[x,h,Z]]
 rw[<- e,Km,(k7 _).mem_iff,bJ];exact#[λ⟨t,ht,q⟩=>#[t,ht,GL q],λ⟨t,ht,q⟩=>#[t,ht,by rw[q]]]
theorem ky_(a b:Str):kO (a,b)=kO (b,a):=by
 show kT (aK a b)=kT (aK b a);rw[Qk]
end Ev
namespace Ev
open PySem L2
section v
theorem AB:br o6 o6 (a9 s_):=bF
def rQ(K:af):Sp:=λvs H Q _=>∃(l:Addr) (ns:List Int) (k:Int),vs=[.ref l,.int k]/\0<=k/\dM K H l (ns.map V.int)/\∀n,Q (.int n) H
theorem kM_{f:Addr}{fd:Ae}(F:bg K "_law_cell_at" "_law_cell_at" s_ f fd)(B:Bi mg):!ak ba 1 f fd o6 (rQ K):=by
 exists F.bI AB;let#[l,ns,i,rfl,h0,hl,k]:=h;apply#[_,ax (bw (cn _Y (pv 1) (bY iy (by rfl) B.len gX %[0|0])) (aC (aY (bA fA (pv 0) (pv 1)))) bx) (aC (aY az)),?_];apply#[_,Z,_,Z,l,_,Z,.inl hl,_,_,Z,Z,_,Z,?_];apply aM (λc=>?_) (λc=>?_)
 ·have c:i<(ns.map V.int).length:=⇑c
  have e:eZ (ns.map V.int) i\.int (ns[i.toNat]'(by rw[aA] at c;omega)):=by
   rw[fP h0 c,dS,cw (by rw[aA] at c;omega)];rfl
  exact#[_,Z,_,Z,l,_,_,_,Z,Z,hl,e,k _]
 exact k 0
theorem HR:br [eY,"_law_base","_law_cell","_law_found","_law_number"] uH (a9 mq):=bF
theorem ET{n:Int}(b:Bool):∃m:Int,eZ [V.int 0,V.int n] (if b then 1 else 0)\.int m:=by
 cases b
 ·exact#[0,Z]
 exact#[n,Z]
theorem iX_{f:Addr}{fd:Ae}(F:bg K qA qA mq f fd)(B:Bi mg):!ak ba 1 f fd uH vH:=by
 exists F.bI HR;let#[l,b,rfl,h0,h1,st,k]:=h
 apply#[_,ax (bw (cn gf (bY iy (by rfl) B.len gX %[0|0]) az)
   (ax (bh 2 HR.nd (bA fA (pv 0) az))
   (ax (xF (bA fA (dE %[az,2|0]) (iH Vo (by rfl) B.int JM %[m_ Mz (pv 2) (bu Np az az)|0])) (ND (pv 0) az Px))
   (aC (j_ (kW mX DD DE DH (pv 0) %[dE %[bu pY (pv 2) az,az|0]|0]))))) bx)
  (ax (bw (cn BO (bA fA (pv 0) az) az)
   (ax (bh 3 HR.nd (bu pY (bA fA (pv 0) az) (pv 1)))
   (ax (xF (bu xK (bA fA (pv 0) az) (pv 1)) (ND (pv 0) az Px))
   (aC (aY (pv 3))))) bx)
  (ax (xF (bu fH (bA fA (pv 0) az) az) (ND (pv 0) az Px))
  (ax (bh 4 HR.nd (bu pY (bu oX (bu fH (bu fH (bA fA (pv 0) az) (bu oX az (bA fA (pv 0) az))) az) az) az))
  (ax (bh 4 HR.nd (bu pY (bu oX (pv 4) (bu fH (bu xK (pv 4) az) az)) az))
  (aC (aY (bu pY (bu pY (bu oX (pv 4) (bu fH (bu xK (pv 4) az) az)) az) (pv 1)))))))),?_]
 rcases st with⟨n,vk⟩|⟨n,m,c,hl⟩
 case' inl=>
  apply#[_,Z,l,_,Z,.inl (.of vk),Z,_,Z,bO ?_];apply#[_,Z,l,_,_,_,Z,Z,.of vk,Z,?_];apply#[_,Z,zl,λp hp=>?_];have lp:l≠p:=bE vk hp;apply#[_,Z,_,_,Z,Z,#[by decide,by decide,by decide],_,_,Z,Z,.inr #[_,Z,?_]];let#[n',Be]:=ET (n:=n) (decide ((10:Int) ^ (18:Int).toNat<=n));apply#[p,_,_,_,Z,Z,.of au,Be,?_];apply#[_,Z,l,_,_,0,Z,Z,by rw[aD lp];exact vk,Z,?_];have gH:(upd (upd H p (.lst [.int 0,.int n])) l (.lst ([V.int n].set 0 (.int n')))) l\.lst [.int n']:=au;have WI:aR l H (upd (upd H p (.lst [.int 0,.int n])) l (.lst ([V.int n].set 0 (.int n')))):=(aR.of (aa.new hp)).trans aR.upd;generalize (upd (upd H p (.lst [.int 0,.int n])) l (.lst ([V.int n].set 0 (.int n'))))=Ha at gH WI ⊢;apply#[_,Z,.inl #[Z,_,.of gH],_,Z,_,_,Z,Z,by show (0:Int)<2147483647;decide,zl,λq hq=>?_];apply#[l,q,_,_,Z,Z,aa.new hq _ _ gH,au,by show 1+2<=sizeLine;decide,?_];have bt:aR l H (upd (upd Ha q (.lst [.int (n % 2147483647),.int 0])) l (.lst ([.int n']++[.int (n % 2147483647),.int 0]))):=WI.trans ((aR.of (aa.new hq)).trans aR.upd);have hl:(upd (upd Ha q (.lst [.int (n % 2147483647),.int 0])) l (.lst ([.int n']++[.int (n % 2147483647),.int 0]))) l\.lst [.int n',.int (n % 2147483647),.int 0]:=au;generalize (upd (upd Ha q (.lst [.int (n % 2147483647),.int 0])) l (.lst ([.int n']++[.int (n % 2147483647),.int 0])))=H1 at bt hl ⊢
 case' inr=>
  apply#[_,Z,l,_,Z,.inl (.of hl),Z,_,Z,aQ ?_];let bt:=aR.refl l H
 all_goals
  apply#[_,Z,l,_,_,_,Z,Z,.of hl,Z,_,_,Z,Z,_,Z,?_];apply aM (λc=>?_) (λc=>?_)
  ·apply#[_,Z,l,_,_,_,Z,Z,.of hl,Z,_,Z,_,_,Z,Z,h0,?_];apply#[_,Z,l,_,_,_,Z,Z,.of hl,Z,_,Z,_,_,Z,Z,#[h0,h1],_,Z,l,_,_,0,Z,Z,hl,Z,?_];exact#[_,Z,k _ _ (Int.emod_nonneg _ Z1) (Int.emod_lt_of_pos _ h0) (bt.trans aR.upd) (.inr #[_,_,_,au])]
  apply#[_,Z,l,_,_,_,Z,Z,.of hl,Z,_,_,Z,Z,_,Z,l,_,_,2,Z,Z,hl,Z,?_];apply#[_,Z,l,_,_,_,Z,Z,.of au,Z,_,Z,l,_,_,_,Z,Z,.of au,Z,_,_,Z,Z,.inl #[by decide,by decide],_,_,Z,Z,_,_,Z,Z,_,_,Z,Z,.inr #[by decide,by decide],_,_,Z,Z,by show (0:Int)<2147483647;decide,?_];apply#[_,Z,_,Z,_,_,Z,Z,#[by decide,by decide],_,_,Z,Z,_,_,Z,Z,.inl (small _),_,_,Z,Z,by show (0:Int)<2147483647;decide,?_];apply#[_,Z,_,Z,_,_,Z,Z,#[by decide,by decide],_,_,Z,Z,_,_,Z,Z,.inl (small _),_,_,Z,Z,by show (0:Int)<2147483399;decide,_,Z,_,_,Z,Z,h0,?_];exact k _ _ (Int.emod_nonneg _ Z1) (Int.emod_lt_of_pos _ h0) (bt.trans aR.upd) (.inr #[_,_,_,au])
end
end Ev
namespace Ev
open PySem L2
def qM:ae:=["hand","tie","piece","yard","free","fixed","none","tick","come","go","rest","run","show","ok"]
structure Nm (m:Nat) (ns:ae):Prop where
 len:ns.length=m
 nd:ns.Nodup
 ok:∀n∈ns,gZ n=true
 end_:∀n∈ns,n∈qM∨∃k,k<m/\n.cps.toList.getLast? = some (97+k % 26)
theorem iw_(ns:ae)(k:Nat)(h:k<=ns.length):dX (ns.map V.str) (some (k:Int)) none=(ns.drop k).map V.str:=by
 unfold dX;rw[HT.i7,HT.hJ,aA,Nat.min_eq_left h,List.map_drop,zR];rw[zO,aA];omega
def Tl(m k:Nat)(n:Str):Prop:=gZ n=true/\∃w:List Nat,n.cps.toList=w++(if 26<m then [97+k / 26] else [])++[97+k % 26]
theorem l2_{m i j:Nat}{n:Str}(hm:m<=676)(hi:i<m)(hj:j<m)(a:Tl m i n)(b:Tl m j n):i=j:=by
 let#[_,w1,e1]:=a;let#[_,w2,e2]:=b;rw[e1] at e2;let l:=d9 List.getLast? e2;rw[List.getLast?_append,List.getLast?_append] at l;simp at l;by_cases h:26<m
 ·rw[aH h,aH h] at e2;let z:=List.append_inj' e2 Z;let z2:=List.append_inj' z.1 Z;have:=(List.cons.inj z2.2).1;omega
 omega
theorem iV_{m:Nat}{ns:ae}(hm:m<=676)(hl:ns.length=m)(h:∀k n,ns[k]? = some n->Tl m k n):Nm m ns:=by
 apply#[hl,?_,λn hn=>?_,λn hn=>?_]
 ·rw[uQ,List.pairwise_iff_getElem];intro i j hi hj lt e;let a:=h i _ (cw hi);let b:=h j _ (cw hj);rw[e] at a;have:=l2_ hm Z1 Z1 a b;omega
 ·let#[k,hk,e]:=lj hn;exact (h k n (by rw[cw hk,e])).1
 let#[k,hk,e]:=lj hn;let#[_,w,e2]:=h k n (by rw[cw hk,e]);apply .inr #[k,by omega,?_];rw[e2,List.getLast?_append];rfl
theorem Tf{q:Nat}(h:q<26):eZ (BP:Str).cps.toList (q:Int)\(97+q):=by
 rw[UC,fP Z1 (by show (q:Int)<((26:Nat):Int);omega),qH];have all:∀i:Fin 26,[97,98,99,100,101,102,103,104,105,106,107,108,109,110,111,112,113,114,115,116,117,118,119,120,121,122][i.val]? = some (97+i.val):=by decide +kernel
 exact all #[q,h]
theorem Kk(x:Str)(c:Nat):(x++(⟨(List.toArray [c])⟩:Str)).cps.toList=x.cps.toList++[c]:=PySem.W.KT.app_list _ _
theorem DI(x:Str):x.length=x.cps.toList.length:=by rw[qJ];rfl
theorem S0{q:Nat}(h:q<26):jP (97+q)=true:=by
 unfold jP;rw[bP Z1,bP Z1];rfl
section v
theorem zH:br [eY,"_law_many","_law_letters","_law_names_here","_law_k","_law_word","_law_j"] kg (a9 me):=bF
def Ka:Sp:=λvs H Q _=>∃(l:Addr) (m:Nat),vs=[.ref l,.int m]/\m<=30/\bW H l/\∀(a:Addr) (ns:ae) (H':Hp),aR l H H'->bW H' l->H a=none->H' a\.lst (ns.map V.str)->Nm m ns->Q (.ref a) H'
theorem iI_{f:Addr}{fd:Ae}(F:bg K "_law_names" "_law_names" me f fd)(B:Bi mg)(cD:!bc 1 qA uH vH):!ak ba 2 f fd kg Ka:=by
 exists F.bI zH;let#[l,m,rfl,Mg,st,k]:=h;let sz:=b_;refine' #[_,?u0,?kk]
 case' u0=>refine' ax ?u1 ?u2
 case u1=>exact bh 2 zH.nd ck
 case' u2=>refine' ax ?Ym ?Yl
 case Ym=>exact bh 3 zH.nd (dE bf)
 case' Yl=>refine' ax ?Yk ?Yj
 case' Yk=>refine' fC ?Yi ?Yh ?Yg ?Yf ?Ye
 case Yi=>exact eS
 case Yh=>exact Z
 case Yg=>exact B9 (by rfl) B.range %[1|0]
 case Yf=>exact cq 4 zH.nd
 case' Ye=>refine' ax ?Yd ?Yc
 case Yd=>exact bh 5 zH.nd ck
 case' Yc=>refine' ax ?Yb ?Ya
 case' Yb=>refine' fC ?X_ ?X9 ?X8 ?X7 ?RE
 case X_=>exact eS
 case X9=>exact Z
 case' X8=>refine' B9 ?X6 ?X5 ?X4
 case X6=>exact by rfl
 case X5=>exact B.range
 case X4=>exact eW (aP cD hr %[0,bu xw az (bu xK (pv 1) az)|0]) bf
 case X7=>exact cq 6 zH.nd
 case' RE=>refine' aC ?X3
 first|(case' X3=>refine' Du (i:=5) ?RD ?RC ?RB ?RA)|(case' RE=>refine' Du (i:=5) ?RD ?RC ?RB ?RA)
 case RD=>exact zH.nd
 case RC=>exact Z
 case RB=>exact Or.inl Z
 case RA=>exact bu PP (pv 5) (bA ME (pv 2) (aP cD hr %[0,az|0]))
 case' Ya=>refine' ax ?X2 ?Rz
 case' X2=>refine' bw ?X1 ?Ry ?X0
 case X1=>exact cn BO (pv 1) az
 case' Ry=>refine' aC ?XZ
 first|(case' XZ=>refine' Du (i:=5) ?Rx ?Rw ?Rv ?Ru)|(case' Ry=>refine' Du (i:=5) ?Rx ?Rw ?Rv ?Ru)
 case Rx=>exact zH.nd
 case Rw=>exact Z
 case Rv=>exact Or.inl Z
 case Ru=>exact bu PP (pv 5) (bA ME (pv 2) (bu xK (pv 4) az))
 case X0=>exact bx
 case' Rz=>refine' aC ?Rt
 first|(case' Rt=>refine' j_ ?Rq)|(case' Rz=>refine' j_ ?Rq)
 first|(case' Rq=>refine' kW ?Ro ?Rn ?Rm ?Rk ?Rj ?Ri)|(case' Rt=>refine' kW ?Ro ?Rn ?Rm ?Rk ?Rj ?Ri)
 case Ro=>exact mX
 case Rn=>exact xA
 case Rm=>exact xI
 case Rk=>exact vJ
 case Rj=>exact pv 3
 case Ri=>exact eW (bu PP (pv 5) (bA ME (pv 2) (bu pY (pv 4) az))) bf
 case Yj=>exact aC (aY (pv 3))
 generalize hH:H=H1;have b1:aR l H H1:=by rw[hH];exact aR.refl l H1
 have fD:bW H1 l:=by rw[<- hH];exact st
 rw[<- hH] at b1;have b1:aR l H H1:=by rw[hH];exact aR.refl l H1
 all_goals
  apply#[zl,λa ha=>?_];let s2:=aa.new (o:=.lst []) ha;have b0:aR l H H1:=b1;have Gw:H a=none:=b0.free fD ha
  have jV:l≠a:=by
   let#[xs,e]:=fD.some;exact bE e ha
  apply#[_,Z,_,Z,by show (-(2 ^ 62):Int)<=(m:Int);omega,by show (m:Int)<(2 ^ 62:Int);omega,?_]
  apply B_ (lo:=0) (n:=(m:Int).toNat) (λi σ H2=>∃(v6 v7 v8:aN) (ns:ae),σ=[some (.ref l),some (.int m),some (.str BP),some (.ref a),v6,v7,v8]/\aR l H H2/\bW H2 l/\H2 a\.lst (ns.map V.str)/\ns.length=i/\∀k n,ns[k]? = some n->Tl m k n)
   #[_,_,_,[],Z,b0.trans (aR.of s2),fD.same s2,au,Z,λk n e=>by simp at e] ?_ ?_
  ·rintro i σ H2 hi ⟨v6,v7,v8,ns,rfl,b2,dG,iP,ln,tl⟩;rw[Int.zero_add];have hi:i<m:=by omega
   apply#[_,Z,_,Z,_,_,Z,Z,#[by decide,by decide],_,_,Z,Z,l,8 - (m:Int) / 27,Z,by omega,by omega,dG,λr H3 r0 rb b3 gO=>#[_,Z,by show (-(2 ^ 62):Int)<=r;omega,by show r<(2 ^ 62:Int);omega,?_]]
   apply B_ (lo:=0) (n:=r.toNat) (λj σ H4=>∃(x:Str) (v8:aN),σ=[some (.ref l),some (.int m),some (.str BP),some (.ref a),some (.int i),some (.str x),v8]/\aR l H H4/\bW H4 l/\H4 a\.lst (ns.map V.str)/\x.length=j/\x.cps.toList.all jP=true)
    #["",_,Z,b2.trans b3,gO,b3 _ _ iP jV.symm,Z,Z] ?_ ?_
   ·rintro j σ H4 hj ⟨x,v8,rfl,b4,gN,um,hx,ho⟩;apply#[_,Z,_,Z,_,Z,l,26,Z,by decide,by decide,gN,λq H5 q0 Zg b5 fM=>?_];let#[c,hc,oc]:=_y q0 Zg;apply#[_,_,_,Z,Z,by decide +kernel,hc,_,_,Z,Z,?_,_,_,Z,b4.trans b5,fM,b5 _ _ um jV.symm,?_,?_]
    ·have:(⟨(List.toArray [c])⟩:Str).length=1:=rfl;omega
    ·rw[DI,Kk,fB,<- DI,hx];rfl
    rw[Kk,List.all_append,ho];simp[oc]
   rintro σ H4 ⟨x,v8,rfl,b4,gN,um,hx,ho⟩;apply#[_,Z,_,_,Z,Z,_,Z,?_];apply aM (λc3=>?_) (λc3=>?_)
   have c3:26<m:=by
    have:(26:Int)<(m:Int):=⇑c3
    omega
   have Jx:eZ (BP:Str).cps.toList ((i:Int) / 26)\(97+i / 26):=by
    have:=Tf (q:=i / 26) Z1;rw[<- this];congr 1
   apply#[_,Z,_,Z,_,Z,_,_,Z,Z,#[by decide,by decide],_,_,_,Z,Z,by decide +kernel,Jx,_,_,Z,Z,by show x.length+1<=sizeLine;omega,?_];have ex:(x++(⟨(List.toArray [97+i / 26])⟩:Str)).cps.toList=x.cps.toList++(if 26<m then [97+i / 26] else []):=by rw[aH c3];exact Kk _ _
   generalize x++(⟨(List.toArray [97+i / 26])⟩:Str)=x' at ex ⊢;rotate_left 1
   have c3:¬26<m:=by
    have:¬(26:Int)<(m:Int):=⇑c3
    omega
   have ex:x.cps.toList=x.cps.toList++(if 26<m then [97+i / 26] else []):=by rw[aB c3,xR]
   obtain⟨x',yR⟩:∃x':Str,x'=x:=#[_,Z];rw[<- yR];have ex:x'.cps.toList=x.cps.toList++(if 26<m then [97+i / 26] else []):=by rw[yR];exact ex
   all_goals
    have hc4:eZ (BP:Str).cps.toList ((i:Int) % 26)\(97+i % 26):=by
     have:=Tf (q:=i % 26) (Nat.mod_lt _ (by decide));rw[<- this];congr 1
    have lx:x'.length<=7:=by
     rw[DI,ex,fB,<- DI,hx];by_cases hm:26<m
     ·rw[aH hm];show r.toNat+1<=7;omega
     rw[aB hm];show r.toNat+0<=7;omega
    apply#[_,Z,.inl #[Z,_,.of um],_,Z,_,Z,_,Z,_,_,Z,Z,by show (0:Int)<26;decide,_,_,_,Z,Z,by decide +kernel,hc4,_,_,Z,Z,?_,a,_,_,Z,Z,um,?_,?_]
    ·have:(⟨(List.toArray [97+i % 26])⟩:Str).length=1:=rfl;omega
    ·rw[aA];omega
    apply#[_,_,_,ns++[x'++(⟨(List.toArray [97+i % 26])⟩:Str)],Z,λb o e ne=>?_,?_,?_,?_,λkk n hn=>?_]
    ·rw[aD (bE e Gw)];exact b4 _ _ e ne
    ·unfold bW;rw[aD jV];exact gN
    ·rw[au,dC];rfl
    ·rw[fB,ln];rfl
    by_cases hk:kk<ns.length
    ·rw[zS hk] at hn;exact tl kk n hn
    have zd:kk=i:=by
     have:=(cU.mp hn).1;rw[fB] at this;simp only[zQ] at this;omega
    subst zd;rw[xT Z1,ln,Nat.sub_self] at hn;have hn:x'++(⟨(List.toArray [97+kk % 26])⟩:Str)=n:=⇑hn
    subst hn;have ey:(x'++(⟨(List.toArray [97+kk % 26])⟩:Str)).cps.toList=x'.cps.toList++[97+kk % 26]:=Kk _ _;apply#[?_,x.cps.toList,by rw[ey,ex]];unfold gZ;rw[DI,ey,fB,<- DI,bP (by show 1<=x'.length+1;omega),bP (by show x'.length+1<=8;omega),List.all_append,ex,List.all_append,ho];have o1:([97+kk % 26]:List Nat).all jP=true:=by simp[S0 (Nat.mod_lt kk (show 0<26 by decide))]
    have o2:(if 26<m then [97+kk / 26] else ([]:List Nat)).all jP=true:=by
     by_cases hm:26<m
     ·rw[aH hm];simp[S0 (show kk / 26<26 by omega)]
     rw[aB hm];rfl
    rw[o1,o2];rfl
  rintro σ H2 ⟨v6,v7,v8,ns,rfl,b2,dG,iP,ln,tl⟩;exact#[_,Z,k a ns H2 b2 dG Gw iP (iV_ Z1 Z1 tl)]
end
end Ev
namespace Ev
open PySem L2
theorem PL(ys:ag)(k:Nat):dX ys none (some (k:Int))=ys.take k:=by
 unfold dX;rw[HT.hJ,HT.i7,List.drop_zero,Nat.sub_zero];by_cases h:k<=ys.length
 ·rw[Nat.min_eq_left h]
 rw[Nat.min_eq_right Z1,zR (bj _),zR Z1]
theorem Vi(ys:ag)(k:Nat):dX ys (some (k:Int)) none=ys.drop k:=by
 unfold dX;rw[HT.i7,HT.hJ];by_cases h:k<=ys.length
 ·rw[Nat.min_eq_left h,zR (by rw[zO];omega)]
 rw[Nat.min_eq_right Z1,List.drop_eq_nil_of_le (bj _),List.drop_eq_nil_of_le Z1,List.take_nil]
theorem KJ{α β:Type}{F:α->β->Prop}:∀{ys:List α} {ks:List β} (n:Nat),Paired F ys ks->Paired F (ys.take n) (ks.take n)
 |_,_,0,_=>.nil
 |_,_,_+1,.nil=>.nil
 |_,_,n+1,.cons a t=>.cons a (KJ n t)
theorem QP{α β:Type}{F:α->β->Prop}:∀{ys:List α} {ks:List β} (n:Nat),Paired F ys ks->Paired F (ys.drop n) (ks.drop n)
 |_,_,0,h=>h
 |_,_,_+1,.nil=>.nil
 |_,_,n+1,.cons _ t=>QP n t
theorem kZ{α β:Type}{F:α->β->Prop}:∀{ys zW:List α} {ks qo:List β},Paired F ys ks->Paired F zW qo->Paired F (ys++zW) (ks++qo)
 |_,_,_,_,.nil,h=>h
 |_,_,_,_,.cons a t,h=>.cons a (kZ t h)
theorem UX{α:Type}(l:List α)(t:Nat):(l.drop t++l.take t).Perm l:=List.perm_append_comm.trans (by rw[List.take_append_drop])
theorem Gh{α:Type}{p:α->Prop}{a b c:α}{r:Int}(h0:0<=r)(h1:r<3)(ha:p a)(hb:p b)(hc:p c):∃x,eZ [a,b,c] r\x/\p x:=by
 have:r=0∨r=1∨r=2:=by omega
 rcases this with rfl|rfl|rfl
 ·exact#[_,Z,ha]
 ·exact#[_,Z,hb]
 exact#[_,Z,hc]
structure TJ (ns:ae) (k q:Nat) (ts:Xb):Prop where
 at':∀t∈ts,∃(a b:Nat) (x y:Str),a<b/\(a<k∨(a=k/\b<k+1+q))/\ns[a]? = some x/\ns[b]? = some y/\(t=(x,y)∨t=(y,x))
 nd:(ts.map kO).Nodup
 len:ts.length<=7 * k+q
theorem TJ.skip{ns:ae}{k j:Nat}{ts:Xb}(h:TJ ns k j ts):TJ ns k (j+1) ts:=
 #[λt ht=>let #[a,b,x,y,h1,h2,h3,h4,h5]:=h.at' t ht;#[a,b,x,y,h1,by omega,h3,h4,h5],h.nd,by have:=h.len;omega]
theorem TJ.next{ns:ae}{k q:Nat}{ts:Xb}(h:TJ ns k q ts)(h7:q<=7):TJ ns (k+1) 0 ts:=
 #[λt ht=>let #[a,b,x,y,h1,h2,h3,h4,h5]:=h.at' t ht;#[a,b,x,y,h1,by omega,h3,h4,h5],h.nd,by have:=h.len;omega]
theorem TJ.add{ns:ae}{k q:Nat}{ts:Xb}(h:TJ ns k q ts)(nd:ns.Nodup){x y:Str}{t:Str × Str}(hx:ns[k]? = some x)(hy:ns[k+1+q]? = some y)(ht:t=(x,y)∨t=(y,x)):TJ ns k (q+1) (ts++[t]):=by
 apply#[λu hu=>?_,?_,by have:=h.len;rw[fB];simp only[zQ];omega]
 ·rcases gD.mp hu with hu|hu
  ·exact h.skip.at' u hu
  obtain rfl:u=t:=⇑hu
  exact#[k,k+1+q,x,y,by omega,.inr #[Z,by omega],hx,hy,ht]
 rw[dC];apply Us h.nd λm=>?_;let#[u,hu,e]:=bJ.mp m;let#[a,b,c,d,h1,h2,h3,h4,h5]:=h.at' u hu
 have key:(c=x/\d=y)∨(c=y/\d=x):=by
  rcases h5 with rfl|rfl<;>rcases ht with rfl|rfl<;>rcases kV_ e with⟨q1,q2⟩|⟨q1,q2⟩<;>simp_all
 rcases key with⟨rfl,rfl⟩|⟨rfl,rfl⟩
 ·have:=HK nd h3 hx;have:=HK nd h4 hy;omega
 have:=HK nd h3 hy;have:=HK nd h4 hx;omega
theorem TJ.good{ns:ae}{k j:Nat}{ts:Xb}(h:TJ ns k j ts)(nd:ns.Nodup)(ok:∀n∈ns,gZ n=true):∀t∈ts,zv t/\t.1∈ns/\t.2∈ns:=λt ht=>by
 let#[a,b,x,y,h1,h2,h3,h4,h5]:=h.at' t ht;let mx:=dI h3;let my:=dI h4
 have ne:x≠y:=λe=>by
  subst e;have:=HK nd h3 h4;omega
 rcases h5 with rfl|rfl
 ·exact#[#[ok _ mx,ok _ my,ne],mx,my]
 exact#[#[ok _ my,ok _ mx,ne.symm],my,mx]
def Iw(m:Nat)(n:Str):Prop:=n∈qM∨∃k,k<m/\n.cps.toList.getLast? = some (97+k % 26)
section v
theorem xN:br [eY,"_law_most","_law_names_here","_law_hands","_law_thin","_law_ties","_law_k","_law_one","_law_other","_law_turn"] [eY,"_law_most"] (a9 sT):=bF
def rJ(K:af):Sp:=λvs H Q _=>∃(l:Addr),vs=[.ref l,.int 4]/\bW H l/\∀(t lh lt:Addr) (ys zs:ag) (hs:Xa) (ts:Xb) (H':Hp),aR l H H'->bW H' l->H' t\.tup [.ref lh,.ref lt]->H lh=none->H lt=none->lh≠lt->
 H' lh\.lst ys->bG K H' ys (hs.map kH)->H' lt\.lst zs->bG K H' zs (ts.map kT)->Good hs ts->(∀n∈hs.map (·.1),Iw 8 n)->Q (.ref t) H'
theorem kC_{f:Addr}{fd:Ae}(F:bg K "_law_web" "_law_web" sT f fd)(B:Bi mg)(cD:!bc 1 qA uH vH)(cN:!bc 2 "_law_names" kg Ka):!ak ba 3 f fd [eY,"_law_most"] (rJ K):=by
 exists F.bI xN;let#[l,rfl,st,k]:=h;let sz:=b_
 refine' #[_,ax (bh 2 xN.nd (aP cN hr %[0,bu fH az (aP cD hr %[0,1|0])|0]))
  (ax (JZ (i:=3) ["_law_name",eY] 1 [0] xN.nd Z (Or.inl Z) (d_ (pv 2)) (λfp s H=>gg (i:=0) (show (["_law_name",eY]:ae).Nodup by decide +kernel) Z (Or.inl Z)) (λfp s H=>jA)
   (λfp s H=>?he))
  (ax (bh 4 xN.nd (bu fH az (aP cD hr %[0,az|0])))
  (ax (bh 5 xN.nd (dE bf))
  (ax (fC eS Z (Ub (by rfl) B.enum %[2|0]) (kJ Z (dD (cq 6 xN.nd) (dD (cq 7 xN.nd) iT)))
   (aC (fC eS Z (d_ (vF B7 (pv 2) (vC (bu fH (pv 6) az)) vD)) (cq 8 xN.nd)
    (aC (bw (cn gf (aP cD hr %[0,4|0]) az)
     (aC (j_ (kW mX xA xI vJ (pv 5) %[bA fA (dE %[dR %[7,8|0],dR %[8,7|0]|0]) (aP cD hr %[0,az|0])|0])))
     bx)))))
  (ax (bh 9 xN.nd (aP cD hr %[0,bY iy (by rfl) B.len gX %[3|0]|0]))
  (aC (aY (dR %[bu JG (vF B7 (pv 3) (vC (pv 9)) vD) (vF B7 (pv 3) vD (vC (pv 9))),5|0])))))))),?_]
 case he=>exact dR %[0,bu fH az (aP cD hr %[1,bA (A4 (K:=K) wo fA) (dE %[az,az,az|0]) (aP cD hr %[1,az|0])|0])|0]
 apply#[_,Z,_,Z,_,Z,l,4,Z,by decide,by decide,st,λr H1 r0 r8 b1 fD=>#[_,_,Z,Z,?_]];let#[r,rfl]:=p_ r0;apply#[l,1+r,by show [V.ref l,V.int (1+(r:Int))]=[V.ref l,V.int ((1+r:Nat):Int)];rw[Int.natCast_add];rfl,by omega,fD,λln ns H2 b2 dG fn yZ N=>?_];have n8:ns.length<=8:=by rw[N.len];omega
 have n1:1<=ns.length:=by rw[N.len];omega
 have A2:ln≠l:=λe=>by
  subst e;let#[xs,e2]:=fD.some;rw[fn] at e2;cases e2
 apply#[_,Z,ln,Z,#[_,.of yZ],λtU pS=>?_]
 have pO:tU≠l:=by
  let#[xs,e]:=dG.some;exact (bE e pS).symm
 apply k8 (own:=1) (fv:=[some (.ref l)]) (xs:=ns.map V.str) Z fq (λi out H'=>∃hs:Xa,aR l H2 H'/\bW H' l/\H' tU\.lst out/\bG K H' out (hs.map kH)/\hs.map (·.1)=ns.take i/\∀h∈hs,1<=h.2/\h.2<=1000) #[[],aR.of (aa.new pS),dG.same (aa.new pS),au,.nil,Z,by simp] (λi out H' _ ⟨_,b,_⟩=>.of (b _ _ yZ A2)) (λqL H3 ⟨yU,b3,gO,hh3,Ct,en,gh⟩=>?_) (λi x out H' hx ⟨hs,b,stx,hD,tu,en,gh⟩=>?_);rotate_left 1
 ·let#[n,hn,rfl]:=jy hx
  have li:out.length=i:=by
   let h1:=bK tu;rw[aA] at h1;let h2:=d9 List.length en;rw[aA,d6] at h2;have:=(cU.mp hn).1;omega
  let hi:=(cU.mp hn).1;apply#[_,Z,Z,λNx hN=>eJ ?_];apply#[_,Z,_,Z,zl,λp hp=>?_];let s4:=aa.new (o:=.lst [.int 3,.int 12,.int 1000]) hp
  have lp:p≠l:=by
   let#[xs,e]:=stx.some;exact (bE e hp).symm
  apply#[_,Z,l,3,Z,by decide,by decide,stx.same s4,λr1 H5 q0 q1 b5 fM=>?_];let#[y,hy,bb,eb,e1,e2]:=Gh (p:=λy:V=>∃n:Int,y=.int n/\0<n/\n<=1000) (a:=V.int 3) (b:=.int 12) (c:=.int 1000) q0 q1 #[3,Z,by decide,by decide] #[12,Z,by decide,by decide] #[1000,Z,by decide,by decide];subst eb;apply#[p,_,_,_,Z,Z,.of (b5 _ _ au lp),hy,l,bb,Z,e1,by omega,fM,λr2 H6 q2 q3 b6 g_=>#[_,_,Z,Z,zl,λt ht=>?_]];have QV:aR l H' H6:=(aR.of s4).trans (b5.trans b6);let JA:=QV _ _ hD pO;let s7:=aa.new (o:=.tup [.str n,.int (1+r2)]) ht;let#[Re,y_]:=stx.some;let D7:=jD tu QV y_;have tt:upd H6 t (.tup [.str n,.int (1+r2)]) t\.tup ((kH (n,1+r2)).map kV):=au;apply#[out,s7 _ _ JA,by omega,hN _ _ #[hs++[(n,1+r2)],λb' o e ne=>?_,?_,au,?_,?_,λh hh=>?_]]
  ·rw[aD (bE e pS)];exact s7 _ _ (QV _ _ (b _ _ e ne) ne)
  ·have:=g_.same s7;unfold bW;rw[aD pO.symm];exact this
  ·rw[dC];exact jC (Ca (D7.same s7) tt) (s7 _ _ JA)
  ·rw[dC,en,iS,hn];rfl
  rcases gD.mp hh with hh|hh
  ·exact gh h hh
  obtain rfl:h=(n,1+r2):=⇑hh
  exact#[by show 1<=1+r2;omega,by show 1+r2<=1000;omega]
 rw[aA,e_] at en;let _F:=b3 _ _ yZ A2;have _O:H2 tU=none:=pS;apply#[_,Z,l,4,Z,by decide,by decide,gO,λr3 H4 q0 q1 b4 gN=>#[_,_,Z,Z,?_]];apply#[zl,λa ha=>?_];let s5:=aa.new (o:=.lst []) ha
 have jV:l≠a:=by
  let#[xs,e]:=gN.some;exact bE e ha
 let Mj:=b4 _ _ _F A2;let Tz:=b4 _ _ hh3 pO;have Mi:ln≠a:=bE Mj ha;have _M:tU≠a:=bE Tz ha;have B4:aR l H H4:=b1.trans (b2.trans (b3.trans b4));have Gw:H a=none:=B4.free gN ha;have Tp:H tU=none:=(b1.trans b2).free dG pS;let#[Xl,uf]:=gO.some;let ve:=jD Ct b4 uf
 let Iv:Nat->Nat->Hp->Prop:=λkk q H'=>∃zs ts,aR l H H'/\bW H' l/\H' ln\.lst (ns.map V.str)/\H' tU\.lst qL/\bG K H' qL (yU.map kH)/\H' a\.lst zs/\bG K H' zs (ts.map kT)/\TJ ns kk q ts
 apply#[_,Z,ln,Z,#[_,.of (s5 _ _ Mj)],US (K:=K) (a:=ln) (xs:=ns.map V.str) (λi σ H'=>∃(v6 v7 v8 v9:aN),σ=[some (.ref l),some (.int 4),some (.ref ln),some (.ref tU),some (.int (1+r3)),some (.ref a),v6,v7,v8,v9]/\Iv i 0 H')
  #[none,none,none,none,Z,[],[],B4.trans (aR.of s5),gN.same s5,s5 _ _ Mj,s5 _ _ Tz,ve.same s5,au,.nil,#[by simp,.nil,g7 _]] (λi σ H' _ ⟨_,_,_,_,_,_,_,_,_,q,_⟩=>.of q) ?_ ?_]
 ·rintro i x σ H6 hx ⟨v6,v7,v8,v9,rfl,K5,Lb,b6,g_,MZ,Ju,IH,uk,D7,Cv⟩ u hu;let#[one,FU,rfl]:=jy hx;have hi:i<ns.length:=(cU.mp FU).1;have s7:aa H6 (upd H6 u (.tup [.int i,.str one])):=aa.new hu;have S7:upd H6 u (.tup [.int i,.str one]) u\.tup [.int i,.str one]:=au;apply#[u,_,Z,.of S7,Z,_,_,Z,_,_,Z,Z,?_];generalize upd H6 u (.tup [.int i,.str one])=H7 at s7 S7 ⊢;apply#[_,Z,_,Z,_,_,Z,Z,_,Z,ln,_,Z,.of (s7 _ _ MZ),λp hp=>?_];have ec:dX (ns.map V.str) (some ((i:Int)+1)) none=(ns.drop (i+1)).map V.str:=iw_ ns (i+1) Z1;rw[ec];have s8:aa H7 (upd H7 p (.lst ((ns.drop (i+1)).map V.str))):=aa.new hp
  have lp:l≠p:=by
   let#[xs,e]:=(g_.same s7).some;exact bE e hp
  have pa:p≠a:=(bE (s7 _ _ uk) hp).symm;let tm:=s7.trans s8
  apply#[p,Z,#[_,.of au],iK (K:=K) (a:=p) (xs:=(ns.drop (i+1)).map V.str) (λj σ H'=>∃(v8 v9:aN),σ=[some (.ref l),some (.int 4),some (.ref ln),some (.ref tU),some (.int (1+r3)),some (.ref a),some (.int i),some (.str one),v8,v9]/\H' p\.lst ((ns.drop (i+1)).map V.str)/\Iv i j H')
   #[_,_,Z,au,K5,Lb,b6.trans (aR.of tm),g_.same tm,tm _ _ MZ,tm _ _ Ju,IH.same tm,tm _ _ uk,D7.same tm,Cv] (λj σ H' _ ⟨_,_,_,q,_⟩=>.of q) ?_ ?_]
  ·rintro j y σ H9 hy ⟨v8,v9,rfl,Tj,K4,IC,b9,qg,MY,Nr,Ld,NQ,IB,D_⟩;let#[o,ho,rfl]:=jy hy;rw[List.getElem?_drop] at ho;apply#[_,Z,_,Z,l,1+r3,Z,by omega,by omega,qg,λr4 Cp q2 q3 j7 vX=>#[Z,_,Z,?_]];let#[xs9,Tq]:=qg.some;let F0:=j7 _ _ MY A2;let Gi:=j7 _ _ Nr pO;let Bs:=j7 _ _ NQ jV.symm;let FS:=j7 _ _ Tj lp.symm;let D8:=jD IB j7 Tq;let Ea:=jD Ld j7 Tq;apply aM (λc=>?_) (λc=>?_)
   ·apply#[_,Z,.inl #[Z,_,.of Bs],_,Z,_,Z,zl,λt1 yT=>?_];let Cw:=aa.new (o:=.tup [.str one,.str o]) yT;apply#[_,Z,_,Z,zl,λt2 FJ=>?_];let jq:=aa.new (o:=.tup [.str o,.str one]) FJ;apply#[zl,λlx y_=>?_];let vh:=aa.new (o:=.lst [.ref t1,.ref t2]) y_;let RW:=(Cw.trans jq).trans vh;let Eu:=vX.same RW;apply#[_,Z,l,2,Z,by decide,by decide,Eu,λr5 WY q4 q5 qF Lw=>?_]
    have Mh:lx≠l:=by
     let#[xs,e]:=(vX.same (Cw.trans jq)).some;exact (bE e y_).symm
    let F1:=qF _ _ (show upd (upd (upd Cp t1 (.tup [.str one,.str o])) t2 (.tup [.str o,.str one])) lx (.lst [.ref t1,.ref t2]) lx=_ from au) Mh;let#[Xn,F_]:=Eu.some;let FM:=vh _ _ (jq _ _ (show upd Cp t1 (.tup [.str one,.str o]) t1=_ from au));let FI:=vh _ _ (show upd (upd Cp t1 (.tup [.str one,.str o])) t2 (.tup [.str o,.str one]) t2=_ from au);let FK:=qF _ _ FM (cb FM F_ nofun);let FG:=qF _ _ FI (cb FI F_ nofun)
    have pick:∃(t:Addr) (tt:Str × Str),eZ [V.ref t1,V.ref t2] r5\.ref t/\WY t\.tup ((kT tt).map kV)/\(tt=(one,o)∨tt=(o,one)):=by
     rcases wX (a:=V.ref t1) (b:=V.ref t2) q4 q5 with e|e
     ·exact#[t1,(one,o),e,FK,.inl Z]
     exact#[t2,(o,one),e,FG,.inr Z]
    let#[t,tt,et,ht,Oe]:=pick;have ic:aR l Cp WY:=(aR.of RW).trans qF;let#[Xo,Ga]:=vX.some;let Br:=ic _ _ Bs jV.symm;let M3:=ic _ _ F0 A2;let Nt:=ic _ _ Gi pO;let MT:=ic _ _ FS lp.symm;let La:=jD D8 ic Ga;let Le:=jD Ea ic Ga;let lz:=bK IB;rw[aA] at lz;let tl:=D_.len
    have hj:j<8:=by
     have:=(cU.mp ho).1;omega
    apply#[lx,_,_,_,Z,Z,.of F1,et,a,_,_,Z,Z,Br,by omega,?_];apply#[_,_,Z,by rw[aD pa];exact MT,_,IC++[tt],λb o e ne=>?_,?_,by rw[aD Mi];exact M3,by rw[aD _M];exact Nt,jC Le Br,au,?_,D_.add N.nd FU ho Oe]
    ·rw[aD (bE e Gw)];exact ic _ _ (j7 _ _ (b9 _ _ e ne) ne) ne
    ·unfold bW;rw[aD jV];exact Lw
    rw[dC];exact jC (Ca La ht) Br
   exact#[_,_,Z,FS,K4,IC,b9.trans j7,vX,F0,Gi,Ea,Bs,D8,D_.skip]
  rintro σ H9 ⟨v8,v9,rfl,Tj,K4,IC,b9,qg,MY,Nr,Ld,NQ,IB,D_⟩;exact#[_,_,_,_,Z,K4,IC,b9,qg,MY,Nr,Ld,NQ,IB,D_.next (by rw[aA,zO];omega)]
 rintro σ H6 ⟨v6,v7,v8,v9,rfl,K5,Lb,b6,g_,MZ,Ju,IH,uk,D7,Cv⟩;rw[aA] at Cv
 have ly:qL.length=ns.length:=by
  let h1:=bK IH;rw[aA] at h1;let h2:=d9 List.length en;rw[aA] at h2;omega
 apply#[_,Z,_,Z,tU,_,Z,.inl (.of Ju),l,_,Z,by show (0:Int)<(qL.length:Int);omega,by show (qL.length:Int)<1073741824;omega,g_,λtn H7 q0 q1 b7 jI=>?_];let#[tn,rfl]:=p_ q0;let#[Xi,Jr]:=g_.some;let Tx:=b7 _ _ Ju pO;let C3:=b7 _ _ uk jV.symm;let K_:=jD D7 b7 Jr;let RL:=jD IH b7 Jr;apply#[_,Z,_,Z,_,Z,tU,_,Z,.of Tx,λp1 yW=>?_];rw[Vi];let s8:=aa.new (o:=.lst (qL.drop tn)) yW;apply#[_,Z,_,Z,_,Z,tU,_,Z,.of (s8 _ _ Tx),λp2 ju=>?_];rw[PL];let s9:=aa.new (o:=.lst (qL.take tn)) ju;apply#[p1,p2,_,_,Z,Z,s9 _ _ au,au,by rw[zO,d6];omega,λp3 Ba=>?_];let LM:=aa.new (o:=.lst (qL.drop tn++qL.take tn)) Ba;let LL:=s8.trans (s9.trans LM);apply#[_,Z,zl,λt ht=>?_];let Cw:=aa.new (o:=.tup [.ref p3,.ref a]) ht;let tp:=LL.trans Cw;let WL:=b6.trans b7;let perm:=UX yU tn;let pm:=perm.map (·.1);let gt:=Cv.good N.nd N.ok;have mem:∀n,n∈(yU.drop tn++yU.take tn).map (·.1) ↔ n∈ns:=λn=>by rw[pm.mem_iff,en]
 apply k t p3 a _ K5 (yU.drop tn++yU.take tn) Lb _ (WL.trans (aR.of tp)) (jI.same tp) au ((WL.trans (aR.of (s8.trans s9))).free (jI.same (s8.trans s9)) Ba) Gw (λe=>?_) (Cw _ _ au) ?_ (tp _ _ C3) (K_.same tp) #[λh hh=>?_,?_,?_,?_,λt ht=>(gt t ht).1,Cv.nd,by have:=Cv.len;omega,λt ht=>#[(mem _).mpr (gt t ht).2.1,(mem _).mpr (gt t ht).2.2]] λn hn=>?_
 ·subst e;rw[(s8.trans s9) _ _ C3] at Ba;cases Ba
 ·rw[dC,List.map_drop,List.map_take];have Yx:bG K H7 (qL.drop tn++qL.take tn) ((yU.map kH).drop tn++(yU.map kH).take tn):=kZ (QP tn RL) (KJ tn RL);exact Yx.same tp
 ·let hm:=perm.mem_iff.mp hh;let#[g1,g2]:=gh h hm;exact#[N.ok _ (by rw[<- en];exact bJ.mpr #[h,hm,Z]),g1,g2]
 ·apply pm.nodup_iff.mpr ?_;rw[en];exact N.nd
 ·have:=pm.length_eq;rw[aA,en] at this;omega
 ·have:=pm.length_eq;rw[aA,en] at this;omega
 rcases N.end_ n ((mem n).mp hn) with z|⟨kk,h1,h2⟩
 ·exact .inl z
 exact .inr #[kk,by omega,h2]
end
end Ev
namespace HT
open PySem PySem.Spec PyProof.Rows
section
variable{prog:Ad}{w:Af}{A:Ag}{E:Aa->Ab->Prop}{s:Ab}
theorem i_{t sl:Addr}{a b:Aa}{u:Tok}{Q:Aa->Ab->Prop}(ht:IsTup s.heap t (List.toArray [a,b]))(hs:s.heap.IsSliceOf sl .none .none (.int (-1) u))
  (h:Q (.ref s.heap.objs.size) { s with heap:=s.heap.push { cls:=.type "tuple",data:=.seq (List.toArray [b,a]) } }):wpAny (model prog w) A (getItem (.ref t) (.ref sl)) Q E s:=by
 have fU:sizeOk (.seq (List.toArray [b,a])):=by
  show 2<=sizeLine;decide
 let#[os,qq,xc,xa]:=id hs;have Bt:s.TypeIs (.ref sl) "slice":=#[os,qq,xc];unfold getItem
 try with_reducible apply mQ ?_
 first|refine aq (aU ?_)|skip
 apply aq (wpAny_sequenceKey ht.typeIs (by decide) ?_)
 apply aq (wpAny_callSpecial?_slot (name:=Str.ofString "__getitem__") ht.typeIs DF
  (wpAny_call_entry DF ht.typeIs entry_tuple_getitem ?_ (args_tuple_getitem _ _)))
 show wpAny _ _ (Builtin.Tuple.tupleItemsOf (.ref t) >>= _) _ _ s;apply aq (tupleItemsOf_ ht ?_);apply aq (wpAny_typeOf Bt ?_);rw[aH (by decide)]
 have ap:∀{A':Ag} {E':Aa->Ab->Prop} {R:Int × Int × Nat->Ab->Prop},R (1,-1,2) s->wpAny (model prog w) A' (Builtin.Slice.sliceApplied (.ref sl) (pure (((List.toArray [a,b]):Array Aa).size:Int))) R E' s:=by
  intro A' E' R hR;unfold Builtin.Slice.sliceApplied Builtin.Slice.sliceFields;apply aq (aq (wpAny_field qq xa (x:=.none) Z (aq (wpAny_field qq xa (x:=.none) Z (aq (wpAny_field qq xa (x:=.int (-1) u) Z (aU ?_)))))));apply aq (slicePart_int ?_);show wpAny _ _ (if ((-1:Int) == 0)=true then _ else _) _ _ s;rw[aB (by decide)];exact aq (slicePart_none (aq (slicePart_none (aq (aU (aU (by with_unfolding_all exact hR)))))))
 apply aq (ap ?_);show wpAny _ _ (if ((1:Int) == 0&&(-1:Int) == 1&&(2:Nat) == 2)=true then _ else _) _ _ s;rw[aB (by decide)];have e:(List.filterMap (λ(k:Nat)=>((List.toArray [a,b]):Array Aa)[((1:Int)+(k:Int) * -1).toNat]?) (List.range 2)).toArray=(List.toArray [b,a]):=by with_unfolding_all rfl
 rw[e]
 first
  |exact aq (m:=Builtin.Tuple.tupleExact _) (mU (aU ⟨_,rfl,aU h⟩) fU)
  |exact aq (m:=Builtin.Tuple.tupleExact _) (mU (aq (aU (aU ⟨_,rfl,aU h⟩))) fU)
  |exact aq (aq (m:=Builtin.Tuple.tupleExact _) (mU (aU (aU ⟨_,rfl,aU h⟩)) fU))
  |exact aq (aq (m:=Builtin.Tuple.tupleExact _) (mU (aU ⟨_,rfl,aU h⟩) fU))
end
end HT
namespace L2
open PySem PySem.Spec PyProof.Rows
section
variable{X:Cx}{e st:Expr}{te ts:TE}{pos p2:Pos}
def ye(K:af)(te ts:TE):TE:=λσ H Q=>te σ H λx H1=>ts σ H1 λy H2=>y=.int (-1)/\∃a u v,x=.ref a/\gL K H2 a [u,v]/\∀p,H2 p=none->Q (.ref p) (upd H2 p (.tup [v,u]))
theorem kB_(he:PE X e te)(hs:PE X st ts):PE X (.Subscript e (.Slice none none (some st) p2) pos) (ye X.K te ts):=by
 intro pins s σ H Q I h;apply Subscript_ (aV (he pins s σ H _ I h) λv s1 ⟨x,H1,I1,r1,q1⟩=>?_);apply wpAny_Slice ?_;rw[evalPart_none];apply aU (aU ?_);rw[evalPart_some];apply aV (hs pins s1 σ H1 _ I1 q1) λvs s3 ⟨y,H3,I3,ry,ey,a,u,v',ex,hx,q⟩=>?_;subst ex ey;let#[t,rfl]:=ry;cases r1;have I4:Inv X pins σ H3 { s3 with heap:=s3.heap.push { cls:=.type "slice",data:=.fields (List.toArray [.none,.none,.int (-1) t]) } }:=I3.kept (t':=s3.toks) λb ob q=>cj _ q;let#[its,r,ht,hz]:=I4.tuple hx;let#[x1,x2,rfl,Y9,Y8]:=Vals.two r;show wpAny (model X.prog X.w) X.A (subscriptTail e (.Slice none none (some st) p2) (.ref a) (.ref s3.heap.objs.size)) (EP X pins σ Q) X.xe { s3 with heap:=s3.heap.push { cls:=.type "slice",data:=.fields (List.toArray [.none,.none,.int (-1) t]) } };apply tail_any (ops:=[.ref a,.ref s3.heap.objs.size]) ht.typeIs PyProof.Rows.slot_tuple_getitem.lookup (HT.i_ ht (Heap.IsSliceOf.new ..) ?_) (by with_unfolding_all rfl);apply#[.ref _,upd H3 _ (.tup [v',u]),I4.laid (t':=s3.toks) (λb o e=>cj _ e) (bj _) ?_,Z,q _ (I4.aI.fresh (bj _))];exact#[zl,[x2,x1],.cons Y8 (.cons Y9 .nil),#[_,eh _ Z,Z,_,Z],_,eh _ Z,Z]
theorem iC_{K:af}(he:PE X e te)(hs:PE X st ts)(hK:X.K=K:=by rfl):PE X (.Subscript e (.Slice none none (some st) p2) pos) (ye K te ts):=by
 subst hK;exact kB_ he hs
end
end L2
namespace Ev
open PySem L2
structure G4 (ts ws:Xb):Prop where
 good:∀w∈ws,zv w
 nd:(ws.map kO).Nodup
 Fu:∀w∈ws,kO w∈ts.map kO
 len:ws.length<=ts.length
theorem kw_{ts us ws:Xb}(good:∀t∈ts,zv t)(nd:(ts.map kO).Nodup)(sub:us.Sublist ts)(p:Paired (λw u=>w=u∨w=(u.2,u.1)) ws us):G4 ts ws:=by
 have e:ws.map kO=us.map kO:=by
  clear sub
  induction p with
  |nil=>rfl
  |cons h _ ih=>
   rw[eD,eD,ih];rcases h with rfl|rfl
   ·rfl
   exact d9 (·::_) (ky_ _ _)
 apply#[λw hw=>?_,?_,λw hw=>?_,?_]
 ·let#[i,hi,ew]:=lj hw;let hl:=bK p;let q:=ie p i hi Z1;rw[ew] at q;let g:=good _ (sub.subset (nD (show i<us.length by omega)));rcases q with q|q
  ·rw[q];exact g
  rw[q];exact#[g.2.1,g.1,g.2.2.symm]
 ·rw[e];exact (sub.map kO).nodup nd
 ·have:kO w∈ws.map kO:=bJ.mpr #[w,hw,Z];rw[e] at this;exact (sub.map kO).subset this
 rw[bK p];exact sub.length_le
def cK(K:af)(H:Hp)(v:V):Option (Xb)->Prop
 |none=>v=.non
 |some ws=>∃a ys,v=.ref a/\H a\.lst ys/\bG K H ys (ws.map kT)
theorem cK.same{K:af}{H H':Hp}{v:V}{o:Option (Xb)}(h:cK K H v o)(s:aa H H'):cK K H' v o:=by
 cases o with
 |none=>exact h
 |some ws=>
  let#[a,ys,e,ha,t]:=h;exact#[a,ys,e,s _ _ ha,t.same s]
section v
theorem rV:br [eY,"_law_ties","_law_some"] [eY,"_law_ties"] (a9 sG):=bF
inductive lG (K:af) (vs:ag) (H:Hp) (Q:VK) (E:XK):Prop
 |mk:∀(l lt:Addr) (zs:ag) (ts:Xb),vs=[.ref l,.ref lt]->bW H l->H lt\.lst zs->bG K H zs (ts.map kT)->lt≠l->ts.length<64->(∀t∈ts,zv t)->(ts.map kO).Nodup->(∀(v:V) (o:Option (Xb)) (H':Hp),aR l H H'->bW H' l->cK K H' v o->(∀a,v=.ref a->H a=none)->(∀ws,o\ws->G4 ts ws)->Q v H')->lG K vs H Q E
theorem ka_{f:Addr}{fd:Ae}(F:bg K "_law_ways" "_law_ways" sG f fd)(B:Bi mg)(cD:!bc 1 qA uH vH):!ak ba 2 f fd [eY,"_law_ties"] (lG K):=by
 exists F.bI rV;let#[l,lt,zs,ts,rfl,st,dQ,tu,qm,bR,good,nd,k]:=h;let sz:=b_;let lz:=bK tu;rw[aA] at lz
 refine' #[_,ax (bw (cn BO (aP cD hr %[0,az|0]) az) (aC (aY zy)) bx)
  (ax (JZ (i:=2) o8 1 [0] rV.nd Z (Or.inl Z) (d_ (pv 1)) (λfp s H=>gg (i:=0) (show (o8:ae).Nodup by decide +kernel) Z (Or.inl Z))
   (λfp s H=>?ht) (λfp s H=>?he1))
  (aC (aY (kX o8 1 [0] (d_ (pv 2)) (λfp s H=>gg (i:=0) (show (o8:ae).Nodup by decide +kernel) Z (Or.inl Z)) (λfp s H=>jA)
   (λfp s H=>?he))))),?_]
 case ht=>exact Uj (cn gf (aP cD hr %[1,az|0]) az)
 case he1=>exact pv 0
 case he=>exact bA (A4 (K:=K) wo fA) (dE %[0,iC_ (K:=K) (pv 0) (Dk Dv az)|0]) (aP cD hr %[1,az|0])
 apply#[_,Z,l,3,Z,by decide,by decide,st,λr H1 r0 r3 b1 fD=>#[_,_,Z,Z,_,Z,?_]];apply aM (λc=>?_) (λc=>?_)
 ·exact k .non none H1 b1 fD Z (λa z=>by cases z) (λws z=>by cases z)
 let#[xs,hl]:=st.some;let ud:=b1 _ _ dQ qm;let Yw:=jD tu b1 hl;apply#[_,Z,lt,Z,#[_,.of ud],λD hD=>?_]
 have Dl:D≠l:=by
  let#[xs,e]:=fD.some;exact (bE e hD).symm
 apply k8 (own:=1) (fv:=[some (.ref l)]) (xs:=zs) Z fq (λi out H'=>∃us:Xb,aR l H1 H'/\bW H' l/\H' D\.lst out/\bG K H' out (us.map kT)/\us.Sublist (ts.take i)) #[[],aR.of (aa.new hD),fD.same (aa.new hD),au,.nil,List.nil_sublist _] (λi out H' _ ⟨_,b,_⟩=>.of (b _ _ ud qm)) (λW_ H2 ⟨us,b2,dG,zk,RJ,sub⟩=>?_) (λi x out H' hx ⟨us,b,stx,hDx,D5,sub⟩=>?_);rotate_left 1
 ·let#[t,ht,p,rfl,hp]:=oZ Yw hx;apply#[_,Z,Z,λNx hN=>?_];apply#[_,Z,l,2,Z,by decide,by decide,stx,λr2 H4 q0 q1 b4 gN=>#[Z,_,Z,?_]];let#[Xh,y_]:=stx.some;let ve:=jD D5 b4 y_;let qr:=b4 _ _ hDx Dl;apply aM (λc2=>?_) (λc2=>?_)
  ·let lo:=bK D5;rw[aA] at lo;let ls:=sub.length_le;rw[d6] at ls
   let hp4:=b4 _ _ (b _ _ hp (cb hp (show H1 l\_ from fD.some.choose_spec) nofun)) (by
    let#[Xp,e1]:=fD.some;exact cb hp e1 nofun)
   apply#[_,Z,out,qr,by omega,hN _ _ #[us++[t],λb' o e ne=>?_,?_,au,?_,?_]]
   ·rw[aD (bE e hD)];exact b4 _ _ (b _ _ e ne) ne
   ·unfold bW;rw[aD Dl.symm];exact gN
   ·rw[dC];exact jC (Ca ve hp4) qr
   rw[iS,ht];exact sub.append (List.Sublist.refl _)
  apply hN _ _ #[us,b.trans b4,gN,qr,ve,sub.trans ?_];rw[iS];exact List.sublist_append_left _ _
 rw[lz,e_] at sub;let lu:=bK RJ;rw[aA] at lu;let ls:=sub.length_le;apply#[_,Z,D,Z,#[_,.of zk],λa ha=>?_]
 have al:a≠l:=by
  let#[xs,e]:=dG.some;exact (bE e ha).symm
 have Da:D≠a:=bE zk ha;apply k8 (own:=1) (fv:=[some (.ref l)]) (xs:=W_) Z fq (λi out H'=>∃ws:Xb,aR l H2 H'/\bW H' l/\H' a\.lst out/\bG K H' out (ws.map kT)/\Paired (λw u=>w=u∨w=(u.2,u.1)) ws (us.take i)) #[[],aR.of (aa.new ha),dG.same (aa.new ha),au,.nil,.nil] (λi out H' _ ⟨_,b,_⟩=>.of (b _ _ zk Dl)) (λW9 H3 ⟨ws,b3,gO,jv,Ct,pw⟩=>?_) (λi x out H' hx ⟨ws,b,stx,hax,D5,pw⟩=>?_)
 ·rw[lu,e_] at pw;let b0:=b1.trans b2;exact k (.ref a) (some ws) H3 (b0.trans b3) gO #[a,W9,Z,jv,Ct] (λc z=>by cases z;exact b0.free dG ha) (λws' z=>by cases z;exact kw_ good nd sub pw)
 let#[t,ht,p,rfl,hp]:=oZ RJ hx;have hi:i<us.length:=(cU.mp ht).1;let#[Xm,jW]:=dG.some;let#[Xh,y_]:=stx.some;let Td:=b _ _ hp (cb hp jW nofun);apply#[_,Z,Z,λNx hN=>eJ ?_];apply#[_,Z,_,Z,_,Z,Z,p,_,_,Z,.of (yV Td),λq hq=>?_];let s4:=aa.new (o:=.tup [.str t.2,.str t.1]) hq;apply#[zl,λlx F2=>?_];let s5:=aa.new (o:=.lst [.ref p,.ref q]) F2;let AJ:=s4.trans s5;let fM:=stx.same AJ
 have Mh:lx≠l:=by
  let#[xs,e]:=(stx.same s4).some;exact (bE e F2).symm
 apply#[_,Z,l,2,Z,by decide,by decide,fM,λr2 H6 q0 q1 b6 g_=>?_];let#[Xj,zc]:=fM.some;let CN:=AJ _ _ Td;let Ta:=s5 _ _ (show upd H' q (.tup [.str t.2,.str t.1]) q=_ from au);let hp6:=b6 _ _ CN (cb CN zc nofun);let hq6:=b6 _ _ Ta (cb Ta zc nofun);let M7:=b6 _ _ (show upd (upd H' q (.tup [.str t.2,.str t.1])) lx (.lst [.ref p,.ref q]) lx=_ from au) Mh
 have pick:∃(c:Addr) (tt:Str × Str),eZ [V.ref p,V.ref q] r2\.ref c/\H6 c\.tup ((kT tt).map kV)/\(tt=t∨tt=(t.2,t.1)):=by
  rcases wX (a:=V.ref p) (b:=V.ref q) q0 q1 with e|e
  ·exact#[p,t,e,hp6,.inl Z]
  exact#[q,(t.2,t.1),e,hq6,.inr Z]
 let#[c,tt,et,hc,Oe]:=pick;have zM:aR l H' H6:=(aR.of AJ).trans b6;let uk:=zM _ _ hax al;let lo:=bK D5;rw[aA] at lo;let lp:=bK pw;rw[d6] at lp;apply#[lx,_,_,_,Z,Z,.of M7,et,out,uk,by omega,hN _ _ #[ws++[tt],λb' o e ne=>?_,?_,au,?_,?_]]
 ·rw[aD (bE e ha)];exact zM _ _ (b _ _ e ne) ne
 ·unfold bW;rw[aD al.symm];exact g_
 ·rw[dC];exact jC (Ca (jD D5 zM y_) hc) uk
 rw[iS,ht];exact kZ pw (.cons Oe .nil)
end
end Ev
namespace Ev
open PySem L2
abbrev Pc:=Str × Int × Option (Xb)
def ko(K:af)(H:Hp)(y:V)(p:Pc):Prop:=∃t v,y=.ref t/\H t\.tup [.str p.1,.int p.2.1,v]/\cK K H v p.2.2
abbrev uD(K:af)(H:Hp)(ys:ag)(ps:List Pc):Prop:=Paired (ko K H) ys ps
structure BA (ts:Xb) (p:Pc):Prop where
 nm:gZ p.1=true
 w1:1<=p.2.1
 w2:p.2.1<=1000000000
 ws:∀ws,p.2.2\ws->G4 ts ws
theorem k3_{K:af}{H:Hp}{a l:Addr}{ys:ag}{ks:List ay}(t:bG K H ys ks)(ha:H a\.lst ys)(st:bW H l):a≠l:=λe=>by
 subst e;rcases st with⟨n,e⟩|⟨n,m,c,e⟩
 all_goals
  rw[ha] at e;have e:ys=_:=HO.lst.inj (dY e);subst e;cases t with
  |cons h _=>
   let#[b,z,_]:=h;cases z
theorem cK.but{K:af}{H H':Hp}{l:Addr}{v:V}{o:Option (Xb)}(h:cK K H v o)(b:aR l H H')(st:bW H l):cK K H' v o:=by
 cases o with
 |none=>exact h
 |some ws=>
  let#[a,ys,e,ha,t]:=h;let#[xs,hl]:=st.some;exact#[a,ys,e,b _ _ ha (k3_ t ha st),jD t b hl]
theorem ko.but{K:af}{H H':Hp}{l:Addr}{y:V}{p:Pc}(h:ko K H y p)(b:aR l H H')(st:bW H l):ko K H' y p:=by
 let#[t,v,e,ht,hv]:=h;let#[xs,hl]:=st.some;exact#[t,v,e,b _ _ ht (cb ht hl nofun),hv.but b st]
theorem ko.same{K:af}{H H':Hp}{y:V}{p:Pc}(h:ko K H y p)(s:aa H H'):ko K H' y p:=by
 let#[t,v,e,ht,hv]:=h;exact#[t,v,e,s _ _ ht,hv.same s]
theorem cK.put{K:af}{H:Hp}{D:Addr}{xs:ag}{v:V}{o:Option (Xb)}{u:HO}(h:cK K H v o)(hD:H D\.lst xs)(ne:v≠.ref D):cK K (upd H D u) v o:=by
 cases o with
 |none=>exact h
 |some ws=>
  let#[a,ys,e,ha,t]:=h;subst e;exact#[a,ys,Z,by rw[aD λz=>ne (by rw[z])];exact ha,jC t hD]
section v
theorem Hn:br [eY,"_law_ties","_law_most","_law_pieces_here","_law_name","_law_weight","_law_turn"] uV (a9 OR):=bF
inductive O2 (K:af) (vs:ag) (H:Hp) (Q:VK) (E:XK):Prop
 |mk:∀(l lt:Addr) (m:Nat) (zs:ag) (ts:Xb),vs=[.ref l,.ref lt,.int m]->m<=30->bW H l->H lt\.lst zs->bG K H zs (ts.map kT)->lt≠l->ts.length<64->(∀t∈ts,zv t)->(ts.map kO).Nodup->(∀(a:Addr) (ys:ag) (ps:List Pc) (H':Hp),aR l H H'->bW H' l->H a=none->H' a\.lst ys->uD K H' ys ps->(∀p∈ps,BA ts p)->(ps.map (·.1)).Nodup->ps.length<=m->(∀p∈ps,Iw m p.1)->Q (.ref a) H')->O2 K vs H Q E
theorem hs_{f:Addr}{fd:Ae}(F:bg K "_law_pieces" "_law_pieces" OR f fd)(B:Bi mg)(cD:!bc 1 qA uH vH)(cN:!bc 2 "_law_names" kg Ka)(cW:!bc 2 "_law_ways" [eY,"_law_ties"] (lG K)) :
  ak P w K mg base ba 3 f fd uV (O2 K):=by
 exists F.bI Hn;let#[l,lt,m,zs,ts,rfl,Mg,st,dQ,tu,qm,bR,good,nd,k]:=h;let sz:=b_
 apply#[_,ax (bh 3 Hn.nd (dE bf))
  (ax (fC eS Z (d_ (aP cN hr %[0,aP cD hr %[0,bu fH (pv 2) az|0]|0])) (cq 4 Hn.nd)
   (ax (bh 5 Hn.nd (bu fH az (aP cD hr %[0,bA fA (dE %[az,az,bu Np az az|0]) (aP cD hr %[0,az|0])|0])))
   (aC (j_ (kW mX xA xI vJ (pv 3) %[dR %[4,5,aP cW hr %[0,1|0]|0]|0])))))
  (ax (bh 6 Hn.nd (aP cD hr %[0,bu fH (bY iy (by rfl) B.len gX %[3|0]) az|0]))
  (aC (aY (bu JG (vF B7 (pv 3) (vC (pv 6)) vD) (vF B7 (pv 3) vD (vC (pv 6)))))))),?_]
 apply#[zl,λa ha=>?_];let s1:=aa.new (o:=.lst []) ha
 have jV:l≠a:=by
  let#[xs,e]:=st.some;exact bE e ha
 have lta:lt≠a:=bE dQ ha;apply#[_,Z,_,Z,_,Z,_,_,Z,Z,l,(m:Int)+1,Z,by omega,by omega,st.same s1,λr H2 r0 rm b2 dG=>?_];let#[r,rfl]:=p_ r0;apply#[l,r,Z,by omega,dG,λln ns H3 b3 gO fn To N=>?_]
 have A2:ln≠l:=λe=>by
  subst e;let#[xs,e2]:=dG.some;rw[fn] at e2;cases e2
 let iP:=b2 _ _ (show upd H a (.lst []) a=_ from au) jV.symm
 have Mi:ln≠a:=λe=>by
  subst e;rw[fn] at iP;cases iP
 have B3:aR l H H3:=(aR.of s1).trans (b2.trans b3);let jv:=b3 _ _ iP jV.symm;let F3:=B3 _ _ dQ qm;let#[Re,vk]:=st.some;let Ct:=jD tu B3 vk
 apply#[ln,Z,#[_,.of To],iK (K:=K) (a:=ln) (xs:=ns.map V.str) (λi σ H'=>∃(v4 v5 v6:aN) (ys:ag) (ps:List Pc),σ=[some (.ref l),some (.ref lt),some (.int m),some (.ref a),v4,v5,v6]/\aR l H H'/\bW H' l/\H' ln\.lst (ns.map V.str)/\H' a\.lst ys/\uD K H' ys ps/\(∀y v,y∈ys->∀t n q,y=.ref t->H' t\.tup [n,q,v]->v≠.ref a)/\(∀p∈ps,BA ts p)/\ps.map (·.1)=ns.take i)
  #[none,none,none,[],[],Z,B3,gO,To,jv,.nil,λy v hy=>(by simp at hy),by simp,Z] (λi σ H' _ ⟨_,_,_,_,_,_,_,_,q,_⟩=>.of q) ?_ ?_]
 ·rintro i x σ H4 hx ⟨v4,v5,v6,ys,ps,rfl,b4,gN,Tn,um,CA,N8,gp,en⟩;let#[n,hn,rfl]:=jy hx;have hi:i<ns.length:=(cU.mp hn).1;apply#[_,Z,_,_,Z,Z,#[by decide,by decide,by decide],zl,λp hp=>?_];let s5:=aa.new (o:=.lst [.int 3,.int 100,.int ((10:Int) ^ (9:Int).toNat)]) hp
  have pl:p≠l:=by
   let#[xs,e]:=gN.some;exact (bE e hp).symm
  apply#[_,Z,l,3,Z,by decide,by decide,gN.same s5,λr1 H6 q0 q1 b6 g_=>?_];let#[y,hy,bb,eb,e1,e2]:=Gh (p:=λy:V=>∃n:Int,y=.int n/\0<n/\n<=1000000000) (a:=V.int 3) (b:=.int 100) (c:=.int ((10:Int) ^ (9:Int).toNat)) q0 q1 #[3,Z,by decide,by decide] #[100,Z,by decide,by decide] #[_,Z,by decide,by decide];subst eb;apply#[p,_,_,_,Z,Z,.of (b6 _ _ au pl),hy,l,bb,Z,e1,by omega,g_,λr2 H7 q2 q3 b7 jI=>#[_,_,Z,Z,?_]];have KS:aR l H4 H7:=(aR.of s5).trans (b6.trans b7);let C3:=KS _ _ um jV.symm;let M_:=(b4.trans KS) _ _ dQ qm;let K_:=jD tu (b4.trans KS) vk;apply#[_,Z,.inl #[Z,_,.of C3],_,Z,_,Z,_,Z,_,Z,l,lt,zs,ts,Z,jI,M_,K_,qm,bR,good,nd,λv o H8 b8 vg wy fresh gw=>?_];let Ik:=KS.trans b8;let C1:=b8 _ _ C3 jV.symm;let hn8:=Ik _ _ Tn A2;apply#[zl,λt ht=>?_];let s9:=aa.new (o:=.tup [.str n,.int (1+r2),v]) ht
  have va:v≠.ref a:=λz=>by
   have:=fresh a z;rw[C3] at this;cases this
  let ly:=bK CA;let lp:=d9 List.length en;rw[aA,d6] at lp;let hlen:=N.len;have ta:t≠a:=(bE C1 ht).symm;apply#[a,_,_,Z,Z,s9 _ _ C1,by omega,?_];apply#[_,_,_,_,ps++[(n,1+r2,o)],Z,λb' o' e ne=>?_,?_,?_,au,?_,?_,?_,?_]
  ·rw[aD (bE e ha)];exact s9 _ _ ((b4.trans Ik) _ _ e ne)
  ·unfold bW;rw[aD jV];exact vg.same s9
  ·rw[aD Mi];exact s9 _ _ hn8
  ·have old:uD K (upd (upd H8 t (.tup [.str n,.int (1+r2),v])) a (.lst (ys++[.ref t]))) ys ps:=by
    have gen:∀(zW:ag) (LS:List Pc),(∀y∈zW,y∈ys)->uD K H4 zW LS->uD K (upd (upd H8 t (.tup [.str n,.int (1+r2),v])) a (.lst (ys++[.ref t]))) zW LS:=λzW LS sub h=>by
     induction h with
     |nil=>exact .nil
     |@cons y q ys1 ps1 h _ ih=>
      apply .cons ?_ (ih λz hz=>sub z (fb _ hz));let#[t',v',e,oM,ML]:=h;let nv:=N8 y v' (sub y fQ) t' _ _ e oM;let#[Xk,CU]:=gN.some;let FE:=s9 _ _ (Ik _ _ oM (cb oM CU nofun));exact#[t',v',e,by rw[aD (cb FE (s9 _ _ C1) nofun)];exact FE,((ML.but Ik gN).same s9).put (s9 _ _ C1) nv]
    exact gen ys ps (λ_ h=>h) CA
   exact kZ old (.cons #[t,v,Z,by rw[aD ta];exact au,(wy.same s9).put (s9 _ _ C1) va] .nil)
  ·intro y v' hy' t' n' q' e oM;rcases gD.mp hy' with hy'|hy'
   ·let#[j,hj,ej]:=lj hy';let#[t2,v2,JX,FJ,_]:=ie CA j hj Z1;rw[ej] at JX;subst JX;cases e;let#[Xk,CU]:=gN.some;let FE:=s9 _ _ (Ik _ _ FJ (cb FJ CU nofun));rw[aD (cb FE (s9 _ _ C1) nofun),FE] at oM;let z:=HO.tup.inj (dY oM);have:v2=v':=(List.cons.inj (List.cons.inj (List.cons.inj z).2).2).1;subst this;exact N8 _ v2 hy' _ _ _ Z FJ
   obtain rfl:y=.ref t:=⇑hy'
   cases e;rw[aD ta,au] at oM;let z:=HO.tup.inj (dY oM);have:v=v':=(List.cons.inj (List.cons.inj (List.cons.inj z).2).2).1;subst this;exact va
  ·intro q hq;rcases gD.mp hq with hq|hq
   ·exact gp q hq
   obtain rfl:q=(n,1+r2,o):=⇑hq
   exact#[N.ok n (dI hn),by show 1<=1+r2;omega,by show 1+r2<=1000000000;omega,gw]
  rw[dC,en,iS,hn];rfl
 rintro σ H4 ⟨v4,v5,v6,ys,ps,rfl,b4,gN,Tn,um,CA,N8,gp,en⟩;rw[aA,e_] at en;let ly:=bK CA;let lp:=d9 List.length en;rw[aA] at lp;let hlen:=N.len;apply#[_,Z,_,Z,a,_,Z,.inl (.of um),_,_,Z,Z,l,_,Z,by show (0:Int)<(ys.length:Int)+1;omega,by show (ys.length:Int)+1<1073741824;omega,gN,λtn H5 q0 q1 b5 fM=>?_];let#[tn,rfl]:=p_ q0;let Jy:=b5 _ _ um jV.symm;apply#[_,Z,_,Z,_,Z,a,_,Z,.of Jy,λp1 yW=>?_];rw[Vi];let s6:=aa.new (o:=.lst (ys.drop tn)) yW;apply#[_,Z,_,Z,_,Z,a,_,Z,.of (s6 _ _ Jy),λp2 ju=>?_];rw[PL];let s7:=aa.new (o:=.lst (ys.take tn)) ju;apply#[p1,p2,_,_,Z,Z,s7 _ _ au,au,by rw[zO,d6];omega,λp3 Ba=>?_];let yz:=s6.trans s7;let s8:=aa.new (o:=.lst (ys.drop tn++ys.take tn)) Ba;let WM:=b4.trans b5;let perm:=UX ps tn;let pm:=perm.map (·.1);let all:=yz.trans s8;apply k p3 _ (ps.drop tn++ps.take tn) _ (WM.trans (aR.of all)) (fM.same all) ((WM.trans (aR.of yz)).free (fM.same yz) Ba) au ?_ (λq hq=>gp q (perm.mem_iff.mp hq)) ?_ ?_ λq hq=>?_
 ·have h5:uD K _ ys ps:=Paired.bN CA λy q h=>(h.but b5 gN).same all;exact kZ (QP tn h5) (KJ tn h5)
 ·apply pm.nodup_iff.mpr ?_;rw[en];exact N.nd
 ·rw[perm.length_eq];omega
 let hm:=perm.mem_iff.mp hq
 have:q.1∈ns:=by
  rw[<- en];exact bJ.mpr #[q,hm,Z]
 rcases N.end_ _ this with z|⟨kk,h1,h2⟩
 ·exact .inl z
 exact .inr #[kk,by omega,h2]
end
end Ev
abbrev aL:=List Ev.Pc
namespace L2
open PySem PySem.Spec PyProof.Rows PySem.W
section
variable{X:Cx}
inductive yH (K:af) (x:V) (y:V) (H:Hp) (Q:VK):Prop
 |mk:∀l b xs zs,x=.ref l->y=.ref b->dM K H l xs->H b\.lst zs->xs.length+zs.length<=sizeLine->(∀p,H p=none->Q (.ref p) (upd H p (.lst (xs++zs))))->yH K x y H Q
theorem kd_:dN X (binaryOp .Add) (yH X.K):=by
 intro pins s σ H x y v u Q I rx ry h;let#[l,b,xs,zs,rfl,rfl,hH,hB,hz,q]:=h;cases rx;cases ry;let#[its,r,pl,hl]:=I.list hH;let#[z2,gz,n2,r2,jW,e2]:=I.mI hB;let h1:=r.length;let#[#[cls,dd,data,sl],ho,hc,n,hd]:=id pl.isList;simp only at hc hd;subst hc hd;have e:its.toArray++gz.toArray=(its++gz).toArray:=by simp
 apply concat_meets ⟨_,ho,rfl⟩ ⟨_,e2,rfl⟩ noFill_list_add seq_list_add PySem.F.slot_list_add PySem.F.entry_list_add (PySem.F.args_list_add_2 _ _) (list_addW l b its.toArray gz.toArray n n2 _ _ _ _ (by rw[cg,cg];omega)) ⟨ho,e2,?_⟩;rw[e];exact⟨.ref _,_,I.wK (t':=s.toks) (r.append r2) (by rw[fB];omega),rfl,q _ I.fresh⟩
end
end L2
namespace Ev
open PySem L2
theorem Gg{α:Type}{p:α->Prop}{xs:List α}{r:Int}{n:Nat}(hn:xs.length=n)(h0:0<=r)(h1:r<(n:Int))(h:∀v∈xs,p v):∃v,eZ xs r\v/\p v:=by
 have hl:r.toNat<xs.length:=by omega
 apply⟨xs[r.toNat],?_,h _ (nD hl)⟩;rw[fP h0 Z1,cw hl]
theorem gQ{t u:TS}{D:Ends}{σ:St}{H:Hp}(R:iL)(later:∀σ H,R σ H->u D σ H)(now:∀N:St->Hp->Prop,(∀σ H,R σ H->N σ H)->t { D with nx:=N } σ H):pE t u D σ H:=now (u D) later
theorem setG{i:Nat}{v:V}{σ:St}{H:Hp}{N:iL}(h:N (σ.set i (some v)) H):iG i v σ H N:=h
theorem bW.ne{H:Hp}{l a:Addr}(h:bW H l)(e:H a=none):a≠l:=by
 rintro rfl;let#[xs,h]:=h.some;rw[e] at h;cases h
end Ev
local macro_rules|`(tactic|lk)=>`(tactic|(refine Ev.setG ?_;dsimp only))
namespace Ev
open PySem L2
theorem Vs{α:Type}{ps:List (Str × α)}(nd:(ps.map (·.1)).Nodup){a b:Str × α}(ha:a∈ps)(hb:b∈ps)(e:a.1=b.1):a=b:=by
 induction ps with
 |nil=>cases ha
 |cons p ps ih=>
  rw[eD,oY] at nd;rcases cQ.mp ha with za|ha
  ·rcases cQ.mp hb with zb|hb
   ·rw[za,zb]
   rw[za] at e;exact absurd (show p.1∈ps.map (·.1) from bJ.mpr #[b,hb,e.symm]) nd.1
  rcases cQ.mp hb with zb|hb
  ·rw[zb] at e;exact absurd (show p.1∈ps.map (·.1) from bJ.mpr #[a,ha,e]) nd.1
  exact ih nd.2 ha hb
def strOf(hs:Xa)(n:Str):Int:=((hs.find? λh=>decide (h.1=n)).map (·.2)).getD 0
theorem zG{hs:Xa}{n:Str}(h:n∈hs.map (·.1)):(n,strOf hs n)∈hs:=by
 unfold strOf;let#[x,hx,e]:=bJ.mp h;cases q:hs.find? λh=>decide (h.1=n) with
 |none=>
  have:=List.find?_eq_none.mp q x hx;simp[e] at this
 |some y=>
  let m:=List.mem_of_find?_eq_some q;have:=List.find?_some q;have e2:y.1=n:=⇑this
  show (n,y.2)∈hs;rw[<- e2];exact m
theorem U0{hs:Xa}(nd:(hs.map (·.1)).Nodup){n:Str}{s:Int}(h:(n,s)∈hs):strOf hs n=s:=by
 let m:=zG (bJ.mpr #[_,h,Z]:n∈hs.map (·.1));exact d9 Prod.snd (Vs nd m h Z)
theorem iS_{a b:Int}(ha:0<=a)(h:0<b):Int.gcd b (a % b)=Int.gcd a b:=by
 let#[m,rfl]:=p_ ha;let#[n,rfl]:=p_ (Int.le_of_lt h);rw[<- Int.natCast_emod];show Nat.gcd n (m % n)=Nat.gcd m n;rw[Nat.gcd_comm n,<- Nat.gcd_rec,Nat.gcd_comm]
theorem lP_{a b:Int}(hb:0<b)(oQ:b<=2000000):0<(Int.gcd a b:Int)/\(Int.gcd a b:Int)<1073741824:=by
 have h1:0<Int.gcd a b:=Int.gcd_pos_of_ne_zero_right a Z1;have h2:(Int.gcd a b:Int) ∣ b:=Int.gcd_dvd_right a b;let h3:=Int.le_of_dvd hb h2;omega
section v
theorem pF:br ["one","other","rest","divisor","left"] qC (a9 LJ):=bF
def Ex:Sp:=λvs H Q _=>∃a b:Int,vs=[.int a,.int b]/\0<=a/\0<b/\Q (.int (Int.gcd a b)) H
theorem lR_{f:Addr}{fd:Ae}(F:bg K "greatest_divisor" "greatest_divisor" LJ f fd):!ak ba 1 f fd qC Ex:=by
 exists F.bI pF;let#[a,b,rfl,ha,hb,k]:=h;refine' #[_,ax ?s1 (ax ?s2 (ax ?s3 ?s4)),?kk]
 case s1=>exact bh 2 pF.nd (pv 0)
 case s2=>exact bh 3 pF.nd (pv 1)
 case s3=>exact U5 eS (cn qB (pv 2) az) (ax (bh 4 pF.nd (bu pY (pv 3) (pv 2))) (ax (bh 3 pF.nd (pv 2)) (aC (bh 2 pF.nd (pv 4)))))
 case s4=>exact aC (aY (pv 3))
 apply#[_,Z,_,Z,?_];apply iy_ (λσ H'=>H'=H/\∃(r d:Int) (v4:aN),σ=[some (.int a),some (.int b),some (.int r),some (.int d),v4]/\0<=r/\0<d/\Int.gcd r d=Int.gcd a b) (λσ _=>match σ with | [_,_,some (.int r),_,_]=>r.toNat|_=>0) #[Z,a,b,none,Z,ha,hb,Z] ?_ ?_
 ·rintro σ H' ⟨rfl,r,d,v4,rfl,hr0,hd,e⟩;apply#[_,Z,Z,_,Z,?_];apply aM (λc=>?_) (λc=>?_)
  ·have ip:0<r:=by
    have:r≠0:=by
     intro z;subst z;simp at c
    omega
   apply#[_,Z,_,Z,_,_,Z,Z,ip,_,Z,_,Z,?_];let h1:=Int.emod_nonneg d (Int.ne_of_gt ip);let h2:=Int.emod_lt_of_pos d ip;apply#[#[Z,_,_,_,Z,h1,ip,?_],?_]
   ·rw[<- e,Int.gcd_comm (d % r) r,iS_ (Int.le_of_lt hd) ip,Int.gcd_comm]
   show (d % r).toNat<r.toNat;omega
  have ip:r=0:=⇑c
  subst ip;apply#[_,Z,?_]
  have e2:(Int.gcd a b:Int)=d:=by
   rw[<- e,Int.gcd_zero_left];omega
  rw[<- e2];exact k
 intro σ H' Q1 Q2 hq h;let#[x,e,h1,c,h2,h3]:=h;exact#[x,e,h1,c,h2,hq _ _ h3]
end
end Ev
namespace L2
open PySem PySem.Spec PyProof.Rows
def JU(w:Af)(l:List (Str × Tok × Aa)):List Ah:=l.map λx=>#[hashStr w x.1,.str x.1 x.2.1,x.2.2]
def kz(K:af)(w:Af)(d:Addr)(kvs:List (Str × V)):Prop:=
 (d == sysModules)=false/\(kvs.map (·.1)).Nodup/\∃(l:List (Str × Tok × Aa)) (o:Obj) (es:Array Ah) (ep:Nat),K.lookup d\o/\o.ExactDict/\o.data=.dict es ep/\es.toList=JU w l/\Paired (λ(p:Str × V) (x:Str × Tok × Aa)=>p.1=x.1/\RelV p.2 x.2.2) kvs l
theorem Vf{P:Ad}{w:Af}:∀{l:List (Str × Tok × Aa)},Pairs (eB P w) (JU w l) (l.map λx=>((Sum.inr x.1:Key),x.2.2))
 |[]=>.nil
 |x::l=>.cons (QI P w x.1 x.2.1) Z (Vf (l:=l))
theorem UW{kvs:List (Str × V)}{l:List (Str × Tok × Aa)}(h:Paired (λ(p:Str × V) (x:Str × Tok × Aa)=>p.1=x.1/\RelV p.2 x.2.2) kvs l):kvs.map (·.1)=l.map (·.1):=by
 induction h with
 |nil=>rfl
 |cons a _ ih=>rw[eD,eD,ih,a.1]
theorem kz.of{P:Ad}{K:af}{w:Af}{d:Addr}{kvs:List (Str × V)}{h:Heap}(k:kz K w d kvs)(X:K.In h):∃l:List (Str × Tok × Aa),Paired (λ(p:Str × V) (x:Str × Tok × Aa)=>p.1=x.1/\RelV p.2 x.2.2) kvs l/\h.DictOf (eB P w) d (l.map λx=>((Sum.inr x.1:Key),x.2.2)):=by
 let#[_,nd,l,o,es,ep,ho,hx,hd,he,hp]:=k;apply#[l,hp,o,es,ep,X _ _ ho,hx,hd,λe m=>?_,?_,?_]
 ·have m:e∈JU w l:=by
   rw[<- he];simpa using m
  let#[x,_,rfl]:=bJ.mp m;exact#[Sum.inr x.1,QI P w x.1 x.2.1,Z]
 ·rw[he];exact Vf
 rw[UW hp] at nd;rw[cu,uQ,vM];rw[uQ,vM] at nd;exact nd.imp λn e=>n (iF e)
theorem jL_{kvs:List (Str × V)}{l:List (Str × Tok × Aa)}(h:Paired (λ(p:Str × V) (x:Str × Tok × Aa)=>p.1=x.1/\RelV p.2 x.2.2) kvs l)(nd:(kvs.map (·.1)).Nodup){z:Str}{v:V}(m:(z,v)∈kvs):∃u,valueAt (l.map λx=>((Sum.inr x.1:Key),x.2.2)) (Sum.inr z)\u/\RelV v u:=by
 unfold valueAt
 induction h with
 |nil=>cases m
 |@cons p x kvs l a _ ih=>
  rw[eD] at nd ⊢;rw[xQ];let#[n1,n2]:=oY.mp nd;by_cases e:x.1=z
  ·rcases cQ.mp m with m|m
   ·subst m;apply#[x.2.2,?_,a.2];simp[e]
   exact absurd (by rw[a.1,e];exact bJ.mpr #[_,m,Z]) n1
  rcases cQ.mp m with m|m
  ·subst m;exact absurd a.1.symm e
  have:=ih n2 m;simp[e];simpa using this
theorem hS_{kvs:List (Str × V)}{l:List (Str × Tok × Aa)}(h:Paired (λ(p:Str × V) (x:Str × Tok × Aa)=>p.1=x.1/\RelV p.2 x.2.2) kvs l)(z:Str):(valueAt (l.map λx=>((Sum.inr x.1:Key),x.2.2)) (Sum.inr z)).isSome=decide (z∈kvs.map (·.1)):=by
 rw[UW h];unfold valueAt;rw[Option.isSome_map,List.isSome_find?];rw[Bool.eq_iff_iff,List.any_eq_true,decide_eq_true_iff];constructor
 ·rintro⟨kv,hm,e⟩;let#[x,hx,rfl]:=bJ.mp hm;have e:(Sum.inr x.1:Key)=Sum.inr z:=⇑e
  exact bJ.mpr #[x,hx,iF e]
 intro m;let#[x,hx,e]:=bJ.mp m;exact#[_,bJ.mpr #[x,hx,Z],by simp[e]]
section
variable{X:Cx}{o i:Expr}{pos:Pos}{td ty:TE}
inductive yj (K:af) (w:Af) (Q:VK) (y:V) (x:V) (H2:Hp):Prop
 |mk:∀d kvs z,x=.ref d->kz K w d kvs->y=.str z->Q (.bl (decide (z∈kvs.map (·.1)))) H2->yj K w Q y x H2
def Lm(K:af)(w:Af)(ty td:TE):TE:=λσ H Q=>ty σ H λy H1=>td σ H1 λx H2=>yj K w Q y x H2
theorem _r(hi:PE X i ty)(ho:PE X o td):PC X .In i o (Lm X.K X.w ty td):=by
 intro pins s σ H Q I h;apply aV (hi pins s σ H _ I h) λiv s1 ⟨y,H1,I1,ry,q1⟩=>aV (ho pins s1 σ H1 _ I1 q1) λu s2 ⟨x,H2,I2,rx,d,kvs,z,ex,kd,ey,q2⟩=>?_;subst ex;subst ey;obtain rfl:u=Value.ref d:=rx;let#[l,hp,dd]:=kd.of (P:=X.prog) I2.gr;apply wpAny_in_of (vw (k:=Sum.inr z) ry) kd.1 dd.mapOf ?_;rw[hS_ hp];exact#[.bl _,H2,I2.tok _,Z,q2]
inductive q_ (K:af) (w:Af) (Q:VK) (x:V) (y:V) (H2:Hp):Prop
 |mk:∀d kvs z v,x=.ref d->kz K w d kvs->y=.str z->(z,v)∈kvs->Q v H2->q_ K w Q x y H2
def El(K:af)(w:Af)(td ty:TE):TE:=λσ H Q=>td σ H λx H1=>ty σ H1 λy H2=>q_ K w Q x y H2
theorem k8_(ho:PE X o td)(hi:PE X i ty)(hs:xY i):PE X (.Subscript o i pos) (El X.K X.w td ty):=by
 intro pins s σ H Q I h;apply Ou PySem.F.slot_dict_getitem.lookup hs (aV (ho pins s σ H _ I h) λu s1 ⟨x,H1,I1,rx,q1⟩=>aV (hi pins s1 σ H1 _ I1 q1) λiv s2 ⟨y,H2,I2,ry,d,kvs,z,v,ex,kd,ey,hm,q2⟩=>?_);subst ex;subst ey;obtain rfl:u=Value.ref d:=rx;let#[l,hp,dd]:=kd.of (P:=X.prog) I2.gr;let#[w',hw,mz]:=jL_ hp kd.2.1 hm;exact#[dd.mapOf.typeIs,wpAny_getItem_of (vw (k:=Sum.inr z) ry) dd.mapOf hw #[v,H2,I2.tok _,mz,q2]]
end
end L2
namespace Ev
open PySem L2
abbrev Rl:=Str × Str × Str × Option Str
def rl:List Rl:=[("least one high","least","one",some "high"),("least one fall","least","one",some "fall"),("least one calm","least","one",some "calm"),("least all high","least","all",some "high"),("least all fall","least","all",some "fall"),("least all calm","least","all",some "calm"),("below one high","below","one",some "high"),("below one fall","below","one",some "fall"),("below one calm","below","one",some "calm"),("below all high","below","all",some "high"),("below all fall","below","all",some "fall"),("below all calm","below","all",some "calm"),("shares one","shares","one",none),("shares all","shares","all",none),("turns high","turns","all",some "high"),("turns fall","turns","all",some "fall"),("turns calm","turns","all",some "calm")]
def tI:Option Str->V
 |some x=>.str x
 |none=>.non
def mB:ae:=rl.map (·.1)
theorem hG_:mB.Nodup:=by decide +kernel
def RZ(as:ai):List (Str × V):=List.zipWith (λ(r:Rl) a=>(r.1,V.ref a)) rl as
structure Kf (K:af) (w:Af) (mg:Str->Option Aa) (d:Addr) (as:ai):Prop where
 mg:mg "RULES"\.ref d
 len:as.length=17
 kd:kz K w d (RZ as)
 tup:Paired (λa (r:Rl)=>∀H,gL K H a [.str r.2.1,.str r.2.2.1,tI r.2.2.2]) as rl
theorem VA{as:ai}(h:as.length=17):(RZ as).map (·.1)=mB:=by
 have:∀(rs:List Rl) (as:ai),as.length=rs.length->(List.zipWith (λ(r:Rl) a=>(r.1,V.ref a)) rs as).map (·.1)=rs.map (·.1):=by
  intro rs
  induction rs with
  |nil=>intro as _;rfl
  |cons r rs ih=>
   intro as e;cases as with
   |nil=>cases e
   |cons a as=>
    rw[List.zipWith_cons_cons,eD,eD,ih as ⇑e]
 exact this rl as h
theorem SG{K:af}:∀{rs:List Rl} {as:ai},Paired (λa (r:Rl)=>∀H,gL K H a [.str r.2.1,.str r.2.2.1,tI r.2.2.2]) as rs->∀r∈rs,∃a,(r.1,V.ref a)∈List.zipWith (λ(r:Rl) a=>(r.1,V.ref a)) rs as/\∀H,gL K H a [.str r.2.1,.str r.2.2.1,tI r.2.2.2]
 |_,_,.nil,r,h=>by cases h
 |r0::rs,a::as,.cons h t,r,m=>by
  rw[List.zipWith_cons_cons];rcases cQ.mp m with rfl|m
  ·exact#[a,fQ,h]
  let#[b,hb,hs]:=SG t r m;exact#[b,fb _ hb,hs]
def Fw(ns:ae):Option Str->Bool
 |some x=>decide (x∈ns)
 |none=>false
section v
theorem si:br fO fO (a9 OT):=bF
def Vu:Sp:=λvs H Q _=>∃r∈rl,vs=[.str r.1]/\Q (.bl true) H
theorem hA_{f d:Addr}{as:ai}{fd:Ae}(F:bg K "is_rule" "is_rule" OT f fd)(B:Bi mg)(R:Kf K w mg d as):!ak ba 1 f fd fO Vu:=by
 exists F.bI si;let#[r,bQ,rfl,k]:=h;apply#[_,aC (aY (kL (bY iW (by rfl) B.iD iI %[0,iU (v:=.ty "str") (by rfl) B.str Dr Z|0]) (kK (GN (_r (pv 0) (xM (v:=.ref d) (by rfl) R.mg Z)))))),?_];apply#[_,Z,_,_,_,_,Z,.str r.1,Z,_,Z,bO #[_,Z,d,_,r.1,Z,R.kd,Z,?_]];rw[VA R.len,show decide (r.1∈mB)=true from bP (bJ.mpr #[r,bQ,Z])];exact k
theorem vZ:br ["rule"] ["rule"] (a9 lV):=bF
def Hx(K:af):Sp:=λvs H Q _=>∃r∈rl,vs=[.str r.1]/\∀a,(∀H',gL K H' a [.str r.2.1,.str r.2.2.1,tI r.2.2.2])->Q (.ref a) H
theorem jg_{f d:Addr}{as:ai}{fd:Ae}(F:bg K BJ BJ lV f fd)(R:Kf K w mg d as)(cI:!bc 1 "is_rule" fO Vu):!ak ba 2 f fd ["rule"] (Hx K):=by
 exists F.bI vZ;let#[r,bQ,rfl,k]:=h;apply#[_,ax (bw (eF (dF (aP cI hr %[0|0]))) (aC jf_) bx) (aC (aY (k8_ (xM (v:=.ref d) (by rfl) R.mg Z) (pv 0) (λ_ _=>rfl)))),?_];let#[a,ha,hs]:=SG R.tup r bQ;exact#[_,Z,r,bQ,Z,_,Z,aQ #[_,Z,d,_,r.1,.ref a,Z,R.kd,Z,ha,k a hs]]
end
end Ev
namespace Ev
open PySem L2
def km(K:af)(H:Hp)(v:V):Option Str->Prop
 |some x=>v=.str x
 |none=>∃t,d7 K H v t/\PySem.W.kitOne K t (.type "str")\false
def C_(hs:Xa)(ts:Xb):Option Str->Option Str->Bool
 |some x,some y=>decide (x∈hs.map (·.1))&&(decide (y∈hs.map (·.1))&&decide (y∈near (aF hs) (aJ ts) x))
 |_,_=>false
theorem KO(hs:Xa)(ts:Xb)(x y:Str):C_ hs ts (some x) (some y)=(decide (x∈hs.map (·.1))&&(decide (y∈hs.map (·.1))&&decide (y∈near (aF hs) (aJ ts) x))):=rfl
section v
inductive lP (K:af) (C:Addr) (vs:ag) (H:Hp) (Q:VK) (E:XK):Prop
 |mk:∀(p:Addr) (v:V) (x:Option Str) (hs:Xa) (ts:Xb) (fp:ai),vs=[.ref p,v]->fF K C H p hs ts fp->km K H v x->Q (.bl (Fw (hs.map (·.1)) x)) H->lP K C vs H Q E
theorem kp_{f C:Addr}{fd:Ae}(F:bg K "has_hand" "Web.has_hand" wk f fd)(T:Txt K mg C)(B:Bi mg):!ak ba 1 f fd oV (lP K C):=by
 exists F.bI yw;let#[p,v,x,hs,ts,fp,rfl,W,sv,k]:=h;let hu:=gC hr;let#[dx,d1,l2,d3,zs,as,rfl,h1,h2,h3,h4,h5,h6,h7]:=W.ex;apply#[_,aC (aY (kL (bY iW (by rfl) B.iD iI %[1,iU (v:=.ty "str") (by rfl) B.str Dr Z|0]) (kK (GN (Dp hu (pv 1) (dz (pv 0) Z)))))),?_];cases x with
 |some x=>
  cases (show v=.str x from sv);apply#[_,Z,_,_,_,_,Z,.str x,Z,_,Z,bO ?_];apply#[_,Z,_,Z,p,C,dx,_,_,Z,h1,T.cl,T.nS,JK _ _ _,d1,_,Z,.k (k:=Sum.inr x) h2,?_];rw[J_];exact k
 |none=>
  let#[t,ty,e]:=sv;exact#[_,Z,_,_,_,_,Z,ty,e,_,Z,aQ k]
inductive Kg (K:af) (C:Addr) (vs:ag) (H:Hp) (Q:VK) (E:XK):Prop
 |mk:∀(p:Addr) (v u:V) (x y:Option Str) (hs:Xa) (ts:Xb) (fp:ai),vs=[.ref p,v,u]->fF K C H p hs ts fp->(aF hs).Nodup->km K H v x->km K H u y->Q (.bl (C_ hs ts x y)) H->Kg K C vs H Q E
theorem iF_{f C:Addr}{fd:Ae}(F:bg K "are_tied" "Web.are_tied" sI f fd)(T:Txt K mg C)(cH:!bo C 1 "has_hand" oV (lP K C)):!ak ba 2 f fd kQ (Kg K C):=by
 exists F.bI Ap;let#[p,v,u,x,y,hs,ts,fp,rfl,W,nd,sv,su,k]:=h;let hu:=gC hr;let#[dx,d1,l2,d3,zs,as,rfl,h1,h2,h3,h4,h5,h6,h7]:=id W.ex;have kE:(cZ d1 l2 d3).lookup ("has_hand":Str)=none:=iJ _ _ _ Z0 Z0 Z0;apply#[_,aC (aY (kL (fG cH T.cl hr (pv 0) %[1|0]) (kL (fG cH T.cl hr (pv 0) %[2|0]) (kK (m_ (NU ia (j6 hr 0)) (pv 2) (j9 hu (dz (pv 0) Z) (pv 1)) (by with_unfolding_all rfl)))))),?_];apply#[_,Z,p,dx,_,Z,h1,kE,_,Z,p,v,x,hs,ts,_,Z,W,sv,_,Z,?_];cases x with
 |none=>exact aQ k
 |some x=>
  cases (show v=.str x from sv);apply aM (λc=>?_) (λc=>?_)
  ·have hx:x∈hs.map (·.1):=vy c;let#[a,e1,ha]:=SR nd hx h6 h7;apply#[_,Z,p,dx,_,Z,h1,kE,_,Z,p,u,y,hs,ts,_,Z,W,su,_,Z,?_];cases y with
   |none=>exact aQ k
   |some y=>
    cases (show u=.str y from su);rw[KO,bP hx,Bool.true_and] at k;apply aM (λc2=>?_) (λc2=>?_)
    ·have hy:y∈hs.map (·.1):=vy c2;rw[bP hy,Bool.true_and] at k;apply#[_,Z,_,Z,p,C,dx,_,_,Z,h1,T.cl,T.nN,Nq _ _ _,_,Z,d3,.ref a,Z,?_,y,_,Z,#[a,_,Z,.of ha,Hj _],k];rw[<- e1];exact .k (k:=Sum.inr x) h5
    have hy:¬y∈hs.map (·.1):=λz=>c2 (bP z);rw[dJ hy,Bool.false_and] at k;exact k
  have hx:¬x∈hs.map (·.1):=λz=>c (bP z);cases y with
  |none=>exact k
  |some y=>
   rw[KO,dJ hx,Bool.false_and] at k;exact k
theorem ja_{hs:Xa}{ts ws:Xb}(G:Good hs ts)(W:G4 ts ws){t:Str × Str}(ht:t∈aJ ws):C_ hs ts (some t.1) (some t.2)=true:=by
 let#[x,hx,ex]:=VD.mp ht;let#[u,hu,eu]:=bJ.mp (W.Fu x hx);have eo:aK u.1 u.2=t:=(GL eu).trans ex
 have both:t.1∈hs.map (·.1)/\t.2∈hs.map (·.1)/\aK t.1 t.2=t:=by
  let#[g1,g2]:=G.IG u hu;rcases zJ u.1 u.2 with e|e
  ·rw[<- eo,e];exact#[g1,g2,e]
  rw[<- eo,e];exact#[g2,g1,(Qk _ _).trans e]
 let#[m1,m2,m3]:=both;have m4:t.2∈near (aF hs) (aJ ts) t.1:=List.mem_filter.mpr #[(iz hs).mem_iff.mpr m2,bP (by rw[m3];exact VD.mpr #[u,hu,eo])];rw[KO,bP m1,bP m2,bP m4];rfl
theorem JY:br ["web","ways","found","one","other"] ["web","ways"] (a9 mr):=bF
inductive Oo (K:af) (C:Addr) (vs:ag) (H:Hp) (Q:VK) (E:XK):Prop
 |mk:∀(p:Addr) (v:V) (o:Option (Xb)) (hs:Xa) (ts:Xb) (fp:ai),vs=[.ref p,v]->fF K C H p hs ts fp->Good hs ts->cK K H v o->(∀ws,o\ws->G4 ts ws)->(∀v' H',aa H H'->cK K H' v' (o.map aJ)->(∀a,v'=.ref a->H a=none)->Q v' H')->Oo K C vs H Q E
theorem id_{f C:Addr}{fd:Ae}(F:bg K "checked_ways" "checked_ways" mr f fd)(T:Txt K mg C)(cS:!bc 3 "sorted_ties" ["ties"] (Pm K))(cT:!bo C 2 "are_tied" kQ (Kg K C)):!ak ba 4 f fd ["web","ways"] (Oo K C):=by
 exists F.bI JY;let#[p,v,o,hs,ts,fp,rfl,W,G,wy,gw,k]:=h;let hu:=gC hr;have ua:a_ 2 _:=hr.mono (by decide)
 apply#[_,ax (bw (xv (JD (pv 1))) (aC (aY zy)) bx)
  (ax (bh 2 JY.nd (aP cS hr %[1|0]))
  (ax (bw (xv (JD (pv 2))) eE bx)
  (ax (fC eS Z (d_ (pv 2)) (kJ Z (dD (cq 3 JY.nd) (dD (cq 4 JY.nd) iT)))
   (aC (bw (eF (dF (fG cT T.cl ua (pv 0) %[3,4|0]))) eE bx)))
  (aC (aY (pv 2)))))),?_]
 cases o with
 |none=>
  cases (show v=.non from wy);exact#[_,Z,_,Z,bO (k .non H (aa.refl H) Z (λa z=>by cases z))]
 |some ws=>
  let#[a,ys,rfl,ha,tu]:=wy;let Wo:=gw ws Z;apply#[_,Z,_,Z,aQ ?_];apply#[_,Z,a,ys,ws,Z,ha,tu,Wo.good,Wo.nd,by have:=Wo.len;have:=G.qf;omega,λl' zs H1 s1 hf gH tz=>?_];apply#[_,Z,_,Z,aQ ?_];let W1:=W.same s1;let#[dx,d1,l2,d3,jn,as,rfl,h1,h2,h3,h4,h5,h6,h7]:=id W1.ex;have kE:(cZ d1 l2 d3).lookup ("are_tied":Str)=none:=iJ _ _ _ Z0 Z0 Z0;rw[<- Km] at tz;apply#[_,Z,l',Z,#[_,.of gH],iK (K:=K) (a:=l') (xs:=zs) (λi σ H2=>∃(v3 v4:aN),σ=[some (.ref p),some (.ref a),some (.ref l'),v3,v4]/\H2=H1) #[none,none,Z,Z] (λi σ H2 _ ⟨_,_,_,e⟩=>by subst e;exact .of gH) ?_ ?_]
  ·rintro i y σ H2 hy ⟨v3,v4,rfl,rfl⟩;let#[t,ht,q,rfl,hq]:=oZ tz hy;apply#[q,_,Z,.of (yV hq),Z,_,_,Z,_,_,Z,Z,?_];apply#[_,Z,p,dx,_,Z,h1,kE,_,Z,_,Z,p,_,_,some t.1,some t.2,hs,ts,_,Z,W1,G.tR,Z,Z,_,Z,?_];rw[ja_ G Wo (dI ht)];apply aQ ?_;exact#[_,_,Z,Z]
  rintro σ H2 ⟨v3,v4,rfl,rfl⟩;exact#[_,Z,k (.ref l') _ s1 #[l',zs,Z,gH,tz] (λc z=>by cases z;exact hf)]
def CB(p:Pc):Pc:=(p.1,p.2.1,p.2.2.map aJ)
def qv(K:af)(H0 H:Hp)(y:V)(p:Pc):Prop:=∃t v,y=.ref t/\H t\.tup [.str p.1,.int p.2.1,v]/\cK K H v p.2.2/\∀a,v=.ref a->H0 a=none
theorem qv.same{K:af}{H0 H H':Hp}{y:V}{p:Pc}(h:qv K H0 H y p)(s:aa H H'):qv K H0 H' y p:=by
 let#[t,v,e,ht,hv,hn]:=h;exact#[t,v,e,s _ _ ht,hv.same s,hn]
theorem cK.up{K:af}{H:Hp}{D:Addr}{u:HO}{v:V}{o:Option (Xb)}(h:cK K H v o)(n1:∀xs,H D≠some (.lst xs))(n2:∀xs,H D≠some (.tup xs)):cK K (upd H D u) v o:=by
 cases o with
 |none=>exact h
 |some ws=>
  let#[a,ys,e,ha,t]:=h;exact#[a,ys,e,by rw[aD (λz:a=D=>n1 ys (z▸ha))];exact ha,Paired.bN t λy k ⟨b,z,q⟩=>#[b,z,by rw[aD (λz:b=D=>n2 _ (z▸q))];exact q]]
theorem qv.up{K:af}{H0 H:Hp}{D:Addr}{u:HO}{y:V}{p:Pc}(h:qv K H0 H y p)(n1:∀xs,H D≠some (.lst xs))(n2:∀xs,H D≠some (.tup xs)):qv K H0 (upd H D u) y p:=by
 let#[t,v,e,ht,hv,hn]:=h;exact#[t,v,e,by rw[aD (λz:t=D=>n2 _ (z▸ht))];exact ht,hv.up n1 n2,hn]
theorem Pq{ps:aL}{cs:ag}(nd:(ps.map (·.1)).Nodup)(hl:cs.length=ps.length):∀{j:Nat} {q:Pc} {c:V},ps[j]? = some q->cs[j]? = some c->bH ((ps.zip cs).map λq=>((Sum.inr q.1.1:Key),q.2)) (Sum.inr q.1)\c:=by
 induction ps generalizing cs with
 |nil=>
  intro j q c h;simp at h
 |cons p ps ih=>
  intro j q c h1 h2;cases cs with
  |nil=>cases hl
  |cons b cs=>
   rw[eD] at nd;let#[n1,n2]:=oY.mp nd;cases j with
   |zero=>
    have e1:p=q:=⇑h1
    have e2:b=c:=⇑h2
    subst e1 e2;exact Cd Z
   |succ j=>
    have h1:ps[j]? = some q:=⇑h1
    have h2:cs[j]? = some c:=⇑h2
    show bH ((Sum.inr p.1,b)::((ps.zip cs).map λq=>((Sum.inr q.1.1:Key),q.2))) (Sum.inr q.1)=_;rw[Cf λe=>n1 (by rw[show p.1=q.1 from iF e];exact bJ.mpr #[q,dI h1,Z])];exact ih n2 ⇑hl h1 h2
theorem sy:br ["web","piece"] ["web","piece"] (a9 OI):=bF
inductive O1 (K:af) (C:Addr) (vs:ag) (H:Hp) (Q:VK) (E:XK):Prop
 |mk:∀(p:Addr) (y:V) (q:Pc) (hs:Xa) (ts:Xb) (fp:ai),vs=[.ref p,y]->fF K C H p hs ts fp->Good hs ts->ko K H y q->BA ts q->(∀y' H',aa H H'->qv K H H' y' (CB q)->Q y' H')->O1 K C vs H Q E
theorem gU_{f C:Addr}{fd:Ae}(F:bg K "checked_piece" "checked_piece" OI f fd)(B:Bi mg)(cN:!bc 1 "is_name" fO JL)(cW:!bc 2 "is_whole_within" kb Oi)(cC:!bc 4 "checked_ways" ["web","ways"] (Oo K C)){tk:Tok}(mW:mg "MOST_WEIGHT"\.int 1000000000 tk) :
  ak P w K mg base ba 5 f fd ["web","piece"] (O1 K C):=by
 exists F.bI sy;let#[p,y,q,hs,ts,fp,rfl,W,G,#[t,v,rfl,ht,wy],gp,k]:=h
 apply#[_,ax (bw (uA (eF (dF (bY iW (by rfl) B.iD iI %[1,iU (v:=.ty "tuple") (by rfl) B.tuple vE Z|0])))
   (uL (cn qB (bY iy (by rfl) B.len gX %[1|0]) az))).pt eE bx)
  (ax (bw (eF (dF (aP cN hr %[bA c_ (pv 1) az|0]))) eE bx)
  (ax (bw (eF (dF (aP cW hr %[bA c_ (pv 1) az,az,xM (v:=.int 1000000000) (by rfl) mW #[tk,Z]|0]))) eE bx)
  (aC (aY (dR %[bA c_ (pv 1) az,bA c_ (pv 1) az,aP cC hr %[0,bA c_ (pv 1) az|0]|0]))))),?_]
 apply#[_,Z,_,_,_,_,Z,.tup ht,Z,_,Z,aQ ?_];apply#[_,Z,t,_,Z,.inr (.of ht),Z,_,Z,?_];apply tW (show V.int ((3:Nat):Int)=V.int 3 from Z) ?_;apply#[_,Z,t,_,_,_,Z,Z,.of ht,Z,q.1,Z,by have:=Kn gp.nm;omega,λH1 s1=>#[_,Z,?_]];rw[gp.nm];apply aQ ?_;let yT:=s1 _ _ ht;apply#[_,Z,t,_,_,_,Z,Z,.of yT,Z,q.2.1,1,1000000000,Z,_,Z,?_];rw[bP gp.w1,bP gp.w2];apply aQ ?_;apply#[_,Z,t,_,_,_,Z,Z,.of yT,Z,_,Z,t,_,_,_,Z,Z,.of yT,Z,_,Z,_,Z,t,_,_,_,Z,Z,.of yT,Z,p,v,q.2.2,hs,ts,fp,Z,W.same s1,G,wy.same s1,gp.ws,λv' H2 s2 Xy hf=>?_];apply#[zl,λt' oM=>?_];exact k (.ref t') _ (s1.trans (s2.trans (aa.new oM))) #[t',v',Z,au,Xy.same (aa.new oM),λa z=>s1.free (hf a z)]
theorem Kl:br ["web","pieces","found","piece","checked"] ["web","pieces"] (a9 O4):=bF
structure Qs (ps qs:aL):Prop where
 E9:qs.map (·.1)=mY (ps.map (·.1))
 mem:∀q∈qs,∃p∈ps,q=CB p
inductive QF (K:af) (C:Addr) (vs:ag) (H:Hp) (Q:VK) (E:XK):Prop
 |mk:∀(p l:Addr) (ys:ag) (ps:aL) (hs:Xa) (ts:Xb) (fp:ai),vs=[.ref p,.ref l]->fF K C H p hs ts fp->Good hs ts->H l\.lst ys->uD K H ys ps->(∀q∈ps,BA ts q)->(ps.map (·.1)).Nodup->ps.length<64->(∀l' zs qs H',aa H H'->H' l'\.lst zs->Paired (qv K H H') zs qs->Qs ps qs->Q (.ref l') H')->QF K C vs H Q E
theorem bp{H:Hp}{a:Addr}{o:HO}(n:H a=none):aa H (upd H a o)/\upd H a o a\o:=⟨aa.new n,au⟩
theorem gc_{f C:Addr}{fd:Ae}(F:bg K "checked_pieces" "checked_pieces" O4 f fd)(B:Bi mg)(cP:!bc 5 "checked_piece" ["web","piece"] (O1 K C)):!ak ba 6 f fd ["web","pieces"] (QF K C):=by
 exists F.bI Kl;let#[p,l,ys,ps,hs,ts,fp,rfl,W,G,hl,pc,gp,nd,bR,k]:=h;let hu:=gC hr;let sz:=b_;let le:=bK pc
 apply#[_,ax (bw (eF (dF (bY iW (by rfl) B.iD iI %[1,iU (v:=.ty "list") (by rfl) B.list zK Z|0]))) eE bx)
  (ax (bh 2 Kl.nd Hk)
  (ax (fC eS Z (d_ (pv 1)) (cq 3 Kl.nd)
   (ax (bh 4 Kl.nd (aP cP hr %[0,3|0]))
   (ax (bw (xv (Dp hu (bA c_ (pv 4) az) (pv 2))) eE bx)
   (aC (xH hu (pv 2) (bA c_ (pv 4) az) (pv 4) Z)))))
  (aC (aY (kX ["name","found"] 1 [2] (d_ (bY (eD_ Z) (by rfl) B.sorted Kp %[2|0])) (λfp s H=>gg (i:=0) (show (["name","found"]:ae).Nodup by decide +kernel) Z (Or.inl Z)) (λfp s H=>jA)
   (λfp s H=>j9 hu (pv 1) (pv 0))))))),?_]
 apply#[_,Z,_,_,_,_,Z,.lst hl,Z,_,Z,aQ ?_];intro d hd;have s0:aa H (upd H d (.dK [])):=aa.new hd;apply#[_,Z,l,Z,#[_,.of (s0 _ _ hl)],iK (K:=K) (a:=l) (xs:=ys) (λi σ H2=>∃(v3 v4:aN) (cs:ag),σ=[some (.ref p),some (.ref l),some (.ref d),v3,v4]/\aa H H2/\Paired (qv K H H2) cs ((ps.take i).map CB)/\H2 d\.dK (((ps.take i).zip cs).map λq=>(Sum.inr q.1.1,q.2))) #[none,none,[],Z,s0,.nil,au] (λi σ H2 _ ⟨_,_,_,_,s2,_⟩=>.of (s2 _ _ hl)) ?_ ?_]
 ·rintro i y σ H2 hy ⟨v3,v4,cs,rfl,s2,pn,hd2⟩;have hi:i<ys.length:=(cU.mp hy).1;have hq:ps[i]? = some (ps[i]' Z1):=cw Z1;let py:=ie pc i hi Z1;rw[(cU.mp hy).2] at py;generalize ps[i]' Z1=q at hq py;apply#[_,Z,_,Z,p,y,q,hs,ts,fp,Z,W.same s2,G,py.same s2,gp q (dI hq),λy' H3 s3 pw=>?_];let#[t,v,rfl,ht,wy,hf]:=pw;let mL:=s3 _ _ hd2;let lc:=bK pn;rw[aA,d6] at lc
  have keys:((((ps.take i).zip cs).map λq=>((Sum.inr q.1.1:Key),q.2)).map (·.1))=((ps.take i).map (·.1)).map Sum.inr:=by
   rw[cu];have:((λx:Key × V=>x.1) ∘ λq:Pc × V=>((Sum.inr q.1.1:Key),q.2))=(λp:Pc=>(Sum.inr p.1:Key)) ∘ Prod.fst:=rfl;rw[this,<- cu,List.map_fst_zip (by rw[d6];omega),cu];rfl
  have vi:bH (((ps.take i).zip cs).map λq=>((Sum.inr q.1.1:Key),q.2)) (Sum.inr q.1)=none:=zP (by
   rw[keys];intro m;let#[x,hx,e]:=bJ.mp m;cases e;exact HY (g:=λp:Pc=>p.1) nd hq hx)
  apply#[_,Z,t,_,_,_,Z,Z,.of ht,Z,_,Z,d,_,Z,.k (k:=Sum.inr q.1) mL,_,Z,?_];rw[vi];apply aQ ?_;apply#[_,Z,_,Z,_,Z,t,_,_,_,Z,Z,.of ht,Z,d,_,Z,.k (k:=Sum.inr q.1) mL (by rw[aA,List.length_zip,d6];omega),?_];let AK:=s2.trans s3;have n1:∀xs,H3 d≠some (.lst xs):=λxs z=>by rw[mL] at z;cases z
  have n2:∀xs,H3 d≠some (.tup xs):=λxs z=>by rw[mL] at z;cases z
  apply#[_,_,cs++[.ref t],Z,λc o e=>?_,?_,?_]
  ·rw[aD (bE e hd)];exact AK _ _ e
  ·rw[iS,hq,dC];exact kZ (Paired.bN pn λy q h=>(h.same s3).up n1 n2) (.cons (qv.up #[t,v,Z,ht,wy,λa z=>s2.free (hf a z)] n1 n2) .nil)
  rw[au,DM _ vi,iS,hq,List.zip_append (by rw[d6];omega),dC];rfl
 rintro σ H2 ⟨v3,v4,cs,rfl,s2,pn,hd2⟩;rw[le,e_] at pn hd2;let lc:=bK pn;rw[aA] at lc
 have keys:(((ps.zip cs).map λq=>((Sum.inr q.1.1:Key),q.2)).map (·.1))=(ps.map (·.1)).map Sum.inr:=by
  rw[cu];have:((λx:Key × V=>x.1) ∘ λq:Pc × V=>((Sum.inr q.1.1:Key),q.2))=(λp:Pc=>(Sum.inr p.1:Key)) ∘ Prod.fst:=rfl;rw[this,<- cu,List.map_fst_zip Z1,cu];rfl
 apply#[_,Z,d,_,ps.map (·.1),Z,hd2,keys,by rw[aA];exact bR,λls Jq=>?_];let#[s3,uf]:=bp (o:=.lst ((mY (ps.map (·.1))).map V.str)) Jq;apply#[ls,Z,#[_,.of uf],λD hD=>?_];generalize upd H2 ls (.lst ((mY (ps.map (·.1))).map V.str))=H3 at s3 uf hD ⊢;have lss:(mY (ps.map (·.1))).length=ps.length:=by rw[(zL _).length_eq,aA]
 apply k8 (own:=1) (fv:=[some (.ref d)]) (xs:=(mY (ps.map (·.1))).map V.str) Z fq (λi out H'=>∃qs:aL,aa H3 H'/\H' D\.lst out/\Paired (qv K H H2) out qs/\qs.map (·.1)=(mY (ps.map (·.1))).take i/\∀q∈qs,∃p∈ps,q=CB p) #[[],aa.new hD,au,.nil,Z,by simp] (λi out H' _ ⟨_,sm,_⟩=>.of (sm _ _ uf)) (λzs H4 ⟨qs,s4,qr,pq,en,mem⟩=>?_) (λi x out H' hx ⟨qs,sm,fo,pq,en,mem⟩=>?_)
 ·rw[aA,e_] at en;exact k D zs qs H4 (s2.trans (s3.trans s4)) qr (Paired.bN pq λy q h=>h.same (s3.trans s4)) #[en,mem]
 let#[n,hn,rfl]:=jy hx;have hm:n∈ps.map (·.1):=(zL _).mem_iff.mp (dI hn);let#[q,hq,eq]:=bJ.mp hm;let#[j,hj,ej]:=lj hq;have hqj:ps[j]? = some q:=by rw[cw hj,ej]
 have TN:cs[j]? = some (cs[j]' Z1):=cw Z1;let hv:=Pq nd lc hqj TN;let pj:=ie pn j Z1 (by rw[aA];omega);rw[List.getElem_map,ej] at pj;generalize cs[j]' Z1=c at TN hv pj;rw[eq] at hv;let lo:=bK pq;let lq:=d9 List.length en;rw[aA,d6] at lq;have hi:i<(mY (ps.map (·.1))).length:=(cU.mp hn).1;apply#[_,Z,Z,λNx hN=>eJ ?_];apply#[_,Z,_,Z,d,c,Z,?_,out,fo,by omega,hN _ _ #[qs++[CB q],iV sm hD,au,?_,?_,?_]]
 ·rw[<- hv];exact .k (k:=Sum.inr n) (sm _ _ (s3 _ _ hd2))
 ·exact kZ pq (.cons pj .nil)
 ·rw[dC,en,iS,hn,<- eq];rfl
 intro q' hq';rcases gD.mp hq' with hq'|hq'
 ·exact mem q' hq'
 obtain rfl:q'=CB q:=⇑hq'
 exact#[q,hq,Z]
end
end Ev
namespace Ev
open PySem L2
abbrev mj:Stmt:=jw GZ 0
abbrev sX:Stmt:=jw GZ 1
abbrev OF:Stmt:=jw GZ 2
abbrev Pw:Stmt:=jw GZ 3
abbrev sW:Stmt:=jw GZ 5
def bV(p dw dy:Addr):List (Str × V):=aE BU (.ref dy) (aE qt (.ref dw) (aE "web" (.ref p) []))
theorem g12:¬(("web":Str)=qt):=by decide +kernel
theorem g13:¬(("web":Str)=BU):=by decide +kernel
theorem g23:¬((qt:Str)=BU):=by decide +kernel
theorem jB(p dw dy:Addr):(bV p dw dy).lookup ("web":Str)\.ref p:=by
 unfold bV;rw[fe,aB g13,fe,aB g12,fe,aH Z]
theorem OA(p dw dy:Addr):(bV p dw dy).lookup (qt:Str)\.ref dw:=by
 unfold bV;rw[fe,aB g23,fe,aH Z]
theorem jS_(p dw dy:Addr):(bV p dw dy).lookup (BU:Str)\.ref dy:=by
 unfold bV;rw[fe,aH Z]
theorem uN(p dw dy:Addr){m:Str}(h1:¬m="web")(h2:¬m=qt)(h3:¬m=BU):(bV p dw dy).lookup m=none:=by
 unfold bV;rw[fe,aB h3,fe,aB h2,fe,aB h1]
 all_goals rfl
def lB(qs:aL):List (Key × V):=qs.map λq=>(Sum.inr q.1,V.int q.2.1)
def vP(qs:aL)(vs:ag):List (Key × V):=(qs.zip vs).map λx=>(Sum.inr x.1.1,x.2)
theorem Uz(qs:aL):(lB qs).map (·.1)=(qs.map (·.1)).map Sum.inr:=by
 unfold lB;rw[cu,cu];rfl
theorem jb_{qs:aL}{vs:ag}(h:vs.length=qs.length):(vP qs vs).map (·.1)=(qs.map (·.1)).map Sum.inr:=by
 unfold vP;rw[cu];have:((λx:Key × V=>x.1) ∘ λq:Pc × V=>((Sum.inr q.1.1:Key),q.2))=(λp:Pc=>(Sum.inr p.1:Key)) ∘ Prod.fst:=rfl;rw[this,<- cu,List.map_fst_zip Z1,cu];rfl
structure gK (K:af) (CG CW:Addr) (H:Hp) (g p:Addr) (hs:Xa) (ts:Xb) (qs:aL) (fp:ai):Prop where
 ex:∃(dx dw dy:Addr) (vs:ag) (bM:ai),H g\.ins CG dx (bV p dw dy)/\fF K CW H p hs ts bM/\H dw\.dK (lB qs)/\H dy\.dK (vP qs vs)/\Paired (λv (q:Pc)=>cK K H v q.2.2) vs qs /\
  g∈fp/\dw∈fp/\dy∈fp/\(∀b∈bM,b∈fp)/\∀v∈vs,∀a,v=.ref a->a∈fp
theorem QG{α β:Type}{F G:α->β->Prop}:∀{l:List α} {m:List β},Paired F l m->(∀a∈l,∀b,F a b->G a b)->Paired G l m
 |_,_,.nil,_=>.nil
 |_,_,.cons h t,f=>.cons (f _ fQ _ h) (QG t λa ha=>f a (fb _ ha))
theorem cK.keep{K:af}{H H':Hp}{v:V}{o:Option (Xb)}(h:cK K H v o)(k:∀a,v=.ref a->∀u,H a\u->H' a\u)(kt:∀b xs,H b\.tup xs->H' b\.tup xs):cK K H' v o:=by
 cases o with
 |none=>exact h
 |some ws=>
  let#[a,ys,e,ha,t]:=h;exact#[a,ys,e,k a e _ ha,Paired.bN t λy q ⟨b,z,hb⟩=>#[b,z,kt _ _ hb]]
theorem gK.keep{K:af}{CG CW:Addr}{H H':Hp}{g p:Addr}{hs:Xa}{ts:Xb}{qs:aL}{fp:ai}(G:gK K CG CW H g p hs ts qs fp)(k:∀b∈fp,∀o,H b\o->H' b\o)(kt:∀b xs,H b\.tup xs->H' b\.tup xs):gK K CG CW H' g p hs ts qs fp:=by
 let#[dx,dw,dy,vs,bM,h1,h2,h3,h4,h5,m1,m2,m3,m4,m5]:=G.ex;exact#[dx,dw,dy,vs,bM,k _ m1 _ h1,h2.keep (λb hb o e=>k b (m4 b hb) o e) kt,k _ m2 _ h3,k _ m3 _ h4,QG h5 λv hv q h=>h.keep (λa z u e=>k a (m5 v hv a z) u e) kt,m1,m2,m3,m4,m5]
theorem gK.same{K:af}{CG CW:Addr}{H H':Hp}{g p:Addr}{hs:Xa}{ts:Xb}{qs:aL}{fp:ai}(G:gK K CG CW H g p hs ts qs fp)(s:aa H H'):gK K CG CW H' g p hs ts qs fp:=G.keep (λb _ o e=>s b o e) λb xs e=>s b _ e
structure dA (K:af) (CG:Addr):Prop where
 cl:nJ K CG
 nW:kF K CG "web"
 nG:kF K CG qt
 nY:kF K CG BU
structure Iu (K:af) (C:Addr):Prop where
 ha:PySem.W.findIn K (.ref C) "__class__"\some (.builtin "object.__class__")
 hn:PySem.W.specialIn K (.builtin "object.__class__") "__get__"\some (.builtin "getset_descriptor.__get__")
 tk:PySem.W.takesIn K (.builtin "object.__class__")\true
 mo:PySem.W.mroIn K C (.type "object")\true
theorem iY_(K:af)(c:Aa):PySem.W.kitOne K c c\true:=by
 unfold PySem.W.kitOne;rw[aH (beq_self_eq_true c)]
theorem UI{K:af}{H0 H:Hp}:∀{zs:ag} {qs:aL},Paired (qv K H0 H) zs qs->∃vs:ag,vs.length=qs.length/\Paired (λz (x:Pc × V)=>∃t,z=.ref t/\H t\.tup [.str x.1.1,.int x.1.2.1,x.2]) zs (qs.zip vs)/\Paired (λv (q:Pc)=>cK K H v q.2.2) vs qs/\∀v∈vs,∀a,v=.ref a->H0 a=none
 |_,_,.nil=>#[[],Z,.nil,.nil,by simp]
 |_,_,.cons ⟨t,v,e,ht,wy,hn⟩ r=>by
  let#[vs,h1,h2,h3,h4]:=UI r;apply#[v::vs,by simp[h1],.cons #[t,e,ht] h2,.cons wy h3,λu hu=>?_];rcases cQ.mp hu with rfl|hu
  ·exact hn
  exact h4 u hu
theorem UO{K:af}{l D:Addr}{zs:ag}{xs:List (Pc × V)}{H:Hp}{Q:VK}{ph:St}{j:Nat}(sel:Pc × V->V)(hj:∀x:Pc × V,[some (V.str x.1.1),some (V.int x.1.2.1),some x.2][j]? = some (some (sel x)))(wN:ph=[none,none,none])(hl:H l\.lst zs)
  (pz:Paired (λz (x:Pc × V)=>∃t,z=.ref t/\H t\.tup [.str x.1.1,.int x.1.2.1,x.2]) zs xs) (zm:xs.length<=1000) (hD:H D=none)
  (q:∀H' out,aa H H'->H' D\.lst out->oW K H' out (xs.map λx=>(Sum.inr x.1.1,sel x))->Q (.ref D) H') :
  Dg (Co K l) (ja K 3 (vt (iG 0) (vt (iG 1) (vt (iG 2) xj)))) vT (Ee (jH (qT 0) (jH (qT j) lF))) ph D H Q:=by
 let sz:=b_;let le:=bK pz;apply k8 (own:=3) (fv:=[]) (xs:=zs) wN N3 (λi out H'=>aa H H'/\H' D\.lst out/\oW K H' out ((xs.take i).map λx=>(Sum.inr x.1.1,sel x))) #[aa.new hD,au,.nil] (λi out H' _ ⟨sm,_,_⟩=>.of (sm _ _ hl)) (λout H4 ⟨sm,qr,eo⟩=>?_) (λi y out H' hy ⟨sm,fo,eo⟩=>?_)
 ·rw[le,e_] at eo;exact q _ _ sm qr eo
 have hi:i<zs.length:=(cU.mp hy).1;have hx:xs[i]? = some (xs[i]' Z1):=cw Z1;let#[t,et,ht]:=ie pz i hi Z1;rw[(cU.mp hy).2] at et;subst et;generalize xs[i]' Z1=x at hx ht;let lo:=bK eo;rw[aA,d6] at lo;apply#[_,#[t,_,_,_,Z,.of (sm _ _ ht),Z],Z,λNx hN=>eJ ?_];apply#[_,Z,_,hj x,zl,λp hp=>?_];let s2:=aa.new (o:=.tup [.str x.1.1,sel x]) hp;apply#[out,s2 _ _ fo,by omega,hN _ _ #[iV (sm.trans s2) hD,au,?_]];rw[DP _ hx];have pD:∀{b:Addr} {ys:ag},upd H' p (.tup [.str x.1.1,sel x]) b\.tup ys->b≠D:=λhb=>cb hb (s2 _ _ fo) nofun;apply kZ (Paired.bN eo λy kv ⟨b,z,hb⟩=>#[b,z,by rw[aD (pD (s2 _ _ hb))];exact s2 _ _ hb]) (.cons #[p,Z,?_] .nil);have ju:upd H' p (.tup [.str x.1.1,sel x]) p\.tup [.str x.1.1,sel x]:=au;rw[aD (pD ju)];exact ju
section v
theorem ow:br ["self","web","pieces","checked"] o5 (a9 mj):=bF
inductive HW (K:af) (CG CW:Addr) (vs:ag) (H:Hp) (Q:VK) (E:XK):Prop
 |mk:∀(g dx p l:Addr) (ys:ag) (ps:aL) (hs:Xa) (ts:Xb) (bM:ai),vs=[.ref g,.ref p,.ref l]->H g\.ins CG dx []->fF K CW H p hs ts bM->g∉bM->Good hs ts->H l\.lst ys->uD K H ys ps->(∀q∈ps,BA ts q)->(ps.map (·.1)).Nodup->ps.length<64->(∀qs fp H',(∀b o,H b\o->b≠g->H' b\o)->gK K CG CW H' g p hs ts qs fp->Qs ps qs->(∀b∈fp,b=g∨b∈bM∨H b=none)->Q .non H')->HW K CG CW vs H Q E
theorem io_{f CG CW:Addr}{fd:Ae}(F:bg K "__init__" "Goods.__init__" mj f fd)(T:dA K CG)(TW:Txt K mg CW)(IW:Iu K CW)(B:Bi mg)(Mc:mg "Web"\.ref CW)(cP:!bc 6 "checked_pieces" ["web","pieces"] (QF K CW)):!ak ba 7 f fd o5 (HW K CG CW):=by
 exists F.bI ow;let#[g,dx,p,l,ys,ps,hs,ts,bM,rfl,hg,W,gw,G,hl,pc,gp,nd,bR,k]:=h
 apply#[_,ax (bw (eF (dF (bY hH_ (by rfl) B.iD iI %[1,xM (v:=.ref CW) (by rfl) Mc Z|0]))) eE bx)
  (ax (bh 3 ow.nd (aP cP hr %[1,2|0]))
  (ax (vG (pv 0) (pv 1) Z)
  (ax (vG (pv 0) (iH (DK Z) (by rfl) B.dict uJ %[kX zt 3 [] (d_ (pv 3)) (λfp s H=>J7 (n:=3) (dD (gg (i:=0) (show (zt:ae).Nodup by decide +kernel) Z (Or.inl Z)) (dD (gg (i:=1) (show (zt:ae).Nodup by decide +kernel) Z (Or.inl Z)) (dD (gg (i:=2) (show (zt:ae).Nodup by decide +kernel) Z (Or.inl Z)) iT)))) (λfp s H=>jA) (λfp s H=>dR %[0,1|0])|0]) Z)
  (aC (vG (pv 0) (iH (DK Z) (by rfl) B.dict uJ %[kX zt 3 [] (d_ (pv 3)) (λfp s H=>J7 (n:=3) (dD (gg (i:=0) (show (zt:ae).Nodup by decide +kernel) Z (Or.inl Z)) (dD (gg (i:=1) (show (zt:ae).Nodup by decide +kernel) Z (Or.inl Z)) (dD (gg (i:=2) (show (zt:ae).Nodup by decide +kernel) Z (Or.inl Z)) iT)))) (λfp s H=>jA) (λfp s H=>dR %[0,2|0])|0]) Z))))),?_]
 let#[eX,d1,l2,d3,jn,as,ef,w1,_]:=id W.ex;apply#[_,Z,_,_,_,_,Z,.ins w1 TW.cl IW.ha IW.hn IW.tk IW.mo,iY_ _ _,_,Z,aQ ?_];apply#[_,Z,_,Z,p,l,ys,ps,hs,ts,bM,Z,W,G,hl,pc,gp,nd,bR,λlc zs qs H1 s1 F9 pn Qq=>?_];let#[vs,lv,pz,Xx,D4]:=UI pn;let Gk:=s1 _ _ hg
 have lq:qs.length=ps.length:=by
  have:=d9 List.length Qq.E9;rw[aA,(zL _).length_eq,aA] at this;exact this
 have Zf:(qs.map (·.1)).Nodup:=by
  rw[Qq.E9];exact (zL _).nodup_iff.mpr nd
 apply#[_,Z,_,Z,g,CG,dx,[],Z,Gk,T.cl,T.nW,by show 0<1000;decide,?_];have up1:∀{b o},H1 b\o->b≠g->upd H1 g (.ins CG dx (aE "web" (.ref p) [])) b\o:=λe ne=>by rw[aD ne];exact e
 have Ny:upd H1 g (.ins CG dx (aE "web" (.ref p) [])) g\.ins CG dx (aE "web" (.ref p) []):=au
 have C9:∀{b},upd H1 g (.ins CG dx (aE "web" (.ref p) [])) b=none->H1 b=none:=λ{b} e=>by
  by_cases z:b=g
  ·rw[z,au] at e;cases e
  rw[aD z] at e;exact e
 generalize upd H1 g (.ins CG dx (aE "web" (.ref p) []))=H2 at up1 Ny C9 ⊢;have Jg:lc≠g:=cb F9 Gk nofun;have Zk:Paired (λz (x:Pc × V)=>∃t,z=.ref t/\H2 t\.tup [.str x.1.1,.int x.1.2.1,x.2]) zs (qs.zip vs):=Paired.bN pz λz x ⟨t,e,ht⟩=>#[t,e,up1 ht (cb ht Gk nofun)];have nM:(qs.zip vs).length<=1000:=by rw[List.length_zip];omega
 apply#[_,Z,lc,Z,#[_,.of (up1 F9 Jg)],λD hD=>?_];apply UO (λx=>.int x.1.2.1) (λx=>rfl) Z (up1 F9 Jg) Zk nM hD λH3 out s3 NW Zs=>?_;apply#[D,out,_,Z,NW,Zs,by rw[aA];exact nM,λdw NG=>?_]
 have ekv:((qs.zip vs).map λx:Pc × V=>((Sum.inr x.1.1:Key),V.int x.1.2.1))=lB qs:=by
  unfold lB;have:(λx:Pc × V=>((Sum.inr x.1.1:Key),V.int x.1.2.1))=(λq:Pc=>((Sum.inr q.1:Key),V.int q.2.1)) ∘ Prod.fst:=rfl;rw[this,<- cu,List.map_fst_zip Z1]
 have tS:(qs.map (·.1)).map (Sum.inr:Str->Key) |>.Nodup:=by
  rw[uQ,vM];exact Zf.imp λn e=>n (iF e)
 rw[ekv,DJ (by rw[Uz];exact tS)];let s4:=aa.new (o:=.dK (lB qs)) NG;let TH:=s4 _ _ (s3 _ _ Ny);apply#[_,Z,g,CG,dx,_,Z,TH,T.cl,T.nG,by show 1<1000;decide,?_];let IX:=s3.trans s4;have Gr:upd H3 dw (.dK (lB qs)) dw\.dK (lB qs):=au;have VO:dw≠g:=(bE (s3 _ _ Ny) NG).symm;have fr4:∀{b},upd H3 dw (.dK (lB qs)) b=none->H2 b=none:=λe=>IX.free e;have dwn:H2 dw=none:=s3.free NG;generalize upd H3 dw (.dK (lB qs))=H4 at s4 TH IX Gr fr4 ⊢;have vd:∀{b o},H4 b\o->b≠g->upd H4 g (.ins CG dx (aE qt (.ref dw) (aE "web" (.ref p) []))) b\o:=λe ne=>by rw[aD ne];exact e
 have Nw:upd H4 g (.ins CG dx (aE qt (.ref dw) (aE "web" (.ref p) []))) g\.ins CG dx (aE qt (.ref dw) (aE "web" (.ref p) [])):=au
 have oS:∀{b},upd H4 g (.ins CG dx (aE qt (.ref dw) (aE "web" (.ref p) []))) b=none->H4 b=none:=λ{b} e=>by
  by_cases z:b=g
  ·rw[z,au] at e;cases e
  rw[aD z] at e;exact e
 generalize upd H4 g (.ins CG dx (aE qt (.ref dw) (aE "web" (.ref p) [])))=H5 at vd Nw oS ⊢;have vQ:∀{b o},H1 b\o->b≠g->H5 b\o:=λe ne=>vd (IX _ _ (up1 e ne)) ne;have Zj:Paired (λz (x:Pc × V)=>∃t,z=.ref t/\H5 t\.tup [.str x.1.1,.int x.1.2.1,x.2]) zs (qs.zip vs):=Paired.bN pz λz x ⟨t,e,ht⟩=>#[t,e,vQ ht (cb ht Gk nofun)];apply#[_,Z,lc,Z,#[_,.of (vQ F9 Jg)],λD2 zk=>?_];apply UO (λx=>x.2) (λx=>rfl) Z (vQ F9 Jg) Zj nM zk λH6 gm s6 JA Zr=>?_;apply#[D2,gm,_,Z,JA,Zr,by rw[aA];exact nM,λdy NF=>?_];rw[show ((qs.zip vs).map λx:Pc × V=>((Sum.inr x.1.1:Key),x.2))=vP qs vs from Z,DJ (by rw[jb_ lv];exact tS)];let s7:=aa.new (o:=.dK (vP qs vs)) NF;let yz:=s6.trans s7;let TF:=yz _ _ Nw;apply#[_,Z,g,CG,dx,_,Z,TF,T.cl,T.nY,by show 2<1000;decide,?_];have Gq:upd H6 dy (.dK (vP qs vs)) dy\.dK (vP qs vs):=au;have dyg:dy≠g:=(bE (s6 _ _ Nw) NF).symm;have dyn:H5 dy=none:=s6.free NF;generalize upd H6 dy (.dK (vP qs vs))=H7 at s7 yz TF Gq ⊢
 have fin:∀{b o},H1 b\o->b≠g->upd H7 g (.ins CG dx (bV p dw dy)) b\o:=λe ne=>by
  rw[aD ne];exact yz _ _ (vQ e ne)
 have D6:∀b xs,H1 b\.tup xs->upd H7 g (.ins CG dx (bV p dw dy)) b\.tup xs:=λb xs e=>fin e (cb e Gk nofun);have nH:∀{b},H1 b=none->H b=none:=λe=>s1.free e;apply k qs (g::dw::dy::(bM++vs.filterMap λv=>match v with | .ref a=>some a|_=>none)) _ (λb o e ne=>fin (s1 _ _ e) ne) #[dx,dw,dy,vs,bM,au,?_,?_,?_,?_,by simp,by simp,by simp,λb hb=>by simp[hb],λv hv a z=>?_] Qq λb hb=>?_
 ·exact W.keep (λb hb o e=>fin (s1 _ _ e) (λz=>gw (z▸hb))) λb xs e=>D6 b xs (s1 _ _ e)
 ·rw[aD VO];exact yz _ _ (vd Gr VO)
 ·rw[aD dyg];exact Gq
 ·exact QG Xx λv hv q h=>h.keep (λa z u e=>fin e (λzz=>by
   subst zz;have:=D4 v hv _ z;rw[hg] at this;cases this)) λb xs e=>D6 b xs e
 ·apply fb _ (fb _ (fb _ (nA _ (xS.mpr #[v,hv,?_]))));rw[z]
 simp only[cQ,gD,xS] at hb;rcases hb with rfl|rfl|rfl|hb|⟨v,hv,e⟩
 ·exact .inl Z
 ·exact .inr (.inr (nH (C9 dwn)))
 ·exact .inr (.inr (nH (C9 (IX.free (oS dyn)))))
 ·exact .inr (.inl hb)
 cases v with
 |ref a=>
  cases e;exact .inr (.inr (D4 _ hv _ Z))
 |_=>cases e
end
end Ev
namespace L2
open PySem
end L2
namespace Ev
open PySem L2
theorem eZ_{kvs:List (Key × V)}{ns:ae}(h:kvs.map (·.1)=ns.map Sum.inr)(x:Str):(bH kvs (Sum.inr x)).isSome=decide (x∈ns):=by
 by_cases hx:x∈ns
 ·rw[bP hx];apply Vr ?_;rw[h];exact bJ.mpr #[x,hx,Z]
 rw[dJ hx,zP]
 ·rfl
 rw[h];intro m;let#[y,hy,e]:=bJ.mp m;cases e;exact hx hy
theorem lH_{qs:aL}(nd:(qs.map (·.1)).Nodup){q:Pc}(hq:q∈qs):bH (lB qs) (Sum.inr q.1)\.int q.2.1:=by
 let#[j,hj,e]:=lj hq;have:=Pq (ps:=qs) (cs:=qs.map λq=>V.int q.2.1) nd (by rw[aA]) (j:=j) (q:=q) (c:=.int q.2.1) (by rw[cw hj,e]) (by rw[dS,cw hj,e];rfl)
 have e2:((qs.zip (qs.map λq=>V.int q.2.1)).map λq=>((Sum.inr q.1.1:Key),q.2))=lB qs:=by
  unfold lB;rw[List.zip_map_right,cu]
  have:qs.zip qs=qs.map λq=>(q,q):=by
   clear nd hq this hj e j
   induction qs with
   |nil=>rfl
   |cons a l ih=>rw[List.zip_cons_cons,ih,eD]
  rw[this,cu];rfl
 rwa [e2] at this
theorem l3_{qs:aL}{vs:ag}(nd:(qs.map (·.1)).Nodup){K:af}{H:Hp}(h:Paired (λv (q:Pc)=>cK K H v q.2.2) vs qs){q:Pc}(hq:q∈qs):∃v∈vs,bH (vP qs vs) (Sum.inr q.1)\v/\cK K H v q.2.2:=by
 let#[j,hj,e]:=lj hq;let hl:=bK h;have hv:j<vs.length:=by omega
 let p:=ie h j hv hj;rw[e] at p;exact#[vs[j],nD hv,Pq nd Z1 (by rw[cw hj,e]) (cw hv),p]
def Bu(hs:Xa)(ts:Xb)(o:Option (Xb))(x y:Option Str):Bool:=
 C_ hs ts x y&&match o,x,y with
  |none,_,_=>true
  |some ws,some a,some b=>decide (aK a b∈ws)
  |_,_,_=>false
section v
theorem Az:br oV oV (a9 sX):=bF
inductive GX (K:af) (CG CW:Addr) (vs:ag) (H:Hp) (Q:VK) (E:XK):Prop
 |mk:∀(g p:Addr) (v:V) (x:Option Str) (hs:Xa) (ts:Xb) (qs:aL) (fp:ai),vs=[.ref g,v]->gK K CG CW H g p hs ts qs fp->km K H v x->Q (.bl (Fw (qs.map (·.1)) x)) H->GX K CG CW vs H Q E
theorem jQ_{f CG CW:Addr}{fd:Ae}(F:bg K "has_piece" "Goods.has_piece" sX f fd)(T:dA K CG)(B:Bi mg):!ak ba 1 f fd oV (GX K CG CW):=by
 exists F.bI Az;let#[g,p,v,x,hs,ts,qs,fp,rfl,G,sv,k]:=h;let hu:=gC hr;let#[dx,dw,dy,vs,bM,h1,h2,h3,h4,h5,m1,m2,m3,m4,m5]:=G.ex;apply#[_,aC (aY (kL (bY iW (by rfl) B.iD iI %[1,iU (v:=.ty "str") (by rfl) B.str Dr Z|0]) (kK (GN (Dp hu (pv 1) (dz (pv 0) Z)))))),?_];cases x with
 |some x=>
  cases (show v=.str x from sv);apply#[_,Z,_,_,_,_,Z,.str x,Z,_,Z,bO ?_];apply#[_,Z,_,Z,g,CG,dx,_,_,Z,h1,T.cl,T.nG,OA _ _ _,dw,_,Z,.k (k:=Sum.inr x) h3,?_];rw[eZ_ (Uz qs)];exact k
 |none=>
  let#[t,ty,e]:=sv;exact#[_,Z,_,_,_,_,Z,ty,e,_,Z,aQ k]
theorem sk:br gJ gJ (a9 OF):=bF
inductive Ky (K:af) (CG CW:Addr) (vs:ag) (H:Hp) (Q:VK) (E:XK):Prop
 |mk:∀(g p:Addr) (hs:Xa) (ts:Xb) (qs:aL) (fp:ai),vs=[.ref g]->gK K CG CW H g p hs ts qs fp->(∀l,H l=none->Q (.ref l) (upd H l (.lst ((qs.map (·.1)).map V.str))))->Ky K CG CW vs H Q E
theorem go_{f CG CW:Addr}{fd:Ae}(F:bg K "names" "Goods.names" OF f fd)(T:dA K CG)(B:Bi mg):!ak ba 1 f fd gJ (Ky K CG CW):=by
 exists F.bI sk;let#[g,p,hs,ts,qs,fp,rfl,G,k]:=h;let#[dx,dw,dy,vs,bM,h1,h2,h3,h4,h5,m1,m2,m3,m4,m5]:=G.ex;apply#[_,aC (aY (iH (PZ Z) (by rfl) B.list zK %[dz (pv 0) Z|0])),?_];apply#[_,Z,g,CG,dx,_,_,Z,h1,T.cl,T.nG,OA _ _ _,dw,_,Z,.inl h3,λl hl=>?_]
 have e:((lB qs).map λkv=>kV kv.1)=(qs.map (·.1)).map V.str:=by
  unfold lB;rw[cu,cu];rfl
 rw[e];exact k l hl
structure Ref (K:af) (mg:Str->Option Aa) (x:Str) (C:Addr):Prop where
 mg:mg x\.ref C
 ex:PySem.W.excIn K C [.type "ValueError",.type "Exception",.type "BaseException",.type "object"] "ValueError.__new__"=true
theorem pG:br zu zu (a9 Pw):=bF
inductive Ce (K:af) (CG CW CP:Addr) (vs:ag) (H:Hp) (Q:VK) (E:XK):Prop
 |mk:∀(g p:Addr) (v:V) (x:Option Str) (hs:Xa) (ts:Xb) (qs:aL) (fp:ai),vs=[.ref g,v]->gK K CG CW H g p hs ts qs fp->(qs.map (·.1)).Nodup->km K H v x->((∃q∈qs,x\q.1/\Q (.int q.2.1) H)∨False)->Ce K CG CW CP vs H Q E
theorem g1_{f CG CW CP:Addr}{fd:Ae}(F:bg K "weight" "Goods.weight" Pw f fd)(T:dA K CG)(cH:!bo CG 1 "has_piece" oV (GX K CG CW)):!ak ba 2 f fd zu (Ce K CG CW CP):=by
 exists F.bI pG;let#[g,p,v,x,hs,ts,qs,fp,rfl,G,nd,sv,k]:=h;let hu:=gC hr;let#[dx,dw,dy,vs,bM,h1,h2,h3,h4,h5,m1,m2,m3,m4,m5]:=id G.ex;have kE:(bV p dw dy).lookup ("has_piece":Str)=none:=uN _ _ _ Z0 Z0 Z0;apply#[_,ax (bw (eF (dF (fG cH T.cl hr (pv 0) %[1|0]))) eE bx) (aC (aY (j9 hu (dz (pv 0) Z) (pv 1)))),?_];apply#[_,Z,g,dx,_,Z,h1,kE,_,Z,g,p,v,x,hs,ts,qs,fp,Z,G,sv,_,Z,?_];rcases k with⟨q,hq,rfl,k⟩|k
 ·cases (show v=.str q.1 from sv);rw[show Fw (qs.map (·.1)) (some q.1)=true from bP (bJ.mpr #[q,hq,Z])];apply aQ ?_;apply#[_,Z,g,CG,dx,_,_,Z,h1,T.cl,T.nG,OA _ _ _,_,Z,dw,_,Z,?_,k];rw[<- lH_ nd hq];exact .k (k:=Sum.inr q.1) h3
 exact k.elim
theorem sr:br ["self","piece","one","other","ties"] o_ (a9 sW):=bF
inductive JW (K:af) (CG CW CP:Addr) (vs:ag) (H:Hp) (Q:VK) (E:XK):Prop
 |mk:∀(g p:Addr) (v u1 u2:V) (x y1 y2:Option Str) (hs:Xa) (ts:Xb) (qs:aL) (fp:ai),vs=[.ref g,v,u1,u2]->gK K CG CW H g p hs ts qs fp->(qs.map (·.1)).Nodup->(aF hs).Nodup->km K H v x->((∃q∈qs,x\q.1/\km K H u1 y1/\km K H u2 y2/\∀H',aa H H'->Q (.bl (Bu hs ts q.2.2 y1 y2)) H')∨False)->JW K CG CW CP vs H Q E
theorem k1_{f CG CW CP:Addr}{fd:Ae}(F:bg K "may_go" "Goods.may_go" sW f fd)(T:dA K CG)(TW:Txt K mg CW)(cH:!bo CG 1 "has_piece" oV (GX K CG CW))(cT:!bo CW 2 "are_tied" kQ (Kg K CW))(cL:!bc 1 "lesser_first" qC Ks) :
  ak P w K mg base ba 3 f fd o_ (JW K CG CW CP):=by
 exists F.bI sr;let#[g,p,v,u1,u2,x,y1,y2,hs,ts,qs,fp,rfl,G,nd,tR,sv,k]:=h;let hu:=gC hr;have ip:a_ 1 _:=hr.mono (by decide);let#[dx,dw,dy,vs,bM,h1,h2,h3,h4,h5,m1,m2,m3,m4,m5]:=id G.ex;have kE:(bV p dw dy).lookup ("has_piece":Str)=none:=uN _ _ _ Z0 Z0 Z0;let#[eX,d1,l2,d3,jn,as,ef,w1,_]:=id h2.ex;have hY:(cZ d1 l2 d3).lookup ("are_tied":Str)=none:=iJ _ _ _ Z0 Z0 Z0
 apply#[_,ax (bw (eF (dF (fG cH T.cl ip (pv 0) %[1|0]))) eE bx)
  (ax (bw (eF (dF (fG cT TW.cl hr (dz (pv 0) Z) %[2,3|0]))) (aC (aY qz)) bx)
  (ax (bh 4 sr.nd (j9 hu (dz (pv 0) Z) (pv 1)))
  (aC (aY (Su (GN (JD (pv 4))) (kK (m_ (NU (Hb ia ia) (j6 hr _)) (aP cL hr %[2,3|0]) (pv 4) (by with_unfolding_all rfl)))))))),?_]
 apply#[_,Z,g,dx,_,Z,h1,kE,_,Z,g,p,v,x,hs,ts,qs,fp,Z,G,sv,_,Z,?_];rcases k with⟨q,hq,rfl,s1,s2,k⟩|k
 ·cases (show v=.str q.1 from sv);rw[show Fw (qs.map (·.1)) (some q.1)=true from bP (bJ.mpr #[q,hq,Z])];apply aQ ?_;apply#[_,Z,g,CG,dx,_,_,Z,h1,T.cl,T.nW,jB _ _ _,p,eX,_,Z,w1,hY,_,Z,_,Z,p,u1,u2,y1,y2,hs,ts,bM,Z,h2,tR,s1,s2,_,Z,?_];cases tb:C_ hs ts y1 y2 with
  |false=>
   apply bO ?_;have:=k H (aa.refl H);unfold Bu at this;rw[tb,Bool.false_and] at this;exact this
  |true=>
   apply aQ ?_;let#[u,S8,eu,wy]:=l3_ nd h5 hq;apply#[_,Z,g,CG,dx,_,_,Z,h1,T.cl,T.nY,jS_ _ _ _,_,Z,dy,u,Z,?_,?_]
   ·rw[<- eu];exact .k (k:=Sum.inr q.1) h4
   apply#[_,Z,_,Z,?_];unfold Bu at k;rw[tb] at k;cases e:q.2.2 with
   |none=>
    rw[e] at wy k;cases (show u=.non from wy);exact bO (k H (aa.refl H))
   |some ws=>
    rw[e] at wy k;let#[a,ys,rfl,ha,tu]:=wy;cases y1 with
    |none=>cases tb
    |some a1=>
     cases y2 with
     |none=>cases tb
     |some a2=>
      cases (show u1=.str a1 from s1);cases (show u2=.str a2 from s2);apply aQ #[_,Z,_,Z,a1,a2,Z,λt ht=>?_];have s3:aa H (upd H t (.tup [.str (aK a1 a2).1,.str (aK a1 a2).2])):=aa.new ht;apply#[_,Z,aK a1 a2,ws,#[t,_,_,Z,.of au,Z,Z],#[a,ys,Z,.of (s3 _ _ ha),N9 (tu.same s3)],?_];let z:=k _ s3;rw[Bool.true_and] at z;rw[aB g6];show Q (.bl _) _;have z:Q (.bl (decide (aK a1 a2∈ws))) (upd H t (.tup [.str (aK a1 a2).1,.str (aK a1 a2).2])):=z;generalize upd H t (.tup [.str (aK a1 a2).1,.str (aK a1 a2).2])=Hz at z ⊢;by_cases hm:aK a1 a2∈ws
      ·simpa [hm] using z
      simpa [hm] using z
 exact k.elim
end
end Ev
namespace L2
open PySem PySem.Spec PyProof.Rows PySem.W
theorem jR_{P:Ad}{w:Af}{k:Key}{key:Aa}(h:(eB P w).is k key=true):RelV (kV k) key:=by
 have e2:xp k key=true:=h;rcases qI e2 with⟨i,t,rfl,rfl⟩|⟨x,t,rfl,rfl⟩
 ·exact#[t,Z]
 exact#[t,Z]
def Itm(d:Addr)(o:Obj)(kvs:List (Key × V)):It:=#[λi H=>H d\.frz o (.dK kvs)/\i<kvs.length,λi H y H'=>∃t k x,y=.ref t/\H t=none/\kvs[i]? = some (k,x)/\H'=upd H t (.tup [kV k,x]),λi H=>H d\.frz o (.dK kvs)/\kvs.length<=i]
theorem gn_{P:Ad}{w:Af}{K:af}{elts:List Expr}{kk:Nat}{pos:Pos}(d it:Addr)(o:Obj)(kvs:List (Key × V)){es:Array Ah}{ep:Nat}(ho:o.data=.dict es ep):Turn P w K (.Tuple elts kk pos) (Itm d o kvs) [it] it (λi h=>∃ok ov,IsItemIter h it d i kvs.length ep ok ov) where
 mem:=by simp
 obj:=λi h st b hb=>by
  obtain rfl:b=it:=⇑hb
  let#[ok,ov,q]:=st;exact#[_,q,λv z=>by cases z]
 keep:=λi h h' st k=>by
  let#[ok,ov,q]:=st;exact#[ok,ov,k it Z2 _ q]
 item:=by
  intro X hP hw hK hc i pins s σ H E I hf st hg;subst hP hw hK;let#[hd,hi]:=hg;let#[vs,rel,dat]:=KP I hd ho;obtain⟨⟨k,x⟩,hx⟩:∃p,kvs[i]? = some p:=#[kvs[i],by simp[hi]];let#[u,hu,ru]:=Nv rel i hx;let#[ok,ov,st]:=st;have itl:it<s.heap.objs.size:=cy st;rw[rel.length] at st;apply wpAny_pyNext_items_item st dat hu λkey h' hk out ht sz kp=>?_;apply#[_,Z,wpAny_letOwnedTupleGo_items (s:={ s with heap:=h' }) out λh2 dG sb=>?_];have nT:s.heap.objs.size≠it:=vN itl;have I1:Inv X pins σ (upd H s.heap.objs.size (.tup [kV k,x])) { s with heap:=h2 }:=I.nO (t':=s.toks) (fp:=[it]) (its:=[key,u]) (λb o hb q=>(sb.2 b ⇑hb).trans (kp b o ⇑hb q)) hf (bj _) (zl) (.cons (jR_ hk) (.cons ru .nil)) #[#[_,(sb.2 _ nT).trans ht,Z,_,Z],_,(sb.2 _ nT).trans ht,Z];apply#[.ref _,_,I1,Z,#[_,k,x,Z,I.aI.fresh (bj _),hx,Z],#[_,_,by rw[rel.length];exact dG],λb hb=>?_];have e:b=it:=⇑hb
  rw[aD (λz=>nT (z.symm.trans e))];exact (hf b hb).1
 done:=by
  intro X hP hw hK hc i pins s σ H E I hf st hg;subst hP hw hK;let#[hd,hi]:=hg;let#[vs,rel,dat]:=KP I hd ho;let#[f0,f1,f2,f3,f4,f5]:=hf it Z2;let#[ok,ov,st]:=st;rw[rel.length] at st hi;exact wpAny_pyNext_items_end (I.ok.hd hc) st dat (by simp;omega) λh' eb=>#[Z,I.turned (t':=s.toks) (λb o hb e=>eb b o hb e) f0 f1 f3 f4 f5]
 self:=λA i s Q E st h=>by
  let#[ok,ov,q]:=st;exact kcp_self q h
inductive oJ (R:It->Hp->Prop) (x:V) (H1:Hp):Prop
 |mk:∀v d kvs,x=.ref v->H1 v\pZ v d->H1 d\.dK kvs->(∀o,R (Itm d o kvs) (upd H1 d (.frz o (.dK kvs))))->oJ R x H1
def A6(tv:TE):TI:=λσ H R=>tv σ H λx H1=>oJ R x H1
theorem KC{X:Cx}{elts:List Expr}{kk:Nat}{p2:Pos}{e:Expr}{tv:TE}(he:PE X e tv):PI X (.Tuple elts kk p2) e (A6 tv):=by
 intro pins s σ H R I h;apply aV (he pins s σ H _ I h) λu s1 ⟨x,H1,I1,r1,v,d,kvs,ex,hv,hd,q⟩=>?_;subst ex;cases r1;let#[iv,_,_]:=I1.aI v _ hv;let#[o,ho,I2]:=I1.freeze hd;let#[z,_,vs,rel,o',es,ep,iq,c',dt,r]:=BN I1.aI hd;rw[ho] at iq;cases iq;apply wpAny_pyIter_items (knd:=eB X.prog X.w) (kvs:=vs) (ep:=ep) iv #[o,es,ho,c',dt,r] ?_;apply#[s1.heap.objs.size,[s1.heap.objs.size],_,_,_,Z,I2.kept (t':=s1.toks) λb o e=>cj _ e,gn_ d _ o kvs dt,?_,λb hb=>?_,q o]
 ·rw[rel.length];exact#[.none,.none,eh _ Z]
 obtain rfl:b=s1.heap.objs.size:=⇑hb
 exact I2.jY (bj _) (I2.aI.fresh (bj _))
theorem PJ{d:Addr}{o:Obj}{kvs:List (Key × V)}{g:TG}{tb:TS}{D:Ends}{σ:St}{H:Hp}(Pv:Nat->St->Hp->Prop)(h0:Pv 0 σ H)(hl:∀i σ H,i<=kvs.length->Pv i σ H->H d\.frz o (.dK kvs))
  (hs:∀i k x σ H,kvs[i]? = some (k,x)->Pv i σ H->∀t,H t=none->g (.ref t) σ (upd H t (.tup [kV k,x])) λg8 H2=>tb { D with nx:=Pv (i+1),ct:=Pv (i+1),bk:=D.nx } g8 H2) (hd:∀σ H,Pv kvs.length σ H->D.nx σ H) :
  ∃W:Nat->Nat->St->Hp->Prop,(∃m,W 0 m σ H)/\∀i m σ H,W i m σ H->
   ((Itm d o kvs).stop i H/\D.nx σ H)∨((Itm d o kvs).go i H/\∃N:St->Hp->Prop,(∀bq H',N bq H'->∃m',m'<m/\W (i+1) m' bq H')/\∀x H',(Itm d o kvs).ya i H x H'->g x σ H' λg8 H2=>tb { D with nx:=N,ct:=N,bk:=D.nx } g8 H2):=by
 apply#[λi m σ H=>m=kvs.length - i/\i<=kvs.length/\Pv i σ H,#[kvs.length,by simp,g7 _,h0],?_];rintro i m σ H ⟨rfl,hi,p⟩;let q:=hl i σ H hi p;by_cases dQ:i<kvs.length
 ·apply .inr #[#[q,dQ],Pv (i+1),λbq H' p'=>#[kvs.length - (i+1),by omega,Z,dQ,p'],λx H' y=>?_];let#[t,k,x,rfl,ht,hx,rfl]:=y;exact hs i k x σ H hx p t ht
 have e:i=kvs.length:=by omega
 subst e;exact .inl #[#[q,bj _],hd σ H p]
inductive qU (t:TS) (D:Ends) (σ:St) (H:Hp):Prop
 |mk:∀d kvs,H d\.dK kvs->t { nx:=λnK H1=>∃o,H1 d\.frz o (.dK kvs)/\D.nx nK (upd H1 d (.dK kvs)),rt:=λv H1=>∃o,H1 d\.frz o (.dK kvs)/\D.rt v (upd H1 d (.dK kvs)) } σ H->qU t D σ H
theorem Uw{X:Cx}{st:Stmt}{t:TS}(h:PS X st t):PS X st (qU t):=by
 intro pins s σ H D I q;let#[d,kvs,hd,q]:=q
 have nf:∀o u,X.jk d≠some (.frz o u):=λo u z=>by
  have:=I.base.fZ _ _ _ z;rw[hd] at this;cases this
 apply aV (h pins s σ H _ I q) λf s' p=>?_;cases f with
 |next=>
  let#[nK,H1,I1,o,hf,q1]:=p;exact#[nK,_,I1.pC hf nf,q1]
 |brk=>
  let#[nK,H1,I1,q1]:=p;exact False.elim q1
 |cont=>
  let#[nK,H1,I1,q1]:=p;exact False.elim q1
 |ret u=>
  let#[v,nK,H1,I1,r,o,hf,q1]:=p;exact#[v,nK,_,I1.pC hf nf,r,q1]
theorem VQ:∀{ns:List Int} {its:aj},Vals (ns.map V.int) its->∃xs:List (Int × Tok),its.toArray=intItems xs.toArray/\xs.map (·.1)=ns
 |[],_,.nil=>#[[],by unfold intItems;simp,Z]
 |n::ns,_,.cons ⟨t,e⟩ r=>by
  let#[xs,h1,h2]:=VQ r;apply#[(n,t)::xs,?_,by simp[h2]];subst e;apply Array.ext' ?_;let h3:=d9 Array.toList h1;unfold intItems at h3 ⊢;simp at h3 ⊢;exact h3
theorem Ww{xs:List (Int × Tok)}:∀n,n<=xs.length->preSum (numAt xs.toArray) n=((xs.map (·.1)).take n).sum
 |0,_=>by simp[preSum]
 |n+1,h=>by
  let ih:=Ww (xs:=xs) n Z1;show preSum (numAt xs.toArray) n+numAt xs.toArray n=_;rw[ih,iS,List.sum_append];congr 1;unfold numAt;rw[List.getElem?_toArray,dS,cw Z1];simp
inductive yD (K:af) (xs:ag) (H:Hp) (Q:VK):Prop
 |mk:∀(l:Addr) (ns:List Int),xs=[.ref l]->dM K H l (ns.map V.int)->Q (.int ns.sum) H->yD K xs H Q
theorem hw_{X:Cx}(hc:X.calm=true):gB X (.builtin "sum") (yD X.K):=by
 intro pins s σ H xs us Q I r h;let#[l,ns,rfl,hl,q]:=h;let#[u,rfl,ru]:=vals1 r;cases ru;let#[its,rv,p,hz]:=I.list hl;let#[zs,e1,e2]:=VQ rv;let il:=p.isList;rw[e1] at il;apply sum_intListG (I.ok.hd hc) il λh' tk t' k=>?_;apply#[.int ns.sum,H,I.kept (t':=tk) k,#[t',?_],q]
 have:preSum (numAt zs.toArray) zs.toArray.size=ns.sum:=by
  rw[cg,Ww _ (bj _),<- e2,zR Z2]
 rw[this]
end L2
namespace Ev
open PySem L2
structure Fz (d:Addr) (o:Obj) (kvs:List (Key × V)) (H H':Hp):Prop where
 at_:H' d\.frz o (.dK kvs)
 sm:∀b u,b≠d->H b\u->H' b\u
section
variable{d:Addr}{o:Obj}{kvs:List (Key × V)}{H H' H2:Hp}
theorem Fz.start:Fz d o kvs H (upd H d (.frz o (.dK kvs))):=#[au,λb u ne e=>by rw[aD ne];exact e]
theorem Fz.step(f:Fz d o kvs H H')(s:aa H' H2):Fz d o kvs H H2:=#[s _ _ f.at_,λb u ne e=>s _ _ (f.sm b u ne e)]
theorem Fz.pC(f:Fz d o kvs H H')(hd:H d\.dK kvs):aa H (upd H' d (.dK kvs)):=λb u e=>by
 by_cases z:b=d
 ·subst z;rw[hd] at e;cases e;exact au
 rw[aD z];exact f.sm b u z e
theorem Fz.zo{K:af}{CG CW g p:Addr}{hs:Xa}{ts:Xb}{qs:aL}{fp:ai}(f:Fz d o kvs H H')(hd:H d\.dK kvs)(G:gK K CG CW H g p hs ts qs fp)(nd:d∉fp):gK K CG CW H' g p hs ts qs fp:=
 G.keep (λb hb u e=>f.sm b u (λz=>nd (z▸hb)) e) λb xs e=>f.sm b _ (cb e hd nofun) e
end
def dP(ns:ae)(g:Str->V):List (Key × V):=ns.map λn=>(Sum.inr n,g n)
theorem KH(ns:ae)(g:Str->V):(dP ns g).map (·.1)=ns.map Sum.inr:=by
 unfold dP;rw[cu];rfl
theorem kY(ns:ae)(g:Str->V):(dP ns g).length=ns.length:=aA _
theorem Dw{ns:ae}{g:Str->V}{n:Str}(h:n∈ns):bH (dP ns g) (Sum.inr n)\g n:=by
 induction ns with
 |nil=>cases h
 |cons m ns ih=>
  by_cases e:m=n
  ·subst e;exact Cd Z
  have:bH (dP (m::ns) g) (Sum.inr n)=bH (dP ns g) (Sum.inr n):=Cf λz=>e (iF z);rw[this];rcases cQ.mp h with z|z
  ·exact absurd z.symm e
  exact ih z
theorem Kq{ns:ae}{g k:Str->V}(h:∀n∈ns,g n=k n):dP ns g=dP ns k:=uP λn hn=>by rw[h n hn]
theorem Uv{ns:ae}{g:Str->V}{n:Str}{v:V}(h:n∈ns):putK (dP ns g) (Sum.inr n) v=dP ns λm=>if m=n then v else g m:=by
 unfold putK;rw[aH]
 ·unfold dP;rw[cu];apply uP λm _=>?_;by_cases e:m=n
  ·subst e;simp
  have:¬((Sum.inr m:Key)=Sum.inr n):=λz=>e (iF z);simp[e]
 apply List.any_eq_true.mpr #[(Sum.inr n,g n),bJ.mpr #[n,h,Z],by simp]
theorem T7{ns:ae}{g:Str->V}{n:Str}{v:V}(h:n∉ns):putK (dP ns g) (Sum.inr n) v=dP (ns++[n]) λm=>if m=n then v else g m:=by
 rw[DM _ (zP (by
  rw[KH];intro m;let#[x,hx,e]:=bJ.mp m;exact h (iF e▸hx)))]
 unfold dP;rw[dC];congr 1
 ·apply uP λm hm=>?_;have e:¬m=n:=λz=>h (z▸hm);simp[e]
 simp
theorem JN{ns:ae}{g:Str->V}{i:Nat}{k:Key}{x:V}(h:(dP ns g)[i]? = some (k,x)):∃n,ns[i]? = some n/\k=Sum.inr n/\x=g n:=by
 unfold dP at h;rw[dS] at h;cases e:ns[i]? with
 |none=>rw[e] at h;cases h
 |some n=>
  rw[e] at h;let h:=dY h;exact#[n,Z,(d9 Prod.fst h).symm,(d9 Prod.snd h).symm]
theorem Pz{ns:ae}(nd:ns.Nodup){i:Nat}{n:Str}(h:ns[i]? = some n):n∉ns.take i:=by
 let q:=HY (g:=id) (ts:=ns) (by rw[List.map_id];exact nd) h;rwa [List.map_id] at q
theorem jz{ns:ae}{i:Nat}{n:Str}(h:ns[i]? = some n):ns.take (i+1)=ns.take i++[n]:=by
 rw[iS,h];rfl
abbrev bZ(ns:ae)(f:ao):List (Key × V):=dP ns λn=>.str (f n)
def gG(q:Pc):Str × Int:=(q.1,q.2.1)
def ld(f:ao)(ws:Xa)(h:Str):Int:=((ws.filter λx=>decide (f x.1=h)).map (·.2)).sum
theorem jN_(f:ao)(ws:Xa)(x:Str × Int)(h:Str):ld f (ws++[x]) h=if h=f x.1 then ld f ws h+x.2 else ld f ws h:=by
 unfold ld;rw[List.filter_append];by_cases e:f x.1=h
 ·rw[aH e.symm,dC,List.sum_append];simp[e]
 rw[aB λz=>e z.symm];simp[e]
theorem T3:∀{l:List Int},(∀x∈l,0<=x)->0<=l.sum
 |[],_=>by simp
 |x::l,h=>by
  rw[List.sum_cons];have:=h x fQ;have:=T3 (l:=l) λy hy=>h y (fb _ hy);omega
theorem _V{f:ao}{ws:Xa}{h:Str}(p:∀x∈ws,0<=x.2):0<=ld f ws h:=T3 λx hx=>by
 let#[y,hy,rfl]:=bJ.mp hx;exact p y (List.mem_filter.mp hy).1
theorem Qs.nd{ps qs:aL}(Q:Qs ps qs)(nd:(ps.map (·.1)).Nodup):(qs.map (·.1)).Nodup:=by
 rw[Q.E9];exact (zL _).nodup_iff.mpr nd
theorem Qs.len{ps qs:aL}(Q:Qs ps qs):qs.length=ps.length:=by
 have:=d9 List.length Q.E9;rw[aA,(zL _).length_eq,aA] at this;exact this
end Ev
namespace Ev
open PySem L2
section v
structure pe (hs:Xa) (qs:aL) (ns:ae) (f:ao):Prop where
 perm:ns.Perm (qs.map (·.1))
 at_:∀n∈ns,f n∈hs.map (·.1)
theorem Ku:br ["goods","stand","piece","hand","names"] ["goods","stand"] (a9 Of):=bF
inductive KA (K:af) (CG CW:Addr) (vs:ag) (H:Hp) (Q:VK) (E:XK):Prop
 |mk:∀(g p d:Addr) (hs:Xa) (ts:Xb) (qs:aL) (fp:ai) (ns:ae) (f:ao),vs=[.ref g,.ref d]->gK K CG CW H g p hs ts qs fp->d∉fp->H d\.dK (bZ ns f)->pe hs qs ns f->(qs.map (·.1)).Nodup->qs.length<64->(∀d' H',aa H H'->H d'=none->H' d'\.dK (bZ (qs.map (·.1)) f)->Q (.ref d') H')->KA K CG CW vs H Q E
theorem h5_{f CG CW:Addr}{fd:Ae}(F:bg K "checked_stand" "checked_stand" Of f fd)(B:Bi mg)(T:dA K CG)(TW:Txt K mg CW)(cH:!bo CG 1 "has_piece" oV (GX K CG CW))(cW:!bo CW 1 "has_hand" oV (jL K CW))(cN:!bo CG 1 "names" gJ (Ky K CG CW)) :
  ak P w K mg base ba 2 f fd ["goods","stand"] (KA K CG CW):=by
 exists F.bI Ku;let#[g,p,d,hs,ts,qs,fp,ns,f,rfl,G,jc,hd,so,nd,bR,k]:=h;let hu:=gC hr;let sz:=b_;refine' #[_,?r0,?kk]
 case' r0=>refine' ax ?s1 ?r1
 case s1=>exact bw (eF (dF (bY iW (by rfl) B.iD iI %[1,iU (v:=.ty "dict") (by rfl) B.dict uJ Z|0]))) eE bx
 case' r1=>refine' ax ?s2 ?r2
 case' s2=>refine' Uw (fC eS Z ?i2 ?g2 ?b2)
 case i2=>exact KC (G5 (pv 1))
 case g2=>exact kJ Z (dD (cq 2 Ku.nd) (dD (cq 3 Ku.nd) iT))
 case b2=>exact ax (bw (eF (dF (fG cH T.cl hr (pv 0) %[2|0]))) eE bx) (aC (bw (eF (dF (fG cW TW.cl hr (dz (pv 0) Z) %[3|0]))) eE bx))
 case' r2=>refine' ax ?s3 ?r3
 case s3=>exact bh 4 Ku.nd (uK cN T.cl hr (pv 0))
 case' r3=>refine' ax ?s4 (aC ?s5)
 case s4=>exact bw (cn qB (bY gT_ (by rfl) B.len gX %[1|0]) (bY iy (by rfl) B.len gX %[4|0])) eE bx
 case s5=>exact aY (iH (DK Z) (by rfl) B.dict uJ %[kX ["piece","stand"] 1 [1] (d_ (pv 4)) (λfp s H=>gg (i:=0) (show (["piece","stand"]:ae).Nodup by decide +kernel) Z (Or.inl Z)) (λfp s H=>jA) (λfp s H=>dR %[0,j9 hu (pv 1) (pv 0)|0])|0])
 have _C:ns.length=qs.length:=by rw[so.perm.length_eq,aA]
 apply#[_,Z,_,_,_,_,Z,.dK hd,Z,_,Z,aQ ?_];apply#[d,_,hd,?_];apply#[_,Z,d,_,Z,hd,λv hv=>?_];let#[s1,oK]:=bp (o:=pZ v d) hv;let G1:=G.same s1;let vm:=s1 _ _ hd;generalize upd H v (pZ v d)=H1 at s1 oK G1 vm ⊢;apply#[v,d,_,Z,oK,vm,λo=>?_];apply PJ (λi σ H'=>∃(v2 v3:aN),σ=[some (.ref g),some (.ref d),v2,v3,none]/\Fz d o (bZ ns f) H1 H') #[none,none,Z,Fz.start] (λi σ H' _ ⟨_,_,_,z⟩=>z.at_) ?_ ?_
 ·rintro i ky x σ H2 hx ⟨v2,v3,rfl,fz⟩ t ht;let#[n,hn,rfl,rfl]:=JN hx;let nm:=dI hn;let s2:=aa.new (o:=.tup [.str n,.str (f n)]) ht;let Bw:=fz.step s2;have e2:upd H2 t (.tup [.str n,.str (f n)]) t\.tup [.str n,.str (f n)]:=au;show ja _ _ _ _ _ (upd H2 t (.tup [.str n,.str (f n)])) _;generalize upd H2 t (.tup [.str n,.str (f n)])=H3 at s2 Bw e2 ⊢;apply#[t,_,Z,.of e2,Z,_,_,Z,_,_,Z,Z,?_];let G3:=Bw.zo vm G1 jc;let#[dx,dw,dy,vs,bM,h1,h2,h3,h4,h5,m1,m2,m3,m4,m5]:=id G3.ex;let#[eX,d1,l2,d3,jn,as,ef,w1,_]:=id h2.ex;have kE:(bV p dw dy).lookup ("has_piece":Str)=none:=uN _ _ _ Z0 Z0 Z0;have hY:(cZ d1 l2 d3).lookup ("has_hand":Str)=none:=iJ _ _ _ Z0 Z0 Z0;apply#[_,Z,g,dx,_,Z,h1,kE,_,Z,g,p,.str n,some n,hs,ts,qs,fp,Z,G3,Z,_,Z,?_];rw[show Fw (qs.map (·.1)) (some n)=true from bP (so.perm.mem_iff.mp nm)];apply aQ ?_;apply#[_,Z,g,CG,dx,_,_,Z,h1,T.cl,T.nW,jB _ _ _,p,eX,_,Z,w1,hY,_,Z,p,f n,hs,ts,bM,Z,h2,_,Z,?_];rw[bP (so.at_ n nm)];exact aQ #[_,_,Z,Bw]
 rintro σ H2 ⟨v2,v3,rfl,fz⟩;apply#[o,fz.at_,?_];let s2:=s1.trans (fz.pC vm);have hd2:upd H2 d (.dK (bZ ns f)) d\.dK (bZ ns f):=au;generalize upd H2 d (.dK (bZ ns f))=H3 at s2 hd2 ⊢;let G3:=G.same s2;let#[dx,dw,dy,vs,bM,h1,h2,h3,h4,h5,m1,m2,m3,m4,m5]:=id G3.ex;apply#[_,Z,g,dx,_,Z,h1,uN _ _ _ Z0 Z0 Z0,g,p,hs,ts,qs,fp,Z,G3,λln wV=>?_];let#[s3,e3]:=bp (o:=.lst ((qs.map (·.1)).map V.str)) wV;let mL:=s3 _ _ hd2;generalize upd H3 ln (.lst ((qs.map (·.1)).map V.str))=H4 at s3 e3 mL ⊢;apply#[_,Z,d,_,Z,mL,_,Z,ln,_,Z,.inl (.of e3),Z,_,Z,?_];rw[kY,aA,aA,_C];simp only[bne_self_eq_false,decide_true,xU];apply aQ ?_;let EG:=s2.trans s3;apply#[_,Z,ln,Z,#[_,.of e3],λD hD=>?_];apply k8 (own:=1) (fv:=[some (.ref d)]) (xs:=(qs.map (·.1)).map V.str) Z fq (λi out H'=>aa H4 H'/\H' D\.lst out/\oW K H' out (bZ ((qs.map (·.1)).take i) f)) #[aa.new hD,au,.nil] (λi out H' _ ⟨sm,_,_⟩=>.of (sm _ _ e3)) (λout H5 ⟨sm,xi,pa⟩=>?_) (λi y out H' hy ⟨sm,fo,pa⟩=>?_)
 ·rw[aA,e_] at pa;apply#[D,out,_,Z,xi,pa,by rw[kY,aA];omega,λd' gT=>?_]
  have tS:((bZ (qs.map (·.1)) f).map (·.1)).Nodup:=by
   rw[KH,uQ,vM];exact nd.imp λn e=>n (iF e)
  rw[DJ tS];exact k d' _ ((EG.trans sm).trans (aa.new gT)) (EG.free (sm.free gT)) au
 let#[n,hn,rfl]:=jy hy;have hi:i<(qs.map (·.1)).length:=(cU.mp hn).1;rw[aA] at hi;have nm:n∈ns:=so.perm.mem_iff.mpr (dI hn);apply#[_,Z,Z,λNx hN=>eJ ?_];apply#[_,Z,_,Z,_,Z,d,.str (f n),Z,?_,zl,λt ht=>?_]
 ·rw[<- Dw (g:=λn=>V.str (f n)) nm];exact .k (k:=Sum.inr n) (sm _ _ mL)
 let s5:=aa.new (o:=.tup [.str n,.str (f n)]) ht;let lo:=bK pa;rw[kY,d6,aA] at lo;apply#[out,s5 _ _ fo,by omega,hN _ _ #[iV (sm.trans s5) hD,au,?_]];have FF:upd H' t (.tup [.str n,.str (f n)]) t\.tup [.str n,.str (f n)]:=au;have pD:∀{b:Addr} {ys:ag},upd H' t (.tup [.str n,.str (f n)]) b\.tup ys->b≠D:=λhb=>cb hb (s5 _ _ fo) nofun;rw[jz hn];show oW K _ _ (((qs.map (·.1)).take i++[n]).map _);rw[dC];exact kZ (Paired.bN pa λy kv ⟨b,z,hb⟩=>#[b,z,by rw[aD (pD (s5 _ _ hb))];exact s5 _ _ hb]) (.cons #[t,Z,by rw[aD (pD FF)];exact FF] .nil)
end
end Ev
namespace Ev
open PySem L2
theorem fF.has{K:af}{C:Addr}{H:Hp}{p:Addr}{hs:Xa}{ts:Xb}{fp:ai}(W:fF K C H p hs ts fp){b:Addr}(hb:b∈fp):∃o,H b\o:=by
 let#[dx,d1,l2,d3,zs,as,rfl,h1,h2,h3,h4,h5,h6,h7]:=W.ex;simp only[cQ] at hb;rcases hb with rfl|rfl|rfl|rfl|hb
 ·exact#[_,h1]
 ·exact#[_,h2]
 ·exact#[_,h3]
 ·exact#[_,h5]
 let#[i,hi,e]:=lj hb;exact#[_,h7 i ((aF hs)[i]' Z1) b (cw Z1) (by rw[<- e];exact cw hi)]
section
variable{d d2:Addr}{o:Obj}{kvs:List (Key × V)}{H H' H1:Hp}{u:HO}
theorem Fz.Am(s:aa H H1):Fz d o kvs H (upd H1 d (.frz o (.dK kvs))):=#[au,λb u ne e=>by rw[aD ne];exact s _ _ e]
theorem Fz.put(f:Fz d o kvs H H')(hn:H d2=none)(ne:d2≠d):Fz d o kvs H (upd H' d2 u):=#[by rw[aD ne.symm];exact f.at_,λb u nb e=>by rw[aD (bE e hn)];exact f.sm b u nb e]
end
section v
theorem KR:br ["goods","placed","hand","found","piece"] kP (a9 Pn):=bF
structure p7 (K:af) (CG CW:Addr) (H:Hp) (g p d:Addr) (hs:Xa) (ts:Xb) (qs:aL) (fp:ai) (f:ao):Prop where
 G:gK K CG CW H g p hs ts qs fp
 Gd:Good hs ts
 jc:d∉fp
 hd:H d\.dK (bZ (qs.map (·.1)) f)
 at_:∀n∈qs.map (·.1),f n∈hs.map (·.1)
 nd:(qs.map (·.1)).Nodup
 bR:qs.length<64
abbrev wL(hs:Xa)(qs:aL)(f:ao):List (Key × V):=dP (aF hs) λh=>.int (ld f (qs.map gG) h)
inductive Ia (K:af) (CG CW:Addr) (vs:ag) (H:Hp) (Q:VK) (E:XK):Prop
 |mk:∀(g p d:Addr) (hs:Xa) (ts:Xb) (qs:aL) (fp:ai) (f:ao),vs=[.ref g,.ref d]->p7 K CG CW H g p d hs ts qs fp f->(∀d' H',aa H H'->H d'=none->H' d'\.dK (wL hs qs f)->Q (.ref d') H')->Ia K CG CW vs H Q E
theorem gi_{f CG CW CP:Addr}{fd:Ae}(F:bg K "loads_at" "loads_at" Pn f fd)(B:Bi mg)(T:dA K CG)(TW:Txt K mg CW)(cH:!bo CW 1 "hands" gJ (Dx K CW))(cW:!bo CG 2 "weight" zu (Ce K CG CW CP)) :
  ak P w K mg base ba 3 f fd kP (Ia K CG CW):=by
 exists F.bI KR;let#[g,p,d,hs,ts,qs,fp,f,rfl,Pl,k]:=h;let hu:=gC hr;let sz:=b_;have ip:a_ 1 _:=hr.mono (by decide);refine' #[_,?r0,?kk]
 case' r0=>refine' ax ?s1 ?r1
 case s1=>exact bh 3 KR.nd (iH (DK Z) (by rfl) B.dict uJ %[kX ["hand"] 1 [] (d_ (uK cH TW.cl ip (dz (pv 0) Z))) (λfp s H=>gg (i:=0) (show (["hand"]:ae).Nodup by decide +kernel) Z (Or.inl Z)) (λfp s H=>jA) (λfp s H=>dR %[0,az|0])|0])
 case' r1=>refine' ax ?s2 ?r2
 case' s2=>refine' Uw (fC eS Z ?i2 ?g2 (aC ?b2))
 case i2=>exact KC (G5 (pv 1))
 case g2=>exact kJ Z (dD (cq 4 KR.nd) (dD (cq 2 KR.nd) iT))
 case b2=>exact xH hu (pv 3) (pv 2) (bu fH (j9 hu (pv 3) (pv 2)) (fG cW T.cl hr (pv 0) %[4|0])) Z
 case r2=>exact aC (aY (pv 3))
 let nl:=Pl.Gd.fS;let h8:=Pl.Gd.h8;let#[dx,dw,dy,vs,bM,h1,h2,h3,h4,h5,m1,m2,m3,m4,m5]:=id Pl.G.ex;let#[eX,d1,l2,d3,jn,as,ef,w1,_]:=id h2.ex;have hY:(cZ d1 l2 d3).lookup ("hands":Str)=none:=iJ _ _ _ Z0 Z0 Z0;apply#[_,Z,g,CG,dx,_,_,Z,h1,T.cl,T.nW,jB _ _ _,p,eX,_,Z,w1,hY,p,hs,ts,bM,Z,h2,λlh pT=>?_];let#[s1,e1]:=bp (o:=.lst ((aF hs).map V.str)) pT;generalize upd H lh (.lst ((aF hs).map V.str))=H1 at s1 e1 ⊢;apply#[lh,Z,#[_,.of e1],λD hD=>?_];apply k8 (own:=1) (fv:=[]) (xs:=(aF hs).map V.str) Z fq (λi out H'=>aa H1 H'/\H' D\.lst out/\oW K H' out (dP ((aF hs).take i) λ_=>.int 0)) #[aa.new hD,au,.nil] (λi out H' _ ⟨sm,_,_⟩=>.of (sm _ _ e1)) (λout H5 ⟨sm,xi,pa⟩=>?_) (λi y out H' hy ⟨sm,fo,pa⟩=>?_);rotate_left 1
 ·let#[n,hn,rfl]:=jy hy;have hi:i<(aF hs).length:=(cU.mp hn).1;apply#[_,Z,Z,λNx hN=>eJ ?_];apply#[_,Z,zl,λt ht=>?_];let s5:=aa.new (o:=.tup [.str n,.int 0]) ht;let lo:=bK pa;rw[kY,d6] at lo;apply#[out,s5 _ _ fo,by omega,hN _ _ #[iV (sm.trans s5) hD,au,?_]];have FF:upd H' t (.tup [.str n,.int 0]) t\.tup [.str n,.int 0]:=au;have pD:∀{b:Addr} {ys:ag},upd H' t (.tup [.str n,.int 0]) b\.tup ys->b≠D:=λhb=>cb hb (s5 _ _ fo) nofun;rw[jz hn];show oW K _ _ (((aF hs).take i++[n]).map _);rw[dC];exact kZ (Paired.bN pa λy kv ⟨b,z,hb⟩=>#[b,z,by rw[aD (pD (s5 _ _ hb))];exact s5 _ _ hb]) (.cons #[t,Z,by rw[aD (pD FF)];exact FF] .nil)
 rw[aA,e_] at pa;apply#[D,out,_,Z,xi,pa,by rw[kY];omega,λd2 hd2=>?_]
 have tS:((dP (aF hs) λ_=>V.int 0).map (·.1)).Nodup:=by
  rw[KH,uQ,vM];exact Pl.Gd.tR.imp λn e=>n (iF e)
 rw[DJ tS];let s2:=(s1.trans sm).trans (aa.new (o:=.dK (dP (aF hs) λ_=>V.int 0)) hd2);have e2:upd H5 d2 (.dK (dP (aF hs) λ_=>V.int 0)) d2\.dK (dP (aF hs) λ_=>V.int 0):=au;have n2:H d2=none:=s1.free (sm.free hd2);show pE _ _ _ _ (upd H5 d2 (.dK (dP (aF hs) λ_=>V.int 0)));generalize upd H5 d2 (.dK (dP (aF hs) λ_=>V.int 0))=H6 at s2 e2 ⊢;have PH:d2≠d:=(bE Pl.hd n2).symm;apply#[d,_,s2 _ _ Pl.hd,?_];apply#[_,Z,d,_,Z,s2 _ _ Pl.hd,λv hv=>?_];let#[s3,oK]:=bp (o:=pZ v d) hv;let e3:=s3 _ _ e2;let pH:=s2.trans s3;generalize upd H6 v (pZ v d)=H7 at s3 oK e3 pH ⊢;apply#[v,d,_,Z,oK,pH _ _ Pl.hd,λo=>?_];apply PJ (λi σ H'=>∃(v2 v4:aN),σ=[some (.ref g),some (.ref d),v2,some (.ref d2),v4]/\Fz d o (bZ (qs.map (·.1)) f) H H'/\H' d2\.dK (dP (aF hs) λh=>.int (ld f ((qs.take i).map gG) h))) #[none,none,Z,Fz.Am pH,by rw[aD PH];exact e3] (λi σ H' _ ⟨_,_,_,z,_⟩=>z.at_) ?_ ?_
 ·rintro i ky x σ H8 hx ⟨v2,v4,rfl,fz,e8⟩ t ht;let#[n,hn,rfl,rfl]:=JN hx
  have hi:i<qs.length:=by
   have:=(cU.mp hn).1;rwa [aA] at this
  have hq:qs[i]? = some (qs[i]'hi):=cw hi
  have en:n=(qs[i]'hi).1:=by
   rw[dS,hq] at hn;exact (dY hn).symm
  have fm:f n∈aF hs:=(iz hs).mem_iff.mpr (Pl.at_ n (dI hn));generalize qs[i]'hi=q at hq en;let s8:=aa.new (o:=.tup [.str n,.str (f n)]) ht;let Bw:=fz.step s8;let e9:=s8 _ _ e8;have et:upd H8 t (.tup [.str n,.str (f n)]) t\.tup [.str n,.str (f n)]:=au;show ja _ _ _ _ _ (upd H8 t (.tup [.str n,.str (f n)])) _;generalize upd H8 t (.tup [.str n,.str (f n)])=H9 at s8 Bw e9 et ⊢;apply#[t,_,Z,.of et,Z,_,_,Z,_,_,Z,Z,?_];let G9:=Bw.zo Pl.hd Pl.G Pl.jc;let#[dx,dw,dy,vs,bM,h1,h2,h3,h4,h5,m1,m2,m3,m4,m5]:=id G9.ex;have kE:(bV p dw dy).lookup ("weight":Str)=none:=uN _ _ _ Z0 Z0 Z0;apply#[_,Z,_,Z,d2,.int (ld f ((qs.take i).map gG) (f n)),Z,?_,_,Z,g,dx,_,Z,h1,kE,_,Z,g,p,.str n,some n,hs,ts,qs,fp,Z,G9,Pl.nd,Z,.inl #[q,dI hq,d9 some en,?_]]
  ·rw[<- Dw (g:=λh=>V.int (ld f ((qs.take i).map gG) h)) fm];exact .k (k:=Sum.inr (f n)) e9
  apply#[_,_,Z,Z,_,Z,_,Z,d2,_,Z,.k (k:=Sum.inr (f n)) e9 (by rw[kY];omega),?_];apply#[_,_,Z,Bw.put n2 PH,?_];rw[au,Uv fm];congr 2;apply Kq λm _=>?_
  have e5:(qs.take (i+1)).map gG=(qs.take i).map gG++[gG q]:=by
   rw[iS,hq,dC];rfl
  rw[e5,jN_];show (if m=f n then V.int (ld f ((qs.take i).map gG) (f n)+q.2.1) else V.int (ld f ((qs.take i).map gG) m))=V.int (if m=f q.1 then _ else _);rw[<- en];by_cases z:m=f n
  ·rw[aH z,aH z,z];rfl
  rw[aB z,aB z]
 rintro σ H8 ⟨v2,v4,rfl,fz,e8⟩;apply#[o,fz.at_,?_];rw[kY,aA,e_] at e8;exact#[_,Z,k d2 _ (fz.pC Pl.hd) n2 (by rw[aD PH];exact e8)]
end
end Ev
namespace L2
open PySem PySem.Spec PyProof.Rows PySem.W
theorem fO_{d:Addr}{o:Obj}{kvs:List (Key × V)}{g:TG}{tc:TT}{te:TE}{own:Nat}{fv:List aN}{dec:V->Hp->List aN->Prop}{D:Addr}{H:Hp}{Q:VK}{ph:St}(wN:ph=List.replicate own none++fv)(G:DX g own fv dec)(Pv:Nat->ag->Hp->Prop)
  (h0:Pv 0 [] (upd H D (.lst []))) (hl:∀i out H',i<=kvs.length->Pv i out H'->H' d\.frz o (.dK kvs)) (hd:∀out H',Pv kvs.length out H'->Q (.ref D) H')
  (Gj:∀i k x out H',kvs[i]? = some (k,x)->Pv i out H'->∀t,H' t=none->∃o3,dec (.ref t) (upd H' t (.tup [kV k,x])) o3/\o3.length=own/\∀Nx:Hp->Prop,(∀mE H2,Pv (i+1) mE H2->Nx H2)->
   tc (o3++fv) (upd H' t (.tup [kV k,x])) λb H4=>if b=true then te (o3++fv) H4 λy H5=>∃gm,H5 D\.lst gm/\gm.length<sizeLine/\Nx (upd H5 D (.lst (gm++[y]))) else Nx H4) :
  Dg (Itm d o kvs) g tc te ph D H Q:=by
 apply Kh wN G kvs.length Pv h0 (λout H' p=>#[#[hl _ _ _ (bj _) p,bj _],hd out H' p]) λi out H' hi p=>?_;let q:=hl i out H' (Nat.le_of_lt hi) p;apply#[#[q,hi],λx H2 y=>?_];let#[t,k,v,rfl,ht,hx,rfl]:=y;exact Gj i k v out H' hx p t ht
section
variable{X:Cx}
inductive tH (xs:ag) (H:Hp) (Q:VK):Prop
 |mk:∀a kvs,xs=[.ref a]->Rd H a (.dK kvs)->(∀p,H p=none->Q (.ref p) (upd H p (.dK kvs)))->tH xs H Q
theorem KN:gB X (.type "dict") tH:=by
 intro pins s σ H xs us Q I r h;let#[a,kvs,rfl,hd,q]:=h;let#[u,rfl,ru]:=vals1 r;cases ru;exact iU_ I hd λp s' hp I'=>#[.ref p,_,I',Z,q p hp]
inductive tD (K:af) (x:V) (y:V) (H:Hp) (Q:VK):Prop
 |mk:∀a b xs,x=.ref a->y=.ref b->dM K H a xs->dM K H b []->Q (.bl (!xs.isEmpty)) H->tD K x y H Q
theorem U3(hu:X.A.units+0+1<cLine):dN X (compareOp .NotEq) (tD X.K):=by
 intro pins s σ H x y v u Q I rx ry h;let#[a,b,xs,rfl,rfl,t,t',hq]:=h;cases xs with
 |nil=>exact l6_ ia hu pins s σ H (.ref a) (.ref b) v u Q I rx ry #[[],[],#[a,[],Z,t,.nil],#[b,[],Z,t',.nil],hq]
 |cons z zs=>
  cases rx;cases ry;let#[us,r,pl,_]:=I.list t;let#[vs,r',mD,_]:=I.list t';let l1:=r.length;let l2:=r'.length;exact K2.hU pl.isList mD.isList (by simp only[cg,bne_iff_ne];simp at l1 l2;omega) Z1 #[.bl true,H,I,Z,hq]
end
end L2
namespace Ev
open PySem L2
theorem TV{A:Ag}{s:Ab}{ns:ae}{f g:ao}{vb:List (Key × Aa)}(rb:KV (bZ ns g) vb):∀(ms:ae) (va:List (Key × Aa)),KV (bZ ms f) va->(∀m∈ms,m∈ns)->PySem.W.KeqHits A s vb va (ms.all λn=>decide (f n=g n))
 |[],va,r,_=>by
  cases r;exact .nil
 |m::ms,va,r,h=>by
  cases r with
  |@cons _ q _ XN h1 r=>
   let hm:=h m fQ;let#[y,hy,ry]:=eU.some_of (v:=.str (g m)) (o:=valueAt vb (Sum.inr m)) (by rw[<- Dw (g:=λn=>V.str (g n)) hm];exact rb.val _);let#[k,v]:=q;let#[e1,e2]:=h1;have e1:(Sum.inr m:Key)=k:=e1;subst e1;let#[t,rfl]:=(show ∃t,v=Value.str (f m) t from e2);let#[u,rfl]:=(show ∃t,y=Value.str (g m) t from ry);let q:=SeqAt.EqAt.str_str (A:=A) (s:=s) (f m) t (g m) u;rw[show (f m == g m)=decide (f m=g m) by by_cases z:f m=g m<;>simp[z]] at q
   exact .hit hy q (TV rb ms XN r λx hx=>h x (fb _ hx))
def mK(a n:Int):Int:=a / (Int.gcd a n:Int) * n
theorem kP_{a n:Int}(ha:0<a)(hn:0<n):mK a n=(Int.lcm a n:Int):=by
 let#[p,rfl]:=p_ (Int.le_of_lt ha);let#[q,rfl]:=p_ (Int.le_of_lt hn);show ((p:Int) / ((Nat.gcd p q:Nat):Int)) * (q:Int)=((Nat.lcm p q:Nat):Int);rw[<- Int.natCast_ediv,<- Int.natCast_mul,Nat.div_mul_right_comm (Nat.gcd_dvd_left p q)];rfl
def mJ(ns:List Int):Int:=ns.foldl mK 1
theorem UJ:∀(ns:List Int) (a:Int),0<a->(∀n∈ns,0<n)->0<ns.foldl mK a/\∀x:Int,0<=x->(ns.foldl mK a ∣ x ↔ a ∣ x/\∀n∈ns,n ∣ x)
 |[],a,ha,_=>#[ha,λx _=>by simp]
 |n::ns,a,ha,h=>by
  let hn:=h n fQ;let e:=kP_ ha hn
  have p:0<mK a n:=by
   rw[e];have:=Nat.lcm_pos (m:=a.natAbs) (n:=n.natAbs) Z1 Z1;have:0<Int.lcm a n:=this;omega
  let#[h1,h2]:=UJ ns (mK a n) p λm hm=>h m (fb _ hm);apply#[h1,λx hx=>(h2 x hx).trans ?_];let#[z,rfl]:=p_ hx;rw[e,Int.natCast_dvd_natCast,Int.lcm_dvd_iff];constructor
  ·rintro⟨⟨q1,q2⟩,q3⟩
   exact#[q1,λm hm=>by
    rcases cQ.mp hm with rfl|hm
    ·exact q2
    exact q3 m hm]
  rintro⟨q1,q2⟩;exact#[#[q1,q2 n fQ],λm hm=>q2 m (fb _ hm)]
theorem iK_{ns:List Int}(h:∀n∈ns,0<n):0<mJ ns:=(UJ ns 1 (by decide) h).1
theorem k7_(f:ao)(x:Str × Int)(ws:Xa)(h:Str):ld f (x::ws) h=(if f x.1=h then x.2 else 0)+ld f ws h:=by
 unfold ld;by_cases e:f x.1=h
 ·simp[e]
 simp[e]
def sumF(ns:ae)(L c:Str->Int):Int:=(ns.map λh=>L h * (L h * c h)).sum
end Ev
namespace Ev
open PySem L2
theorem Sl{f:ao}{h:Str}:∀{ws:Xa},(∀x∈ws,0<=x.2/\x.2<=1000000000)->ld f ws h<=1000000000 * ws.length
 |[],_=>by
  unfold ld;simp
 |x::ws,p=>by
  let h1:=p x fQ;let h2:=Sl (f:=f) (h:=h) (ws:=ws) λy hy=>p y (fb _ hy);rw[k7_,ka];by_cases z:f x.1=h
  ·rw[aH z];omega
  rw[aB z];omega
def oI(hs:Xa):Int:=mJ ((aF hs).map (strOf hs))
theorem JC{hs:Xa}{ts:Xb}(G:Good hs ts){n:Str}(h:n∈aF hs):1<=strOf hs n/\strOf hs n<=1000:=(G.aI _ (zG ((iz hs).mem_iff.mp h))).2
section v
theorem wd:br ["numbers","found","number"] ["numbers"] (a9 LI):=bF
def Ew(K:af):Sp:=λvs H Q _=>∃(l:Addr) (ns:List Int),vs=[.ref l]/\dM K H l (ns.map V.int)/\(∀n∈ns,1<=n/\n<=1000)/\Q (.int (mJ ns)) H
theorem iN_{ns:List Int}{i:Nat}{n:Int}(h:ns[i]? = some n):mJ (ns.take (i+1))=mK (mJ (ns.take i)) n:=by
 unfold mJ;rw[iS,h,List.foldl_append];rfl
theorem f2_{ns:List Int}{i:Nat}{y:V}(h:(ns.map V.int)[i]? = some y):∃n,ns[i]? = some n/\y=.int n:=by
 rw[dS] at h;cases e:ns[i]? with
 |none=>rw[e] at h;cases h
 |some n=>rw[e] at h;exact#[n,Z,(dY h).symm]
theorem lL_{f:Addr}{fd:Ae}(F:bg K "least_multiple" "least_multiple" LI f fd)(cG:!bc 1 "greatest_divisor" qC Ex):!ak ba 2 f fd ["numbers"] (Ew K):=by
 exists F.bI wd;let#[l,ns,rfl,hl,b,k]:=h;refine' #[_,ax ?s1 (ax ?s2 (aC ?s3)),?kk]
 case s1=>exact bh 1 wd.nd az
 case s2=>exact fC eS Z (d_ (pv 0)) (cq 2 wd.nd) (aC (bh 1 wd.nd (bu oX (bu xK (pv 1) (aP cG hr %[1,2|0])) (pv 2))))
 case s3=>exact aY (pv 1)
 apply#[_,Z,l,Z,#[_,hl],iK (K:=K) (a:=l) (xs:=ns.map V.int) (λi σ H'=>H'=H/\∃(v2:aN),σ=[some (.ref l),some (.int (mJ (ns.take i))),v2]) #[Z,none,Z] (λi σ H' _ ⟨e,_⟩=>by rw[e];exact hl) ?_ ?_]
 ·rintro i y σ H' hy ⟨rfl,v2,rfl⟩;let#[n,hn,rfl]:=f2_ hy;let bn:=b n (dI hn)
  let p:=iK_ (ns:=ns.take i) λm hm=>by
   have:=b m (List.take_subset _ _ hm);omega
  apply#[_,Z,_,Z,_,Z,_,_,Z,Int.le_of_lt p,by omega,_,_,Z,Z,lP_ Z1 (Int.le_trans bn.2 (by decide)),_,Z,_,_,Z,Z,.inr #[by omega,by omega],Z,some (.int n),?_];rw[iN_ hn];rfl
 rintro σ H' ⟨rfl,v2,rfl⟩;apply#[_,Z,?_];rw[aA,e_];exact k
theorem Au:br ["web"] ["web"] (a9 sO):=bF
inductive lL (K:af) (C:Addr) (vs:ag) (H:Hp) (Q:VK) (E:XK):Prop
 |mk:∀(p:Addr) (hs:Xa) (ts:Xb) (fp:ai),vs=[.ref p]->fF K C H p hs ts fp->Good hs ts->(∀H',aa H H'->Q (.int (oI hs)) H')->lL K C vs H Q E
theorem jU_{f CW:Addr}{fd:Ae}(F:bg K "multiple_of_strengths" "multiple_of_strengths" sO f fd)(TW:Txt K mg CW)(cL:!bc 2 "least_multiple" ["numbers"] (Ew K))(cH:!bo CW 1 "hands" gJ (Dx K CW))(cS:!bo CW 2 "strength" jx (DO K CW)):!ak ba 3 f fd ["web"] (lL K CW):=by
 exists F.bI Au;let#[p,hs,ts,fp,rfl,W,G,k]:=h;let sz:=b_;let nl:=G.fS;let h8:=G.h8;refine' #[_,aC (aY (aP cL hr %[kX ["hand","web"] 1 [0] (d_ (uK cH TW.cl (hr.mono (by decide)) (pv 0))) (λfp s H=>gg (i:=0) (show (["hand","web"]:ae).Nodup by decide +kernel) Z (Or.inl Z)) (λfp s H=>jA) (λfp s H=>?e1)|0])),?kk]
 case e1=>exact fG cS TW.cl hr (pv 1) %[0|0]
 let#[eX,d1,l2,d3,jn,as,ef,w1,_]:=id W.ex;apply#[_,Z,p,eX,_,Z,w1,iJ _ _ _ Z0 Z0 Z0,p,hs,ts,fp,Z,W,λlh pT=>?_];let#[s1,e1]:=bp (o:=.lst ((aF hs).map V.str)) pT;generalize upd H lh (.lst ((aF hs).map V.str))=H1 at s1 e1 ⊢;apply#[lh,Z,#[_,.of e1],λD hD=>?_];apply k8 (own:=1) (fv:=[some (.ref p)]) (xs:=(aF hs).map V.str) Z fq (λi out H'=>aa H1 H'/\H' D\.lst out/\out=(((aF hs).take i).map (strOf hs)).map V.int) #[aa.new hD,au,Z] (λi out H' _ ⟨sm,_,_⟩=>.of (sm _ _ e1)) (λout H5 ⟨sm,xi,eo⟩=>?_) (λi y out H' hy ⟨sm,fo,eo⟩=>?_)
 ·rw[aA,e_] at eo;rw[eo] at xi;apply#[D,_,Z,.of xi,λn hn=>?_,k H5 (s1.trans sm)];let#[m,hm,rfl]:=bJ.mp hn;exact JC G hm
 let#[n,hn,rfl]:=jy hy;have hi:i<(aF hs).length:=(cU.mp hn).1;apply#[_,Z,Z,λNx hN=>eJ ?_];let W':=(W.same s1).same sm;let#[eX,d1,l2,d3,jn,as,ef,w1,_]:=id W'.ex;apply#[_,Z,p,eX,_,Z,w1,iJ _ _ _ Z0 Z0 Z0,_,Z,p,n,strOf hs n,hs,ts,fp,Z,W',G.yY,zG ((iz hs).mem_iff.mp (dI hn)),?_];apply#[out,fo,by rw[eo,aA,aA,d6];omega,hN _ _ #[iV sm hD,au,?_]];rw[jz hn,dC,dC,eo];rfl
theorem Hm:br ["goods","placed","multiple","found","hand","load"] kP (a9 Oa):=bF
def vj(hs:Xa)(qs:aL)(f:ao)(h:Str):Int:=ld f (qs.map gG) h * (oI hs / strOf hs h)
inductive Kx (K:af) (CG CW:Addr) (vs:ag) (H:Hp) (Q:VK) (E:XK):Prop
 |mk:∀(g p d:Addr) (hs:Xa) (ts:Xb) (qs:aL) (fp:ai) (f:ao),vs=[.ref g,.ref d]->p7 K CG CW H g p d hs ts qs fp f->(∀q∈qs,0<=q.2.1/\q.2.1<=1000000000)->(∀d' H',aa H H'->H d'=none->H' d'\.dK (dP (aF hs) λh=>.int (vj hs qs f h))->Q (.ref d') H')->Kx K CG CW vs H Q E
theorem Jk{qs:aL}(wp:∀q∈qs,0<=q.2.1/\q.2.1<=1000000000)(bR:qs.length<64)(f:ao)(h:Str):0<=ld f (qs.map gG) h/\ld f (qs.map gG) h<=64000000000:=by
 have p:∀x∈qs.map gG,0<=x.2/\x.2<=1000000000:=λx hx=>by
  let#[q,hq,rfl]:=bJ.mp hx;exact wp q hq
 let h1:=Sl (f:=f) (h:=h) p;rw[aA] at h1;exact#[_V λx hx=>(p x hx).1,by omega]
theorem hK_{f CG CW:Addr}{fd:Ae}(F:bg K "levels_at" "levels_at" Oa f fd)(T:dA K CG)(TW:Txt K mg CW)(cL:!bc 3 "loads_at" kP (Ia K CG CW))(cM:!bc 3 "multiple_of_strengths" ["web"] (lL K CW))(cS:!bo CW 2 "strength" jx (DO K CW)) :
  ak P w K mg base ba 4 f fd kP (Kx K CG CW):=by
 exists F.bI Hm;let#[g,p,d,hs,ts,qs,fp,f,rfl,Pl,wp,k]:=h;let hu:=gC hr;let sz:=b_;have ua:a_ 2 _:=hr.mono (by decide);refine' #[_,?r0,?kk]
 case' r0=>refine' ax ?s0 (ax ?s1 (ax ?s2 ?r2))
 case s0=>exact bh 2 Hm.nd (aP cM hr %[dz (pv 0) Z|0])
 case s1=>exact bh 3 Hm.nd Hk
 case' s2=>refine' fC eS Z ?i2 ?g2 (aC ?b2)
 case i2=>exact KC (G5 (aP cL hr %[0,1|0]))
 case g2=>exact kJ Z (dD (cq 4 Hm.nd) (dD (cq 5 Hm.nd) iT))
 case b2=>exact xH hu (pv 3) (pv 4) (bu oX (pv 5) (bu xK (pv 2) (fG cS TW.cl ua (dz (pv 0) Z) %[4|0]))) Z
 case r2=>exact aC (aY (pv 3))
 let nl:=Pl.Gd.fS;let h8:=Pl.Gd.h8;let#[dx,dw,dy,vs,bM,h1,h2,_]:=id Pl.G.ex;apply#[_,Z,g,CG,dx,_,_,Z,h1,T.cl,T.nW,jB _ _ _,p,hs,ts,bM,Z,h2,Pl.Gd,λH0 s0=>?_];intro d2 hd2;let s1:=s0.trans (aa.new (o:=.dK []) hd2);have e1:upd H0 d2 (.dK []) d2\.dK []:=au;have n2:H d2=none:=s0.free hd2;show pE _ _ _ _ (upd H0 d2 (.dK []));generalize upd H0 d2 (.dK [])=H1 at s1 e1 ⊢;have Q8:p7 K CG CW H1 g p d hs ts qs fp f:=#[Pl.G.same s1,Pl.Gd,Pl.jc,s1 _ _ Pl.hd,Pl.at_,Pl.nd,Pl.bR];apply#[_,Z,_,Z,g,p,d,hs,ts,qs,fp,f,Z,Q8,λdl H2 s2 Jw e2=>?_];apply#[dl,_,Z,e2,λv hv=>?_];let#[s3,oK]:=bp (o:=pZ v dl) hv;let e3:=s3 _ _ e2;let vh:=s2.trans s3;generalize upd H2 v (pZ v dl)=H3 at s3 oK e3 vh ⊢;have CH:H dl=none:=s1.free Jw;have Wl:d2≠dl:=bE e1 Jw;apply#[v,dl,_,Z,oK,e3,λo=>?_];apply PJ (λi σ H'=>∃(v4 v5:aN),σ=[some (.ref g),some (.ref d),some (.int (oI hs)),some (.ref d2),v4,v5]/\aa H H'/\H' dl\.frz o (.dK (wL hs qs f))/\H' d2\.dK (dP ((aF hs).take i) λh=>.int (vj hs qs f h))) #[none,none,Z,iV (s1.trans vh) CH,au,by rw[aD Wl];exact vh _ _ e1] (λi σ H' _ ⟨_,_,_,_,z,_⟩=>z) ?_ ?_
 ·rintro i ky x σ H8 hx ⟨v4,v5,rfl,s8,f8,e8⟩ t ht;let#[n,hn,rfl,rfl]:=JN hx;have hi:i<(aF hs).length:=(cU.mp hn).1;have nm:n∈hs.map (·.1):=(iz hs).mem_iff.mp (dI hn);let sm:=zG nm;let sg:=JC Pl.Gd (dI hn);let lo:=Jk wp Pl.bR f n;let ss:=aa.new (o:=.tup [.str n,.int (ld f (qs.map gG) n)]) ht;let s9:=s8.trans ss;let e9:=ss _ _ e8;let f9:=ss _ _ f8;have et:upd H8 t (.tup [.str n,.int (ld f (qs.map gG) n)]) t\.tup [.str n,.int (ld f (qs.map gG) n)]:=au;show ja _ _ _ _ _ (upd H8 t (.tup [.str n,.int (ld f (qs.map gG) n)])) _;generalize upd H8 t (.tup [.str n,.int (ld f (qs.map gG) n)])=H9 at ss s9 e9 f9 et ⊢;apply#[t,_,Z,.of et,Z,_,_,Z,_,_,Z,Z,?_];let G9:=Pl.G.same s9;let#[dx,dw,dy,vs,bM,h1,h2,h3,h4,h5,m1,m2,m3,m4,m5]:=id G9.ex;let#[eX,d1,l2,d3,jn,as,ef,w1,_]:=id h2.ex;have hY:(cZ d1 l2 d3).lookup ("strength":Str)=none:=iJ _ _ _ Z0 Z0 Z0;apply#[_,Z,_,Z,_,Z,g,CG,dx,_,_,Z,h1,T.cl,T.nW,jB _ _ _,p,eX,_,Z,w1,hY,_,Z,p,n,strOf hs n,hs,ts,bM,Z,h2,Pl.Gd.yY,sm,?_];apply#[_,_,Z,Z,#[by omega,by omega],_,_,Z,Z,.inl #[by omega,by omega],_,Z,_,Z,d2,_,Z,.k (k:=Sum.inr n) e9 (by rw[kY,d6];omega),?_];apply#[_,_,Z,iV s9 n2,by rw[aD Wl.symm];exact f9,?_];rw[au,jz hn,T7 (Pz Pl.Gd.tR hn)];congr 2;apply Kq λm _=>?_;by_cases z:m=n
  ·subst z;simp[vj]
  simp[z]
 rintro σ H8 ⟨v4,v5,rfl,s8,f8,e8⟩;rw[kY,e_] at e8;exact#[_,Z,k d2 H8 s8 n2 e8]
end
end Ev
namespace L2
open PySem PySem.Spec PyProof.Rows
section
variable{M:Model}{A:Ag}{E:Aa->Ab->Prop}{s:Ab}
end
section
variable{X:Cx}{E:XK}
end
section v
section
variable{N:ae}{qual:Str}{scope:Scope}{f:Addr}{cd:Aa}{A:Ag}{outer:List Env}{s:Ab}{H:Hp}{E:XK}
end
end
end L2
namespace L2
open PySem PySem.Spec PySem.Calls PyProof.Rows PySem.W
section
variable{M:Model}{A:Ag}{E:Aa->Ab->Prop}{s:Ab}{base:Heap}{env:Env}{outer:List Env}{L e:Addr}{cls a0:Aa}{Q:Unit->Ab->Prop}
def o4(h base:Heap)(e:Addr)(cls a0:Aa)(dd:Option Addr):Prop:=∃oe vs T oT ts,h.get? e\oe/\(oe.cls=cls/\vs[0]? = some a0)/\oe.data=Data.fields vs/\vs[1]? = some (Value.ref T)/\base.get? T=none/\T≠e/\h.get? T\oT/\oT.data=Data.fields ts/\ts[3]? = some Value.none/\oe.dict=dd
def xJ(base:Heap)(l:List Env)(e:Addr)(cls a0:Aa)(dd:Option Addr)(h:Heap):Prop:=base.StaysIn h/\base.get? e=none/\h.FunFrames base l/\o4 h base e cls a0 dd
theorem pK{oe:Obj}{vs:Array Aa}{head:Aa}{xg:Bool}(Gm:A.frames\(env::outer))(hl:s.heap.FunFrames base (env::outer))(hf:env.frame\L)(he:s.heap.get? e\oe)(Ts:base.StaysIn s.heap)(hen:base.get? e=none)(hd:oe.data=Data.fields vs)(hsz:1<vs.size)(h0:vs[0]? = some a0)
  (h:∀h',base.StaysIn h'->h'.FunFrames base (env::outer)->o4 h' base e oe.cls a0 oe.dict->s.heap.UpToSlots h'->Q () { s with heap:=h' }) :
  wpAny M A (do
   let a <- PySem.frameOf env
   let pl <- entryPlaceOf L xg
   let b <- EntryCells.newEntry head a Value.none (rawInt L) Value.none pl
   setField (Value.ref e) 1 b) (λ_ s'=>wpAny M A (setFlight (Value.ref e) none) Q E s') E s:=by
 have NB:e∉List.filterMap (λx=>x.frame) (env::outer):=λhm=>by
  let#[_,o,ho,hnf]:=Heap.FunFrames.mem hl hm;rw[he] at ho;cases ho;exact hnf vs hd
 apply aq (wpAny_frameOf_fun Gm hl hf λbX oN=>aq (wpAny_entryPlaceOf λpl jt=>?_));unfold EntryCells.newEntry newFields;have MO:bX.objs.size=s.heap.objs.size:=oN.1;let Gp:=(oN.right.left e NB).trans he;have dQ:∀b o,s.heap.get? b\o->b≠bX.objs.size:=λb o q=>dZ (by rw[MO];exact cy q)
 have TR:base.get? bX.objs.size=none:=by
  cases q:base.get? bX.objs.size with
  |none=>rfl
  |some o=>exact absurd Z (dQ _ o (Ts _ o q))
 have h9:∀b o,base.get? b\o->bX.get? b\o:=λb o q=>(oN.right.left b (λhm=>by
  have:=(Heap.FunFrames.mem hl hm).1;rw[q] at this;cases this)).trans (Ts b o q)
 obtain⟨qd,CL,yS⟩:∃qd:Array Aa,([head,Value.ref L,Value.none,rawInt ↑L,Value.none]++if pl.isEmpty=true then List.replicate 6 Value.none else pl).toArray=qd/\3<qd.size:=#[_,Z,by simp]
 have FD:qd.size<=sizeLine+2:=by
  rw[<- CL];rcases jt with rfl|⟨a,b,c,d,c9,j7,_,rfl⟩
  ·show 11<=sizeLine+2;decide
  show 11<=sizeLine+2;decide
 apply aq (mU ?_ (by rw[CL];exact FD));rw[CL];have zg:(bX.push { cls:=Value.type "traceback",data:=Data.fields qd }).get? e\oe:=cj _ Gp;have FZ:(bX.push { cls:=Value.type "traceback",data:=Data.fields qd }).get? bX.objs.size=some { cls:=Value.type "traceback",data:=Data.fields qd }:=eh bX Z;have Gx:bX.objs.size≠e:=(dQ e oe he).symm;apply wpAny_setField zg hd hsz ?_;let ug:=Obj.data_mapFields hd λx=>x.setIfInBounds 1 (Value.ref bX.objs.size);let zf:=Heap.get?_update_self (Obj.mapFields λx=>x.setIfInBounds 1 (Value.ref bX.objs.size)) zg (Obj.isFreed_of_fields ug);let yX:=(mV (bX.push { cls:=Value.type "traceback",data:=Data.fields qd }) (Obj.mapFields λx=>x.setIfInBounds 1 (Value.ref bX.objs.size)) Gx.symm).trans FZ;unfold setFlight;apply aq (wpAny_field (x:=.ref bX.objs.size) zf ug (by simp[hsz]) ?_);rw[aH Z2];apply wpAny_setField yX Z yS ?_;let zh:=Obj.data_mapFields (o:={ cls:=Value.type "traceback",data:=Data.fields qd }) Z λx=>x.setIfInBounds 3 Value.none;let FY:=Heap.get?_update_self (Obj.mapFields λx=>x.setIfInBounds 3 Value.none) yX (Obj.isFreed_of_fields zh);let Gn:=(mV ((bX.push { cls:=Value.type "traceback",data:=Data.fields qd }).update e (Obj.mapFields λx=>x.setIfInBounds 1 (Value.ref bX.objs.size))) (Obj.mapFields λx=>x.setIfInBounds 3 Value.none) Gx).trans zf
 have yK:∀b o,b≠e->b≠bX.objs.size->bX.get? b\o->(((bX.push { cls:=Value.type "traceback",data:=Data.fields qd }).update e (Obj.mapFields λx=>x.setIfInBounds 1 (Value.ref bX.objs.size))).update bX.objs.size (Obj.mapFields λx=>x.setIfInBounds 3 Value.none)).get? b\o:=λb o n1 n2 q=>
  (mV _ _ n2.symm).trans ((mV _ _ n1.symm).trans (cj _ q))
 have TK:((Obj.mapFields λx=>x.setIfInBounds 1 (Value.ref bX.objs.size)) oe).cls=oe.cls/\((Obj.mapFields λx=>x.setIfInBounds 1 (Value.ref bX.objs.size)) oe).dict=oe.dict:=by
  let#[c,dt,da,sl]:=oe;have:da=Data.fields vs:=hd;subst this;exact#[Z,Z]
 have ups:∀b o,s.heap.get? b\o->(∀vs,o.data≠Data.fields vs)->∃sl,(((bX.push { cls:=Value.type "traceback",data:=Data.fields qd }).update e (Obj.mapFields λx=>x.setIfInBounds 1 (Value.ref bX.objs.size))).update bX.objs.size (Obj.mapFields λx=>x.setIfInBounds 3 Value.none)).get? b=some { cls:=o.cls,dict:=o.dict,data:=o.data,slots:=sl }:=λb o q nf=>by
  let#[sl,q1]:=oN.right.right b o q;apply#[sl,yK b _ (λz=>?_) (dQ b o q) q1];subst z;rw[he] at q;cases q;exact nf vs hd
 apply h _ (λb o q=>yK b o (λz=>?_) (λz=>?_) (h9 b o q)) (Heap.FunFrames.of_keeps (λb o q nf=>?_) hl) #[_,_,bX.objs.size,_,_,Gn,#[TK.1,?_],ug,?_,TR,Gx,FY,zh,?_,TK.2] ups
 ·subst z;rw[hen] at q;cases q
 ·subst z;rw[TR] at q;cases q
 ·let#[sl,q1]:=ups b o q nf;exact#[_,q1,Z]
 ·rw[Array.getElem?_setIfInBounds];simpa using h0
 ·simp[hsz]
 simp[yS]
theorem xJ.less{dd:Option Addr}{h:Heap}(f:xJ base (env::outer) e cls a0 dd h):xJ base outer e cls a0 dd h:=#[f.1,f.2.1,f.2.2.1.2.2,f.2.2.2]
theorem ep_{dd:Option Addr}(Gm:A.frames\(env::outer))(hf:env.frame\L)(wZ:xJ base (env::outer) e cls a0 dd s.heap)
  (hQ:∀h',xJ base (env::outer) e cls a0 dd h'->s.heap.UpToSlots h'->Q () { s with heap:=h' }):wpAny M A (noteFrame (Value.ref e) env) (λ_ iB=>wpAny M A (setFlight (Value.ref e) none) Q E iB) E s:=by
 let#[f1,f2,f3,oe,vs,T,oT,ts,he,#[hc,h0],hd,h1,hnT,Gx,hT,NJ,h3,Bn]:=wZ;unfold noteFrame;rw[hf];dsimp only;apply aq (wpAny_field he hd h1 ?_);rw[aH Z2];apply aq (wpAny_field hT NJ h3 ?_);rw[aB (by simp[rawInt])];apply aq (wpAny_setField hT NJ (Array.getElem?_eq_some_iff.mp h3).1 ?_);have other:∀b,b≠T->(s.heap.update T (Obj.mapFields λx=>x.setIfInBounds 3 Value.none)).get? b=s.heap.get? b:=λb hb=>mV _ _ hb.symm
 have E6:∀b o,s.heap.get? b\o->(∀vs,o.data≠Data.fields vs)->b≠T:=λb o q nf z=>by
  subst z;rw[hT] at q;cases q;exact nf ts NJ
 apply pK (base:=base) (s:={ s with heap:=s.heap.update T (Obj.mapFields λx=>x.setIfInBounds 3 Value.none) }) Gm (Heap.FunFrames.of_keeps (λb o q nf=>#[o,(other b (E6 b o q nf)).trans q,Z]) f3) hf ((other e Gx.symm).trans he) (λb o q=>(other b (λz=>?_)).trans (f1 b o q)) f2 hd (Array.getElem?_eq_some_iff.mp h1).1 h0 λh' g1 g2 g3 g4=>?_
 ·subst z;rw[hnT] at q;cases q
 apply hQ h' #[g1,f2,g2,?_] λb o q nf=>g4 b o ((other b (E6 b o q nf)).trans q) nf;rw[hc,Bn] at g3;exact g3
theorem fZ_{dd:Option Addr}(Gm:A.frames\(env::outer))(hf:env.frame\L)(wZ:xJ base (env::outer) e cls a0 dd s.heap)
  (hQ:∀h',xJ base outer e cls a0 dd h'->s.heap.UpToSlots h'->Q () { s with heap:=h' }):wpAny M A (leaving env (Value.ref e)) Q E s:=by
 unfold leaving;exact aq (ep_ Gm hf wZ λh' f u=>hQ h' f.less u)
end
end L2
namespace L2
open PySem PySem.Spec PySem.Calls PyProof.Rows PySem.W
section
variable{prog:Ad}{w:Af}{A:Ag}{E:Aa->Ab->Prop}{h:Heap}{g:Array GenState}{d:Drawn}{t:Nat}{os:OsState}{nm q:Str}{C N f:Addr}{bs bm WJ:aj}{NI:Bool}{sn:ae}{sub:aj}{ab:Bool}{col:Option Bool}{dd:Option Addr}{k0 k1 k2 k3 k5:Option Aa}{B newId A5:String}{K:af}{rest:aj}
end
end L2
namespace L2
open PySem PySem.Spec PySem.Calls PyProof.Rows PySem.W Builtin Builtin.ObjectAttr
def BB(C CE:Addr):aj:=[.ref C,.ref CE,.type "ValueError",.type "Exception",.type "BaseException",.type "object"]
section
variable{prog:Ad}{w:Af}{A:Ag}{E:Aa->Ab->Prop}{s:Ab}{K:af}{x C CE:Addr}{ox:Obj}{od:Option Obj}{name:Str}{tk:Tok}{v:Aa}{cd:ClassData}
end
end L2
namespace L2
open PySem PySem.Spec PySem.Calls PyProof.Rows PySem.W
section
variable{M:Model}{A:Ag}{E:Aa->Ab->Prop}{s:Ab}{env:Env}{nm q:Str}{C N:Addr}{bs bm:aj}{NI:Bool}{sn:ae}{sub:aj}{ab:Bool}{col:Option Bool}{dd:Option Addr}{k0 k1 k2 k3 k5:Option Aa}{newId:String}
end
end L2
namespace L2
open PySem PySem.Spec PySem.Calls PyProof.Rows PySem.W
def BC(K:af)(C:Addr)(WJ:aj)(newId:String):Bool:=
 match K.lookup C with
 |some ⟨.type "type",_,.cls cd,sl⟩=>
  match cd.mro,sl.toList with
  |.ref C'::bm,[_,_,_,_,some (.builtin n),_]=>C' == C&&n == newId&&!cd.hasDel&&tailIn K WJ bm&&nsOkIn K cd.ns
  |_,_=>false
 |_=>false
def P1(K:af)(C CE:Addr):Bool:=
 match clsIn K C with
 |some cd=>cd.mro == BB C CE&&cd.hasDict
 |none=>false
structure ExO (K:af) (C CE:Addr):Prop where
 kx:Ra K C
 ex:BC K C bmV "ValueError.__new__"=true
 es:findIn K (.ref C) "__setattr__"\some (.builtin "object.__setattr__")
 cl:P1 K C CE=true
structure ExF (K:af) (C:Addr) (f:Str):Prop where
 tk:takerIn K C f\none
 fd:findIn K (.ref C) f\none
structure ExB (K:af) (CE:Addr):Prop where
 sp:specialIn K (.ref CE) "__getattribute__"\some (.builtin "type.__getattribute__")
 rd:readsIn K CE (.type "type")=true
 fc:findCls K (.ref CE) (.type "type") "__init__"\.val (.builtin "ValueError.__init__")
section
variable{P:Ad}{w:Af}{H:Hp}{h:Heap}{e C a0 d:Addr}{dd:Option Addr}{fs:List (Str × V)}
end
section
variable{X:Cx}{C CE:Addr}{x f:Str}{p apos pos pos':Pos}{o e value:Expr}{es:List Expr}{ta tv:TE}{t:TA}
end
end L2
namespace L2
open PySem PySem.Spec PySem.Calls PyProof.Rows PySem.W
def Cr(P:Ad)(w:Af):jF:=λl H s E e s'=>
 ∃a cls H' B a0 dd,e=Value.ref a/\s'.os=s.os/\AllBare s'.gens/\Un (h_ l) [] H H' s.heap s'.heap/\eG P w H' s'.heap/\xJ B l a cls a0 dd s'.heap/\DW B l H' s.heap s'.heap/\E cls dd H'
section
variable{X:Cx}{pins:List (Addr × Obj)}{σ:St}{H H':Hp}{s s1:Ab}{B h:Heap}{a:Addr}{cls a0:Aa}{dd:Option Addr}{E:XK}
theorem fV_(I:Inv X pins σ H s)(hex:X.ex=[])(os:s1.os=s.os)(bare:AllBare s1.gens)(un:Un (h_ X.stack) [] H H' s.heap h)(aI:eG X.prog X.w H' h)(i:DW B X.stack H' s.heap h)(ff:h.FunFrames B X.stack)(up:h.UpToSlots s1.heap)
  (fl:xJ B X.outer a cls a0 dd s1.heap) (hE:E cls dd H'):Cr X.prog X.w X.outer X.jk X.cX E (.ref a) s1:=by
 let XY:=i9_ un ff i fl.1 up;let MV:=h8_ aI (iR_ I un) i fl.1;have I1:Inv X pins σ H' s1:=I.zE os XY MV bare (λb z=>absurd z Z2);let bs:=I1.base;rw[hex] at bs;apply#[a,cls,H',B,a0,dd,Z,I1.os,I1.bare,bs,I1.aI,fl,λb o e hb c=>?_,hE]
 have nL:b≠X.env.locals:=by
  rcases c with z|⟨o0,z⟩
  ·intro q;rw[q,I1.free] at z;cases z
  exact dZ (jj (cy z) I.ok.above)
 apply iH_ aI un i fl.1 b o e (λhm=>?_) (c.imp id λ⟨o0,z⟩=>I.base.there b o0 z (by rw[hex];simp));rcases cQ.mp (I.iZ b hm) with z|z
 ·exact nL z
 exact hb z
end
section
variable{P:Ad}{w:Af}{K:af}{mg:Str->Option Aa}{base:Heap}{N:ae}{qual:Str}{scope:Scope}{f:Addr}{cd:Aa}{A:Ag}{outer:List Env}{s:Ab}{H:Hp}{E:XK}
end
section
variable{X:Cx}{x:Str}{C f:Addr}{fd:Ae}{ps:ae}{sp:Sp}{k:Nat}{np cO pos:Pos}{e:Expr}{es:List Expr}{t:TA}{E:XK}
end
end L2
namespace L2
open PySem PySem.Spec PySem.Calls PyProof.Rows PySem.W
section
variable{X:Cx}{i:Nat}{x n:Str}{D C:Addr}{np A9 pos:Pos}{B8:Stmt}{rB body:List Stmt}{tb:XK->TS}{ts:TS}{rest:List ExceptHandler}
end
end L2
namespace L2
open PySem PySem.Spec PySem.Calls PyProof.Rows PySem.W
section
variable{P:Ad}{w:Af}{K:af}{mg:Str->Option Aa}{base:Heap}{N:ae}{qual:Str}{scope:Scope}{f:Addr}{cd:Aa}{A:Ag}{outer:List Env}{s:Ab}{H:Hp}{E:XK}
end
section
variable{X:Cx}{i:Nat}{x x2 n:Str}{D C D2 C2:Addr}{np A9 np2 Te pos:Pos}{B8 c₀:Stmt}{rB Lv body:List Stmt}{tb:XK->TS}{ts ts2:TS}
end
section
variable{X:Cx}
end
end L2
namespace L2
open PySem PySem.Spec PySem.Calls PyProof.Rows PySem.W
section
variable{X:Cx}{i:Nat}{x n:Str}{D:Addr}{ok:Addr->Prop}{np A9 pos:Pos}{B8:Stmt}{rB body:List Stmt}{tb:XK->TS}{ts:TS}
end
end L2
namespace L2
open PySem PySem.Spec PySem.Calls PyProof.Rows PySem.W
end L2
namespace L2
open PySem PySem.Spec PyProof.Rows
section
variable{X:Cx}
end
section
variable{X:Cx}{k:Nat}{ps:ae}{x:Str}{p pos:Pos}{e:Expr}{es:List Expr}{tn:TE}{t:TA}
end
end L2
namespace L2
open PySem PySem.Spec PyProof.Rows PySem.W
structure Hh (ps cY:ae) (scope:Scope):Prop where
 nd:(ps++cY).Nodup
 kind:scope.kind=.function
 co:scope.isCoroutine=false
 gen:scope.isGenerator=false
 par:∀p∈ps,scope.names.lookup p\.local
 fv:∀x∈cY,scope.names.lookup x\.free
 all:∀x,scope.names.lookup x\.free->x∈cY
 tQ:∀x∈scope.names,x.2≠.cell
def Di(CX:jF)(P:Ad)(w:Af)(K:af)(mg:Str->Option Aa)(base:Heap)(N:ae)(qual:Str)(scope:Scope)(f:Addr)(cd:Aa)(cl:List (Str × Addr))(A:Ag)(outer:List Env)(s:Ab)(H:Hp)(E:XK):Cx where
 prog:=P
 w:=w
 K:=K
 mg:=mg
 base:=base
 A:=A.deeper (envX qual scope s.heap.objs.size f cd cl)
 N:=N
 cX:=s
 jk:=H
 env:=envX qual scope s.heap.objs.size f cd cl
 outer:=outer
 stack:=envX qual scope s.heap.objs.size f cd cl::outer
 ex:=[]
 calm:=true
 fn:=λ_=>false
 pn:=[]
 xe:=λe s'=>wpAny (model P w) (A.deeper (envX qual scope s.heap.objs.size f cd cl)) (leaving (envX qual scope s.heap.objs.size f cd cl) e) (λ_ qj=>CX outer H s E e qj) (λe' qj=>CX outer H s E e' qj) s'
theorem U_{x:Str}{u:Aa}:∀{l:List (Str × Aa)},(l.map (·.1)).Nodup->(x,u)∈l->l.lookup x\u
 |(y,v)::l,nd,h=>by
  let n:=oY.mp nd;rcases cQ.mp h with e|h
  ·cases e;simp[List.lookup]
  have ne:x≠y:=λz=>n.1 (by rw[<- z];exact bJ.mpr #[_,h,Z]);have:(x == y)=false:=⇑ne
  rw[uO,this];exact U_ n.2 h
theorem Uk:∀(ps:ae) (us:aj),((ps.zip us).map (·.1)).Sublist ps
 |[],_=>by simp
 |_::_,[]=>by simp
 |p::ps,u::us=>by
  simp only[List.zip_cons_cons,eD];exact (Uk ps us).cons₂ p
theorem d9_{ps:ae}{us:aj}{i:Nat}{x:Str}{u:Aa}(nd:ps.Nodup)(h1:ps[i]? = some x)(h2:us[i]? = some u):(ps.zip us).reverse.lookup x\u:=by
 apply U_ ?_ (List.mem_reverse.mpr (dI (i:=i) ?_))
 ·rw[List.map_reverse];apply (List.reverse_perm _).nodup_iff.mpr (nd.sublist ?_);exact Uk ps us
 rw[List.getElem?_zip_eq_some];exact#[h1,h2]
structure Kz (cY:ae) (cl:List (Str × Addr)) (gs:ag) (h:Heap):Prop where
 inj:∀x y c,cl.lookup x\c->cl.lookup y\c->x=y
 has:∀x∈cY,∃c,cl.lookup x\c
 all:∀x c,cl.lookup x\c->∃v,h.IsCell c v
 is:∀(i:Nat) x v,cY[i]? = some x->gs[i]? = some v->∃c u,cl.lookup x\c/\RelV v u/\h.IsCell c (some u)
theorem IsCell.keeps{h h':Heap}{c:Addr}{v:Option Aa}(x:h.IsCell c v)(k:∀o,h.get? c\o->h'.get? c\o):h'.IsCell c v:=let #[o,e,d]:=x;#[o,k o e,d]
theorem jF_{CX:jF}{P:Ad}{w:Af}{K:af}{mg:Str->Option Aa}{base:Heap}{ps cY:ae}{qual:Str}{scope:Scope}{f:Addr}{cd:Aa}{cl:List (Str × Addr)}{A:Ag}{outer:List Env}{s:Ab}{H:Hp}{E:XK}{us:aj}{vs gs:ag}{h1:Heap}{tk:Nat}
  (S:Hh ps cY scope) (hd:A.handled=none) (e0:iM P w K mg base A outer s H) (hl:vs.length=ps.length) (hg:gs.length=cY.length) (r:Vals vs us) (C:Kz cY cl gs s.heap) (fc:∀x c,cl.lookup x\c->H c=none)
  (ns:h1.Ns s.heap.objs.size λx=>(ps.zip us).reverse.lookup x) (k:∀b o,s.heap.get? b\o->h1.get? b\o) :
  Inv (Di CX P w K mg base (ps++cY) qual scope f cd cl A outer s H E) [] (vs.map some++gs.map some) H { s with heap:=h1,toks:=tk }:=by
 have wG:∀b:Addr,b∉(Di CX P w K mg base (ps++cY) qual scope f cd cl A outer s H E).ex:=λb z=>absurd (show b∈([]:ai) from z) Z2
 apply#[#[e0.mod,S.kind,Z,Z,bj _,C.inj,λy hy=>?_,λy c h=>(by cases h),λ_=>hd,Around.frames_deeper e0.frames,.inr #[Z,Z],λb z=>absurd z (wG b),e0.bs,e0.uI,λb _ _=>wG b,λb z=>absurd z (wG b),e0.fY,e0.xk],
  rfl,e0.bare,Un.kept k,#[_,ns,λi y v gU h2 h3=>?_],λy c h=>?_,e0.aI.fresh (bj _),fc,λp hp=>absurd (show p∈([]:List (Addr × Obj)) from hp) Z2,e0.aI.kept k,?_]
 ·have hy:scope.names.lookup y\.cell∨scope.names.lookup y\.free:=hy;rcases hy with hy|hy
  ·exact absurd Z (S.tQ _ (p5 hy))
  exact C.has y (S.all y hy)
 ·have gU:(ps++cY)[i]? = some y:=gU;by_cases hi:i<ps.length
  ·rw[zS hi] at gU;rw[zS (by simpa [hl] using hi),dS] at h2;let#[v',hv,e]:=Option.map_eq_some_iff.mp h2;cases e;let#[u,hu,rv]:=r.get hv;apply#[u,rv,.inl #[S.par y (dI gU),?_]];have Jd:ps.Nodup:=(List.nodup_append.mp S.nd).1;show (ps.zip us).reverse.lookup y\u;exact d9_ Jd gU hu
  rw[xT Z1] at gU;rw[xT (by simp[hl];omega),dS,aA,hl] at h2;let#[v',hv,e]:=Option.map_eq_some_iff.mp h2;cases e;let#[c,u,e1,rv,ce]:=C.is _ _ _ gU hv;exact#[u,rv,.inr #[.inr (S.fv y (dI gU)),c,e1,IsCell.keeps ce λo e=>k _ _ e]]
 ·let#[v,ce]:=C.all y c h;exact#[v,IsCell.keeps ce λo e=>k _ _ e]
 show _=(ps++cY).length;rw[fB,fB,aA,aA,hl,hg]
theorem kx_{CX:jF}{P:Ad}{w:Af}{K:af}{mg:Str->Option Aa}{base:Heap}{k:Nat}{ps cY:ae}{qual:Str}{params:Arguments}{body:PySem.Expr}{scope:Scope}{f c':Addr}{pm j2:Aa}{cl:List (Str × Addr)}{A:Ag}{outer:List Env}{s:Ab}{H:Hp}{Q:VK}{E:XK}{us:aj}{vs gs:ag}{t:TE}
  (S:Hh ps cY scope) (hr:a_ (k+1) A) (e0:iM P w K mg base A outer s H) (hf:s.heap.get? f\kla_obj "<lambda>" qual params body scope cl pm c' j2) (hZ:s.heap.CodeRec (.ref c') qual)
  (hb:bindArgs (kla_fn "<lambda>" qual params body scope cl pm (.ref c') j2) #[us,[]]=pure (ps.zip us)) (hl:vs.length=ps.length) (hg:gs.length=cY.length) (r:Vals vs us) (C:Kz cY cl gs s.heap) (fc:∀x c,cl.lookup x\c->H c=none)
  (ht:a_ k (A.deeper (envX qual scope s.heap.objs.size f (.ref c') cl))->PE (Di CX P w K mg base (ps++cY) qual scope f (.ref c') cl A outer s H E) body t) (hq:t (vs.map some++gs.map some) H Q) :
  codeAny (model P w) A (.call (.ref f) #[us,[]]) (CR CX outer P w H s Q E) s:=by
 have lim:s.heap.NoLimit:=e0.mod.nolimit.keeps λb o e=>(e0.bs b o e).1;apply kla_callFunE hr.depth hf Z S.co S.gen Z hZ ?_;rw[hb];apply aU (wpAny_newFunctionEnv S.tQ (λx hx=>?_) (λh1 ns sb=>?_) S.kind)
 ·exact S.par x.1 (List.of_mem_zip hx).1
 have k1:∀b o,s.heap.get? b\o->h1.get? b\o:=λb o e=>sb.extBut b o (dZ (cy e)) (cj _ e);apply#[lim.keeps k1,?_];show codeAny _ _ (.expr body (envX qual scope s.heap.objs.size f (.ref c') cl)) _ _;let I:=jF_ (CX:=CX) (qual:=qual) (f:=f) (cd:=.ref c') (E:=E) (tk:=s.toks+(ps.zip us).length) S hr.hd e0 hl hg r C fc ns k1;apply kla_codeExpr (wpAny_mono (ht (hr.deeper _) [] _ _ H _ I hq) (λv s' hs=>?_) λe s' hs=>hs);let#[x,H',J,rv,q]:=hs;exact#[x,H',J.os,J.bare,J.base,J.aI,rv,q]
end L2
namespace L2
open PySem PySem.Spec PyProof.Rows PySem.W
def jT(f:Addr)(qual:Str)(params:Arguments)(body:PySem.Expr)(scope:Scope)(cl:List (Str × Addr))(c':Addr):HO:=.ext λh=>∃pm j2,h.get? f\kla_obj "<lambda>" qual params body scope cl pm c' j2
def zw(c':Addr)(qual:Str):HO:=.ext λh=>∃o vs t,h.get? c'\o/\o.data=.fields vs/\vs[1]? = some (.str qual t)
inductive yi (P:Addr) (qual:Str) (params:Arguments) (body:PySem.Expr) (scope:Scope) (pos:Pos) (cl:List (Str × Addr)) (H:Hp) (Q:VK):Prop
 |mk:∀ps,H P\.tbl ps->TriplesOk ps.toList->((codeAmong pos ps.toList=none/\∀c' f,H c'=none->H f=none->c'≠f->Q (.ref f) (upd (upd (upd H P (.tbl (ps++(List.toArray [rawInt pos.line,rawInt pos.col,.ref c'])))) c' (zw c' qual)) f (jT f qual params body scope cl c')))∨∃c',codeAmong pos ps.toList\.ref c'/\∀f,H f=none->Q (.ref f) (upd H f (jT f qual params body scope cl c')))->yi P qual params body scope pos cl H Q
def Ek(P:Addr)(qual:Str)(params:Arguments)(body:PySem.Expr)(scope:Scope)(pos:Pos)(cl:List (Str × Addr)):TE:=λ_ H Q=>yi P qual params body scope pos cl H Q
theorem SB{X:Cx}{params:Arguments}{body:PySem.Expr}{scope:Scope}{pos:Pos}{cl:List (Str × Addr)}{c P:Addr}(NH:defaultsOf params X.env=([],[]))(xf:closureFor scope X.env=pure cl)(zi:X.env.code=.ref c)(C:CodeHd X.base c P)(uj:X.base.BuiltinsAt X.mg P) :
  PE X (.Lambda params body scope pos) (Ek P (X.env.qual++"<lambda>") params body scope pos cl):=by
 intro pins s σ H Q I h;let#[ps,hP,ht,h]:=h;have T4:s.heap.get? P\tabObj ps:=I.aI P _ hP
 have TC:H mainGlobals=none:=by
  let#[o,_,_,e,_]:=I.mod.glob;exact (I.bs _ _ e).2
 apply kla_eval NH ?_;rcases h with⟨hn,q⟩|⟨c',hf,q⟩
 ·apply kla_makeFunction xf I.ok.glob (I.mod.glob.keeps I.bk) zi (C.keeps I.bk) T4 ht hn (λz=>by rw[z,hP] at TC;cases TC) (uj.keeps I.bk) λc' j2 h' tk hx Nu dQ MS CL=>?_;have fz:s.heap.objs.size<=h'.objs.size:=nC Nu (Nat.le_of_lt dQ);have nc:H c'=none:=I.aI.fresh Nu;have nf:H h'.objs.size=none:=I.aI.fresh fz;have cf:c'≠h'.objs.size:=dZ dQ;have Pc:P≠c':=bE hP nc;have Pf:P≠h'.objs.size:=bE hP nf
  have old:∀{b u},H b\u->b≠P->upd (upd (upd H P (.tbl (ps++(List.toArray [rawInt pos.line,rawInt pos.col,.ref c'])))) c' (zw c' (X.env.qual++"<lambda>"))) h'.objs.size (jT h'.objs.size (X.env.qual++"<lambda>") params body scope cl c') b\u:=λ{b u} e n=>by
   rw[aD (bE e nf),aD (bE e nc),aD n];exact e
  have tL:∀{b u},H b\u->(∀ps,u≠.tbl ps)->b≠P:=λ{b u} e n z=>by
   rw[z,hP] at e;cases e;exact n _ Z
  have kp:∀b o,b≠P->s.heap.get? b\o->(h'.push (kla_obj "<lambda>" (X.env.qual++"<lambda>") params body scope cl ((X.mg "__name__").getD .none) c' j2)).get? b\o:=λb o n e=>cj _ (hx b o n e);apply#[.ref h'.objs.size,_,I.un (t':=tk) #[λb o e n _ _=>kp b o (λz=>by rw[z,hP] at n;cases n) e,λb o e n _ _=>#[o.slots,kp b o (λz=>by rw[z,hP] at n;cases n) e],λb o e n _=>?_,λb o e _=>?_,λb xs e=>old e (tL e Z2),λb o u e=>old e (tL e Z2),λb qs e=>?_] (λb u e=>?_),Z,q c' h'.objs.size nc nf cf]
  ·let lt:=cy e;rw[aD (dZ (jj lt fz)),aD (dZ (jj lt Nu)),aD (λz=>by rw[z,hP] at n;cases n)];exact n
  ·by_cases z:b=P
   ·subst z;exact#[_,cj _ CL]
   exact#[o,kp b o z e]
  ·by_cases z:b=P
   ·subst z;rw[hP] at e;cases e;exact#[_,by rw[aD Pf,aD Pc,au]]
   exact#[#[],by rw[Array.append_empty];exact old e z]
  by_cases z1:b=h'.objs.size
  ·subst z1;rw[au] at e;cases e;exact#[#[_,_,eh _ Z],#[_,eh _ Z],λh1 h2 ⟨pm,cv,e1⟩ k=>#[pm,cv,k _ e1]]
  rw[aD z1] at e;by_cases z2:b=c'
  ·subst z2;rw[au] at e;cases e;let#[c2,oc,vs,t,ec,FX,hd,hv]:=MS;cases ec;exact#[#[oc,vs,t,cj _ FX,hd,hv],#[_,cj _ FX],λh1 h2 ⟨o,vs,t,e1,r⟩ k=>#[o,vs,t,k _ e1,r]]
  rw[aD z2] at e;by_cases z3:b=P
  ·subst z3;rw[au] at e;cases e;exact cj _ CL
  rw[aD z3] at e;apply (I.aI b u e).d5 (λd v hd e1=>kp d v ?_ e1) (λd e1=>old e1 (tL e1 Z2)) λd xs e1=>old e1 (tL e1 Z2);rcases hd with rfl|hd
  ·exact z3
  exact tL hd Z2
 apply kla_makeFunctionHit xf I.ok.glob (I.mod.glob.keeps I.bk) zi (C.keeps I.bk) T4 ht hf (uj.keeps I.bk) λj2 h' tk hk hsz=>?_;have nf:H h'.objs.size=none:=I.aI.fresh hsz;apply#[.ref h'.objs.size,_,I.laid (t':=tk) (λb o e=>cj _ (hk b o e)) hsz ?_,Z,q _ nf];exact#[#[_,_,eh _ Z],#[_,eh _ Z],λh1 h2 ⟨pm,cv,e1⟩ k=>#[pm,cv,k _ e1]]
end L2
namespace L2
open PySem PySem.Spec PyProof.Rows PySem.W
theorem wz{P:Ad}{w:Af}{K:af}{mg:Str->Option Aa}{base:Heap}{N:ae}{qual:Str}{scope:Scope}{f:Addr}{cd:Aa}{cl:List (Str × Addr)}{A:Ag}{outer:List Env}{s:Ab}{H:Hp}{E:XK}:xu (Cr P w) (Di (Cr P w) P w K mg base N qual scope f cd cl A outer s H E) E:=by
 intro pins σ H1 s1 e s' I hc;let#[a,cls,H',B,a0,dd,rfl,os,bare,un,aI,fl,i,hE]:=hc;apply fZ_ (base:=B) I.ok.frames Z fl λh1 fl1 up=>?_;exact fV_ (s1:={ s' with heap:=h1 }) I Z os bare un aI i fl.2.2.1 up fl1 hE
section
variable{cs:List (Addr × Obj)}{H H':Hp}{b:Addr}{o:Obj}{u:HO}
variable{P:Ad}{w:Af}{h:Heap}
end
section
variable{X:Cx}{pins:List (Addr × Obj)}{σ:St}{H:Hp}{s s':Ab}{cs:List (Addr × Obj)}
def iX(P:Ad)(w:Af)(K:af)(mg:Str->Option Aa)(base:Heap)(k:Nat)(qual:Str)(params:Arguments)(body:PySem.Expr)(scope:Scope)(ps cY:ae)(sp:ag->ag->Hp->VK->XK->Prop):Prop:=
 ∀(A:Ag) (outer:List Env) (s:Ab) (H:Hp) (f c':Addr) (pm j2:Aa) (cl:List (Str × Addr)) (us:aj) (vs gs:ag) (Q:VK) (E:XK),a_ k A->iM P w K mg base A outer s H->s.heap.get? f\kla_obj "<lambda>" qual params body scope cl pm c' j2->s.heap.CodeRec (.ref c') qual->
  vs.length=ps.length->gs.length=cY.length->Vals vs us->Kz cY cl gs s.heap->(∀x c,cl.lookup x\c->H c=none)->sp vs gs H Q E->codeAny (model P w) A (.call (.ref f) #[us,[]]) (CR (Cr P w) outer P w H s Q E) s
theorem yN{P:Ad}{w:Af}{K:af}{mg:Str->Option Aa}{base:Heap}{k:Nat}{qual:Str}{params:Arguments}{body:PySem.Expr}{scope:Scope}{ps cY:ae}{sp:ag->ag->Hp->VK->XK->Prop}(S:Hh ps cY scope)
  (hb:∀pm c' j2 cl us,us.length=ps.length->bindArgs (kla_fn "<lambda>" qual params body scope cl pm (.ref c') j2) #[us,[]]=pure (ps.zip us))
  (fV:∀(A:Ag) (outer:List Env) (s:Ab) (H:Hp) (f:Addr) (cd:Aa) (cl:List (Str × Addr)) (vs gs:ag) (Q:VK) (E:XK),a_ k (A.deeper (envX qual scope s.heap.objs.size f cd cl))->sp vs gs H Q E->xu (Cr P w) (Di (Cr P w) P w K mg base (ps++cY) qual scope f cd cl A outer s H E) E->
   ∃t,PE (Di (Cr P w) P w K mg base (ps++cY) qual scope f cd cl A outer s H E) body t/\t (vs.map some++gs.map some) H Q):!iX (k+1) qual params body scope ps cY sp:=by
 intro A outer s H f c' pm j2 cl us vs gs Q E hr e0 hf hZ hl hg r C fc kD;let#[t,ht,hq]:=fV A outer s H f (.ref c') cl vs gs Q E (hr.deeper _) kD wz;exact kx_ S hr e0 hf hZ (hb pm c' j2 cl us (by rw[<- r.length];exact hl)) hl hg r C fc (λ_=>ht) hq
end
end L2
namespace L2
open PySem PySem.Spec PyProof.Rows PySem.W
structure K3 (cY:ae) (cl:List (Str × Addr)) (cs:List (Addr × Obj)) (gs:ag):Prop where
 len:gs.length=cY.length
 inj:∀x y c,cl.lookup x\c->cl.lookup y\c->x=y
 has:∀x∈cY,∃c,cl.lookup x\c
 all:∀x c,cl.lookup x\c->∃o v,cs.lookup c\o/\o.data=.cell v
 is:∀(i:Nat) x v,cY[i]? = some x->gs[i]? = some v->∃c o u,cl.lookup x\c/\cs.lookup c\o/\o.data=.cell (some u)/\RelV v u
section
variable{X:Cx}{k:Nat}{x:Str}{p pos:Pos}{tn:TE}{qual:Str}{params:Arguments}{body:PySem.Expr}{scope:Scope}{cY ps:ae}{sp':ag->ag->Hp->VK->XK->Prop}{E:XK}
end
section
variable{X:Cx}{k:Nat}{x:Str}{p pos:Pos}{e:PySem.Expr}{es:List PySem.Expr}{ta:TA}{cY ps:ae}{sp:Sp}{f:Addr}{fd:Ae}{cl:List (Str × Addr)}{is:List Nat}
end
end L2
namespace L2
open PySem PySem.Spec PyProof.Rows PySem.W
theorem hZ_{P:Ad}{w:Af}{K:af}{mg mb:Str->Option Aa}{CX:jF}{k:Nat}{fa a:Addr}{ts:ai}{fd:Ae}{x:Str}{sp:Sp}{aZ:Ab}{vs:aj}{ns:List Int}
  (hT:∀T∈ts,K.lookup T=none) (eT:∀T∈ts,aZ.heap.get? T\tabObj #[]) (Gs:∀T∈ts,isCodeTable aZ.heap T)
  (KX:K.In aZ.heap) (Bd:aZ.heap.Ns mainGlobals mg) (hb:aZ.heap.Ns builtinsNs mb) (hbb:∀x:Str,x≠"__name__"->mb x=bootBuiltins x) (Ng:aZ.heap.NoLimit) (hg:aZ.gens=#[])
  (ha:aZ.heap.get? a=some { cls:=.type "list",data:=.seq vs.toArray }) (hi:IntsAre vs ns) (hl:ns.length<=sizeLine) (hr:a_ k callerA)
  (uj:∃bm ob,mg "__builtins__"\.ref bm/\bm≠builtinsNs/\aZ.heap.get? bm\ob/\ob.cls=.type "module"/\ob.dict\builtinsNs/\ob.data=.plain)
  (F:∀base:Heap,K.In base->base.Ns mainGlobals mg->(∀T∈ts,base.BuiltinsAt mg T)->!ak CX k fa fd [x] sp) (Gu:∀(s:Ab) (u:Aa),BindsTo s fd #[[u],[]] [(x,u)])
  (kD:∀H:Hp,(∀T∈ts,H T\.tbl #[])->dM K H a (ns.map V.int)->sp [.ref a] H (λv _=>v=.bl true) λ_ _ _=>False)
  (NX:∀H e s',CX [] H aZ (λ_ _ _=>False) e s'->False) :
  codeAny (model P w) callerA (.call (.ref fa) #[[.ref a],[]]) (λr s'=>r=.ok (.ret (.bool true))/\OldK aZ.heap s'.heap/\s'.os=aZ.os/\AllBare s'.gens) aZ:=by
 let rv:=Vb hi;let Mp:=hi.length
 have aT:∀{b},b∈ts->b≠a:=λ{b} hb z=>by
  have:=eT b hb;rw[z,ha] at this;cases this
 have core:∀H:Hp,(∀b,H b=none∨(b∈ts/\H b\.tbl #[])∨(b∉ts/\∃o xs,H b\.frz o (.lst xs)))->(∀T∈ts,H T\.tbl #[])->dM K H a (ns.map V.int)->eG P w H aZ.heap->(∀b,H b≠none->b=a∨b∈ts)->(H a≠none->K.lookup a=none)->
   codeAny (model P w) callerA (.call (.ref fa) #[[.ref a],[]]) (λr s'=>r=.ok (.ret (.bool true))/\OldK aZ.heap s'.heap/\s'.os=aZ.os/\AllBare s'.gens) aZ:=by
  intro H hO hHT hS aI hA hK;have ji:∀{b:Addr} {o:Obj},aZ.heap.get? b\o->H b=none->(iE aZ.heap H).get? b\o:=λe n=>j3_ e n
  have wG:∀{b:Addr} {o:Obj} {es:Array Ah} {ep:Nat},aZ.heap.get? b\o->o.data=.dict es ep->H b=none:=λ{b o es ep} e d=>by
   cases q:H b with
   |none=>rfl
   |some u=>
    rcases hA b (by rw[q];simp) with e'|e'
    ·subst e';rw[ha] at e;cases e;have d':Data.seq vs.toArray _=Data.dict es ep:=d;cases d'
    rw[eT b e'] at e;cases e;cases d
  have I_:∀{b:Addr} {m:Str->Option Aa},aZ.heap.Ns b m->(iE aZ.heap H).Ns b m:=λ{b m} ⟨o,es,ep,e,d,r⟩=>#[o,es,ep,ji e (wG e d),d,r]
  have T8:K.In (iE aZ.heap H):=λb o e=>ji (KX b o e) (by
   cases q:H b with
   |none=>rfl
   |some u=>
    rcases hA b (by rw[q];simp) with e'|e'
    ·subst e';rw[hK (by rw[q];simp)] at e;cases e
    rw[hT b e'] at e;cases e)
  have hB:∀T∈ts,(iE aZ.heap H).BuiltinsAt mg T:=λT Bt=>by
   let#[bm,ob,h1,h2,h3,h4,h5,h6]:=uj
   have n1:bm≠mainGlobals:=λz=>by
    let#[o,es,ep,e,d,_]:=Bd;rw[z,e] at h3;cases h3;rw[d] at h6;cases h6
   have n2:∀{b},b∈ts->bm≠b:=λ{b} hb z=>by
    rw[z,eT b hb] at h3;cases h3;cases h6
   apply#[bm,ob,h1,h2,n1,n2 Bt,ji h3 ?_,h4,h5,h6];cases q:H bm with
   |none=>rfl
   |some u=>
    rcases hA bm (by rw[q];simp) with e'|e'
    ·subst e';rw[ha] at h3;cases h3;cases h6
    exact absurd Z (n2 e')
  have hM:Mod K mg (iE aZ.heap H):=#[T8,I_ Bd,#[mb,I_ hb,hbb],let #[mc,h1,h2]:=Ng;#[mc,I_ h1,h2]];have e0:iM P w K mg (iE aZ.heap H) callerA [] aZ H:=#[Z,hM,λb o e=>kq_ e,Nat.le_of_eq (hn_ _ _),trivial,λb hb=>absurd (show b∈([]:ai) from hb) Z2,aI,.of_eq hg];apply codeAny_mono ((F _ T8 (I_ Bd) hB).run callerA [] aZ H #[[.ref a],[]] [.ref a] [.ref a] _ _ hr e0 (Gu aZ (.ref a)) (.cons Z .nil) (kD H hHT hS)) λr s' h=>?_;cases r with
  |error e=>exact (NX H e s' h).elim
  |ok fl=>
   cases fl with
   |next=>exact False.elim h
   |brk=>exact False.elim h
   |cont=>exact False.elim h
   |ret u=>
    let#[v,H',os,bare,un,FV,r',q]:=h;have q':v=.bl true:=q;subst q';obtain rfl:u=Value.bool true:=r'
    have main:∀b o,aZ.heap.get? b\o->s'.heap.get? b\o∨(b∈ts/\o=tabObj #[]/\∃more,s'.heap.get? b\tabObj (#[]++more)):=λb o e=>by
     cases q:H b with
     |none=>exact .inl (un.keep b o e q (by intro z;exact absurd (show b∈([]:ai) from z) Z2) Z2)
     |some u=>
      rcases hO b with z|⟨zT,z⟩|⟨_,ob,xs,z⟩
      ·rw[q] at z;cases z
      ·rw[eT b zT] at e;cases e;let#[more,z]:=un.gM b _ z;exact .inr #[zT,Z,more,FV b _ z]
      let z2:=un.fZ b ob _ z;let#[e1,_]:=aI b _ z;let#[e2,_]:=FV b _ z2;rw[e] at e1;cases e1;exact .inl e2
    apply#[Z,#[λb o e=>?_,λb o e=>?_],os,bare]
    ·rcases main b o e with z|⟨zT,rfl,more,z⟩
     ·exact .inl z
     exact .inr (.inl #[Gs b zT,Z,_,_,Z,z])
    rcases main b o e with z|⟨_,_,more,z⟩
    ·exact#[_,z]
    exact#[_,z]
 cases hk:K.lookup a with
 |some o=>
  let e:=KX a o hk;rw[ha] at e;cases e;apply core (λb=>if b∈ts then some (.tbl #[]) else none) (λb=>?_) (λT h=>aH h) (.inr #[_,vs.toArray,_,hk,Z,Z,Z,by rw[cg,Mp];exact hl,by simpa using rv]) (λb u z=>?_) (λb z=>?_) λz=>absurd (aB λq=>aT q Z) z
  ·by_cases hb:b∈ts
   ·exact .inr (.inl #[hb,aH hb])
   exact .inl (aB hb)
  ·by_cases hb:b∈ts
   ·let z':=(aH hb).symm.trans z;cases z';exact eT b hb
   let z':=(aB hb).symm.trans z;cases z'
  ·by_cases hb:b∈ts
   ·exact .inr hb
   ·exact absurd (aB hb) z
 |none=>
  have T2:∀{b:Addr},b∈ts->(λb=>if b∈ts then some (.tbl #[]) else if b=a then some (HO.frz { cls:=.type "list",data:=.seq vs.toArray } (.lst (ns.map V.int))) else none) b\.tbl #[]:=λ{b} hb=>aH hb;apply core (λb=>if b∈ts then some (.tbl #[]) else if b=a then some (.frz { cls:=.type "list",data:=.seq vs.toArray } (.lst (ns.map V.int))) else none) (λb=>?_) (λT h=>aH h) (.inl (.inr #[{ cls:=.type "list",data:=.seq vs.toArray },(aB λq=>aT q Z).trans (aH Z)])) (λb u z=>?_) (λb z=>?_) λ_=>hk
  ·by_cases oQ:b∈ts
   ·exact .inr (.inl #[oQ,aH oQ])
   by_cases hb:b=a
   ·exact .inr (.inr #[oQ,_,_,(aB oQ).trans (aH hb)])
   exact .inl ((aB oQ).trans (aB hb))
  ·by_cases oQ:b∈ts
   ·let z':=(aH oQ).symm.trans z;cases z';exact eT b oQ
   by_cases hb:b=a
   ·let z':=((aB oQ).trans (aH hb)).symm.trans z;cases z';subst hb;exact#[ha,by rw[aA];exact hl,vs,_,rv,ha]
   let z':=((aB oQ).trans (aB hb)).symm.trans z;cases z'
  by_cases oQ:b∈ts
  ·exact .inr oQ
  by_cases hb:b=a
  ·exact .inl hb
  exact absurd ((aB oQ).trans (aB hb)) z
theorem fW_{K:af}{T:Addr}(h:T∉K.map (·.1)):K.lookup T=none:=by
 induction K with
 |nil=>rfl
 |cons p K ih=>
  let#[b,o]:=p;simp only[eD,cQ,not_or] at h;rw[uO,show (T == b)=false by simpa using h.1];exact ih h.2
theorem qN{l:PySem.W.OpenLaw}{n k:Nat}{q:Ad}{loose:ae}{XP:(Str->Option Aa)->Heap->Prop}{d:DefRec}{K:Params->af}{as ts:ai}{JQ:∀P:Params,as=(K P).map (·.1)}{CX:Af->jF}{sp:Af->Sp}{x:Str}
  (hn:l.most\n) (yZ:n<=sizeLine) (uh:d.params.defaults=[]) (hr:a_ k callerA)
  (FD:(ts.all λT=>!as.contains T)=true)
  (F:∀(w:Af) (mg:Str->Option Aa) (fa:Addr) (h:Heap),(K w.params).In h->h.Ns mainGlobals mg->mg d.name\.ref fa->
   ∃fd:Ae,(∀(s:Ab) (u:Aa),BindsTo s fd #[[u],[]] [(x,u)])/\(∀T∈ts,isCodeTable h T) /\
    ∀base:Heap,(K w.params).In base->base.Ns mainGlobals mg->(∀T∈ts,base.BuiltinsAt mg T)->ak l.prog w (K w.params) mg base (CX w) k fa fd [x] (sp w))
  (kD:∀(w:Af) (H:Hp) (a:Addr) (ns:List Int),ns.length<=n->(∀T∈ts,H T\.tbl #[])->dM (K w.params) H a (ns.map V.int)->sp w [.ref a] H (λv _=>v=.bl true) λ_ _ _=>False)
  (NX:∀(w:Af) (H:Hp) (s:Ab) (e:Aa) (s':Ab),CX w [] H s (λ_ _ _=>False) e s'->False) :
  PySem.W.WalkO q loose XP (kmHook K as JQ ts).says l.row.toRowW d [] (λf vs=>PySem.call f vs):=by
 apply WZ.j8 hn uh λw cX aZ mg mb fa o pm cd doc a vs ns G Y ho hd hZ hmg Bb hints hlen hg=>?_;have KX:(K w.params).In aZ.heap:=km_in_of Y;have eT:∀T∈ts,aZ.heap.get? T\tabObj #[]:=Y.2;let#[fd,hb,Gs,hF]:=F w mg fa _ KX G.T.g hmg;apply hZ_ (λT h=>fW_ ?_) eT Gs KX G.T.g G.T.b G.T.builtins G.T.nolimit hg Bb hints (nC hlen yZ) hr G.T.bmain hF hb (λH hO hS=>kD w H a ns hlen hO hS) λH e s'=>NX w H aZ e s';have:=List.all_eq_true.mp FD T h;rw[<- JQ w.params];simpa using this
end L2
namespace L2
open PySem PySem.Spec PyProof.Rows
section
variable{X:Cx}
end
open PySem.W in
def nj:List (Pos × Addr)->aj
 |[]=>[]
 |(p,c)::es=>rawInt p.line::rawInt p.col::.ref c::nj es
def cE(H:Hp)(T:Addr)(qual:Str):Prop:=∃es:List (Pos × Addr),H T\.tbl (nj es).toArray/\∀e∈es,H e.2\zw e.2 qual
theorem cE.same{H H':Hp}{T:Addr}{qual:Str}(s:aa H H')(h:cE H T qual):cE H' T qual:=by
 let#[es,a,b]:=h;exact#[es,s _ _ a,λe he=>s _ _ (b e he)]
theorem Uy:∀es:List (Pos × Addr),TriplesOk (nj es)
 |[]=>trivial
 |(p,c)::es=>by
  have:=Uy es;simp[nj,TriplesOk,rawInt,this]
theorem Vg:∀(es:List (Pos × Addr)) (p:Pos) (c:Addr),nj (es++[(p,c)])=nj es++[rawInt p.line,rawInt p.col,.ref c]
 |[],p,c=>rfl
 |(p',c')::es,p,c=>by
  show rawInt p'.line::rawInt p'.col::.ref c'::nj (es++[(p,c)])=_;rw[Vg es p c];rfl
theorem WA(pos:Pos):∀es:List (Pos × Addr),codeAmong pos (nj es)=none∨∃e∈es,codeAmong pos (nj es)\.ref e.2
 |[]=>.inl Z
 |(p,c)::es=>by
  by_cases h:codeAmong pos (nj ((p,c)::es))\.ref c
  ·exact .inr #[(p,c),fQ,h]
  have e:codeAmong pos (nj ((p,c)::es))=codeAmong pos (nj es):=by
   show codeAmong pos (rawInt p.line::rawInt p.col::.ref c::nj es)=_;have h:¬codeAmong pos (rawInt p.line::rawInt p.col::.ref c::nj es)=some (.ref c):=h;simp only[codeAmong,rawInt] at h ⊢;split at h
   ·exact absurd Z h
   rename_i q
   rw[aB q]
  rcases WA pos es with q|⟨x,hx,q⟩
  ·exact .inl (e.trans q)
  exact .inr #[x,fb _ hx,e.trans q]
end L2
namespace L2
open PySem PySem.Spec PyProof.Rows PySem.W jE
section
variable{X:Cx}{pins:List (Addr × Obj)}{σ:St}{H:Hp}{s:Ab}
theorem Inv.zX{h':Heap}{t':Nat}{fp:ai}{T:Addr}{ys:ag}{its:aj}{n:Nat}(I:Inv X pins σ H s)(k:∀b o,b∉fp->s.heap.get? b\o->h'.get? b\o)(hf:∀b∈fp,dh X pins H b)
  (hT:T∈fp) (hz:ys.length<=sizeLine) (r:Vals ys its) (ht:h'.get? T=some { cls:=.type "list",data:=.seq its.toArray n }):Inv X pins σ (upd H T (.lst ys)) { s with heap:=h',toks:=t' }:=by
 have fT:H T=none:=(hf T hT).1;have nf:∀b u,H b\u->b∉fp:=λb u e hb=>by rw[(hf b hb).1] at e;cases e
 have old:∀{b u},H b\u->upd H T (.lst ys) b\u:=λe=>by rw[aD (bE e fT)];exact e
 apply I.step (g':=s.gens) (d':=s.drawn) (ch:=fp) (λb hb=>?_) (λb o _ _ hc e _=>k b o hc e) (λb o _ _ hc e _=>#[o.slots,k b o hc e]) (λb o hc e n=>?_)
  (λb o hc e=>#[o,k b o hc e]) (λb ys e=>old e) (λb o u e=>old e) (λb ps e=>#[#[],by rw[Array.append_empty];exact old e]) (λm hm=>?_) (λb u e=>?_) I.bare
 ·let#[f0,f1,f2,f3,f4,f5]:=hf b hb;exact#[f3,f1,f4,f5]
 ·rw[aD (λz=>hc (by rw[z];exact hT))];exact n
 ·let#[o,es,ep,ho,r]:=hm;exact#[o,es,ep,k _ o (λhb=>(hf _ hb).2.1 Z) ho,r]
 by_cases z:b=T
 ·subst z;rw[au] at e;cases e;exact#[hz,its,n,r,ht]
 rw[aD z] at e;apply (I.aI b u e).d5 (λc v hc q=>k c v ?_ q) (λ_ q=>old q) λ_ _ q=>old q;rcases hc with z|z
 ·rw[z];exact nf b u e
 exact nf c _ z
theorem dh.at{H':Hp}{b:Addr}(f:dh X pins H b)(n:H' b=none):dh X pins H' b:=#[n,f.2]
def pf(X:Cx)(σ:St)(B:Ag)(fv:Aa)(H0:Hp)(kf:V->ay)(xs:ag):Prop:=
 ∀(pins:List (Addr × Obj)) (H:Hp) (s:Ab) (x:V) (u:Aa),Inv X pins σ H s->aa H0 H->x∈xs->RelV x u->
  wpAny (model X.prog X.w) B (call fv [u]) (EP X pins σ λv H'=>aa H H'/\∃t,v=.ref t/\H' t\.tup ((kf x).map kV)) (λ_ _=>False) s
theorem jY_{B:Ag}{fv:Aa}{a kS:Addr}{e1:Nat}{H0:Hp}{kf:V->ay}{all:ag}{Q:PUnit->Ab->Prop}{E:Aa->Ab->Prop}{body:Aa->PUnit->Sem (ForInStep PUnit)}(pR:a≠kS)(j4:pf X σ B fv H0 kf all)
  (hb:∀(u:Aa) (s:Ab) (Qb:ForInStep PUnit->Ab->Prop),wpAny (model X.prog X.w) B (call fv [u]) (λk s'=>wpAny (model X.prog X.w) B (Builtin.List.listUpdate (.ref kS) (·.push k)) (λ_ qj=>Qb (.yield ⟨⟩) qj) E s') (λ_ _=>False) s->wpAny (model X.prog X.w) B (body u ⟨⟩) Qb E s) :
  ∀(xs:ag) (us:aj) (ks:ag) (kvs:aj) (kk:List ay) (H:Hp) (s:Ab) (c:Nat),Vals xs us->(∀x∈xs,x∈all)->Inv X pins σ H s->aa H0 H->dh X pins H a->dh X pins H kS->s.heap.get? a\seqObj "list" #[] e1->s.heap.get? kS\seqObj "list" kvs.toArray c->
   Vals ks kvs->bG X.K H ks kk->kvs.length+us.length<64->
   (∀H' s' fL c',Inv X pins σ H' s'->aa H0 H'->dh X pins H' a->dh X pins H' kS->s'.heap.get? a\seqObj "list" #[] e1->s'.heap.get? kS\seqObj "list" fL.toArray c'->fL.length=kvs.length+us.length->(∃qo,Vals qo fL/\bG X.K H' qo (kk++xs.map kf))->Q ⟨⟩ s')->
   wpAny (model X.prog X.w) B (forIn us PUnit.unit body) Q E s:=by
 intro xs
 induction xs with
 |nil=>
  intro us ks kvs kk H s c rv _ I sm fa fk ha hk r t _ q;cases rv;rw[List.forIn_nil];exact aU (q H s kvs c I sm fa fk ha hk Z2 #[ks,r,by simpa using t])
 |cons x xs ih=>
  intro us ks kvs kk H s c rv hx I sm fa fk ha hk r t hz q
  obtain⟨u,us,rfl,ru,rr⟩:∃u Rg,us=u::Rg/\RelV x u/\Vals xs Rg:=by
   cases rv with
   |cons h t=>exact#[_,_,Z,h,t]
  rw[List.forIn_cons];rw[ka] at hz;apply aq (hb u s _ ?_)
  have hf:∀b∈[a,kS],dh X pins H b:=λb hb=>by
   rcases cQ.mp hb with rfl|hb
   ·exact fa
   obtain rfl:b=kS:=⇑hb
   exact fk
  let I1:=I.pinned (fp:=[a,kS]) hf (λb hb=>by
   rcases cQ.mp hb with rfl|hb
   ·exact#[_,ha,λv z=>by cases z]
   obtain rfl:b=kS:=⇑hb
   exact#[_,hk,λv z=>by cases z])
  apply wpAny_mono (j4 _ H s x u I1 sm (hx x fQ) ru) (λk s1 ⟨v,H1,J,rv,RY,tk,ev,etk⟩=>?_) λ_ _ z=>z
  have pa:(a,seqObj "list" #[] e1)∈xy [a,kS] s.heap:=by
   unfold xy;exact xS.mpr #[a,by simp,by rw[ha];rfl]
  have pk:(kS,seqObj "list" kvs.toArray c)∈xy [a,kS] s.heap:=by
   unfold xy;exact xS.mpr #[kS,by simp,by rw[hk];rfl]
  let#[NR,ZZ,_]:=J.pin _ (nA _ (nA _ pa));let#[Js,ZR,_]:=J.pin _ (nA _ (nA _ pk));have NR:s1.heap.get? a\seqObj "list" #[] e1:=NR;have Js:s1.heap.get? kS\seqObj "list" kvs.toArray c:=Js;let J0:=J.eL;let fa1:=fa.at (H':=H1) ZZ;let UM:=fk.at (H':=H1) ZR;have Fn:kvs.length<64:=by omega
  apply listUpdate_at Js Z ?_ (by rw[cg,b_];omega) (nC (Nat.le_of_eq (Array.size_push ..)) (by rw[cg,b_];omega));have yK:∀b o,b∉[kS]->s1.heap.get? b\o->(s1.heap.update kS (Obj.mapSeq (·.push k))).get? b\o:=λb o hb e=>(mV _ _ (λz=>hb (by simp[z]))).trans e;have ea:kvs.toArray.push k=(kvs++[k]).toArray:=by simp
  obtain⟨c2,CZ⟩:∃c2,(s1.heap.update kS (Obj.mapSeq (·.push k))).get? kS\seqObj "list" (kvs++[k]).toArray c2:=#[_,by rw[<- ea];exact get?_update_seq Js (·.push k)]
  have I2:Inv X pins σ H1 { s1 with heap:=s1.heap.update kS (Obj.mapSeq (·.push k)) }:=J0.iY (t':=s1.toks) (fp:=[kS]) yK (λb hb=>by
   obtain rfl:b=kS:=⇑hb
   exact UM)
  subst ev;apply ih us (ks++[.ref tk]) (kvs++[k]) (kk++[kf x]) H1 _ c2 rr (λy hy=>hx y (fb _ hy)) I2 (sm.trans RY) fa1 UM ?_ CZ (r.append (.cons rv .nil)) ?_ (by rw[fB,zQ];omega) λH' s' fL c' a1 a2 a3 a4 a5 a6 a7 a8=>?_
  ·exact yK a _ ⇑pR NR
  ·exact Paired.snoc (t.same RY) #[tk,Z,etk]
  apply q H' s' fL c' a1 a2 a3 a4 a5 a6 (by rw[a7,fB,zQ,ka];omega) ?_;let#[qo,b1,b2]:=a8;exact#[qo,b1,by simpa using b2]
end
section
variable{X:Cx}{pins:List (Addr × Obj)}{σ:St}{H:Hp}{s:Ab}{B:Ag}
theorem jC_{xs zs:ag}{kf:V->ay}{p:Array Nat}(g:Good xs.length p)(up:Up (λi j=>bL ((xs.map kf).getD i []) ((xs.map kf).getD j [])) p xs.length)(ez:zs=p.toList.map λi=>xs.getD i .non):zs.Perm xs/\zs.map kf=aX (xs.map kf):=by
 have gk:Good (xs.map kf).length p:=by rw[aA];exact g
 let asc:=OL (ks:=xs.map kf) (λi j _ _=>rfl) gk (by rw[aA];exact up)
 have perm:(p.toList.map λi=>(xs.map kf).getD i []).Perm (xs.map kf):=by
  have:=HZ gk λi=>(xs.map kf).getD i [];rwa [Ij] at this
 let es:=Qw perm asc;apply#[?_,?_]
 ·have:=HZ (n:=xs.length) g λi=>xs.getD i .non;rw[Ij] at this;rw[ez];exact this
 rw[<- es,ez,cu];apply uP λi hi=>?_;have m:i∈(List.range xs.length).toArray:=g.mem_iff.mp ⇑hi;have m:i<xs.length:=⇑m
 show kf (xs.getD i .non)=(xs.map kf).getD i [];simp[List.getD,m]
theorem h9_{f a:Addr}{xs:ag}{us:aj}{n:Nat}{P:PySem.Fin->Ab->Prop}{E:Aa->Ab->Prop}{kf:V->ay}{sh:List Bool}(I:Inv X pins σ H s)(fa:dh X pins H a)(ho:s.heap.get? a\seqObj "list" us.toArray n)(r:Vals xs us)(bR:us.length<64)(al:BI (xs.map kf) sh)(j4:pf X σ B (.ref f) H kf xs)
  (h:∀zs H' s',Inv X pins σ (upd H' a (.lst zs)) s'->aa H H'->H' a=none->zs.Perm xs->zs.map kf=aX (xs.map kf)->P (.done (.ret .none)) s'):wpAny (model X.prog X.w) B (ksk_tree a (.ref f) false) P E s:=by
 let lx:=r.length;obtain⟨e1,CQ⟩:∃e1,(s.heap.update a (Obj.mapSeq λ_=>(#[]:Array Aa))).get? a\seqObj "list" #[] e1:=#[_,get?_update_seq ho λ_=>#[]];have yK:∀b o,b∉[a]->s.heap.get? b\o->(s.heap.update a (Obj.mapSeq λ_=>(#[]:Array Aa))).get? b\o:=λb o hb e=>(mV _ _ (λz=>hb (by simp[z]))).trans e
 have I1:Inv X pins σ H { s with heap:=s.heap.update a (Obj.mapSeq λ_=>(#[]:Array Aa)) }:=I.iY (t':=s.toks) (fp:=[a]) yK (λb hb=>by
  obtain rfl:b=a:=⇑hb
  exact fa)
 unfold ksk_tree;apply aq (listItems_at ho Z ?_);apply aq (listUpdate_at ho Z ?_ (by rw[cg,b_];omega) (g7 _));apply aq (seqEpoch_at CQ Z ?_);apply aq (wpAny_newTuple ?_ (by show us.length<=_;rw[b_];omega));apply aq (wpAny_newList ?_ (g7 _));apply mQ ?_;have I2:Inv X pins σ H { s with heap:=(s.heap.update a (Obj.mapSeq λ_=>(#[]:Array Aa))).push (seqObj "tuple" us.toArray 0) }:=I1.kept (t':=s.toks) λb u e=>cj _ e;have I3:Inv X pins σ H { s with heap:=((s.heap.update a (Obj.mapSeq λ_=>(#[]:Array Aa))).push (seqObj "tuple" us.toArray 0)).push (seqObj "list" #[] 0) }:=I2.kept (t':=s.toks) λb u e=>cj _ e;have fk:dh X pins H ((s.heap.update a (Obj.mapSeq λ_=>(#[]:Array Aa))).push (seqObj "tuple" us.toArray 0)).objs.size:=I2.jY (bj _) (I2.aI.fresh (bj _));have jv:(((s.heap.update a (Obj.mapSeq λ_=>(#[]:Array Aa))).push (seqObj "tuple" us.toArray 0)).push (seqObj "list" #[] 0)).get? a\seqObj "list" #[] e1:=cj _ (cj _ CQ);have Nj:(((s.heap.update a (Obj.mapSeq λ_=>(#[]:Array Aa))).push (seqObj "tuple" us.toArray 0)).push (seqObj "list" #[] 0)).get? ((s.heap.update a (Obj.mapSeq λ_=>(#[]:Array Aa))).push (seqObj "tuple" us.toArray 0)).objs.size\seqObj "list" #[] 0:=eh _ Z;have pR:a≠((s.heap.update a (Obj.mapSeq λ_=>(#[]:Array Aa))).push (seqObj "tuple" us.toArray 0)).objs.size:=dZ (cy (cj (seqObj "tuple" us.toArray 0) CQ));show wpAny (model X.prog X.w) B (ksk_rest a (.ref f) false us.toArray e1 (.ref ((s.heap.update a (Obj.mapSeq λ_=>(#[]:Array Aa))).push (seqObj "tuple" us.toArray 0)).objs.size)) P E { s with heap:=((s.heap.update a (Obj.mapSeq λ_=>(#[]:Array Aa))).push (seqObj "tuple" us.toArray 0)).push (seqObj "list" #[] 0) };generalize ((s.heap.update a (Obj.mapSeq λ_=>(#[]:Array Aa))).push (seqObj "tuple" us.toArray 0)).objs.size=kS at fk Nj pR ⊢;generalize ((s.heap.update a (Obj.mapSeq λ_=>(#[]:Array Aa))).push (seqObj "tuple" us.toArray 0)).push (seqObj "list" #[] 0)=h3 at I3 jv Nj ⊢;clear I2 I1 yK;unfold ksk_rest;apply aq (wpAny_rule ?_);rw[List.forIn_toArray];apply aq (jY_ (pins:=pins) (E:=E) (e1:=e1) pR j4 (λu s4 Qb hq=>?_) xs us [] [] [] H _ 0 r (λx hx=>hx) I3 (aa.refl H) fa fk jv Nj .nil .nil ⇑bR λH5 s5 kvs c5 I5 YR UT fk5 Jy Tu lk ⟨ks,rk,tk⟩=>?_)
 ·apply aq (wpAny_attempt (wpAny_mono hq (λk qj hk=>?_) λ_ _ hF=>hF.elim));exact aq (wpAny_mono hk (λ_ s6 h6=>aU h6) λ_ _ z=>z)
 rw[List.nil_append] at tk;rw[p9,Nat.zero_add] at lk;apply aq (listItems_at Tu Z ?_)
 have tail:∀(p:Array Nat) (st:SortSt),Good xs.length p->Up (λi j=>bL ((xs.map kf).getD i []) ((xs.map kf).getD j [])) p xs.length->(arrOf st).map (·.2)=(nu p us).toArray->failedOf st=none->wpAny (model X.prog X.w) B (ksk_tail a false e1 (.ref kS) st) P E s5:=λp st g up MU wZ=>by
  have gu:Good us.length p:=by rw[<- lx];exact g
  have hz:(nu p us).length=us.length:=by
   unfold nu;rw[aA,qJ];exact gu.size
  let s1:=Heap.SameBut.update s5.heap kS (Obj.mapSeq λ_=>(#[]:Array Aa));have uk:(s5.heap.update kS (Obj.mapSeq λ_=>(#[]:Array Aa))).get? a\seqObj "list" #[] e1:=(mV _ _ (Ne.symm pR)).trans Jy;unfold ksk_tail;dsimp only;rw[MU];apply aq (listUpdate_at Tu Z ?_ (by rw[cg,b_];omega) (g7 _));apply aq (wpAny_letGo ?_);apply aq (seqEpoch_at uk Z ?_);simp only[k_,if_false];apply aq (listUpdate_at uk Z ?_ (g7 _) (by rw[cg,hz,b_];omega));rw[wZ];simp only[bne_self_eq_false,k_,if_false]
  have zl:(p.toList.map λi=>xs.getD i .non).length<=sizeLine:=by
   rw[aA,qJ,g.size,b_];omega
  let#[pz,ek]:=jC_ (zs:=p.toList.map λi=>xs.getD i .non) g up Z;apply aU (h _ H5 _ (I5.zX (t':=s5.toks) (fp:=[a,kS]) (T:=a) (λb o hb e=>?_) (λb hb=>?_) Z2 zl (Pr r gu) (get?_update_seq uk _)) YR UT.1 pz ek)
  ·have n1:b≠a:=λz=>hb (by simp[z]);have n2:b≠kS:=λz=>hb (by simp[z]);exact (mV _ _ (Ne.symm n1)).trans ((mV _ _ (Ne.symm n2)).trans e)
  rcases cQ.mp hb with rfl|hb
  ·exact UT
  obtain rfl:b=kS:=⇑hb
  exact fk5
 unfold ksk_end;dsimp only;simp only[k_,if_false];by_cases h2:us.toArray.size<2
 ·rw[aH h2,aH h2];apply aq (aU ?_);rw[StateT.run_pure];apply aq (aU (tail (List.range xs.length).toArray _ (Array.Perm.refl _) (λi j oO hj=>?_) ?_ Z))
  ·have e:i=j:=by
    simp only[cg] at h2;omega
   subst e;exact Pu _
  show ((kvs.toArray.zip us.toArray).map λx:Keyed=>x.2)=_;rw[show xs.length=us.length from lx,Wx];apply Array.ext' ?_;simp[List.map_snd_zip,lk]
 rw[aB h2,aB h2]
 have gI:2<=us.length:=by
  simp only[cg] at h2;omega
 let#[κ,hk,hc]:=U8 (A:=B) (s':=s5) I5 rk tk al Z1 (λ_ _ e=>e);apply aq (wpAny_mono (hk (λk s'=>k=κ/\s'=s5) #[Z,Z]) (λk s7 Gb=>?_) λ_ _ x=>x.elim);let#[rfl,rfl]:=Gb;have O:Ord (λi j=>bL ((xs.map kf).getD i []) ((xs.map kf).getD j [])):=Po _
 apply aq (wpAny_mono (kat_run (ks:=kvs) (vs:=us) (G:=λp s'=>s'=s7/\Good us.length p/\Up (λi j=>bL ((xs.map kf).getD i []) ((xs.map kf).getD j [])) p us.length)
  (Q:=λfN s'=>∃p:Array Nat,arrOf fN=p.map (kas_item (kvs.toArray.zip us.toArray))/\failedOf fN=none/\s'=s7/\Good us.length p/\Up (λi j=>bL ((xs.map kf).getD i []) ((xs.map kf).getD j [])) p us.length)
  lk gI bR (λp fN s' _ q1 q2 q3=>#[p,q1,q2,q3]) (Ok.wp (n:=us.length) (λi j C hi hj=>hc i j C Z1 Z1) (λp q=>#[Z,q]) (Ua O Z1))) ?_ λ_ _ x=>x)
 rintro⟨⟨⟩,fN⟩ s' ⟨p,NO,hf,qp,g,u⟩;subst qp;rw[<- lx] at g u;exact tail p fN g u (kat_snds lk NO) hf
end
end L2
namespace L2
open PySem PySem.Spec PyProof.Rows PySem.W jE
section
variable{X:Cx}{pins:List (Addr × Obj)}{σ:St}{H:Hp}{s:Ab}
theorem Inv.uy{cY:ae}{cl:List (Str × Addr)}{is:List Nat}{gs:ag}(I:Inv X pins σ H s)(wY:∀q∈cl,X.env.cells.lookup q.1\q.2)(xf:∀x∈cY,∃c,cl.lookup x\c)(Ge:∀x∈cY,X.env.scope.names.lookup x\.cell)(hN:is.map (λi=>X.N[i]?)=cY.map some)
  (CV:is.map (λi=>σ[i]?)=gs.map (λv=>some (some v))):gs.length=cY.length/\Kz cY cl gs s.heap/\∀x c,cl.lookup x\c->H c=none:=by
 have lk:∀{x c},cl.lookup x\c->(x,c)∈cl:=λe=>p5 e;apply#[?_,#[λa b c h1 h2=>I.ok.inj a b c (wY _ (lk h1)) (wY _ (lk h2)),xf,λa c h1=>I.cell a c (wY _ (lk h1)),λj a v h1 h2=>?_],λx c e=>I.d8 x c (wY _ (lk e))]
 ·let a:=d9 List.length CV;let b:=d9 List.length hN;simp only[aA] at a b;omega
 let#[c,hc]:=xf a (dI h1);have e1:(is.map λi=>X.N[i]?)[j]? = some (some a):=by rw[hN,dS,h1];rfl
 have e2:(is.map λi=>σ[i]?)[j]? = some (some (some v)):=by rw[CV,dS,h2];rfl
 rw[dS] at e1 e2;let#[i,hi,e1]:=Option.map_eq_some_iff.mp e1;rw[hi] at e2;have e2:σ[i]? = some (some v):=dY e2;let#[m,_,hl]:=I.loc;let kd:=Ge a (dI h1);let#[u,ru,lo]:=hl i a v e1 e2 (.inr (.inl kd));rcases lo with⟨z,_⟩|⟨_,c2,e3,o,e4,e5⟩
 ·have z:X.env.scope.names.lookup a\.local:=z;rw[kd] at z;cases z
 rw[wY _ (lk hc)] at e3;cases e3;exact#[c,u,hc,ru,o,e4,e5]
theorem kk_{B:Ag}{k:Nat}{qual:Str}{params:Arguments}{body:PySem.Expr}{scope:Scope}{p:Str}{cY:ae}{sp:ag->ag->Hp->VK->XK->Prop}{f c':Addr}{cl:List (Str × Addr)}{is:List Nat}{gs xs:ag}{kf:V->ay}{H0:Hp}(F:iX X.prog X.w X.K X.mg X.base k qual params body scope [p] cY sp)(hr:a_ k B)(hB:B.frames=X.A.frames)
  (hf:H0 f\jT f qual params body scope cl c') (hc:H0 c'\zw c' qual) (wY:∀q∈cl,X.env.cells.lookup q.1\q.2) (xf:∀x∈cY,∃c,cl.lookup x\c) (Ge:∀x∈cY,X.env.scope.names.lookup x\.cell) (hN:is.map (λi=>X.N[i]?)=cY.map some) (CV:is.map (λi=>σ[i]?)=gs.map (λv=>some (some v)))
  (kD:∀H x,aa H0 H->x∈xs->sp [x] gs H (λv H'=>aa H H'/\∃t,v=.ref t/\H' t\.tup ((kf x).map kV)) (λ_ _ _=>False)):pf X σ B (.ref f) H0 kf xs:=by
 intro pins H s x u I sm hx ru;let#[#[pm,j2,ef],_]:=I.aI f _ (sm _ _ hf);let#[#[oc,IA,t,ec,d1,d2],_]:=I.aI c' _ (sm _ _ hc);let#[hg,C,fc]:=I.uy wY xf Ge hN CV;let e0:=I.BE;apply wpAny_call (codeAny_mono (F B X.stack s H f c' pm j2 cl [u] [x] gs _ _ hr #[hB.trans e0.frames,e0.mod,e0.bs,e0.uI,e0.fY,e0.xk,e0.aI,e0.bare] ef #[c',oc,IA,t,Z,ec,d1,d2] Z hg (.cons ru .nil) C fc (kD H x sm hx)) λr s' hq=>?_);cases r with
 |error e=>
  let#[a,cls,H',B,a0,dd,rfl,os,bare,un,aI,fl,i,hE]:=hq;exact hE.elim
 |ok fl=>
  cases fl with
  |ret u=>exact I.after hq
  |next=>exact False.elim hq
  |brk=>exact False.elim hq
  |cont=>exact False.elim hq
theorem sortedK{f:Addr}{x:Aa}{xs:ag}{kf:V->ay}{sh:List Bool}{Q:VK}{E:Aa->Ab->Prop}(I:Inv X pins σ H s)(bR:xs.length<64)(al:BI (xs.map kf) sh)(j4:pf X σ X.A.in1.in1 (.ref f) H kf xs)
  (mN:∀R:aj->Ab->Prop,(∀vs s1,Inv X pins σ H s1->Vals xs vs->R vs s1)->wpAny (model X.prog X.w) X.A.in1 (collect x) R E s)
  (q:∀l zs H',aa H H'->H' l=none->H l=none->zs.Perm xs->zs.map kf=aX (xs.map kf)->Q (.ref l) (upd H' l (.lst zs))):wpAny (model X.prog X.w) X.A (call (.builtin "sorted") [x] [(Str.ofString "key",.ref f)]) (EP X pins σ Q) E s:=by
 apply call_function_entry_kw kind_sorted plain_sorted entry_sorted (ksk_s1 _ _) ?_;unfold Builtin.«sorted»;apply aq (m:=checkCount "sorted" 1 1 _) (aU ?_);apply aq (mN _ λvs s1 I1 r=>?_);let lv:=r.length;apply aq (wpAny_newList ?_ (by rw[b_];omega));have Jp:(s1.heap.push (seqObj "list" vs.toArray 0)).get? s1.heap.objs.size\seqObj "list" vs.toArray 0:=eh _ Z;have I2:Inv X pins σ H { s1 with heap:=s1.heap.push (seqObj "list" vs.toArray 0) }:=I1.kept (t':=s1.toks) λb u e=>cj _ e;have fa:dh X pins H s1.heap.objs.size:=I1.jY (bj _) (I1.aI.fresh (bj _));have nl:H s1.heap.objs.size=none:=I1.aI.fresh (bj _);apply aq (mQ (wpAny_call_entry_kw slot_list_sort #[_,Jp,Z] entry_list_sort ?body (ksk_l1 _ _)))
 case body=>
  show wpAny (model X.prog X.w) X.A.in1.in1 (Builtin.«list.sort» #[[.ref s1.heap.objs.size],[(Str.ofString "key",.ref f)]]) _ _ _;rw[ksk_t1];apply h9_ (s:={ s1 with heap:=s1.heap.push (seqObj "list" vs.toArray 0) }) I2 fa Jp r Z1 al j4 λzs H' s' I' sm na pz ek=>?_;exact#[_,Z,aU #[_,Z,.ref _,_,I',Z,q _ zs H' sm na nl pz ek]]
end
def Q7(K:af)(H:Hp)(x:V)(xs:ag):Prop:=(∃l,x=.ref l/\dM K H l xs)∨∃d kvs,x=.ref d/\H d\.dK kvs/\xs=kvs.map λkv=>kV kv.1
inductive nQ (K:af) (qual:Str) (params:Arguments) (body:PySem.Expr) (scope:Scope) (cl:List (Str × Addr)) (is:List Nat) (sp:ag->ag->Hp->VK->XK->Prop) (t:TA) (σ:St) (H:Hp) (Q:VK) (vs:ag) (ws:ag) (H2:Hp):Prop
 |mk:∀x f c' xs kf sh gs,vs=[x]->ws=[.ref f]->H2 f\jT f qual params body scope cl c'->H2 c'\zw c' qual->Q7 K H2 x xs->xs.length<64->BI (xs.map kf) sh->is.map (λi=>σ[i]?)=gs.map (λv=>some (some v))->(∀H x,aa H2 H->x∈xs->sp [x] gs H (λv H'=>aa H H'/\∃t,v=.ref t/\H' t\.tup ((kf x).map kV)) (λ_ _ _=>False))->(∀l zs H',aa H2 H'->H' l=none->H2 l=none->zs.Perm xs->zs.map kf=aX (xs.map kf)->Q (.ref l) (upd H' l (.lst zs)))->nQ K qual params body scope cl is sp t σ H Q vs ws H2
def z_(K:af)(qual:Str)(params:Arguments)(body:PySem.Expr)(scope:Scope)(cl:List (Str × Addr))(is:List Nat)(sp:ag->ag->Hp->VK->XK->Prop)(t tk:TA):TE:=λσ H Q=>t σ H λvs H1=>tk σ H1 λws H2=>nQ K qual params body scope cl is sp t σ H Q vs ws H2
theorem UF{X:Cx}{e:PySem.Expr}{t tk:TA}{p pos kp tT:Pos}{k:Nat}{params:Arguments}{body:PySem.Expr}{scope:Scope}{px:Str}{cY:ae}{qual:Str}{sp:ag->ag->Hp->VK->XK->Prop}{cl:List (Str × Addr)}{is:List Nat}(hc:X.calm=true)(hg:Gl X "sorted")(hm:X.mg "sorted"=none)(ha:PA X [e] t)(hkw:PK X [#[some "key",.Lambda params body scope tT,kp]] tk)
  (F:iX X.prog X.w X.K X.mg X.base k qual params body scope [px] cY sp) (hr:a_ (k+2) X.A) (wY:∀q∈cl,X.env.cells.lookup q.1\q.2) (xf:∀x∈cY,∃c,cl.lookup x\c) (Ge:∀x∈cY,X.env.scope.names.lookup x\.cell) (hN:is.map (λi=>X.N[i]?)=cY.map some)
  (he:starEach [e] X.env=[(false,eval e X.env)]:=by rfl) (jX:(backToKw pos (keywordEach [#[some "key",.Lambda params body scope tT,kp]] X.env)).all (·.1.isSome)=true:=by rfl) (Gb:(backToKw pos (keywordEach [#[some "key",.Lambda params body scope tT,kp]] X.env)).filterMap (·.1)=[Str.ofString "key"]:=by rfl)
  (hkn:(backToKw pos (keywordEach [#[some "key",.Lambda params body scope tT,kp]] X.env)).any (·.1.isNone)=false:=by rfl):PE X (.Call (.Name "sorted" p) [e] [#[some "key",.Lambda params body scope tT,kp]] pos) (z_ X.K qual params body scope cl is sp t tk):=by
 intro pins s σ H Q I h;apply wpAny_Call_Name_kw (Dq I hg hm Kp ?_);let hA:=ha pos pins s σ H _ I h;rw[he] at hA ⊢;apply callWith_builtin_kwB (first:=[]) Z hkn (evalArgs_kwB jX (aV hA λus s1 ⟨vs,H1,I1,r1,q1⟩=>?_));apply aV (hkw pos pins s1 σ H1 _ I1 q1) λws s2 ⟨zs,H2,I2,rz,x,f,c',xs,kf,sh,gs,ev,ez,hf,hZ,src,bR,al,CV,kD,q⟩=>?_;subst ev ez;let#[u,rfl,ru]:=Vals.one r1;let#[fv,rfl,rf]:=Vals.one rz;cases rf;rw[Gb];have hd:X.A.in1.handled=none:=I.ok.hd hc;apply sortedK I2 bR al (kk_ F hr.in1.in1 Z hf hZ wY xf Ge hN CV kD) (λR hR=>?_) q;rcases src with⟨l,rfl,hl⟩|⟨d,kvs,rfl,hd2,rfl⟩
 ·cases ru;exact i7_ I2 hl Z1 hR
 cases ru;exact SN hd I2 (.inl hd2) hR
end L2
namespace L2
open PySem PySem.Spec PyProof.Rows
structure kA (K:af) (x qual:Str) (st:Stmt) (f c:Addr) (fd:Ae):Prop where
 ex:∃(oc:Aa) (od:Option Addr) (kV doc pm:Aa) (an:Option Addr) (ct:Aa) (i8:Array (Option Aa)),
  fd=PySem.W.fnOf x qual (jh st) (ib st) (a9 st) .none kV doc pm an (.ref c) ct/\K.lookup f=some #[oc,od,.func fd,i8]/\PySem.W.codeIn K (.ref c) qual=true
 kp:PySem.W.keepIn K (.ref f)=true
theorem kA.fn{K:af}{x qual:Str}{st:Stmt}{f c:Addr}{fd:Ae}(F:kA K x qual st f c fd):bg K x qual st f fd:=by
 let#[oc,od,kV,doc,pm,an,ct,i8,e,l,h]:=F.ex;exact#[#[oc,od,kV,doc,pm,an,.ref c,ct,i8,e,l,h],F.kp]
theorem kA.ok{P:Ad}{w:Af}{K:af}{mg:Str->Option Aa}{base:Heap}{x qual:Str}{st:Stmt}{f c:Addr}{fd:Ae}{N ps:ae}{k:Nat}{sp:Sp}(F:kA K x qual st f c fd)(S:br N ps (a9 st))(len:∀vs H Q E,sp vs H Q E->vs.length=ps.length)
  (fV:∀(A:Ag) (outer:List Env) (s:Ab) (H:Hp) (vs:ag) (Q:VK) (E:XK),a_ k (A.deeper (envOfC qual (a9 st) s.heap.objs.size f (.ref c)))->sp vs H Q E->
   ∃t,lA (jZ ba P w K mg base N qual (a9 st) f (.ref c) A outer s H E).AS (ib st) t/\t { nx:=λ_ H'=>Q .non H',rt:=Q } (start N vs) H):!ak ba (k+1) f fd ps sp:=by
 let#[oc,od,kV,doc,pm,an,ct,i8,rfl,lk,hZ]:=F.ex;apply Sq lk hZ S len λA outer s H vs Q E hr kD=>?_;let#[t,h,q]:=fV A outer s H vs Q E hr kD;exact#[t,h.AS,q]
end L2
namespace Ev
open PySem L2
def NT(H G:Hp):Prop:=∀b o,H b\o->(∀vs,o≠.tbl vs)->G b\o
theorem NT.of{H G:Hp}(s:aa H G):NT H G:=λb o e _=>s b o e
theorem NT.refl(H:Hp):NT H H:=NT.of (aa.refl H)
theorem NT.trans{H G J:Hp}(s:NT H G)(t:NT G J):NT H J:=λb o e n=>t b o (s b o e n) n
theorem aR.nt{T:Addr}{H G:Hp}{vs:Array Aa}(b:aR T H G)(hT:H T\.tbl vs):NT H G:=λc o e n=>b c o e (λz=>by
 rw[z,hT] at e;exact n _ (dY e).symm)
theorem NT.tup{H G:Hp}(s:NT H G){a:Addr}{xs:ag}(h:H a\.tup xs):G a\.tup xs:=s _ _ h nofun
theorem NT.lst{H G:Hp}(s:NT H G){a:Addr}{xs:ag}(h:H a\.lst xs):G a\.lst xs:=s _ _ h nofun
theorem NT.dK{H G:Hp}(s:NT H G){a:Addr}{xs:List (Key × V)}(h:H a\.dK xs):G a\.dK xs:=s _ _ h nofun
theorem NT.ins{H G:Hp}(s:NT H G){a C dx:Addr}{fs:List (Str × V)}(h:H a\.ins C dx fs):G a\.ins C dx fs:=s _ _ h nofun
section
variable{K:af}{H G:Hp}{v:V}
theorem bG.nt{ys:ag}{ks:List ay}(h:bG K H ys ks)(s:NT H G):bG K G ys ks:=Paired.bN h λy k ⟨a,z,q⟩=>#[a,z,s.tup q]
theorem fF.nt{C p:Addr}{hs:Xa}{ts:Xb}{fp:ai}(W:fF K C H p hs ts fp)(s:NT H G):fF K C G p hs ts fp:=by
 let#[dx,d1,l2,d3,zs,as,rfl,h1,h2,h3,h4,h5,h6,h7]:=W.ex;exact#[dx,d1,l2,d3,zs,as,Z,s _ _ h1 nofun,s.dK h2,s.lst h3,bG.nt h4 s,s.dK h5,h6,λi n a e1 e2=>s.lst (h7 i n a e1 e2)]
theorem cK.nt{o:Option (Xb)}(h:cK K H v o)(s:NT H G):cK K G v o:=by
 cases o with
 |none=>exact h
 |some ws=>
  let#[a,ys,e,ha,t]:=h;exact#[a,ys,e,s.lst ha,bG.nt t s]
theorem gK.nt{CG CW g p:Addr}{hs:Xa}{ts:Xb}{qs:aL}{fp:ai}(h:gK K CG CW H g p hs ts qs fp)(s:NT H G):gK K CG CW G g p hs ts qs fp:=by
 let#[dx,dw,dy,vs,bM,h1,h2,h3,h4,h5,r]:=h.ex;exact#[dx,dw,dy,vs,bM,s _ _ h1 nofun,h2.nt s,s.dK h3,s.dK h4,Paired.bN h5 λv q h=>h.nt s,r]
theorem bW.nt{l:Addr}(h:bW H l)(s:NT H G):bW G l:=by
 rcases h with⟨a,e⟩|⟨a,b,c,e⟩
 ·exact .inl #[a,s.lst e]
 exact .inr #[a,b,c,s.lst e]
end
theorem SE{H:Hp}{T:Addr}{qual q':Str}{a a':Arguments}{b b':Expr}{sc IR:Scope}{ps:Pos}{cl:List (Str × Addr)}{σ:St}{Q:VK}(h:cE H T qual)(e1:q'=qual)(e2:a'=a)(e3:b'=b)(e4:IR=sc)(q:∀f c' H1,aR T H H1->cE H1 T qual->H1 f\jT f qual a b sc cl c'->H1 c'\zw c' qual->Q (.ref f) H1):Ek T q' a' b' IR ps cl σ H Q:=by
 subst e1 e2 e3 e4;let#[es,h,Bl]:=h;apply#[_,h,Uy es,?_];rcases WA ps es with e|⟨e,he,q1⟩
 ·apply .inl #[e,λc' f n1 n2 n3=>?_];have Z4:T≠c':=bE h n1;have Z3:T≠f:=bE h n2
  have B:aR T H (upd (upd (upd H T (.tbl ((nj es).toArray++(List.toArray [rawInt ps.line,rawInt ps.col,.ref c'])))) c' (zw c' q')) f (jT f q' a' b' IR cl c')):=λb o e n=>by
   rw[aD (bE e n2),aD (bE e n1),aD n];exact e
  apply q f c' _ B #[es++[(ps,c')],?_,λx hx=>?_] au ?_
  ·rw[aD Z3,aD Z4,au,Vg];simp
  ·rcases gD.mp hx with hx|hx
   ·exact B _ _ (Bl x hx) (λz=>by have:=Bl x hx;rw[z,h] at this;cases this)
   rw[List.mem_singleton.mp hx];show upd _ f _ c'=_;rw[aD n3,au]
  rw[aD n3,au]
 apply .inr #[e.2,q1,λf hf=>?_];let s:=aa.new (o:=jT f q' a' b' IR cl e.2) hf;exact q f e.2 _ (aR.of s) #[es,s _ _ h,λx hx=>s _ _ (Bl x hx)] au (s _ _ (Bl e he))
theorem fu{H:Hp}{T:Addr}{qual:Str}(h:cE H T qual):∃vs,H T\.tbl vs:=by
 let#[es,e,_]:=h;exact#[_,e]
theorem cE.but{H G:Hp}{T T':Addr}{q:Str}(h:cE H T q)(b:aR T' H G)(hT:∃vs,H T'\.tbl vs)(ne:T≠T'):cE G T q:=by
 let#[es,e,a]:=h;let#[vs,hT]:=hT;exact#[es,b _ _ e ne,λx hx=>b _ _ (a x hx) (λz=>by have:=a x hx;rw[z,hT] at this;cases this)]
def jS:Expr->Scope
 |.Lambda _ _ s _=>s
 |_=>a9 hG
def Fl:Expr->Expr
 |.Lambda _ b _ _=>b
 |e=>e
def Fm:Expr->Arguments
 |.Lambda a _ _ _=>a
 |_=>jh hG
def Sy:Expr->Expr
 |.Call _ _ (k::_) _=>k.value
 |e=>e
def EY(l:List Stmt)(i:Nat):Stmt:=l.getD i (.Pass #[0,0,0,0])
def N7:Stmt->Expr
 |.For _ i _ _ _=>i
 |_=>.Constant .none 0 #[0,0,0,0]
def LO:Stmt->Expr
 |.Return (some e) _=>e
 |_=>.Constant .none 0 #[0,0,0,0]
end Ev
namespace Ev
open PySem L2
theorem Fc{σ:St}{H:Hp}{k:ag->Hp->Prop}(h:k [] H):lF σ H k:=h
theorem zC{te:TE}{t:TA}{σ:St}{H:Hp}{k:ag->Hp->Prop}(h:te σ H λx H1=>t σ H1 λxs H2=>k (x::xs) H2):jH te t σ H k:=h
abbrev vc(qs:aL)(n:Str):Int:=strOf (qs.map gG) n
def kN(qs:aL)(n:Str):ay:=[.inl (-(vc qs n)),.inr n]
def jM:ay->Str
 |[_,.inr n]=>n
 |_=>⟨#[]⟩
def kC(qs:aL):ae:=(aX ((qs.map (·.1)).map (kN qs))).map jM
def Fp(qs:aL):V->ay
 |.str n=>kN qs n
 |_=>[]
theorem U7{zs:ag}{ns:ae}(p:zs.Perm (ns.map V.str)):∃ms:ae,zs=ms.map V.str/\ms.Perm ns:=by
 have all:∀z∈zs,∃n,z=V.str n:=λz hz=>by
  let#[n,_,e]:=bJ.mp (p.mem_iff.mp hz);exact#[n,e.symm]
 have mk:∀l:ag,(∀z∈l,∃n,z=V.str n)->∃ms:ae,l=ms.map V.str:=λl=>by
  induction l with
  |nil=>intro _;exact#[[],Z]
  |cons a r ih=>
   intro h;let#[n,rfl]:=h a fQ;let#[ms,rfl]:=ih λz hz=>h z (fb _ hz);exact#[n::ms,Z]
 let#[ms,rfl]:=mk zs all;apply#[ms,Z,?_];have:=p.map (λv:V=>match v with | .str n=>n|_=>(⟨#[]⟩:Str));rw[cu,cu] at this;simpa [Function.comp_def] using this
theorem lV_{qs:aL}{zs:ag}(p:zs.Perm ((qs.map (·.1)).map V.str))(e:zs.map (Fp qs)=aX (((qs.map (·.1)).map V.str).map (Fp qs))):zs=(kC qs).map V.str:=by
 let#[ms,rfl,_]:=U7 p;have e1:(ms.map V.str).map (Fp qs)=ms.map (kN qs):=by rw[cu];rfl
 have e2:((qs.map (·.1)).map V.str).map (Fp qs)=(qs.map (·.1)).map (kN qs):=by
  rw[cu];rfl
 rw[e1,e2] at e
 have em:(ms.map (kN qs)).map jM=ms:=by
  rw[cu];exact List.map_id' ms
 unfold kC;rw[<- e,em]
theorem Hi(qs:aL):(kC qs).Perm (qs.map (·.1)):=by
 unfold kC;let p:=(k7 ((qs.map (·.1)).map (kN qs))).map jM
 have e:((qs.map (·.1)).map (kN qs)).map jM=qs.map (·.1):=by
  generalize qs.map (·.1)=ns;rw[cu];exact List.map_id' _
 rw[e] at p;exact p
def eR(qs:aL)(f:ao)(h:Str):ae:=(kC qs).filter λn=>decide (f n=h)
abbrev yI:Str:="heaviest_first.<locals>.<lambda>"
def pP:Expr:=Sy (N7 (EY (ib iC) 1))
abbrev Bx:ae:=["goods"]
theorem GH:∀y∈(jS pP).names,y.2=.free->y.1∈Bx:=by decide +kernel
theorem Aw:Hh ["name"] Bx (jS pP):=#[by decide +kernel,Z,Z,Z,by decide +kernel,by decide +kernel,λx h=>GH (x,.free) (p5 h) Z,by decide +kernel]
section v
inductive oh (K:af) (CG CW:Addr) (vs:ag) (gs:ag) (H:Hp) (Q:VK):Prop
 |mk:∀(g p:Addr) (q:Pc) (hs:Xa) (ts:Xb) (qs:aL) (fp:ai),vs=[.str q.1]->gs=[.ref g]->gK K CG CW H g p hs ts qs fp->(qs.map (·.1)).Nodup->q∈qs->0<=q.2.1->q.2.1<=1000000000->(∀t,H t=none->Q (.ref t) (upd H t (.tup [.int (-q.2.1),.str q.1])))->oh K CG CW vs gs H Q
def An(K:af)(CG CW:Addr):ag->ag->Hp->VK->XK->Prop:=λvs gs H Q _=>oh K CG CW vs gs H Q
theorem ko_{CG CW CP:Addr}(T:dA K CG)(cW:!bo CG 2 "weight" zu (Ce K CG CW CP)):!iX 3 yI (Fm pP) (Fl pP) (jS pP) ["name"] Bx (An K CG CW):=by
 apply yN Aw (λpm c' j2 cl us hl=>?_) (λA outer s H f cd cl vs gs Q E hr h hp=>?_)
 ·match us,hl with
  |[_],_=>rfl
 let#[g,p,q,hs,ts,qs,fp,rfl,rfl,G,nd,hq,w0,w1,k]:=h;let#[dx,dw,dy,vs,bM,h1,h2,_]:=id G.ex;apply#[_,dR %[Dk Dv (fG cW T.cl hr (pv 1) %[0|0]),0|0],?_];have kE:(bV p dw dy).lookup ("weight":Str)=none:=uN _ _ _ Z0 Z0 Z0;apply#[_,Z,g,dx,_,Z,h1,kE,_,Z,g,p,.str q.1,some q.1,hs,ts,qs,fp,Z,G,nd,Z,.inl #[q,hq,Z,?_]];exact#[_,Z,_,Z,zl,λt ht=>k t ht]
def Hd(L:Addr):List (Str × Addr):=[("goods",L+1)]
theorem P2{L f:Addr}{cd:Aa}:closureFor (jS pP) (PyProof.Rows.envOfC qD (a9 iC) L f cd)=pure (Hd L):=by rfl
theorem P4{L f:Addr}{cd:Aa}:∀q∈Hd L,(PyProof.Rows.envOfC qD (a9 iC) L f cd).cells.lookup q.1\q.2:=by
 intro q hq;simp only[Hd,cQ,List.not_mem_nil,or_false] at hq;rcases hq with rfl;rfl
theorem Mq{L:Addr}:∀x∈Bx,∃c,(Hd L).lookup x\c:=by
 intro x hx;simp only[Bx,cQ,List.not_mem_nil,or_false] at hx;rcases hx with rfl;exact#[_,Z]
theorem Mm:∀x∈Bx,(a9 iC).names.lookup x\.cell:=by decide +kernel
theorem sj:br ["goods","placed","found","piece"] kP (a9 iC):=bF
def Cn(H:Hp)(ns:ae)(ad:Str->Addr)(g:Str->ae):Prop:=(∀h∈ns,H (ad h)\.lst ((g h).map V.str))/\∀h∈ns,∀h'∈ns,ad h=ad h'->h=h'
inductive oj (K:af) (CG CW T:Addr) (vs:ag) (H:Hp) (Q:VK) (E:XK):Prop
 |mk:∀(g p d:Addr) (hs:Xa) (ts:Xb) (qs:aL) (fp:ai) (f:ao),vs=[.ref g,.ref d]->p7 K CG CW H g p d hs ts qs fp f->(∀q∈qs,0<=q.2.1/\q.2.1<=1000000000)->cE H T yI->(∀d' ad H',aR T H H'->cE H' T yI->H d'=none->H' d'\.dK (dP (aF hs) λh=>.ref (ad h))->Cn H' (aF hs) ad (eR qs f)->(∀h∈aF hs,H (ad h)=none)->Q (.ref d') H')->oj K CG CW T vs H Q E
theorem cE.putL{H:Hp}{T a:Addr}{q:Str}{xs:ag}{o:HO}(h:cE H T q)(ha:H a\.lst xs):cE (upd H a o) T q:=by
 let#[es,e,c]:=h;apply⟨es,by rw[aD (cb e ha nofun)];exact e,λx hx=>?_⟩;rw[aD (λz=>by have:=c x hx;rw[z,ha] at this;cases this)];exact c x hx
theorem BV{H:Hp}{d:Addr}{ns:ae}{g:Str->V}{n:Str}(h:H d\.dK (dP ns g))(m:n∈ns):gF H d (.str n) (some (g n)):=by
 have:=gF.k (k:=Sum.inr n) h;rw[Dw m] at this;exact this
theorem Mx{qs:aL}(nd:(qs.map (·.1)).Nodup){q:Pc}(h:q∈qs):vc qs q.1=q.2.1:=by
 apply U0 ?_ (bJ.mpr ⟨q,h,rfl⟩);rw[cu];exact nd
theorem kW_{f0 c0 CG CW CP T:Addr}{fd:Ae}(F:kA K qD qD iC f0 c0 fd)(B:Bi mg)(TG:dA K CG)(TW:Txt K mg CW)(hC:PySem.W.CodeHd base c0 T)(uj:base.BuiltinsAt mg T)(cH:!bo CW 1 "hands" gJ (Dx K CW))(cW:!bo CG 2 "weight" zu (Ce K CG CW CP)) :
  ak P w K mg base ba 6 f0 fd kP (oj K CG CW T):=by
 apply F.ok sj (λvs H Q E h=>?_) (λA outer s H vs Q E hr h=>?_)
 ·let#[g,p,d,hs,ts,qs,fp,f,rfl,_]:=h;rfl
 let#[g,p,d,hs,ts,qs,fp,f,rfl,Pl,wq,tab,k]:=h;let hu:=gC hr;let sz:=b_;have ip:a_ 1 _:=hr.mono (by decide);refine' ⟨_,ax ?s1 (ax ?s2 (aC ?s3)),?kk⟩
 case' s1=>refine' bh 2 sj.nd (iH (DK Z) (by rfl) B.dict uJ %[kX ["hand"] 1 [] (d_ (uK cH TW.cl ip (dz (pv 0) Z))) (λfp s H=>gg (i:=0) (show (["hand"]:ae).Nodup by decide +kernel) Z (Or.inl Z)) (λfp s H=>jA) (λfp s H=>?e1)|0])
 case e1=>exact dR %[0,dE bf|0]
 case' s2=>refine' fC eS Z (d_ ?l2) (cq 3 sj.nd) (aC ?b2)
 case l2=>exact UF (px:="name") (cY:=Bx) (cl:=Hd s.heap.objs.size) (is:=[0]) (k:=3) Z (by rfl) B.sorted %[1|0] (Uc (SB (P:=T) (c:=c0) Z P2 Z hC uj) SK) (ko_ TG cW) hr P4 Mq Mm Z
 case b2=>exact j_ (kW mX xA xI vJ (j9 hu (pv 2) (j9 hu (pv 1) (pv 3))) %[3|0])
 case s3=>exact aY (pv 2)
 let nd:=Pl.Gd.tR;have n8:(aF hs).length<=8:=by have:=Pl.Gd.fS;have:=Pl.Gd.h8;omega
 let#[dx,dw,dy,vs,bM,h1,h2,h3,h4,h5,m1,m2,m3,m4,m5]:=id Pl.G.ex;let#[eX,d1,l2,d3,jn,as,ef,w1,_]:=id h2.ex;have hY:(cZ d1 l2 d3).lookup ("hands":Str)=none:=iJ _ _ _ Z0 Z0 Z0;apply#[_,Z,g,CG,dx,_,_,Z,h1,TG.cl,TG.nW,jB _ _ _,p,eX,_,Z,w1,hY,p,hs,ts,bM,Z,h2,λlh nh=>?_];let#[s1,e1]:=bp (o:=.lst ((aF hs).map V.str)) nh;generalize upd H lh (.lst ((aF hs).map V.str))=H1 at s1 e1 ⊢;apply#[lh,Z,#[_,.of e1],λD hD=>?_];apply k8 (own:=1) (fv:=[]) (xs:=(aF hs).map V.str) Z fq (λi out H'=>∃ad:Str->Addr,aa H1 H'/\H' D\.lst out/\oW K H' out (dP ((aF hs).take i) λh=>.ref (ad h))/\Cn H' ((aF hs).take i) ad (λ_=>[])/\∀h∈(aF hs).take i,H1 (ad h)=none/\ad h≠D) #[λ_=>D,aa.new hD,au,.nil,#[by simp,by simp],by simp] (λi out H' _ ⟨_,sm,_⟩=>.of (sm _ _ e1)) (λout H2 ⟨ad,s2,zk,pa,ls,fr⟩=>?_) (λi x out H' hx ⟨ad,sm,hd,pa,ls,fr⟩=>?_);rotate_left
 ·let#[n,hn,rfl]:=jy hx;have nn:n∉(aF hs).take i:=Pz nd hn;apply#[_,Z,Z,λNx hN=>eJ ?_];apply#[_,Z,zl,λl nl=>?_];let#[s3,e3]:=bp (o:=.lst []) nl;generalize upd H' l (.lst [])=H3 at s3 e3 ⊢;apply#[zl,λt nt=>?_];let#[s4,e4]:=bp (o:=.tup [.str n,.ref l]) nt;generalize upd H3 t (.tup [.str n,.ref l])=H4 at s4 e4 ⊢;let qi:=s3.trans s4;let qr:=qi _ _ hd;have lD:l≠D:=λz=>by rw[z,hd] at nl;cases nl
  have WR:∀h∈(aF hs).take i,ad h≠l:=λh hh z=>by
   have:=ls.1 h hh;rw[z,nl] at this;cases this
  let lo:=bK pa;rw[kY,d6] at lo
  have pD:∀{b:Addr} {zs:ag},H4 b\.tup zs->b≠D:=λhb z=>by
   rw[z,qr] at hb;cases hb
  have ne:∀h∈(aF hs).take i,h≠n:=λh hh z=>nn (z▸hh);apply#[out,qr,by omega,hN (out++[.ref t]) _ #[λm=>if m=n then l else ad m,iV (sm.trans qi) hD,au,?_,#[λh hh=>?_,λh hh h' TB z=>?_],λh hh=>?_]]
  ·have e:dP ((aF hs).take (i+1)) (λh=>.ref (if h=n then l else ad h))=dP ((aF hs).take i) (λh=>.ref (ad h))++[(Sum.inr n,.ref l)]:=by
    rw[jz hn];unfold dP;rw[dC,eD,List.map_nil];dsimp only;rw[aH Z];congr 1;exact uP λm hm=>by rw[aB (ne m hm)]
   rw[e];exact kZ (Paired.bN pa λy kv ⟨b,z,hb⟩=>#[b,z,by rw[aD (pD (qi _ _ hb))];exact qi _ _ hb]) (.cons #[t,Z,by rw[aD (pD e4)];exact e4] .nil)
  ·rw[jz hn] at hh;rcases gD.mp hh with hh|hh
   ·dsimp only;rw[aB (ne h hh),aD (fr h hh).2];exact qi _ _ (ls.1 h hh)
   obtain rfl:h=n:=⇑hh
   dsimp only;rw[aH Z,aD lD];exact s4 _ _ e3
  ·rw[jz hn] at hh TB;dsimp only at z;rcases gD.mp hh with a1|a1<;>rcases gD.mp TB with a2|a2
   ·rw[aB (ne h a1),aB (ne h' a2)] at z;exact ls.2 h a1 h' a2 z
   ·have a2:h'=n:=⇑a2
    rw[aB (ne h a1),aH a2] at z;exact absurd z (WR h a1)
   ·have a1:h=n:=⇑a1
    rw[aB (ne h' a2),aH a1] at z;exact absurd z.symm (WR h' a2)
   rw[show h=n by simpa using a1,show h'=n by simpa using a2]
  rw[jz hn] at hh;dsimp only;rcases gD.mp hh with hh|hh
  ·rw[aB (ne h hh)];exact fr h hh
  obtain rfl:h=n:=⇑hh
  rw[aH Z];exact#[sm.free nl,lD]
 rw[aA,e_] at pa ls fr;apply#[D,out,_,Z,zk,pa,by rw[kY];omega,λdf L_=>?_]
 have tS:((dP (aF hs) λh=>V.ref (ad h)).map (·.1)).Nodup:=by
  rw[KH,uQ,vM];exact nd.imp λn e=>n (iF e)
 rw[DJ tS];let#[s3,e3]:=bp (o:=.dK (dP (aF hs) λh=>V.ref (ad h))) L_;lk;generalize upd H2 df (.dK (dP (aF hs) λh=>V.ref (ad h)))=H3 at s3 e3 ⊢;let pH:=(s1.trans s2).trans s3;have L9:H df=none:=(s1.trans s2).free L_;have UH:∀h∈aF hs,H (ad h)=none:=λh hh=>s1.free (fr h hh).1;have Sn:∀h∈aF hs,H3 (ad h)\.lst []:=λh hh=>s3 _ _ (ls.1 h hh);let inj:=ls.2;clear s1 s2 s3 e1 pa ls fr zk nh hD L_;apply#[_,Z,Fc (zC ?_)];apply SE (tab.same pH) Z Z Z Z λfl c' H4 b4 fR wZ C0=>?_;let#[tv,hT]:=fu tab
 have neT:∀{b:Addr} {o:HO},H3 b\o->(∀vs,o≠.tbl vs)->b≠T:=λ{b o} e n z=>by
  rw[z,pH _ _ hT] at e;exact n _ (dY e).symm
 have iO:NT H H4:=λb o e n=>b4 _ _ (pH _ _ e) (neT (pH _ _ e) n);have Sm:∀h∈aF hs,H4 (ad h)\.lst []:=λh hh=>b4 _ _ (Sn h hh) (neT (Sn h hh) nofun);let e4:=b4 _ _ e3 (neT e3 nofun);have qG:aR T H H4:=λb o e n=>b4 _ _ (pH _ _ e) n;apply#[.ref d,fl,c',(qs.map (·.1)).map V.str,Fp qs,[false,true],[.ref g],Z,Z,wZ,C0,.inr #[d,_,Z,iO.dK Pl.hd,?_],by rw[aA,aA];exact Pl.bR,#[by decide,λk hk=>?_],Z,λH' x sm hx=>?_,λl zs H5 s5 nl CF pz ek=>?_]
 ·show _=((qs.map (·.1)).map _).map _;generalize qs.map (·.1)=tK;rw[cu];rfl
 ·let#[v,hv,rfl]:=bJ.mp hk;let#[n,_,rfl]:=bJ.mp hv;rfl
 ·let#[n,hn,rfl]:=bJ.mp hx;let#[q,hq,rfl]:=bJ.mp hn;apply#[g,p,q,hs,ts,qs,fp,Z,Z,(Pl.G.nt iO).same sm,Pl.nd,hq,(wq q hq).1,(wq q hq).2,λt nt=>#[aa.new nt,t,Z,?_]];rw[au];show _\HO.tup [.int (-(vc qs q.1)),.str q.1];rw[Mx Pl.nd hq]
 rw[lV_ pz ek];have hl:upd H5 l (.lst ((kC qs).map V.str)) l\.lst ((kC qs).map V.str):=au;have s6:aa H4 (upd H5 l (.lst ((kC qs).map V.str))):=s5.trans (aa.new nl)
 have _D:∀h∈aF hs,ad h≠l:=λh hh z=>by
  have:=Sm h hh;rw[z,CF] at this;cases this
 generalize upd H5 l (.lst ((kC qs).map V.str))=H6 at hl s6 ⊢
 have Ss:(kC qs).length<64:=by
  rw[(Hi qs).length_eq,aA];exact Pl.bR
 have dT:d≠T:=λz=>by
  have:=Pl.hd;rw[z,hT] at this;cases this
 apply#[l,Z,#[_,.of hl],iK (K:=K) (a:=l) (xs:=(kC qs).map V.str) (λi σ H'=>∃v3:aN,σ=[some (.ref g),some (.ref d),some (.ref df),v3]/\aR T H H'/\cE H' T yI/\H' df\.dK (dP (aF hs) λh=>V.ref (ad h))/\H' l\.lst ((kC qs).map V.str)/\Cn H' (aF hs) ad (λh=>((kC qs).take i).filter λn=>decide (f n=h))) #[none,Z,λb o e n=>s6 _ _ (qG b o e n),fR.same s6,s6 _ _ e4,hl,λh hh=>s6 _ _ (Sm h hh),inj] (λi σ H' _ ⟨_,_,_,_,_,z,_⟩=>.of z) ?_ ?_]
 ·rintro i x σ H' hx ⟨v3,rfl,bT,jG,uh,Tr,ls⟩;let#[n,hn,rfl]:=jy hx;have nm:n∈qs.map (·.1):=(Hi qs).mem_iff.mp (dI hn);have fm:f n∈aF hs:=(iz hs).mem_iff.mpr (Pl.at_ n nm);let gT:=bT _ _ Pl.hd dT;let la:=ls.1 (f n) fm;lk;apply#[_,Z,_,Z,_,Z,d,_,Z,BV gT nm,df,_,Z,BV uh fm,.inl #[Z,_,.of la],_,Z,ad (f n),_,_,Z,Z,la,?_,?_]
  ·rw[aA];have:=List.length_filter_le (λn'=>decide (f n'=f n)) ((kC qs).take i);rw[d6] at this;dsimp only;omega
  apply#[_,Z,λb o e ne=>?_,cE.putL jG la,?_,?_,λh hh=>?_,inj]
  ·rw[aD (bE e (UH _ fm))];exact bT b o e ne
  ·rw[aD (cb uh la nofun)];exact uh
  ·rw[aD (_D _ fm).symm];exact Tr
  by_cases z:h=f n
  ·subst z;dsimp only;rw[au,jz hn,List.filter_append,List.filter_cons_of_pos Z2,List.filter_nil,dC];rfl
  dsimp only;rw[aD (λy=>z (inj h hh _ fm y)),jz hn,List.filter_append,List.filter_cons_of_neg ⇑(λy=>z y.symm),List.filter_nil,xR];exact ls.1 h hh
 rintro σ H' ⟨v3,rfl,bT,jG,uh,Tr,ls⟩;rw[aA,e_] at ls;exact#[_,Z,k df ad H' bT jG L9 uh ls UH]
end
end Ev
namespace Ev
open PySem L2
abbrev l8:Stmt:=jw JR 0
abbrev sS:Stmt:=jw JR 1
abbrev mh:Stmt:=jw JR 2
abbrev vo:Stmt:=jw JR 3
def dU(g dl dv dp:Addr):List (Str × V):=aE BL (.ref dp) (aE oU (.ref dv) (aE iR (.ref dl) (aE "wares" (.ref g) [])))
theorem gP(g dl dv dp:Addr):(dU g dl dv dp).lookup ("wares":Str)\.ref g:=by
 unfold dU;rw[fe,fe,fe,fe,aB Z0,aB Z0,aB Z0,aH Z]
theorem EB(g dl dv dp:Addr):(dU g dl dv dp).lookup (iR:Str)\.ref dl:=by
 unfold dU;rw[fe,fe,fe,aB Z0,aB Z0,aH Z]
theorem LH(g dl dv dp:Addr):(dU g dl dv dp).lookup (oU:Str)\.ref dv:=by
 unfold dU;rw[fe,fe,aB Z0,aH Z]
theorem EA(g dl dv dp:Addr):(dU g dl dv dp).lookup (BL:Str)\.ref dp:=by
 unfold dU;rw[fe,aH Z]
theorem Dj(g dl dv dp:Addr){m:Str}(h1:¬m="wares")(h2:¬m=iR)(h3:¬m=oU)(h4:¬m=BL):(dU g dl dv dp).lookup m=none:=by
 unfold dU;rw[fe,fe,fe,fe,aB h4,aB h3,aB h2,aB h1];rfl
structure gE (K:af) (CS:Addr):Prop where
 cl:nJ K CS
 nW:kF K CS "wares"
 nL:kF K CS iR
 nV:kF K CS oU
 nP:kF K CS BL
structure Wd (hs:Xa) (ts:Xb) (qs:aL) (f:ao):Prop where
 Gd:Good hs ts
 nd:(qs.map (·.1)).Nodup
 bR:qs.length<64
 at_:∀n∈qs.map (·.1),f n∈hs.map (·.1)
 wq:∀q∈qs,0<=q.2.1/\q.2.1<=1000000000
structure iQ (K:af) (CS CG CW:Addr) (H:Hp) (v g p:Addr) (hs:Xa) (ts:Xb) (qs:aL) (fp:ai) (f:ao):Prop where
 ex:∃(dx dl dv dp:Addr) (ad:Str->Addr),H v\.ins CS dx (dU g dl dv dp)/\gK K CG CW H g p hs ts qs fp/\H dl\.dK (wL hs qs f)/\H dv\.dK (dP (aF hs) λh=>.int (vj hs qs f h))/\H dp\.dK (dP (aF hs) λh=>.ref (ad h))/\∀h∈aF hs,H (ad h)\.lst ((eR qs f h).map V.str)
theorem iQ.nt{K:af}{CS CG CW:Addr}{H G:Hp}{v g p:Addr}{hs:Xa}{ts:Xb}{qs:aL}{fp:ai}{f:ao}(S:iQ K CS CG CW H v g p hs ts qs fp f)(s:NT H G):iQ K CS CG CW G v g p hs ts qs fp f:=by
 let#[dx,dl,dv,dp,ad,h1,h2,h3,h4,h5,h6]:=S.ex;exact#[dx,dl,dv,dp,ad,s.ins h1,h2.nt s,s.dK h3,s.dK h4,s.dK h5,λh hh=>s.lst (h6 h hh)]
theorem iQ.same{K:af}{CS CG CW:Addr}{H G:Hp}{v g p:Addr}{hs:Xa}{ts:Xb}{qs:aL}{fp:ai}{f:ao}(S:iQ K CS CG CW H v g p hs ts qs fp f)(s:aa H G):iQ K CS CG CW G v g p hs ts qs fp f:=S.nt (NT.of s)
abbrev lo(qs:aL)(f:ao)(h:Str):Int:=ld f (qs.map gG) h
def kU(hs:Xa)(qs:aL)(f:ao)(a b:Str):Int:=lo qs f a * strOf hs b - lo qs f b * strOf hs a
def kG(hs:Xa)(a b:Str):Int:=strOf hs a+strOf hs b
section v
theorem wb:br Dh Dh (a9 l8):=bF
inductive Hq (K:af) (CS CG CW T:Addr) (vs:ag) (H:Hp) (Q:VK) (E:XK):Prop
 |mk:∀(v dx g p d:Addr) (hs:Xa) (ts:Xb) (qs:aL) (fp:ai) (f:ao),vs=[.ref v,.ref g,.ref d]->H v\.ins CS dx []->v∉fp->p7 K CG CW H g p d hs ts qs fp f->Wd hs ts qs f->cE H T yI->(∀H',(∀b o,H b\o->b≠v->b≠T->H' b\o)->cE H' T yI->iQ K CS CG CW H' v g p hs ts qs fp f->Q .non H')->Hq K CS CG CW T vs H Q E
theorem j6_{f0 CS CG CW T:Addr}{fd:Ae}(F:bg K "__init__" "Sight.__init__" l8 f0 fd)(TS:gE K CS)(HI:!bc 3 "loads_at" kP (Ia K CG CW))(Kv:!bc 4 "levels_at" kP (Kx K CG CW))(Qy:!bc 6 qD kP (oj K CG CW T)) :
  ak P w K mg base ba 7 f0 fd Dh (Hq K CS CG CW T):=by
 exists F.bI wb;let#[v,dx,g,p,d,hs,ts,qs,fp,f,rfl,hv,yb,Pl,W,tab,k]:=h;refine' #[_,ax ?s1 (ax ?s2 (ax ?s3 (aC ?s4))),?kk]
 case s1=>exact vG (pv 0) (pv 1) Z
 case s2=>exact vG (pv 0) (aP HI hr %[1,2|0]) Z
 case s3=>exact vG (pv 0) (aP Kv hr %[1,2|0]) Z
 case s4=>exact vG (pv 0) (aP Qy hr %[1,2|0]) Z
 have dv:d≠v:=cb Pl.hd hv nofun;have tV:∀{G:Hp},(∀b o,H b\o->b≠v->G b\o)->p7 K CG CW G g p d hs ts qs fp f:=λ{G} up=>#[Pl.G.keep (λb hb o e=>up b o e (λz=>yb (z▸hb))) (λb xs e=>up b _ e (cb e hv nofun)),Pl.Gd,Pl.jc,up _ _ Pl.hd dv,Pl.at_,Pl.nd,Pl.bR];apply#[_,Z,_,Z,v,CS,dx,_,Z,hv,TS.cl,TS.nW,by show 0<1000;decide,?_];have up1:∀b o,H b\o->b≠v->upd H v (.ins CS dx (aE "wares" (.ref g) [])) b\o:=λb o e n=>by rw[aD n];exact e
 have oK:upd H v (.ins CS dx (aE "wares" (.ref g) [])) v\.ins CS dx (aE "wares" (.ref g) []):=au;have C9:∀{b},upd H v (.ins CS dx (aE "wares" (.ref g) [])) b=none->b≠v:=λ{b} e z=>by rw[z,au] at e;cases e
 generalize upd H v (.ins CS dx (aE "wares" (.ref g) []))=H1 at up1 oK C9 ⊢;apply#[_,Z,_,Z,g,p,d,hs,ts,qs,fp,f,Z,tV up1,λdl H2 s2 nl hl=>?_];let hv2:=s2 _ _ oK;have lv:dl≠v:=C9 nl;apply#[_,Z,v,CS,dx,_,Z,hv2,TS.cl,TS.nL,by show 1<1000;decide,?_];have K7:∀b o,H b\o->b≠v->upd H2 v (.ins CS dx (aE iR (.ref dl) (aE "wares" (.ref g) []))) b\o:=λb o e n=>by rw[aD n];exact s2 _ _ (up1 b o e n)
 have S6:upd H2 v (.ins CS dx (aE iR (.ref dl) (aE "wares" (.ref g) []))) v\.ins CS dx (aE iR (.ref dl) (aE "wares" (.ref g) [])):=au;have GJ:∀{b},upd H2 v (.ins CS dx (aE iR (.ref dl) (aE "wares" (.ref g) []))) b=none->b≠v:=λ{b} e z=>by rw[z,au] at e;cases e
 have uf:upd H2 v (.ins CS dx (aE iR (.ref dl) (aE "wares" (.ref g) []))) dl\.dK (wL hs qs f):=by rw[aD lv];exact hl
 generalize upd H2 v (.ins CS dx (aE iR (.ref dl) (aE "wares" (.ref g) [])))=H3 at K7 S6 GJ uf ⊢;apply#[_,Z,_,Z,g,p,d,hs,ts,qs,fp,f,Z,tV K7,W.wq,λde H4 s4 ne he=>?_];let hv4:=s4 _ _ S6;have ev:de≠v:=GJ ne;apply#[_,Z,v,CS,dx,_,Z,hv4,TS.cl,TS.nV,by show 2<1000;decide,?_];have vd:∀b o,H b\o->b≠v->upd H4 v (.ins CS dx (aE oU (.ref de) (aE iR (.ref dl) (aE "wares" (.ref g) [])))) b\o:=λb o e n=>by rw[aD n];exact s4 _ _ (K7 b o e n)
 have S5:upd H4 v (.ins CS dx (aE oU (.ref de) (aE iR (.ref dl) (aE "wares" (.ref g) [])))) v\.ins CS dx (aE oU (.ref de) (aE iR (.ref dl) (aE "wares" (.ref g) []))):=au;have oS:∀{b},upd H4 v (.ins CS dx (aE oU (.ref de) (aE iR (.ref dl) (aE "wares" (.ref g) [])))) b=none->b≠v:=λ{b} e z=>by rw[z,au] at e;cases e
 have zc:upd H4 v (.ins CS dx (aE oU (.ref de) (aE iR (.ref dl) (aE "wares" (.ref g) [])))) dl\.dK (wL hs qs f):=by rw[aD lv];exact s4 _ _ uf
 have TL:upd H4 v (.ins CS dx (aE oU (.ref de) (aE iR (.ref dl) (aE "wares" (.ref g) [])))) de\.dK (dP (aF hs) λh=>.int (vj hs qs f h)):=by rw[aD ev];exact he
 generalize upd H4 v (.ins CS dx (aE oU (.ref de) (aE iR (.ref dl) (aE "wares" (.ref g) []))))=H5 at vd S5 oS zc TL ⊢;let#[es,hT,xc]:=id tab;have Tv:T≠v:=cb hT hv nofun;have Lh:cE H5 T yI:=#[es,vd _ _ hT Tv,λe he=>vd _ _ (xc e he) (λz=>by have:=xc e he;rw[z,hv] at this;cases this)];let WU:=tV vd;apply#[_,Z,_,Z,g,p,d,hs,ts,qs,fp,f,Z,WU,W.wq,Lh,λdp ad H6 b6 zZ np hp ls fra=>?_];have wD:NT H5 H6:=b6.nt (vd _ _ hT Tv);let Jl:=wD.ins S5;have Zl:dp≠v:=oS np;have av:∀h∈aF hs,ad h≠v:=λh hh=>oS (fra h hh);apply#[_,Z,v,CS,dx,_,Z,Jl,TS.cl,TS.nP,by show 3<1000;decide,?_];apply k _ (λb o e n1 n2=>?_) ?_ #[dx,dl,de,dp,ad,au,(WU.G.nt wD).keep (λb hb o e=>?_) (λb xs e=>?_),?_,?_,?_,λh hh=>?_]
 ·rw[aD n1];exact b6 _ _ (vd b o e n1) n2
 ·let#[es,e1,e2]:=zZ;exact#[es,by rw[aD (cb e1 Jl nofun)];exact e1,λe he=>by rw[aD (λz=>by have:=e2 e he;rw[z,Jl] at this;cases this)];exact e2 e he]
 ·rw[aD (λz:b=v=>yb (z▸hb))];exact e
 ·rw[aD (cb e Jl nofun)];exact e
 ·rw[aD lv];exact wD.dK zc
 ·rw[aD ev];exact wD.dK TL
 ·rw[aD Zl];exact hp
 rw[aD (av h hh)];exact ls.1 h hh
theorem se:br ["self","one","other","web"] kQ (a9 sS):=bF
inductive Do (K:af) (CS CG CW:Addr) (vs:ag) (H:Hp) (Q:VK) (E:XK):Prop
 |mk:∀(v g p:Addr) (a b:Str) (hs:Xa) (ts:Xb) (qs:aL) (fp:ai) (f:ao),vs=[.ref v,.str a,.str b]->iQ K CS CG CW H v g p hs ts qs fp f->Wd hs ts qs f->a∈aF hs->b∈aF hs->Q (.int (kU hs qs f a b)) H->Do K CS CG CW vs H Q E
theorem kl_{f0 CS CG CW:Addr}{fd:Ae}(F:bg K "lead" "Sight.lead" sS f0 fd)(TS:gE K CS)(TG:dA K CG)(TW:Txt K mg CW)(cS:!bo CW 2 "strength" jx (DO K CW)):!ak ba 3 f0 fd kQ (Do K CS CG CW):=by
 exists F.bI se;let#[v,g,p,a,b,hs,ts,qs,fp,f,rfl,S,W,ha,hb,k]:=h;let hu:=gC hr;refine' #[_,ax ?s1 (aC ?s2),?kk]
 case s1=>exact bh 3 se.nd (dz (dz (pv 0) Z) Z)
 case s2=>exact aY (bu xw (bu oX (j9 hu (dz (pv 0) Z) (pv 1)) (fG cS TW.cl hr (pv 3) %[2|0])) (bu oX (j9 hu (dz (pv 0) Z) (pv 2)) (fG cS TW.cl hr (pv 3) %[1|0])))
 let#[dx,dl,dv,dp,ad,h1,G,h3,h4,h5,h6]:=S.ex;let#[gA,dw,dy,vs,bM,g1,g2,_]:=id G.ex;let#[eX,d1,l2,d3,jn,as,ef,w1,_]:=id g2.ex;have hY:(cZ d1 l2 d3).lookup ("strength":Str)=none:=iJ _ _ _ Z0 Z0 Z0;let la:=Jk W.wq W.bR f a;let lb:=Jk W.wq W.bR f b;apply#[_,Z,v,CS,dx,_,_,Z,h1,TS.cl,TS.nW,gP _ _ _ _,g,CG,gA,_,_,Z,g1,TG.cl,TG.nW,jB _ _ _,?_];lk;apply#[_,Z,v,CS,dx,_,_,Z,h1,TS.cl,TS.nL,EB _ _ _ _,_,Z,dl,_,Z,BV h3 ha,_,Z,p,eX,_,Z,w1,hY,_,Z,p,b,strOf hs b,hs,ts,bM,Z,g2,W.Gd.yY,zG ((iz hs).mem_iff.mp hb),?_];apply#[_,_,Z,Z,.inl #[by omega,by omega],?_];apply#[_,Z,v,CS,dx,_,_,Z,h1,TS.cl,TS.nL,EB _ _ _ _,_,Z,dl,_,Z,BV h3 hb,_,Z,p,eX,_,Z,w1,hY,_,Z,p,a,strOf hs a,hs,ts,bM,Z,g2,W.Gd.yY,zG ((iz hs).mem_iff.mp ha),?_];exact#[_,_,Z,Z,.inl #[by omega,by omega],_,_,Z,Z,k]
theorem we:br kQ kQ (a9 mh):=bF
inductive Ki (K:af) (CS CG CW:Addr) (vs:ag) (H:Hp) (Q:VK) (E:XK):Prop
 |mk:∀(v g p:Addr) (a b:Str) (hs:Xa) (ts:Xb) (qs:aL) (fp:ai) (f:ao),vs=[.ref v,.str a,.str b]->iQ K CS CG CW H v g p hs ts qs fp f->Wd hs ts qs f->a∈aF hs->b∈aF hs->Q (.int (kG hs a b)) H->Ki K CS CG CW vs H Q E
theorem iz_{f0 CS CG CW:Addr}{fd:Ae}(F:bg K "joint_strength" "Sight.joint_strength" mh f0 fd)(TS:gE K CS)(TG:dA K CG)(TW:Txt K mg CW)(cS:!bo CW 2 "strength" jx (DO K CW)):!ak ba 3 f0 fd kQ (Ki K CS CG CW):=by
 exists F.bI we;let#[v,g,p,a,b,hs,ts,qs,fp,f,rfl,S,W,ha,hb,k]:=h;refine' #[_,aC ?s2,?kk]
 case s2=>exact aY (bu fH (fG cS TW.cl hr (dz (dz (pv 0) Z) Z) %[1|0]) (fG cS TW.cl hr (dz (dz (pv 0) Z) Z) %[2|0]))
 let#[dx,dl,dv,dp,ad,h1,G,h3,h4,h5,h6]:=S.ex;let#[gA,dw,dy,vs,bM,g1,g2,_]:=id G.ex;let#[eX,d1,l2,d3,jn,as,ef,w1,_]:=id g2.ex;have hY:(cZ d1 l2 d3).lookup ("strength":Str)=none:=iJ _ _ _ Z0 Z0 Z0;apply#[_,Z,v,CS,dx,_,_,Z,h1,TS.cl,TS.nW,gP _ _ _ _,g,CG,gA,_,_,Z,g1,TG.cl,TG.nW,jB _ _ _,p,eX,_,Z,w1,hY,_,Z,p,a,strOf hs a,hs,ts,bM,Z,g2,W.Gd.yY,zG ((iz hs).mem_iff.mp ha),?_];apply#[_,Z,v,CS,dx,_,_,Z,h1,TS.cl,TS.nW,gP _ _ _ _,g,CG,gA,_,_,Z,g1,TG.cl,TG.nW,jB _ _ _,p,eX,_,Z,w1,hY,_,Z,p,b,strOf hs b,hs,ts,bM,Z,g2,W.Gd.yY,zG ((iz hs).mem_iff.mp hb),?_];exact#[_,_,Z,Z,k]
end
end Ev
namespace Ev
open PySem L2
theorem nB(a b:Str):decide (V.str a=V.str b)=decide (a=b):=by
 by_cases z:a=b
 ·simp[z]
 have:¬(V.str a=V.str b):=λe=>z (V.str.inj e);simp[z,this]
abbrev nb(hs:Xa)(ts:Xb)(h:Str):ae:=near (aF hs) (aJ ts) h
def kR(hs:Xa)(qs:aL)(f:ao)(n:Str):ay:=[.inl (vj hs qs f n),.inr n]
def dB(hs:Xa)(ts:Xb)(qs:aL)(f:ao)(h:Str):ae:=(aX ((nb hs ts h).map (kR hs qs f))).map jM
def Fq(hs:Xa)(qs:aL)(f:ao):V->ay
 |.str n=>kR hs qs f n
 |_=>[]
theorem l5_{hs:Xa}{ts:Xb}{qs:aL}{f:ao}{h:Str}{zs:ag}(p:zs.Perm ((nb hs ts h).map V.str))(e:zs.map (Fq hs qs f)=aX (((nb hs ts h).map V.str).map (Fq hs qs f))):zs=(dB hs ts qs f h).map V.str:=by
 let#[ms,rfl,_]:=U7 p;have e1:(ms.map V.str).map (Fq hs qs f)=ms.map (kR hs qs f):=by rw[cu];rfl
 have e2:((nb hs ts h).map V.str).map (Fq hs qs f)=(nb hs ts h).map (kR hs qs f):=by
  rw[cu];rfl
 rw[e1,e2] at e
 have em:(ms.map (kR hs qs f)).map jM=ms:=by
  rw[cu];exact List.map_id' ms
 unfold dB;rw[<- e,em]
theorem Ig(hs:Xa)(ts:Xb)(qs:aL)(f:ao)(h:Str):(dB hs ts qs f h).Perm (nb hs ts h):=by
 unfold dB;let p:=(k7 ((nb hs ts h).map (kR hs qs f))).map jM
 have e:((nb hs ts h).map (kR hs qs f)).map jM=nb hs ts h:=by
  rw[cu];exact List.map_id' _
 rw[e] at p;exact p
theorem C8{hs:Xa}{ts:Xb}{h n:Str}(m:n∈nb hs ts h):n∈aF hs:=(List.mem_filter.mp m).1
theorem Dm(hs:Xa)(ts:Xb)(h:Str):(nb hs ts h).length<=(aF hs).length:=List.length_filter_le ..
abbrev jr:Str:="Sight.rising_neighbours.<locals>.<lambda>"
def pQ:Expr:=Sy (LO (EY (ib vo) 0))
abbrev By:ae:=gJ
theorem GI:∀y∈(jS pQ).names,y.2=.free->y.1∈By:=by decide +kernel
theorem Ax:Hh ["other"] By (jS pQ):=#[by decide +kernel,Z,Z,Z,by decide +kernel,by decide +kernel,λx h=>GI (x,.free) (p5 h) Z,by decide +kernel]
section v
inductive oi (K:af) (CS CG CW:Addr) (vs:ag) (gs:ag) (H:Hp) (Q:VK):Prop
 |mk:∀(v g p:Addr) (n:Str) (hs:Xa) (ts:Xb) (qs:aL) (fp:ai) (f:ao),vs=[.str n]->gs=[.ref v]->iQ K CS CG CW H v g p hs ts qs fp f->n∈aF hs->(∀t,H t=none->Q (.ref t) (upd H t (.tup [.int (vj hs qs f n),.str n])))->oi K CS CG CW vs gs H Q
def Ao(K:af)(CS CG CW:Addr):ag->ag->Hp->VK->XK->Prop:=λvs gs H Q _=>oi K CS CG CW vs gs H Q
theorem kz_{CS CG CW:Addr}(TS:gE K CS):!iX 1 jr (Fm pQ) (Fl pQ) (jS pQ) ["other"] By (Ao K CS CG CW):=by
 apply yN Ax (λpm c' j2 cl us hl=>?_) (λA outer s H f0 cd cl vs gs Q E hr h hp=>?_)
 ·match us,hl with
  |[_],_=>rfl
 let#[v,g,p,n,hs,ts,qs,fp,f,rfl,rfl,S,hn,k]:=h;let hu:=gC hr;let#[dx,dl,dv,dp,ad,h1,G,h3,h4,h5,h6]:=S.ex;apply#[_,dR %[j9 hu (dz (pv 1) Z) (pv 0),0|0],?_];exact#[_,Z,v,CS,dx,_,_,Z,h1,TS.cl,TS.nV,LH _ _ _ _,_,Z,dv,_,Z,BV h4 hn,_,Z,zl,λt ht=>k t ht]
def He(L:Addr):List (Str × Addr):=[("self",L+1)]
theorem P3{L f:Addr}{cd:Aa}:closureFor (jS pQ) (PyProof.Rows.envOfC "Sight.rising_neighbours" (a9 vo) L f cd)=pure (He L):=by rfl
theorem P5{L f:Addr}{cd:Aa}:∀q∈He L,(PyProof.Rows.envOfC "Sight.rising_neighbours" (a9 vo) L f cd).cells.lookup q.1\q.2:=by
 intro q hq;simp only[He,cQ,List.not_mem_nil,or_false] at hq;rcases hq with rfl;rfl
theorem Mr{L:Addr}:∀x∈By,∃c,(He L).lookup x\c:=by
 intro x hx;simp only[By,cQ,List.not_mem_nil,or_false] at hx;rcases hx with rfl;exact#[_,Z]
theorem Mn:∀x∈By,(a9 vo).names.lookup x\.cell:=by decide +kernel
theorem Aq:br jx jx (a9 vo):=bF
inductive GY (K:af) (CS CG CW T:Addr) (vs:ag) (H:Hp) (Q:VK) (E:XK):Prop
 |mk:∀(v g p:Addr) (h:Str) (hs:Xa) (ts:Xb) (qs:aL) (fp:ai) (f:ao),vs=[.ref v,.str h]->iQ K CS CG CW H v g p hs ts qs fp f->Wd hs ts qs f->h∈aF hs->cE H T jr->(∀l H',aR T H H'->cE H' T jr->H l=none->H' l\.lst ((dB hs ts qs f h).map V.str)->Q (.ref l) H')->GY K CS CG CW T vs H Q E
theorem jO_{f0 c0 CS CG CW T:Addr}{fd:Ae}(F:kA K BS "Sight.rising_neighbours" vo f0 c0 fd)(B:Bi mg)(TS:gE K CS)(TG:dA K CG)(TW:Txt K mg CW)(hC:PySem.W.CodeHd base c0 T)(uj:base.BuiltinsAt mg T)(cN:!bo CW 2 "neighbours" jx (J6 K CW)) :
  ak P w K mg base ba 4 f0 fd jx (GY K CS CG CW T):=by
 apply F.ok Aq (λvs H Q E h=>?_) (λA outer s H vs Q E hr h=>?_)
 ·let#[v,g,p,h,hs,ts,qs,fp,f,rfl,_]:=h;rfl
 let#[v,g,p,h,hs,ts,qs,fp,f,rfl,S,W,hh,tab,k]:=h;have ua:a_ 2 _:=hr.mono (by decide);refine' ⟨_,aC (aY ?l2),?kk⟩
 case l2=>exact UF (px:="other") (cY:=By) (cl:=He s.heap.objs.size) (is:=[0]) (k:=1) Z (by rfl) B.sorted %[fG cN TW.cl ua (dz (dz (pv 0) Z) Z) %[1|0]|0] (Uc (SB (P:=T) (c:=c0) Z P3 Z hC uj) SK) (kz_ (CG:=CG) (CW:=CW) TS) hr P5 Mr Mn Z
 let#[dx,dl,dv,dp,ad,h1,G,h3,h4,h5,h6]:=S.ex;let#[gA,dw,dy,vs,bM,g1,g2,_]:=id G.ex;let#[eX,d1,l2,d3,jn,as,ef,w1,_]:=id g2.ex;have hY:(cZ d1 l2 d3).lookup ("neighbours":Str)=none:=iJ _ _ _ Z0 Z0 Z0;apply#[_,Z,v,CS,dx,_,_,Z,h1,TS.cl,TS.nW,gP _ _ _ _,g,CG,gA,_,_,Z,g1,TG.cl,TG.nW,jB _ _ _,p,eX,_,Z,w1,hY,_,Z,p,h,hs,ts,bM,Z,g2,W.Gd.tR,(iz hs).mem_iff.mp hh,λln nn=>?_];let#[s1,e1]:=bp (o:=.lst ((nb hs ts h).map V.str)) nn;show lF _ (upd H ln (.lst ((nb hs ts h).map V.str))) _;generalize upd H ln (.lst ((nb hs ts h).map V.str))=H1 at s1 e1 ⊢;apply Fc (zC ?_);apply SE (tab.same s1) Z Z Z Z λfl c' H4 b4 fR wZ C0=>?_;let#[tv,hT]:=fu tab;have iO:NT H1 H4:=b4.nt (s1 _ _ hT);let S4:=(S.same s1).nt iO;have n8:(nb hs ts h).length<=8:=by have:=Dm hs ts h;have:=W.Gd.fS;have:=W.Gd.h8;omega
 apply#[.ref ln,fl,c',(nb hs ts h).map V.str,Fq hs qs f,[false,true],[.ref v],Z,Z,wZ,C0,.inl #[ln,Z,.of (iO.lst e1)],by rw[aA];omega,#[by decide,λk hk=>?_],Z,λH' x sm hx=>?_,λl zs H5 s5 nl CF pz ek=>?_]
 ·let#[v,hv,rfl]:=bJ.mp hk;let#[n,_,rfl]:=bJ.mp hv;rfl
 ·let#[n,hn,rfl]:=bJ.mp hx;apply#[v,g,p,n,hs,ts,qs,fp,f,Z,Z,S4.same sm,C8 hn,λt nt=>#[aa.new nt,t,Z,?_]];rw[au];rfl
 rw[l5_ pz ek];have s6:aa H4 (upd H5 l (.lst ((dB hs ts qs f h).map V.str))):=s5.trans (aa.new nl);apply k l _ (λb o e n=>s6 _ _ (b4 _ _ (s1 _ _ e) n)) (fR.same s6) ?_ au;cases z:H l with
 |none=>rfl
 |some o=>
  by_cases y:l=T
  ·let#[es,e,_]:=fR;rw[y,e] at CF;cases CF
  rw[b4 _ _ (s1 _ _ z) y] at CF;cases CF
theorem AA:br o9 o9 (a9 sY):=bF
def ur(g:Str)(a b:Int):Bool:=if g="high" then decide (0<a) else if g="fall" then decide (b<2 * a) else decide (b<=a)
def rO:Sp:=λvs H Q _=>∃(g:Str) (a b:Int),vs=[.str g,.int a,.int b]/\Q (.bl (ur g a b)) H
theorem kN_{f0:Addr}{fd:Ae}(F:bg K "fits" "fits" sY f0 fd):!ak ba 1 f0 fd o9 rO:=by
 exists F.bI AA;let#[g,a,b,rfl,k]:=h;refine' #[_,ax ?s1 (ax ?s2 (aC ?s3)),?kk]
 case s1=>exact bw (cn gf (pv 0) ck) (aC (aY (m_ BO (pv 1) az))) bx
 case s2=>exact bw (cn gf (pv 0) ck) (aC (aY (m_ BO (bu oX az (pv 1)) (pv 2)))) bx
 case s3=>exact aY (m_ Mz (pv 1) (pv 2))
 unfold ur at k;apply#[_,Z,Z,_,Z,?_];rw[nB];apply aM (λc=>?_) (λc=>?_)
 ·have c:g="high":=vy c;rw[aH c] at k;exact#[_,Z,_,_,Z,Z,k]
 have c:¬g="high":=λz=>c (bP z);rw[aB c] at k;apply#[_,Z,Z,_,Z,?_];rw[nB];apply aM (λc=>?_) (λc=>?_)
 ·have c:g="fall":=vy c;rw[aH c] at k;exact#[_,Z,_,_,Z,Z,.inl #[by decide,by decide],_,Z,_,_,Z,Z,k]
 have c:¬g="fall":=λz=>c (bP z);rw[aB c] at k;exact#[_,Z,_,Z,_,_,Z,Z,k]
end
end Ev
namespace Ev
open PySem L2
abbrev Mv:=Str × Str × Str
def kM(m:Mv):ay:=[.inr m.1,.inr m.2.1,.inr m.2.2]
def Iz(qs:aL)(n:Str):Option (Xb):=match qs.find? λq=>decide (q.1=n) with
 |some q=>q.2.2
 |none=>none
theorem So{qs:aL}(nd:(qs.map (·.1)).Nodup){q:Pc}(h:q∈qs):Iz qs q.1=q.2.2:=by
 unfold Iz;cases e:qs.find? λp=>decide (p.1=q.1) with
 |none=>
  have:=List.find?_eq_none.mp e q h;simp at this
 |some p=>
  let a:=List.mem_of_find?_eq_some e;let b:=List.find?_some e;have b:p.1=q.1:=vy b;rw[Vs nd a h b]
def mG(hs:Xa)(ts:Xb)(qs:aL)(n a b:Str):Bool:=Bu hs ts (Iz qs n) (some a) (some b)
def uc(hs:Xa)(ts:Xb)(qs:aL)(f:ao)(gd:Str)(gv:ae)(a b n:Str):Bool:=!decide (n∈gv)&&(ur gd (kU hs qs f a b) (vc qs n * kG hs a b)&&mG hs ts qs n a b)
def iu(hs:Xa)(ts:Xb)(qs:aL)(f:ao)(gd:Str)(gv:ae)(a b:Str):List Mv:=match (eR qs f a).find? (uc hs ts qs f gd gv a b) with
 |some n=>[(n,a,b)]
 |none=>[]
theorem Uh{α:Type}{p:α->Bool}:∀{l:List α} {i:Nat} {x:α},l[i]? = some x->p x=true->(∀y∈l.take i,p y=false)->l.find? p\x
 |a::l,0,x,h,hp,_=>by
  cases h;rw[List.find?_cons_of_pos hp]
 |a::l,i+1,x,h,hp,hn=>by
  have na:¬p a=true:=by rw[hn a Z2];decide
  rw[List.find?_cons_of_neg na];exact Uh ⇑h hp λy hy=>hn y (by simp[hy])
 |[],i,x,h,_,_=>by simp at h
theorem J4{qs:aL}{f:ao}{h n:Str}(m:n∈eR qs f h):n∈qs.map (·.1)/\f n=h:=by
 let#[a,b]:=List.mem_filter.mp m;exact#[(Hi qs).mem_iff.mp a,vy b]
section v
theorem ou:br ["sight","one","other","guard","given","lead","joint","piece"] kj (a9 AG):=bF
inductive jK (K:af) (CS CG CW:Addr) (vs:ag) (H:Hp) (Q:VK) (E:XK):Prop
 |mk:∀(v g p lg:Addr) (a b gd:Str) (gv:ae) (hs:Xa) (ts:Xb) (qs:aL) (fp:ai) (f:ao),vs=[.ref v,.str a,.str b,.str gd,.ref lg]->iQ K CS CG CW H v g p hs ts qs fp f->Wd hs ts qs f->a∈aF hs->b∈aF hs->H lg\.lst (gv.map V.str)->(∀l ys H',aa H H'->H l=none->H' l\.lst ys->bG K H' ys ((iu hs ts qs f gd gv a b).map kM)->Q (.ref l) H')->jK K CS CG CW vs H Q E
theorem kX_{f0 CS CG CW CP:Addr}{fd:Ae}(F:bg K "heaviest_move" "heaviest_move" AG f0 fd)(TS:gE K CS)(TG:dA K CG)(cL:!bo CS 3 "lead" kQ (Do K CS CG CW))(cJ:!bo CS 3 "joint_strength" kQ (Ki K CS CG CW))(cF:!bc 1 "fits" o9 rO)(cW:!bo CG 2 "weight" zu (Ce K CG CW CP))(cM:!bo CG 3 "may_go" o_ (JW K CG CW CP)) :
  ak P w K mg base ba 4 f0 fd kj (jK K CS CG CW):=by
 exists F.bI ou;let#[v,g,p,lg,a,b,gd,gv,hs,ts,qs,fp,f,rfl,S,W,ha,hb,hg,k]:=h;let hu:=gC hr;let sz:=b_;have ua:a_ 2 _:=hr.mono (by decide);refine' #[_,?r0,?kk]
 case' r0=>refine' ax ?s1 ?r1
 case' r1=>refine' ax ?s2 ?r2
 case' r2=>refine' ax ?s3 (aC ?s4)
 case s1=>exact bh 5 ou.nd (fG cL TS.cl hr (pv 0) %[1,2|0])
 case s2=>exact bh 6 ou.nd (fG cJ TS.cl hr (pv 0) %[1,2|0])
 case' s3=>refine' fC eS Z (d_ (j9 hu (dz (pv 0) Z) (pv 1))) (cq 7 ou.nd) (aC ?b3)
 case' b3=>refine' bw (PW.pt (xG ?c1 (zI ?c2))) (aC ?b4) bx
 case c1=>exact cn (Vw ia (j6 hr 0)) (pv 7) (pv 4) (by with_unfolding_all rfl)
 case c2=>exact dF (aP cF hr %[3,5,bu oX (fG cW TG.cl ua (dz (pv 0) Z) %[7|0]) (pv 6)|0])
 case b4=>exact bw (dF (fG cM TG.cl hr (dz (pv 0) Z) %[7,1,2|0])) (aC (aY (dE %[dR %[7,1,2|0]|0]))) bx
 case s4=>exact aY (dE bf)
 let#[dx,dl,dv,dp,ad,h1,G,h3,h4,h5,h6]:=S.ex;have no:∀{m:Str},¬m="wares"->¬m=iR->¬m=oU->¬m=BL->(dU g dl dv dp).lookup m=none:=λa b c d=>Dj _ _ _ _ a b c d;apply#[_,Z,v,dx,_,Z,h1,no Z0 Z0 Z0 Z0,_,Z,_,Z,v,g,p,a,b,hs,ts,qs,fp,f,Z,S,W,ha,hb,?_];lk;apply#[_,Z,v,dx,_,Z,h1,no Z0 Z0 Z0 Z0,_,Z,_,Z,v,g,p,a,b,hs,ts,qs,fp,f,Z,S,W,ha,hb,?_];lk;let hl:=h6 a ha;apply#[_,Z,v,CS,dx,_,_,Z,h1,TS.cl,TS.nP,EA _ _ _ _,_,Z,dp,_,Z,BV h5 ha,ad a,Z,#[_,.of hl],iK (K:=K) (a:=ad a) (xs:=(eR qs f a).map V.str) (λi σ H'=>∃v7:aN,σ=[some (.ref v),some (.str a),some (.str b),some (.str gd),some (.ref lg),some (.int (kU hs qs f a b)),some (.int (kG hs a b)),v7]/\aa H H'/\∀n∈(eR qs f a).take i,uc hs ts qs f gd gv a b n=false) #[none,Z,aa.refl H,by simp] (λi σ H' _ ⟨_,_,sm,_⟩=>.of (sm _ _ hl)) ?_ ?_]
 ·rintro i x σ H' hx ⟨v7,rfl,sm,nf⟩;let#[n,hn,rfl]:=jy hx;let#[nm,fn]:=J4 (dI hn);let#[q,hq,rfl]:=bJ.mp nm;let G':=G.same sm;let gU:=sm _ _ h1;let#[gA,dw,dy,vs,bM,g1,g2,_]:=id G'.ex;have MJ:(bV p dw dy).lookup ("weight":Str)=none:=uN _ _ _ Z0 Z0 Z0;have M6:(bV p dw dy).lookup ("may_go":Str)=none:=uN _ _ _ Z0 Z0 Z0;let wq:=W.wq q hq;let ew:=Mx W.nd hq;let ey:=So W.nd hq
  have go:∀{H2:Hp},aa H' H2->uc hs ts qs f gd gv a b q.1=false->∃v7:aN,[some (V.ref v),some (V.str a),some (V.str b),some (V.str gd),some (V.ref lg),some (V.int (kU hs qs f a b)),some (V.int (kG hs a b)),some (V.str q.1)]=[some (V.ref v),some (V.str a),some (V.str b),some (V.str gd),some (V.ref lg),some (V.int (kU hs qs f a b)),some (V.int (kG hs a b)),v7]/\aa H H2/\∀n∈(eR qs f a).take (i+1),uc hs ts qs f gd gv a b n=false:=λ{H2} s2 e=>#[_,Z,sm.trans s2,λm hm=>by
   rw[jz hn] at hm;rcases gD.mp hm with hm|hm
   ·exact nf m hm
   rw[List.mem_singleton.mp hm];exact e]
  lk;apply#[_,Z,_,Z,q.1,gv,Z,#[lg,_,Z,.of (sm _ _ hg),Hj gv],_,Z,?_];rw[aH Z];apply aM (λc=>?_) (λc=>?_)
  ·have c:¬q.1∈gv:=⇑c
   apply#[_,Z,_,Z,_,Z,v,CS,dx,_,_,Z,gU,TS.cl,TS.nW,gP _ _ _ _,g,gA,_,Z,g1,MJ,_,Z,g,p,.str q.1,some q.1,hs,ts,qs,fp,Z,G',W.nd,Z,.inl #[q,hq,Z,?_]];apply#[_,Z,_,_,Z,Z,.inl #[by omega,by omega],gd,kU hs qs f a b,q.2.1 * kG hs a b,Z,_,Z,?_];apply aM (λc2=>?_) (λc2=>?_)
   ·apply#[_,Z,v,CS,dx,_,_,Z,gU,TS.cl,TS.nW,gP _ _ _ _,g,gA,_,Z,g1,M6,_,Z,_,Z,_,Z,g,p,.str q.1,.str a,.str b,some q.1,some a,some b,hs,ts,qs,fp,Z,G',W.nd,W.Gd.tR,Z,.inl #[q,hq,Z,Z,Z,λH2 s2=>#[_,Z,?_]]];apply aM (λc3=>?_) (λc3=>?_)
    ·have pt:uc hs ts qs f gd gv a b q.1=true:=by
      unfold uc mG;rw[ew,ey,c2,dJ c];simpa using c3
     apply#[_,Z,_,Z,_,Z,zl,λt nt=>?_];let#[s3,e3]:=bp (o:=.tup [.str q.1,.str a,.str b]) nt;generalize upd H2 t (.tup [.str q.1,.str a,.str b])=H3 at s3 e3 ⊢;apply#[zl,λl nl=>?_];let s4:=aa.new (o:=.lst [.ref t]) nl;let EG:=(sm.trans s2).trans s3;apply k l [.ref t] _ (EG.trans s4) (EG.free nl) au ?_;unfold iu;rw[Uh hn pt nf];exact .cons #[t,Z,s4 _ _ e3] .nil
    apply go s2 ?_;unfold uc mG;rw[ew,ey,c2];have c3:Bu hs ts q.2.2 (some a) (some b)=false:=⇑c3
    rw[c3,xP,xP]
   apply go (aa.refl H') ?_;unfold uc;rw[ew,show ur gd (kU hs qs f a b) (q.2.1 * kG hs a b)=false by simpa using c2,Bool.false_and,xP]
  have c:q.1∈gv:=⇑c
  apply go (aa.refl H') ?_;unfold uc;rw[bP c];rfl
 rintro σ H' ⟨v7,rfl,sm,nf⟩;rw[aA,e_] at nf;apply#[zl,λl nl=>?_];apply k l [] _ (sm.trans (aa.new nl)) (sm.free nl) au ?_;unfold iu;rw[List.find?_eq_none.mpr λn hn=>by rw[nf n hn];decide];exact .nil
def uM(hs:Xa)(ts:Xb)(qs:aL)(f:ao)(gd h:Str):List Mv:=match dB hs ts qs f h with
 |[]=>[]
 |o::_=>iu hs ts qs f gd [] h o
theorem Wk:br ["sight","hand","guard","around"] De (a9 Pp):=bF
inductive jJ (K:af) (CS CG CW T:Addr) (mv:Xa->Xb->aL->(Str->Str)->Str->Str->List Mv) (vs:ag) (H:Hp) (Q:VK) (E:XK):Prop
 |mk:∀(v g p:Addr) (h gd:Str) (hs:Xa) (ts:Xb) (qs:aL) (fp:ai) (f:ao),vs=[.ref v,.str h,.str gd]->iQ K CS CG CW H v g p hs ts qs fp f->Wd hs ts qs f->h∈aF hs->cE H T jr->(∀l ys H',aR T H H'->cE H' T jr->H l=none->H' l\.lst ys->bG K H' ys ((mv hs ts qs f gd h).map kM)->Q (.ref l) H')->jJ K CS CG CW T mv vs H Q E
theorem aR.new{T l:Addr}{H G:Hp}(b:aR T H G)(hT:∃vs,G T\.tbl vs)(n:G l=none):H l=none:=by
 cases z:H l with
 |none=>rfl
 |some o=>
  by_cases y:l=T
  ·let#[vs,e]:=hT;rw[y,e] at n;cases n
  rw[b _ _ z y] at n;cases n
theorem fP_{f0 CS CG CW T:Addr}{fd:Ae}(F:bg K "moves_by_least" "moves_by_least" Pp f0 fd)(TS:gE K CS)(cR:!bo CS 4 BS jx (GY K CS CG CW T))(cH:!bc 4 "heaviest_move" kj (jK K CS CG CW)):!ak ba 5 f0 fd De (jJ K CS CG CW T uM):=by
 exists F.bI Wk;let#[v,g,p,h,gd,hs,ts,qs,fp,f,rfl,S,W,hh,tab,k]:=h;refine' #[_,ax ?s1 (ax ?s2 (aC ?s3)),?kk]
 case s1=>exact bh 3 Wk.nd (fG cR TS.cl hr (pv 0) %[1|0])
 case s2=>exact bw (cn (SJ ia (j6 hr 0)) (pv 3) (dE bf)) (aC (aY (dE bf))) bx
 case s3=>exact aY (aP cH hr %[0,1,bA fA (pv 3) az,2,dE bf|0])
 let#[dx,dl,dv,dp,ad,h1,G,h3,h4,h5,h6]:=S.ex;apply#[_,Z,v,dx,_,Z,h1,Dj _ _ _ _ Z0 Z0 Z0 Z0,_,Z,v,g,p,h,hs,ts,qs,fp,f,Z,S,W,hh,tab,λl1 H1 b1 vS n1 e1=>?_];lk;let#[tv,hT]:=fu tab;let S1:=S.nt (b1.nt hT);apply#[_,Z,zl,λl2 n2=>?_];let#[s2,e2]:=bp (o:=.lst []) n2;generalize upd H1 l2 (.lst [])=H2 at s2 e2 ⊢;let OW:=s2 _ _ e1;have b2:aR T H H2:=λb o e n=>s2 _ _ (b1 _ _ e n);let lC:=vS.same s2;let EU:=Ig hs ts qs f h;apply#[dB hs ts qs f h,[],Vh OW,Vh e2,_,Z,?_];cases z:dB hs ts qs f h with
 |nil=>
  apply bO #[zl,λl3 n3=>?_];let s3:=aa.new (o:=.lst []) n3;apply k l3 [] _ (λb o e n=>s3 _ _ (b2 _ _ e n)) (lC.same s3) (aR.new b2 (fu lC) n3) au ?_;unfold uM;rw[z];exact .nil
 |cons o r=>
  rw[dJ Z2];apply aQ ?_;rw[z] at OW EU;have ob:o∈aF hs:=C8 (EU.mem_iff.mp fQ);apply#[_,Z,_,Z,_,Z,l1,_,0,.str o,Z,Z,.of OW,L2.fP (j:=0) Z,_,Z,zl,λl3 n3=>?_];let#[s3,e3]:=bp (o:=.lst []) n3;generalize upd H2 l3 (.lst [])=H3 at s3 e3 ⊢;apply#[v,g,p,l3,h,o,gd,[],hs,ts,qs,fp,f,Z,(S1.same s2).same s3,W,hh,ob,e3,λl ys H4 s4 nl hl tu=>?_];let qi:=s3.trans s4;apply k l ys H4 (λb o e n=>qi _ _ (b2 _ _ e n)) (lC.same qi) (aR.new b2 (fu lC) (s3.free nl)) hl ?_;unfold uM;rw[z];exact tu
end
end Ev
abbrev gY:=List Ev.Mv
namespace Ev
open PySem L2
abbrev zV:=Rl->Xa->Xb->aL->(Str->Str)->Str->gY
def BX(mv:zV)(r:Rl)(hs:Xa)(ts:Xb)(qs:aL)(f:ao):gY:=if r.2.2.1="one" then ((aF hs).flatMap (mv r hs ts qs f)).take 1 else (aF hs).flatMap (mv r hs ts qs f)
def zA:zV:=λr hs ts qs f h=>uM hs ts qs f (r.2.2.2.getD "") h
theorem Ue:∀r∈rl,r.2.1≠"shares"->r.2.2.2.isSome=true:=by decide +kernel
theorem Cc(hs:Xa)(ts:Xb)(qs:aL)(f:ao)(gd:Str)(gv:ae)(a b:Str):(iu hs ts qs f gd gv a b).length<=1:=by
 unfold iu;split
 ·exact bj 1
 exact g7 1
theorem gD_(r:Rl)(hs:Xa)(ts:Xb)(qs:aL)(f:ao)(h:Str):(zA r hs ts qs f h).length<=1:=by
 unfold zA uM;split
 ·exact g7 1
 exact Cc ..
theorem UD{α:Type}{g:Str->List α}{n:Nat}(h:∀x,(g x).length<=n):∀l:ae,(l.flatMap g).length<=n * l.length
 |[]=>by simp
 |a::l=>by
  have:=h a;let ih:=UD h l;rw[List.flatMap_cons,fB,ka,Nat.mul_succ];omega
section v
theorem Pe:br vq vq (a9 Hv):=bF
inductive vK (K:af) (CS CG CW T:Addr) (pr:Rl->Prop) (mv:zV) (vs:ag) (H:Hp) (Q:VK) (E:XK):Prop
 |mk:∀(v g p aw:Addr) (h:Str) (hs:Xa) (ts:Xb) (qs:aL) (fp:ai) (f:ao),∀r∈rl,vs=[.ref v,.str h,.ref aw]->pr r->(∀H',gL K H' aw [.str r.2.1,.str r.2.2.1,tI r.2.2.2])->iQ K CS CG CW H v g p hs ts qs fp f->Wd hs ts qs f->h∈aF hs->cE H T jr->(∀l ys H',aR T H H'->cE H' T jr->H l=none->H' l\.lst ys->bG K H' ys ((mv r hs ts qs f h).map kM)->Q (.ref l) H')->vK K CS CG CW T pr mv vs H Q E
theorem gk_{f0 CS CG CW T:Addr}{fd:Ae}(F:bg K "moves_from" "moves_from" Hv f0 fd)(cL:!bc 5 "moves_by_least" De (jJ K CS CG CW T uM)):!ak ba 6 f0 fd vq (vK K CS CG CW T (λr=>r.2.1="least") zA):=by
 exists F.bI Pe;let#[v,g,p,aw,h,hs,ts,qs,fp,f,r,bQ,rfl,le,ha,S,W,hh,tab,k]:=h;refine' #[_,ax ?s1 eE,?kk]
 case s1=>exact bw (cn gf (bA c_ (pv 2) az) ck) (aC (aY (aP cL hr %[0,1,bA c_ (pv 2) az|0]))) bx
 let so:=Ue r bQ (by rw[le];decide +kernel);let#[gd,eg]:=Cj.mp so;apply#[_,Z,aw,_,_,_,Z,Z,ha _,Z,Z,_,Z,?_];rw[nB,bP le];apply bO ?_;apply#[_,Z,_,Z,_,Z,aw,_,_,.str gd,Z,Z,ha _,?_,v,g,p,h,gd,hs,ts,qs,fp,f,Z,S,W,hh,tab,λl ys H' b t n e tu=>k l ys H' b t n e ?_]
 ·rw[eg];rfl
 unfold zA;rw[eg];exact tu
theorem JT:br ["sight","rule","moment","words","moves","hand"] vp (a9 jN):=bF
inductive lI (K:af) (CS CG CW T:Addr) (pr:Rl->Prop) (mv:zV) (vs:ag) (H:Hp) (Q:VK) (E:XK):Prop
 |mk:∀(v g p:Addr) (m:Int) (hs:Xa) (ts:Xb) (qs:aL) (fp:ai) (f:ao),∀r∈rl,vs=[.ref v,.str r.1,.int m]->pr r->iQ K CS CG CW H v g p hs ts qs fp f->Wd hs ts qs f->cE H T jr->(∀l ys H',aR T H H'->cE H' T jr->H l=none->H' l\.lst ys->bG K H' ys ((BX mv r hs ts qs f).map kM)->Q (.ref l) H')->lI K CS CG CW T pr mv vs H Q E
theorem kg_{f0 CS CG CW T:Addr}{fd:Ae}{pr:Rl->Prop}{mv:zV}(F:bg K "moves_seen" "moves_seen" jN f0 fd)(TS:gE K CS)(TG:dA K CG)(TW:Txt K mg CW)(ZM:∀r,pr r->r.2.1≠"turns")(hb:∀r hs ts qs f h,Wd hs ts qs f->(mv r hs ts qs f h).length<=1000)(xB:!bc 2 BJ ["rule"] (Hx K))(cH:!bo CW 1 "hands" gJ (Dx K CW))(cF:!bc 6 "moves_from" vq (vK K CS CG CW T pr mv)) :
  ak P w K mg base ba 7 f0 fd vp (lI K CS CG CW T pr mv):=by
 exists F.bI JT;let#[v,g,p,m,hs,ts,qs,fp,f,r,bQ,rfl,hp,S,W,tab,k]:=h;let sz:=b_;have ip:a_ 1 _:=hr.mono (by decide);refine' #[_,?r0,?kk]
 case' r0=>refine' ax ?s1 ?r1
 case' r1=>refine' ax ?s2 ?r2
 case' r2=>refine' ax ?s3 ?r3
 case' r3=>refine' ax ?s4 (aC ?s5)
 case s1=>exact bh 3 JT.nd (aP xB hr %[1|0])
 case s2=>exact bw (cn gf (bA c_ (pv 3) az) ck) eE bx
 case s3=>exact bh 4 JT.nd (dE bf)
 case' s4=>refine' fC eS Z (d_ (uK cH TW.cl ip (dz (dz (pv 0) Z) Z))) (cq 5 JT.nd) (ax ?b1 (aC ?b2))
 case b1=>exact j_ (kW mX DD DE DH (pv 4) %[aP cF hr %[0,5,3|0]|0])
 case b2=>exact bw (PW.pt (xG (cn gf (bA c_ (pv 3) az) ck) (zI (cn (U3 (j6 hr 0)) (pv 4) (dE bf))))) (aC (aY (vF B7 (pv 4) vD (vC az)))) bx
 case s5=>exact aY (pv 4)
 apply#[_,Z,r,bQ,Z,λaw ha=>?_];lk;apply#[_,Z,aw,_,_,_,Z,Z,ha _,Z,Z,_,Z,?_];rw[nB,dJ (ZM r hp)];apply aQ ?_;apply#[zl,λlm nm=>?_];lk;let#[s1,e1]:=bp (o:=.lst []) nm;generalize upd H lm (.lst [])=H1 at s1 e1 ⊢;let#[dx,dl,dv,dp,ad,h1,G,h3,h4,h5,h6]:=(S.same s1).ex;let#[gA,dw,dy,vs,bM,g1,g2,_]:=id G.ex;let#[eX,d1,l2,d3,jn,as,ef,w1,_]:=id g2.ex;have hY:(cZ d1 l2 d3).lookup ("hands":Str)=none:=iJ _ _ _ Z0 Z0 Z0;apply#[_,Z,v,CS,dx,_,_,Z,h1,TS.cl,TS.nW,gP _ _ _ _,g,CG,gA,_,_,Z,g1,TG.cl,TG.nW,jB _ _ _,p,eX,_,Z,w1,hY,p,hs,ts,bM,Z,g2,λlh nh=>?_];let#[s2,e2]:=bp (o:=.lst ((aF hs).map V.str)) nh;generalize upd H1 lh (.lst ((aF hs).map V.str))=H2 at s2 e2 ⊢;have _G:lm≠lh:=bE e1 nh;let ik:=s1.trans s2;let#[tv,hT]:=fu tab;have neT:∀{b:Addr} {xs:ag},H2 b\.lst xs->b≠T:=λe z=>by rw[z,ik _ _ hT] at e;cases e
 have n8:(aF hs).length<=8:=by have:=W.Gd.fS;have:=W.Gd.h8;omega
 have bound:∀i,(((aF hs).take i).flatMap (mv r hs ts qs f)).length<=8000:=λi=>by
  have:=UD (g:=mv r hs ts qs f) (n:=1000) (λx=>hb r hs ts qs f x W) ((aF hs).take i);rw[d6] at this;omega
 apply#[lh,Z,#[_,.of e2],iK (K:=K) (a:=lh) (xs:=(aF hs).map V.str) (λi σ H'=>∃(v5:aN) (ys:ag),σ=[some (.ref v),some (.str r.1),some (.int m),some (.ref aw),some (.ref lm),v5]/\aR T H H'/\cE H' T jr/\H' lh\.lst ((aF hs).map V.str)/\H' lm\.lst ys/\bG K H' ys ((((aF hs).take i).flatMap (mv r hs ts qs f)).map kM)/\(r.2.2.1="one"->((aF hs).take i).flatMap (mv r hs ts qs f)=[])) #[none,[],Z,λb o e n=>ik _ _ e,tab.same ik,e2,s2 _ _ e1,.nil,λ_=>rfl] (λi σ H' _ ⟨_,_,_,_,_,z,_⟩=>.of z) ?_ ?_]
 ·rintro i x σ H' hx ⟨v5,ys,rfl,bT,jG,pT,ue,tu,one⟩;let#[n,hn,rfl]:=jy hx;let L7:=dI hn;lk;let S':=S.nt (bT.nt hT);apply#[_,Z,.inl #[Z,_,.of ue],_,Z,_,Z,_,Z,v,g,p,aw,n,hs,ts,qs,fp,f,r,bQ,Z,hp,ha,S',W,L7,jG,λl zs H3 b3 gi nl hl tz=>?_];let#[tv',C6]:=fu jG;let AR:=b3.nt C6;let wW:=AR.lst ue;let Ct:=bG.nt tu AR;have lT:l≠T:=λz=>by rw[z,C6] at nl;cases nl
  have Jf:lm≠l:=bE ue nl;let g5:=bound i;let ly:=bK tu;let lz:=bK tz;rw[aA] at ly lz;let bz:=hb r hs ts qs f n W;apply#[lm,l,ys,zs,Z,Z,wW,hl,by omega,?_];have e4:upd H3 lm (.lst (ys++zs)) lm\.lst (ys++zs):=au
  have b4:aR T H (upd H3 lm (.lst (ys++zs))):=λb o e ne=>by
   rw[aD (bE e nm)];exact b3 _ _ (bT _ _ e ne) ne
  have fR:cE (upd H3 lm (.lst (ys++zs))) T jr:=cE.putL gi wW
  have Bh:upd H3 lm (.lst (ys++zs)) lh\.lst ((aF hs).map V.str):=by
   rw[aD _G.symm];exact AR.lst pT
  have fl:((aF hs).take (i+1)).flatMap (mv r hs ts qs f)=((aF hs).take i).flatMap (mv r hs ts qs f)++mv r hs ts qs f n:=by
   rw[jz hn,List.flatMap_append,List.flatMap_cons,List.flatMap_nil,xR]
  have ve:bG K (upd H3 lm (.lst (ys++zs))) (ys++zs) ((((aF hs).take (i+1)).flatMap (mv r hs ts qs f)).map kM):=by
   rw[fl,dC];exact kZ (jC Ct wW) (jC tz wW)
  generalize upd H3 lm (.lst (ys++zs))=H4 at e4 b4 fR Bh ve ⊢;dsimp only;apply#[_,Z,aw,_,_,_,Z,Z,ha _,Z,Z,_,Z,?_];rw[nB];apply aM (λc=>?_) (λc=>?_)
  ·have c:r.2.2.1="one":=vy c;apply#[_,Z,zl,λle ne=>?_];let#[s5,e5]:=bp (o:=.lst []) ne;generalize upd H4 le (.lst [])=H5 at s5 e5 ⊢;apply#[lm,le,ys++zs,Z,Z,.of (s5 _ _ e4),.of e5,_,Z,?_];let ll:=bK ve;rw[aA] at ll;apply aM (λc2=>?_) (λc2=>?_)
   ·apply#[_,Z,_,Z,lm,_,Z,.of (s5 _ _ e4),λlq nq=>?_];rw[show dX (ys++zs) none (some 1)=(ys++zs).take 1 from PL (ys++zs) 1];let s6:=aa.new (o:=.lst ((ys++zs).take 1)) nq;let wm:=s5.trans s6;have b6:aR T H (upd H5 lq (.lst ((ys++zs).take 1))):=λb o e n=>wm _ _ (b4 _ _ e n);apply k lq _ _ b6 (fR.same wm) (aR.new (T:=T) (G:=H5) (λb o e n=>s5 _ _ (b4 _ _ e n)) (fu (fR.same s5)) nq) au ?_;unfold BX;rw[aH c]
    have nz:((aF hs).take (i+1)).flatMap (mv r hs ts qs f)≠[]:=λz=>by
     rw[z,p9] at ll;have y:ys++zs=[]:=List.length_eq_zero_iff.mp ll;rw[y] at c2;simp at c2
    have e7:((aF hs).flatMap (mv r hs ts qs f)).take 1=(((aF hs).take (i+1)).flatMap (mv r hs ts qs f)).take 1:=by
     conv=>lhs;rw[<- List.take_append_drop (i+1) (aF hs),List.flatMap_append]
     cases z:((aF hs).take (i+1)).flatMap (mv r hs ts qs f) with
     |nil=>exact absurd z nz
     |cons a b=>rfl
    rw[e7,List.map_take];exact KJ 1 (ve.same wm)
   have z:ys++zs=[]:=⇑c2
   apply#[_,_,Z,λb o e n=>s5 _ _ (b4 _ _ e n),fR.same s5,s5 _ _ Bh,s5 _ _ e4,ve.same s5,λ_=>?_];rw[z,p9] at ll;exact List.length_eq_zero_iff.mp ll.symm
  apply#[_,_,Z,b4,fR,Bh,e4,ve,λz=>absurd (bP z) c]
 rintro σ H' ⟨v5,ys,rfl,bT,jG,pT,ue,tu,one⟩;rw[aA,e_] at tu one;apply#[_,Z,k lm ys H' bT jG nm ue ?_];unfold BX;by_cases c:r.2.2.1="one"
 ·rw[aH c];have:=one c;rw[this] at tu ⊢;exact tu
 rw[aB c];exact tu
end
end Ev
namespace Ev
open PySem L2
structure ig (P:Ad) (w:Af) (K:af) (mg:Str->Option Aa) (base:Heap) (C:Addr) (k:Nat) (x:Str) (ps:ae) (sp:Sp):Prop where
 ex:∃f fd,ak P w K mg base ba k f fd ps sp/\Mk K C f/\mg x\.ref C/\qE K fd ps []
theorem BR{n_:Nat}{X:Cx}{C:Addr}{k:Nat}{x:Str}{ps:ae}{sp:Sp}{p pos:Pos}{e:Expr}{es:List Expr}{t:TA}(c:ig X.prog X.w X.K X.mg X.base C k x ps sp)(hr:a_ n_ X.A)(ha:PA X (e::es) t)(hg:Gl X x:=by rfl)(pU:(x == ("__debug__":Str))=false:=by decide)
  (he:starEach (e::es) X.env=(false,eval e X.env)::starEach es X.env:=by rfl) (jt:(backTo pos (starEach es X.env)).any (·.1)=false:=by rfl) (hk:(k+1)<=n_:=by decide):PE X (.Call (.Name x p) (e::es) [] pos) (yg C sp [] E0 t):=by
 let#[f,fd,F,M,m,b]:=c.ex;exact jK_ M F (hr.mono hk) hg m b .nil oG ha pU he jt
section v
theorem Vt:br BH BH (a9 Kc):=bF
def VF:Sp:=λvs H Q _=>∃i a:Int,vs=[.int i,.int a]/\Q (.bl (decide (a<=i))) H
theorem hC_{f0:Addr}{fd:Ae}(F:bg K "is_whole_from" "is_whole_from" Kc f0 fd)(cI:!bc 1 "is_whole" fO rM):!ak ba 2 f0 fd BH VF:=by
 exists F.bI Vt;let#[i,a,rfl,k]:=h;apply#[_,aC (aY (kL (aP cI hr %[0|0]) (kK (m_ pV (pv 1) (pv 0))))),?_];exact#[_,Z,i,Z,_,Z,bO #[_,Z,_,Z,_,_,Z,Z,k]]
theorem fk':br fO fO (a9 Qd):=bF
def V2:Sp:=λvs H Q _=>∃i:Int,vs=[.int i]/\0<=i/\Q (.int i) H
theorem f6_{f0:Addr}{fd:Ae}(F:bg K "checked_moments" "checked_moments" Qd f0 fd)(cI:!bc 2 "is_whole_from" BH VF):!ak ba 3 f0 fd fO V2:=by
 apply F.bI fk' λaO A outer s H vs Q E hr h=>?_;let#[i,rfl,h0,k]:=h;apply#[_,ax (bw (eF (dF (aP cI hr %[0,az|0]))) eE bx) (aC (aY (pv 0))),?_];apply#[_,Z,i,0,Z,_,Z,?_];rw[bP h0];exact aQ #[_,Z,k]
theorem sx:br qy qy (a9 Ow):=bF
def Ho(K:af)(CG CW:Addr):Sp:=λvs H Q _=>∃(g d:V),∃r∈rl,vs=[g,d,.str r.1]/\KA K CG CW [g,d] H Q E0
theorem i2_{f0 CG CW:Addr}{fd:Ae}(F:bg K BF BF Ow f0 fd)(xB:!bc 2 BJ ["rule"] (Hx K))(cS:!bc 2 "checked_stand" ["goods","stand"] (KA K CG CW)):!ak ba 3 f0 fd qy (Ho K CG CW):=by
 exists F.bI sx;let#[g,d,r,bQ,rfl,h]:=h;apply#[_,ax (j_ (aP xB hr %[2|0])) (aC (aY (aP cS hr %[0,1|0]))),?_];exact#[_,Z,r,bQ,Z,λa _=>#[_,Z,_,Z,h]]
structure nE (K:af) (CG CW:Addr) (H:Hp) (g p d:Addr) (hs:Xa) (ts:Xb) (qs:aL) (fp:ai) (ns:ae) (f:ao):Prop where
 G:gK K CG CW H g p hs ts qs fp
 jc:d∉fp
 hd:H d\.dK (bZ ns f)
 so:pe hs qs ns f
 has:∀b∈fp,∃o,H b\o/\∀vs,o≠.tbl vs
theorem nE.nt{CG CW g p d:Addr}{H G:Hp}{hs:Xa}{ts:Xb}{qs:aL}{fp:ai}{ns:ae}{f:ao}(S:nE K CG CW H g p d hs ts qs fp ns f)(s:NT H G):nE K CG CW G g p d hs ts qs fp ns f:=#[S.G.nt s,S.jc,s.dK S.hd,S.so,λb hb=>by
 let#[o,e,n]:=S.has b hb;exact#[o,s _ _ e n,n]]
structure Tb (H:Hp) (T1 T2:Addr):Prop where
 a:cE H T1 yI
 b:cE H T2 jr
 ne:T1≠T2
theorem Wm:br ["goods","stand","rule","moment","placed"] uT (a9 O3):=bF
end
end Ev
namespace Ev
open PySem L2
def ny(hs:Xa)(ts:Xb)(qs:aL)(f:ao)(gd h:Str):gY->ae->gY
 |ms,[]=>ms
 |ms,o::l=>if 0<kU hs qs f h o then ny hs ts qs f gd h (ms++iu hs ts qs f gd (ms.map (·.1)) h o) l else ny hs ts qs f gd h ms l
def vI(hs:Xa)(ts:Xb)(qs:aL)(f:ao)(gd h:Str):gY:=ny hs ts qs f gd h [] (dB hs ts qs f h)
section v
theorem Ko:br ["sight","hand","guard","moves","other","given"] De (a9 Pi):=bF
theorem ga_{f0 CS CG CW T:Addr}{fd:Ae}(F:bg K "moves_by_below" "moves_by_below" Pi f0 fd)(TS:gE K CS)(cR:!bo CS 4 BS jx (GY K CS CG CW T))(cL:!bo CS 3 "lead" kQ (Do K CS CG CW))(cH:!bc 4 "heaviest_move" kj (jK K CS CG CW)):!ak ba 5 f0 fd De (jJ K CS CG CW T vI):=by
 exists F.bI Ko;let#[v,g,p,h,gd,hs,ts,qs,fp,f,rfl,S,W,hh,tab,k]:=h;let sz:=b_;have FO:a_ 3 _:=hr.mono (by decide);refine' #[_,ax ?s1 (ax ?s2 (aC ?s3)),?kk]
 case s1=>exact bh 3 Ko.nd (dE bf)
 case' s2=>refine' fC eS Z (d_ (fG cR TS.cl hr (pv 0) %[1|0])) (cq 4 Ko.nd) (aC (bw ?t1 (ax ?b1 (aC ?b2)) bx))
 case t1=>exact cn BO (fG cL TS.cl FO (pv 0) %[1,4|0]) az
 case b1=>exact JZ (i:=5) ["move"] 1 [] Ko.nd Z (Or.inl Z) (d_ (pv 3)) (λfp s H=>gg (i:=0) (show (["move"]:ae).Nodup by decide +kernel) Z (Or.inl Z)) (λfp s H=>jA) (λfp s H=>bA (A4 (K:=K) mC c_) (pv 0) az)
 case b2=>exact j_ (kW mX DD DE DH (pv 3) %[aP cH hr %[0,1,4,2,5|0]|0])
 case s3=>exact aY (pv 3)
 have n8:(aF hs).length<=8:=by have:=W.Gd.fS;have:=W.Gd.h8;omega
 apply#[zl,λlm nm=>?_];lk;let#[s1,e1]:=bp (o:=.lst []) nm;generalize upd H lm (.lst [])=H1 at s1 e1 ⊢;let S1:=S.same s1;let vS:=tab.same s1;let#[dx,dl,dv,dp,ad,h1,G,h3,h4,h5,h6]:=S1.ex;apply#[_,Z,v,dx,_,Z,h1,Dj _ _ _ _ Z0 Z0 Z0 Z0,_,Z,v,g,p,h,hs,ts,qs,fp,f,Z,S1,W,hh,vS,λl1 H2 b2 lC n1 e2=>?_];let#[tv,hT]:=fu vS;let#[K9,Gy]:=fu lC;let mF:=b2.nt hT;let S2:=S1.nt mF;let m2:=mF.lst e1;have Jf:lm≠l1:=bE e1 n1;let EU:=Ig hs ts qs f h;have Fu:∀x∈dB hs ts qs f h,x∈aF hs:=λx hx=>C8 (EU.mem_iff.mp hx)
 have ll:(dB hs ts qs f h).length<=8:=by
  rw[EU.length_eq];have:=Dm hs ts h;omega
 have bT:aR T H H2:=λb o e n=>b2 _ _ (s1 _ _ e) n;apply#[l1,Z,#[_,.of e2],iK (K:=K) (a:=l1) (xs:=(dB hs ts qs f h).map V.str) (λi σ H'=>∃(v4 v5:aN) (ys:ag) (ms:gY),σ=[some (.ref v),some (.str h),some (.str gd),some (.ref lm),v4,v5]/\aR T H H'/\cE H' T jr/\H' l1\.lst ((dB hs ts qs f h).map V.str)/\H' lm\.lst ys/\bG K H' ys (ms.map kM)/\ms.length<=i/\ny hs ts qs f gd h ms ((dB hs ts qs f h).drop i)=vI hs ts qs f gd h) #[none,none,[],[],Z,bT,lC,e2,m2,.nil,bj _,Z] (λi σ H' _ ⟨_,_,_,_,_,_,_,z,_⟩=>.of z) ?_ ?_]
 ·rintro i x σ H3 hx ⟨v4,v5,ys,ms,rfl,Ib,gi,l3,m3,t3,Ml,eq3⟩;let#[o,ho,rfl]:=jy hx;have hi:i<(dB hs ts qs f h).length:=(cU.mp ho).1;let om:=Fu o (dI ho)
  have dr:(dB hs ts qs f h).drop i=o::(dB hs ts qs f h).drop (i+1):=by
   let#[h1,h2]:=cU.mp ho;rw[List.drop_eq_getElem_cons h1,h2]
  rw[dr] at eq3;let#[tv0,hT0]:=fu tab;let S3:=S.nt (Ib.nt hT0);let#[OY,_,_,_,_,k1,_]:=S3.ex;let ly:=bK t3;rw[aA] at ly;lk;apply#[_,Z,v,OY,_,Z,k1,Dj _ _ _ _ Z0 Z0 Z0 Z0,_,Z,_,Z,v,g,p,h,o,hs,ts,qs,fp,f,Z,S3,W,hh,om,_,_,Z,Z,_,Z,?_];apply aM (λc=>?_) (λc=>?_)
  ·have c:0<kU hs qs f h o:=⇑c
   have eq3:ny hs ts qs f gd h (ms++iu hs ts qs f gd (ms.map (·.1)) h o) ((dB hs ts qs f h).drop (i+1))=vI hs ts qs f gd h:=by
    rw[ny,aH c] at eq3;exact eq3
   apply#[_,Z,lm,Z,#[_,.of m3],λD hD=>?_];apply k8 (own:=1) (fv:=[]) (xs:=ys) Z fq (λj out H'=>aa H3 H'/\H' D\.lst out/\out=((ms.map (·.1)).take j).map V.str) #[aa.new hD,au,Z] (λj out H' _ ⟨sm,_⟩=>.of (sm _ _ m3)) (λout H4 ⟨s4,d4,eo⟩=>?_) (λj x out H' hx ⟨sm,hd,eo⟩=>?_);rotate_left
   ·let#[q,hq,a,rfl,ha]:=oZ t3 hx;have hj:j<ms.length:=(cU.mp hq).1;apply#[_,Z,Z,λNx hN=>eJ ?_];apply#[_,Z,a,_,0,.str q.1,Z,Z,.of (sm _ _ ha),L2.fP (j:=0) Z,out,hd,?_,hN (out++[.str q.1]) _ #[iV sm hD,au,?_]]
    ·rw[eo,aA,d6];omega
    rw[eo,jz (show (ms.map (·.1))[j]? = some q.1 by rw[dS,hq];rfl),dC];rfl
   rw[ly,zR (by rw[aA];exact bj _)] at eo;subst eo;lk;let m4:=s4 _ _ m3;apply#[_,Z,.inl #[Z,_,.of m4],?_];apply#[_,Z,_,Z,_,Z,_,Z,_,Z,v,g,p,D,h,o,gd,ms.map (·.1),hs,ts,qs,fp,f,Z,S3.same s4,W,hh,om,d4,λl5 zs H5 s5 n5 e5 t5=>?_];let mw:=s4.trans s5;let m5:=mw _ _ m3;let lz:=bK t5;let hl:=Cc hs ts qs f gd (ms.map (·.1)) h o;rw[aA] at lz;apply#[lm,l5,ys,zs,Z,Z,m5,e5,by omega,?_];apply#[_,_,ys++zs,ms++iu hs ts qs f gd (ms.map (·.1)) h o,Z,λb u e n=>?_,cE.putL (gi.same mw) m5,?_,au,?_,?_,eq3]
   ·rw[aD (bE e nm)];exact mw _ _ (Ib _ _ e n)
   ·rw[aD Jf.symm];exact mw _ _ l3
   ·rw[dC];exact kZ (jC (t3.same mw) m5) (jC t5 m5)
   rw[fB];omega
  have c:¬0<kU hs qs f h o:=⇑c
  apply#[_,_,ys,ms,Z,Ib,gi,l3,m3,t3,by omega,?_];rw[ny,aB c] at eq3;exact eq3
 rintro σ H3 ⟨v4,v5,ys,ms,rfl,Ib,gi,l3,m3,t3,Ml,eq3⟩;rw[aA,List.drop_length] at eq3;apply#[_,Z,k lm ys H3 Ib gi nm m3 ?_];rw[<- eq3];exact t3
end
end Ev
namespace Ev
open PySem L2
def B6:zV:=λr hs ts qs f h=>vI hs ts qs f (r.2.2.2.getD "") h
theorem ON{hs:Xa}{ts:Xb}{qs:aL}{f:ao}{gd h:Str}:∀(l:ae) (ms:gY),(ny hs ts qs f gd h ms l).length<=ms.length+l.length
 |[],ms=>bj _
 |o::l,ms=>by
  rw[ny,ka];split
  ·let h1:=ON (hs:=hs) (ts:=ts) (qs:=qs) (f:=f) (gd:=gd) (h:=h) l (ms++iu hs ts qs f gd (ms.map (·.1)) h o);let h2:=Cc hs ts qs f gd (ms.map (·.1)) h o;rw[fB] at h1;omega
  let h1:=ON (hs:=hs) (ts:=ts) (qs:=qs) (f:=f) (gd:=gd) (h:=h) l ms;omega
theorem hy_(r:Rl)(hs:Xa)(ts:Xb)(qs:aL)(f:ao)(h:Str)(W:Wd hs ts qs f):(B6 r hs ts qs f h).length<=8:=by
 unfold B6 vI;let h1:=ON (hs:=hs) (ts:=ts) (qs:=qs) (f:=f) (gd:=r.2.2.2.getD "") (h:=h) (dB hs ts qs f h) [];let h2:=(Ig hs ts qs f h).length_eq;let h3:=Dm hs ts h;let h4:=W.Gd.fS;let h5:=W.Gd.h8;rw[p9] at h1;omega
section v
theorem gf_{f0 CS CG CW T:Addr}{fd:Ae}(F:bg K "moves_from" "moves_from" Hv f0 fd)(cL:!bc 5 "moves_by_below" De (jJ K CS CG CW T vI)):!ak ba 6 f0 fd vq (vK K CS CG CW T (λr=>r.2.1="below") B6):=by
 exists F.bI Pe;let#[v,g,p,aw,h,hs,ts,qs,fp,f,r,bQ,rfl,le,ha,S,W,hh,tab,k]:=h;refine' #[_,ax ?s0 (ax ?s1 eE),?kk]
 case s0=>exact bw (cn gf (bA c_ (pv 2) az) ck) eE bx
 case s1=>exact bw (cn gf (bA c_ (pv 2) az) ck) (aC (aY (aP cL hr %[0,1,bA c_ (pv 2) az|0]))) bx
 let so:=Ue r bQ (by rw[le];decide +kernel);let#[gd,eg]:=Cj.mp so;have ln:¬r.2.1="least":=by rw[le];decide +kernel
 apply#[_,Z,aw,_,_,_,Z,Z,ha _,Z,Z,_,Z,?_];rw[nB,dJ ln];apply aQ ?_;apply#[_,Z,aw,_,_,_,Z,Z,ha _,Z,Z,_,Z,?_];rw[nB,bP le];apply bO ?_;apply#[_,Z,_,Z,_,Z,aw,_,_,.str gd,Z,Z,ha _,?_,v,g,p,h,gd,hs,ts,qs,fp,f,Z,S,W,hh,tab,λl ys H' b t n e tu=>k l ys H' b t n e ?_]
 ·rw[eg];rfl
 unfold B6;rw[eg];exact tu
end
end Ev
namespace Ev
open PySem L2
def xr(hs:Xa)(ts:Xb):Int:=((gq hs ts).max?).getD 0
theorem ku_{hs:Xa}{ts:Xb}{m:Int}(h1:m∈gq hs ts)(h2:∀a∈gq hs ts,a<=m):m=xr hs ts:=by
 unfold xr;rw[List.max?_eq_some_iff.mpr #[h1,h2]];rfl
theorem kf_{hs:Xa}{ts:Xb}(G:Good hs ts){m:Int}(h:m∈gq hs ts):0<=m/\m<=8:=by
 let#[n,_,rfl]:=bJ.mp h;let h1:=Dm hs ts n;let h2:=G.fS;let h3:=G.h8;show 0<=((nb hs ts n).length:Int)/\((nb hs ts n).length:Int)<=8;omega
theorem iJ_{hs:Xa}{ts:Xb}(G:Good hs ts){a b:Str}(ha:a∈aF hs)(hb:b∈aF hs):2<=kG hs a b/\kG hs a b<=2000:=by
 let h1:=JC G ha;let h2:=JC G hb;unfold kG;omega
def vY(wt:Str->Int)(ok:Str->Bool):Int->ae->ae
 |_,[]=>[]
 |l,n::ns=>if (ok n&&decide (wt n<=l))=true then n::vY wt ok (l - wt n) ns else vY wt ok l ns
theorem J8(wt:Str->Int)(ok:Str->Bool):∀(l:Int) (ns:ae),(vY wt ok l ns).Sublist ns
 |_,[]=>.slnil
 |l,n::ns=>by
  unfold vY;split
  ·exact (J8 wt ok _ ns).cons_cons n
  exact (J8 wt ok _ ns).cons n
def i5(hs:Xa)(ts:Xb)(qs:aL)(gv:ae)(a b n:Str):Bool:=!decide (n∈gv)&&mG hs ts qs n a b
def rT(hs:Xa)(ts:Xb)(qs:aL)(f:ao)(a b:Str):Int:=kU hs qs f a b / (kG hs a b * (xr hs ts+1))
def IQ(hs:Xa)(ts:Xb)(qs:aL)(f:ao)(gv:ae)(a b:Str):ae:=vY (vc qs) (i5 hs ts qs gv a b) (rT hs ts qs f a b) (eR qs f a)
abbrev to3(a b:Str)(n:Str):Mv:=(n,a,b)
def yr(hs:Xa)(ts:Xb)(qs:aL)(f:ao)(gv:ae)(a b:Str):gY:=(IQ hs ts qs f gv a b).map (to3 a b)
theorem UY{hs:Xa}{ts:Xb}{qs:aL}{f:ao}(W:Wd hs ts qs f)(a:Str):(eR qs f a).length<=63:=by
 have h1:(eR qs f a).length<=(kC qs).length:=List.length_filter_le ..;let h2:=(Hi qs).length_eq;rw[aA] at h2;have:=W.bR;omega
theorem S_{hs:Xa}{ts:Xb}{qs:aL}{f:ao}(W:Wd hs ts qs f)(gv:ae)(a b:Str):(yr hs ts qs f gv a b).length<=63:=by
 unfold yr;rw[aA];have:=(J8 (vc qs) (i5 hs ts qs gv a b) (rT hs ts qs f a b) (eR qs f a)).length_le;let h2:=UY W a;unfold IQ;omega
theorem Um{α:Type}{l:List α}{i:Nat}{x:α}(h:l[i]? = some x):l.drop i=x::l.drop (i+1):=by
 let#[h1,h2]:=cU.mp h;rw[List.drop_eq_getElem_cons h1,h2]
section v
abbrev LG:ae:=["sight","one","other","given","parts","left","moves","piece","weight"]
theorem BQ:br LG ["sight","one","other","given"] (a9 AF):=bF
inductive rD (K:af) (CS CG CW:Addr) (vs:ag) (H:Hp) (Q:VK) (E:XK):Prop
 |mk:∀(v g p lg:Addr) (a b:Str) (gv:ae) (hs:Xa) (ts:Xb) (qs:aL) (fp:ai) (f:ao),vs=[.ref v,.str a,.str b,.ref lg]->iQ K CS CG CW H v g p hs ts qs fp f->Wd hs ts qs f->a∈aF hs->b∈aF hs->H lg\.lst (gv.map V.str)->(∀l ys H',aa H H'->H l=none->H' l\.lst ys->bG K H' ys ((yr hs ts qs f gv a b).map kM)->Q (.ref l) H')->rD K CS CG CW vs H Q E
theorem _E{f0 CS CG CW CP:Addr}{fd:Ae}(F:bg K "share_moves" "share_moves" AF f0 fd)(TS:gE K CS)(TG:dA K CG)(TW:Txt K mg CW)(cL:!bo CS 3 "lead" kQ (Do K CS CG CW))(cJ:!bo CS 3 "joint_strength" kQ (Ki K CS CG CW))(cN:!bo CW 1 "most_neighbours" gJ (lM K CW))(cW:!bo CG 2 "weight" zu (Ce K CG CW CP))(cM:!bo CG 3 "may_go" o_ (JW K CG CW CP)) :
  ak P w K mg base ba 4 f0 fd ["sight","one","other","given"] (rD K CS CG CW):=by
 exists F.bI BQ;let#[v,g,p,lg,a,b,gv,hs,ts,qs,fp,f,rfl,S,W,ha,hb,hg,k]:=h;let hu:=gC hr;let sz:=b_;have ip:a_ 1 _:=hr.mono (by decide);have ua:a_ 2 _:=hr.mono (by decide);refine' #[_,?r0,?kk]
 case' r0=>refine' ax ?s1 ?r1
 case' r1=>refine' ax ?s2 ?r2
 case' r2=>refine' ax ?s3 ?r3
 case' r3=>refine' ax ?s4 (aC ?s5)
 case s1=>exact bh 4 BQ.nd (bu oX (fG cJ TS.cl hr (pv 0) %[1,2|0]) (bu fH (uK cN TW.cl ip (dz (dz (pv 0) Z) Z)) az))
 case s2=>exact bh 5 BQ.nd (bu xK (fG cL TS.cl hr (pv 0) %[1,2|0]) (pv 4))
 case s3=>exact bh 6 BQ.nd (dE bf)
 case' s4=>refine' fC eS Z (d_ (j9 hu (dz (pv 0) Z) (pv 1))) (cq 7 BQ.nd) (ax ?b1 (aC ?b2))
 case b1=>exact bh 8 BQ.nd (fG cW TG.cl ua (dz (pv 0) Z) %[7|0])
 case' b2=>refine' bw (PW.pt (xG ?c1 (xG ?c2 (zI ?c3)))) (ax ?b3 (aC ?b4)) bx
 case c1=>exact cn (Vw ia (j6 hr 0)) (pv 7) (pv 3) (by with_unfolding_all rfl)
 case c2=>exact cn pV (pv 8) (pv 5)
 case c3=>exact dF (fG cM TG.cl hr (dz (pv 0) Z) %[7,1,2|0])
 case b3=>exact j_ (kW mX xA xI vJ (pv 6) %[dR %[7,1,2|0]|0])
 case b4=>exact bh 5 BQ.nd (bu xw (pv 5) (pv 8))
 case s5=>exact aY (pv 6)
 let#[dx,dl,dv,dp,ad,h1,G,h3,h4,h5,h6]:=S.ex;let#[gA,dw,dy,vs,bM,g1,g2,_]:=id G.ex;let#[eX,d1,l2,d3,jn,as,ef,w1,_]:=id g2.ex;have hnm:(cZ d1 l2 d3).lookup ("most_neighbours":Str)=none:=iJ _ _ _ Z0 Z0 Z0;have no:∀{m:Str},¬m="wares"->¬m=iR->¬m=oU->¬m=BL->(dU g dl dv dp).lookup m=none:=λa b c d=>Dj _ _ _ _ a b c d;let jo:=iJ_ W.Gd ha hb;let nl:=W.Gd.fS;let n1:=W.Gd.h1;let n8:=W.Gd.h8;apply#[_,Z,v,dx,_,Z,h1,no Z0 Z0 Z0 Z0,_,Z,_,Z,v,g,p,a,b,hs,ts,qs,fp,f,Z,S,W,ha,hb,?_];apply#[_,Z,v,CS,dx,_,_,Z,h1,TS.cl,TS.nW,gP _ _ _ _,g,CG,gA,_,_,Z,g1,TG.cl,TG.nW,jB _ _ _,p,eX,_,Z,w1,hnm,p,hs,ts,bM,Z,g2,by omega,by omega,λm H1 s1 m1 m2=>?_];let mo:=kf_ W.Gd m1;obtain rfl:=ku_ m1 m2;have pp:0<kG hs a b * (xr hs ts+1):=Int.mul_pos Z1 Z1
 have pl:kG hs a b * (xr hs ts+1)<1073741824:=by
  have:=Int.mul_le_mul jo.2 (show xr hs ts+1<=9 by omega) Z1 (by decide);omega
 apply#[_,_,Z,Z,_,_,Z,Z,.inl #[by omega,by omega],?_];lk;apply#[_,Z,v,dx,_,Z,s1 _ _ h1,no Z0 Z0 Z0 Z0,_,Z,_,Z,v,g,p,a,b,hs,ts,qs,fp,f,Z,S.same s1,W,ha,hb,_,Z,_,_,Z,Z,#[pp,pl],?_];lk;apply#[zl,λlm nm=>?_];lk;let#[s2,e2]:=bp (o:=.lst []) nm;let CC:=s1.free nm;generalize upd H1 lm (.lst [])=H2 at s2 e2 ⊢;let ik:=s1.trans s2;let hl:=h6 a ha;let l63:=UY W a;apply#[_,Z,v,CS,dx,_,_,Z,ik _ _ h1,TS.cl,TS.nP,EA _ _ _ _,_,Z,dp,_,Z,BV (ik _ _ h5) ha,ad a,Z,#[_,.of (ik _ _ hl)],iK (K:=K) (a:=ad a) (xs:=(eR qs f a).map V.str) (λi σ H'=>∃(v7 v8:aN) (left:Int) (ys:ag) (ns:ae),σ=[some (.ref v),some (.str a),some (.str b),some (.ref lg),some (.int (kG hs a b * (xr hs ts+1))),some (.int left),some (.ref lm),v7,v8]/\aa H H'/\H' lm\.lst ys/\bG K H' ys ((ns.map (to3 a b)).map kM)/\ns.length<=i/\ns++vY (vc qs) (i5 hs ts qs gv a b) left ((eR qs f a).drop i)=IQ hs ts qs f gv a b) #[none,none,_,[],[],Z,ik,e2,.nil,bj _,Z] (λi σ H' _ ⟨_,_,_,_,_,_,sm,_⟩=>.of (sm _ _ hl)) ?_ ?_]
 ·rintro i x σ H' hx ⟨v7,v8,left,ys,ns,rfl,sm,ue,tu,ln,eq⟩;let#[n,hn,rfl]:=jy hx;have hi:i<(eR qs f a).length:=(cU.mp hn).1;let#[L7,fn]:=J4 (dI hn);let#[q,hq,rfl]:=bJ.mp L7;let G':=G.same sm;let gU:=sm _ _ h1;let#[GR,VP,VN,IA,fpw',Ux,g2',_]:=id G'.ex;have MJ:(bV p VP VN).lookup ("weight":Str)=none:=uN _ _ _ Z0 Z0 Z0;have M6:(bV p VP VN).lookup ("may_go":Str)=none:=uN _ _ _ Z0 Z0 Z0;let ew:=Mx W.nd hq;let ey:=So W.nd hq;rw[Um hn,vY] at eq;let ly:=bK tu;rw[aA,aA] at ly
  have go:∀{H2:Hp} {v8:aN},aa H' H2->(i5 hs ts qs gv a b q.1&&decide (vc qs q.1<=left))=false->∃(v7 XR:aN) (yM:Int) (ys:ag) (ns:ae),[some (V.ref v),some (.str a),some (.str b),some (.ref lg),some (.int (kG hs a b * (xr hs ts+1))),some (.int left),some (.ref lm),some (.str q.1),v8]=[some (V.ref v),some (.str a),some (.str b),some (.ref lg),some (.int (kG hs a b * (xr hs ts+1))),some (.int yM),some (.ref lm),v7,XR]/\aa H H2/\H2 lm\.lst ys/\bG K H2 ys ((ns.map (to3 a b)).map kM)/\ns.length<=i+1/\ns++vY (vc qs) (i5 hs ts qs gv a b) yM ((eR qs f a).drop (i+1))=IQ hs ts qs f gv a b:=λ{H2 v8} s2 e=>by
   rw[e,aB (by decide)] at eq;exact#[_,_,_,ys,ns,Z,sm.trans s2,s2 _ _ ue,tu.same s2,by omega,eq]
  lk;apply#[_,Z,v,CS,dx,_,_,Z,gU,TS.cl,TS.nW,gP _ _ _ _,g,GR,_,Z,Ux,MJ,_,Z,g,p,.str q.1,some q.1,hs,ts,qs,fp,Z,G',W.nd,Z,.inl #[q,hq,Z,?_]];lk;apply#[_,Z,_,Z,q.1,gv,Z,#[lg,_,Z,.of (sm _ _ hg),Hj gv],_,Z,?_];apply aM (λc=>?_) (λc=>?_)
  ·have c:¬q.1∈gv:=⇑c
   apply#[_,Z,_,Z,_,_,Z,Z,_,Z,?_];apply aM (λc2=>?_) (λc2=>?_)
   ·have c2:q.2.1<=left:=⇑c2
    apply#[_,Z,v,CS,dx,_,_,Z,gU,TS.cl,TS.nW,gP _ _ _ _,g,GR,_,Z,Ux,M6,_,Z,_,Z,_,Z,g,p,.str q.1,.str a,.str b,some q.1,some a,some b,hs,ts,qs,fp,Z,G',W.nd,W.Gd.tR,Z,.inl #[q,hq,Z,Z,Z,λH3 s3=>#[_,Z,?_]]];apply aM (λc3=>?_) (λc3=>?_)
    ·have pt:(i5 hs ts qs gv a b q.1&&decide (vc qs q.1<=left))=true:=by
      unfold i5 mG;rw[ew,ey,bP c2,dJ c];simpa using c3
     rw[aH pt,ew] at eq;apply#[_,Z,.inl #[Z,_,.of (s3 _ _ ue)],_,Z,_,Z,_,Z,zl,λt nt=>?_];let#[s4,e4]:=bp (o:=.tup [.str q.1,.str a,.str b]) nt;generalize upd H3 t (.tup [.str q.1,.str a,.str b])=H4 at s4 e4 ⊢;let qi:=s3.trans s4;let F7:=qi _ _ ue;apply#[lm,_,_,Z,Z,F7,by omega,?_];dsimp only;apply#[_,Z,_,Z,_,_,Z,Z,?_];lk;apply#[_,_,_,ys++[.ref t],ns++[q.1],Z,λb' o e=>?_,au,?_,?_,?_]
     ·rw[aD (bE e CC)];exact qi _ _ (sm _ _ e)
     ·rw[dC,dC];exact jC (Ca (tu.same qi) e4) F7
     ·rw[fB];show ns.length+1<=i+1;omega
     rw[List.append_assoc];exact eq
    apply go s3 ?_;unfold i5 mG;have c3:Bu hs ts q.2.2 (some a) (some b)=false:=⇑c3
    rw[ey,c3,xP,Bool.false_and]
   apply go (aa.refl H') ?_;have c2:¬q.2.1<=left:=⇑c2
   rw[ew,dJ c2,xP]
  have c:q.1∈gv:=⇑c
  apply go (aa.refl H') ?_;unfold i5;rw[bP c];rfl
 rintro σ H' ⟨v7,v8,left,ys,ns,rfl,sm,ue,tu,ln,eq⟩;rw[aA,List.drop_length,vY,xR] at eq;apply#[_,Z,k lm ys H' sm CC ue ?_];unfold yr;rw[<- eq];exact tu
end
end Ev
namespace Ev
open PySem L2
def uE(hs:Xa)(ts:Xb)(qs:aL)(f:ao)(h:Str):gY->ae->gY
 |ms,[]=>ms
 |ms,o::l=>if 0<kU hs qs f h o then uE hs ts qs f h (ms++yr hs ts qs f (ms.map (·.1)) h o) l else uE hs ts qs f h ms l
def Hf(hs:Xa)(ts:Xb)(qs:aL)(f:ao)(h:Str):gY:=uE hs ts qs f h [] (nb hs ts h)
def Dy:zV:=λ_ hs ts qs f h=>Hf hs ts qs f h
theorem N_{hs:Xa}{ts:Xb}{qs:aL}{f:ao}(W:Wd hs ts qs f){h:Str}:∀(l:ae) (ms:gY),(uE hs ts qs f h ms l).length<=ms.length+63 * l.length
 |[],ms=>bj _
 |o::l,ms=>by
  rw[uE,ka];split
  ·let h1:=N_ W (h:=h) l (ms++yr hs ts qs f (ms.map (·.1)) h o);let h2:=S_ W (ms.map (·.1)) h o;rw[fB] at h1;omega
  let h1:=N_ W (h:=h) l ms;omega
theorem ge_(r:Rl)(hs:Xa)(ts:Xb)(qs:aL)(f:ao)(h:Str)(W:Wd hs ts qs f):(Dy r hs ts qs f h).length<=1000:=by
 unfold Dy Hf;let h1:=N_ W (h:=h) (nb hs ts h) [];let h3:=Dm hs ts h;let h4:=W.Gd.fS;let h5:=W.Gd.h8;rw[p9] at h1;omega
section v
theorem KM:br ["sight","hand","moves","other","given"] ["sight","hand"] (a9 QE):=bF
inductive OZ (K:af) (CS CG CW:Addr) (vs:ag) (H:Hp) (Q:VK) (E:XK):Prop
 |mk:∀(v g p:Addr) (h:Str) (hs:Xa) (ts:Xb) (qs:aL) (fp:ai) (f:ao),vs=[.ref v,.str h]->iQ K CS CG CW H v g p hs ts qs fp f->Wd hs ts qs f->h∈aF hs->(∀l ys H',aa H H'->H l=none->H' l\.lst ys->bG K H' ys ((Hf hs ts qs f h).map kM)->Q (.ref l) H')->OZ K CS CG CW vs H Q E
theorem eK_{f0 CS CG CW:Addr}{fd:Ae}(F:bg K "moves_by_shares" "moves_by_shares" QE f0 fd)(TS:gE K CS)(TG:dA K CG)(TW:Txt K mg CW)(cN:!bo CW 2 "neighbours" jx (J6 K CW))(cL:!bo CS 3 "lead" kQ (Do K CS CG CW))(cH:!bc 4 "share_moves" ["sight","one","other","given"] (rD K CS CG CW)):!ak ba 5 f0 fd ["sight","hand"] (OZ K CS CG CW):=by
 exists F.bI KM;let#[v,g,p,h,hs,ts,qs,fp,f,rfl,S,W,hh,k]:=h;let sz:=b_;have ua:a_ 2 _:=hr.mono (by decide);have FO:a_ 3 _:=hr.mono (by decide);refine' #[_,ax ?s1 (ax ?s2 (aC ?s3)),?kk]
 case s1=>exact bh 2 KM.nd (dE bf)
 case' s2=>refine' fC eS Z (d_ (fG cN TW.cl ua (dz (dz (pv 0) Z) Z) %[1|0])) (cq 3 KM.nd) (aC (bw ?t1 (ax ?b1 (aC ?b2)) bx))
 case t1=>exact cn BO (fG cL TS.cl FO (pv 0) %[1,3|0]) az
 case b1=>exact JZ (i:=4) ["move"] 1 [] KM.nd Z (Or.inl Z) (d_ (pv 2)) (λfp s H=>gg (i:=0) (show (["move"]:ae).Nodup by decide +kernel) Z (Or.inl Z)) (λfp s H=>jA) (λfp s H=>bA (A4 (K:=K) mC c_) (pv 0) az)
 case b2=>exact j_ (kW mX DD DE DH (pv 2) %[aP cH hr %[0,1,3,4|0]|0])
 case s3=>exact aY (pv 2)
 have n8:(aF hs).length<=8:=by have:=W.Gd.fS;have:=W.Gd.h8;omega
 apply#[zl,λlm nm=>?_];lk;let#[s1,e1]:=bp (o:=.lst []) nm;generalize upd H lm (.lst [])=H1 at s1 e1 ⊢;let#[dx,dl,dv,dp,ad,h1,G,h3,h4,h5,h6]:=(S.same s1).ex;let#[gA,dw,dy,vs,bM,g1,g2,_]:=id G.ex;let#[eX,d1,l2,d3,jn,as,ef,w1,_]:=id g2.ex;have hY:(cZ d1 l2 d3).lookup ("neighbours":Str)=none:=iJ _ _ _ Z0 Z0 Z0;apply#[_,Z,v,CS,dx,_,_,Z,h1,TS.cl,TS.nW,gP _ _ _ _,g,CG,gA,_,_,Z,g1,TG.cl,TG.nW,jB _ _ _,p,eX,_,Z,w1,hY,_,Z,p,h,hs,ts,bM,Z,g2,W.Gd.tR,(iz hs).mem_iff.mp hh,λl1 n1=>?_];let#[s2,e2]:=bp (o:=.lst ((nb hs ts h).map V.str)) n1;have Jf:lm≠l1:=bE e1 n1;let ik:=s1.trans s2;generalize upd H1 l1 (.lst ((nb hs ts h).map V.str))=H2 at s2 e2 ik ⊢;have Fu:∀x∈nb hs ts h,x∈aF hs:=λx hx=>C8 hx
 have ll:(nb hs ts h).length<=8:=by
  have:=Dm hs ts h;omega
 apply#[l1,Z,#[_,.of e2],iK (K:=K) (a:=l1) (xs:=(nb hs ts h).map V.str) (λi σ H'=>∃(v3 v4:aN) (ys:ag) (ms:gY),σ=[some (.ref v),some (.str h),some (.ref lm),v3,v4]/\aa H H'/\H' l1\.lst ((nb hs ts h).map V.str)/\H' lm\.lst ys/\bG K H' ys (ms.map kM)/\ms.length<=63 * i/\uE hs ts qs f h ms ((nb hs ts h).drop i)=Hf hs ts qs f h) #[none,none,[],[],Z,ik,e2,s2 _ _ e1,.nil,bj _,Z] (λi σ H' _ ⟨_,_,_,_,_,_,z,_⟩=>.of z) ?_ ?_]
 ·rintro i x σ H3 hx ⟨v3,v4,ys,ms,rfl,Ey,l3,m3,t3,Ml,eq3⟩;let#[o,ho,rfl]:=jy hx;have hi:i<(nb hs ts h).length:=(cU.mp ho).1;let om:=Fu o (dI ho);rw[Um ho] at eq3;let S3:=S.same Ey;let#[OY,_,_,_,_,k1,_]:=S3.ex;let ly:=bK t3;rw[aA] at ly;lk;apply#[_,Z,v,OY,_,Z,k1,Dj _ _ _ _ Z0 Z0 Z0 Z0,_,Z,_,Z,v,g,p,h,o,hs,ts,qs,fp,f,Z,S3,W,hh,om,_,_,Z,Z,_,Z,?_];apply aM (λc=>?_) (λc=>?_)
  ·have c:0<kU hs qs f h o:=⇑c
   have eq3:uE hs ts qs f h (ms++yr hs ts qs f (ms.map (·.1)) h o) ((nb hs ts h).drop (i+1))=Hf hs ts qs f h:=by
    rw[uE,aH c] at eq3;exact eq3
   apply#[_,Z,lm,Z,#[_,.of m3],λD hD=>?_];apply k8 (own:=1) (fv:=[]) (xs:=ys) Z fq (λj out H'=>aa H3 H'/\H' D\.lst out/\out=((ms.map (·.1)).take j).map V.str) #[aa.new hD,au,Z] (λj out H' _ ⟨sm,_⟩=>.of (sm _ _ m3)) (λout H4 ⟨s4,d4,eo⟩=>?_) (λj x out H' hx ⟨sm,hd,eo⟩=>?_);rotate_left
   ·let#[q,hq,a,rfl,ha]:=oZ t3 hx;have hj:j<ms.length:=(cU.mp hq).1;apply#[_,Z,Z,λNx hN=>eJ ?_];apply#[_,Z,a,_,0,.str q.1,Z,Z,.of (sm _ _ ha),L2.fP (j:=0) Z,out,hd,?_,hN (out++[.str q.1]) _ #[iV sm hD,au,?_]]
    ·rw[eo,aA,d6];omega
    rw[eo,jz (show (ms.map (·.1))[j]? = some q.1 by rw[dS,hq];rfl),dC];rfl
   rw[ly,zR (by rw[aA];exact bj _)] at eo;subst eo;lk;let m4:=s4 _ _ m3;apply#[_,Z,.inl #[Z,_,.of m4],?_];apply#[_,Z,_,Z,_,Z,_,Z,v,g,p,D,h,o,ms.map (·.1),hs,ts,qs,fp,f,Z,S3.same s4,W,hh,om,d4,λl5 zs H5 s5 n5 e5 t5=>?_];let mw:=s4.trans s5;let m5:=mw _ _ m3;let lz:=bK t5;let hl:=S_ W (ms.map (·.1)) h o;rw[aA] at lz;apply#[lm,l5,ys,zs,Z,Z,m5,e5,by omega,?_];apply#[_,_,ys++zs,ms++yr hs ts qs f (ms.map (·.1)) h o,Z,λb u e=>?_,?_,au,?_,?_,eq3]
   ·rw[aD (bE e nm)];exact mw _ _ (Ey _ _ e)
   ·rw[aD Jf.symm];exact mw _ _ l3
   ·rw[dC];exact kZ (jC (t3.same mw) m5) (jC t5 m5)
   rw[fB];omega
  have c:¬0<kU hs qs f h o:=⇑c
  apply#[_,_,ys,ms,Z,Ey,l3,m3,t3,by omega,?_];rw[uE,aB c] at eq3;exact eq3
 rintro σ H3 ⟨v3,v4,ys,ms,rfl,Ey,l3,m3,t3,Ml,eq3⟩;rw[aA,List.drop_length] at eq3;apply#[_,Z,k lm ys H3 Ey nm m3 ?_];rw[<- eq3];exact t3
theorem fN_{f0 CS CG CW T:Addr}{fd:Ae}(F:bg K "moves_from" "moves_from" Hv f0 fd)(cL:!bc 5 "moves_by_shares" ["sight","hand"] (OZ K CS CG CW)):!ak ba 6 f0 fd vq (vK K CS CG CW T (λr=>r.2.1="shares") Dy):=by
 exists F.bI Pe;let#[v,g,p,aw,h,hs,ts,qs,fp,f,r,bQ,rfl,le,ha,S,W,hh,tab,k]:=h;refine' #[_,ax ?s0 (ax ?s1 (aC ?s2)),?kk]
 case s0=>exact bw (cn gf (bA c_ (pv 2) az) ck) eE bx
 case s1=>exact bw (cn gf (bA c_ (pv 2) az) ck) eE bx
 case s2=>exact aY (aP cL hr %[0,1|0])
 have ln:¬r.2.1="least":=by rw[le];decide +kernel
 have lb:¬r.2.1="below":=by rw[le];decide +kernel
 apply#[_,Z,aw,_,_,_,Z,Z,ha _,Z,Z,_,Z,?_];rw[nB,dJ ln];apply aQ ?_;apply#[_,Z,aw,_,_,_,Z,Z,ha _,Z,Z,_,Z,?_];rw[nB,dJ lb];apply aQ ?_;exact#[_,Z,_,Z,v,g,p,h,hs,ts,qs,fp,f,Z,S,W,hh,λl ys H' b n e tu=>k l ys H' (aR.of b) (tab.same b) n e tu]
end
end Ev
namespace Ev
open PySem L2
def hit(t u:Str × Str):Bool:=(decide (u.1=t.1) || decide (u.2=t.1)) || (decide (u.1=t.2) || decide (u.2=t.2))
def f_(rs:List Xb)(t:Str × Str):Nat:=rs.findIdx λr=>!r.any (hit t)
def xx(K:af)(H:Hp)(l:Addr)(as:ai)(rs:List Xb):Prop:=H l=some (.lst (as.map V.ref))/\Paired (λa r=>∃zs,H a\.lst zs/\bG K H zs (r.map kT)) as rs
theorem xx.same{K:af}{H H':Hp}{l:Addr}{as:ai}{rs:List Xb}(h:xx K H l as rs)(s:aa H H'):xx K H' l as rs:=#[s _ _ h.1,Paired.bN h.2 λa r ⟨zs,e,t⟩=>#[zs,s _ _ e,t.same s]]
section v
theorem rY:br ["rows","tie","place","row"] ["rows","tie"] (a9 O6):=bF
inductive rF (K:af) (vs:ag) (H:Hp) (Q:VK) (E:XK):Prop
 |mk:∀(l t:Addr) (as:ai) (rs:List Xb) (tt:Str × Str),vs=[.ref l,.ref t]->xx K H l as rs->H t\.tup ((kT tt).map kV)->(∀r∈rs,r.length<=1000)->(∀H',aa H H'->Q (.int (f_ rs tt)) H')->rF K vs H Q E
theorem kY_{f:Addr}{fd:Ae}(F:bg K "first_row_without" "first_row_without" O6 f fd)(B:Bi mg):!ak ba 1 f fd ["rows","tie"] (rF K):=by
 exists F.bI rY;let#[l,t,as,rs,tt,rfl,R,ht,zm,k]:=h;let sz:=b_
 apply#[_,ax (fC eS Z (Ub (by rfl) B.enum %[0|0]) (kJ Z (dD (cq 2 rY.nd) (dD (cq 3 rY.nd) iT)))
   (aC (bw (eF (dF (bY (ih_ Z) (by rfl) B.any PyProof.Rows.Boot.«any» (eW
    (kX ["there","tie"] 1 [1] (d_ (pv 3)) (λfp s H=>gg (i:=0) (show (["there","tie"]:ae).Nodup by decide +kernel) Z (Or.inl Z)) (λfp s H=>jA)
     (λfp s H=>Su (m_ (LU (K:=K) (λK=>IZ K false) VC) (bA (A4 (K:=K) mC c_) (pv 1) az) (pv 0) (by with_unfolding_all rfl)) (kK (m_ (LU (K:=K) (λK=>IZ K false) VC) (bA (A4 (K:=K) mC c_) (pv 1) az) (pv 0) (by with_unfolding_all rfl))))) bf)))) (aC (aY (pv 2))) bx)))
  (aC (aY (bY iy (by rfl) B.len gX %[0|0]))),?_]
 let la:=bK R.2;apply#[_,Z,l,Z,#[_,.of R.1],US (K:=K) (a:=l) (xs:=as.map V.ref) (λi σ H2=>∃(v2 v3:aN),σ=[some (.ref l),some (.ref t),v2,v3]/\aa H H2/\∀r∈rs.take i,r.any (hit tt)=true) #[none,none,Z,aa.refl H,by simp] (λi σ H2 _ ⟨_,_,_,s2,_⟩=>.of (s2 _ _ R.1)) ?_ ?_]
 ·rintro i x σ H2 hx ⟨v2,v3,rfl,s2,past⟩ u hu
  have hi:i<as.length:=by
   have:=(cU.mp hx).1;rwa [aA] at this
  have ex:x=.ref as[i]:=by
   rw[dS,cw hi] at hx;exact (dY hx).symm
  subst ex;have Jo:i<rs.length:=by omega
  let#[zs,SX,tz]:=ie R.2 i hi Jo;have s3:aa H (upd H2 u (.tup [.int i,.ref as[i]])):=s2.trans (aa.new hu);have MN:upd H2 u (.tup [.int i,.ref as[i]]) u\.tup [.int i,.ref as[i]]:=au;generalize upd H2 u (.tup [.int i,.ref as[i]])=H3 at s3 MN ⊢;apply#[u,_,Z,.of MN,Z,_,_,Z,_,_,Z,Z,?_];apply#[_,Z,as[i],Z,#[_,.of (s3 _ _ SX)],λD hD=>?_];let lz:=bK tz;rw[aA] at lz;let lr:=zm rs[i] (nD Jo);apply k8 (own:=1) (fv:=[some (.ref t)]) (xs:=zs) Z fq (λj out H'=>aa H3 H'/\H' D\.lst out/\out=((rs[i].take j).map (hit tt)).map V.bl) #[aa.new hD,au,Z] (λj out H' _ ⟨sm,_,_⟩=>.of (sm _ _ (s3 _ _ SX))) (λout H4 ⟨s4,qr,eo⟩=>?_) (λj y out H' hy ⟨sm,fo,eo⟩=>?_)
  ·rw[lz,e_] at eo;subst eo;apply#[D,rs[i].map (hit tt),Z,.of qr,#[_,Z,?_]];have GP:(rs[i].map (hit tt)).any id=rs[i].any (hit tt):=by rw[List.any_map];rfl
   apply aM (λc=>?_) (λc=>?_)
   ·have c:rs[i].any (hit tt)=false:=by
     have:(!(rs[i].map (hit tt)).any id)=true:=c;rw[GP] at this;simpa using this
    have e:f_ rs tt=i:=by
     unfold f_;rw[List.findIdx_eq Jo];apply#[by rw[c];rfl,λj hj=>?_];have:=past (rs[j]' Z1) (List.mem_iff_getElem?.mpr #[j,by rw[List.getElem?_take_of_lt hj,cw Z1]]);rw[this];rfl
    apply#[_,Z,?_];have:=k H4 (s3.trans s4);rw[e] at this;exact this
   have c:rs[i].any (hit tt)=true:=by
    have:¬(!(rs[i].map (hit tt)).any id)=true:=c;rw[GP] at this;simpa using this
   apply#[_,_,Z,s3.trans s4,λr hr=>?_];rw[iS,cw Jo] at hr;rcases gD.mp hr with hr|hr
   ·exact past r hr
   obtain rfl:r=rs[i]:=⇑hr
   exact c
  let#[q,hq,a,rfl,ha]:=oZ tz hy;let C4:=sm _ _ (s3 _ _ (yV ha));let oM:=sm _ _ (s3 _ _ (yV ht))
  have lo:out.length<sizeLine:=by
   rw[eo,aA,aA,d6];omega
  apply#[_,Z,Z,λNx hN=>eJ ?_];have nx:Nx (upd H' D (.lst (out++[.bl (hit tt q)]))):=hN _ _ #[iV sm hD,au,by rw[DP _ hq,dC,eo];rfl];apply#[_,Z,t,_,_,_,Z,Z,.of oM,Z,_,Z,a,_,Z,.inr (.of C4),Z,Z,_,Z,?_];apply aM (λc=>?_) (λc=>?_)
  ·have c:(decide (q.1=tt.1) || decide (q.2=tt.1))=true:=by rw[<- NV];exact c
   apply#[out,fo,lo,?_];rwa [show hit tt q=true by unfold hit;rw[c];rfl] at nx
  have c:(decide (q.1=tt.1) || decide (q.2=tt.1))=false:=by
   rw[<- NV];simpa using c
  apply#[_,Z,t,_,_,_,Z,Z,.of oM,Z,_,Z,a,_,Z,.inr (.of C4),Z,Z,out,fo,lo,?_];rw[show hit tt q=Fv (.str tt.2) [.str q.1,.str q.2] by unfold hit;rw[c,Bool.false_or,NV]] at nx;exact nx
 rintro σ H2 ⟨v2,v3,rfl,s2,past⟩;rw[aA,la,e_] at past;apply#[_,Z,l,_,Z,.inl (.of (s2 _ _ R.1)),?_]
 have e:f_ rs tt=rs.length:=by
  unfold f_;rw[List.findIdx_eq_length];intro r hr;rw[past r hr];rfl
 have:=k H2 s2;rw[e] at this;rw[aA,la];exact this
end
end Ev
namespace Ev
open PySem L2
abbrev lX:Stmt:=jw i6 8
theorem Qn{α β:Type}{F:α->β->Prop}:∀{l:List α} {m:List β},l.length=m.length->(∀(i:Nat) (h1:i<l.length) (h2:i<m.length),F l[i] m[i])->Paired F l m
 |[],[],_,_=>.nil
 |[],_::_,h,_=>by cases h
 |_::_,[],h,_=>by cases h
 |a::l,b::m,h,f=>.cons (f 0 Z2 Z2) (Qn ⇑h λi h1 h2=>f (i+1) ⇑h1 ⇑h2)
def jf(rs:List Xb)(t:Str × Str):List Xb:=if h:f_ rs t<rs.length then rs.set (f_ rs t) (rs[f_ rs t]++[t]) else rs++[[t]]
def turnsOf(ts:Xb):List Xb:=ts.foldl jf []
theorem iZ_(rs:List Xb)(t:Str × Str):f_ rs t<=rs.length:=List.findIdx_le_length
theorem PU(rs:List Xb)(t:Str × Str):(jf rs t).length<=rs.length+1:=by
 unfold jf;split
 ·rw[List.length_set];omega
 rw[fB];exact bj _
theorem PX{rs:List Xb}{t:Str × Str}{n:Nat}(h:∀r∈rs,r.length<=n):∀r∈jf rs t,r.length<=n+1:=by
 unfold jf;intro r hr;split at hr
 ·rename_i dQ
  rcases List.mem_or_eq_of_mem_set hr with m|rfl
  ·have:=h r m;omega
  have:=h rs[f_ rs t] (nD dQ);rw[fB];show rs[f_ rs t].length+1<=n+1;omega
 rcases gD.mp hr with m|m
 ·have:=h r m;omega
 obtain rfl:r=[t]:=⇑m
 simp
theorem xx.add{K:af}{H H':Hp}{l a:Addr}{as:ai}{rs:List Xb}{t:Str × Str}{zs:ag}(h:xx K H l as rs)(nd:as.Nodup){p:Nat}(hp:p<rs.length)(ha:as[p]? = some a)(hl:H' l\.lst (as.map V.ref))(hz:H' a\.lst zs)(tz:bG K H' zs ((rs[p]++[t]).map kT))
  (k:∀b o,H b\o->b≠l->b≠a->H' b\o) (jV:∀b∈as,b≠l) (kt:∀b xs,H b\.tup xs->H' b\.tup xs):xx K H' l as (rs.set p (rs[p]++[t])):=by
 let la:=bK h.2;apply#[hl,Qn (by rw[List.length_set,la]) λi h1 h2=>?_];rw[List.length_set] at h2;let#[CM,ea]:=cU.mp ha;by_cases e:p=i
 ·subst e;rw[List.getElem_set_self,ea];exact#[zs,hz,tz]
 rw[List.getElem_set_ne e];let#[DZ,e2,t2]:=ie h.2 i h1 h2;have ne:as[i]≠a:=λq=>e ((List.getElem_inj nd).mp (ea.trans q.symm));exact#[DZ,k _ _ e2 (jV _ (nD h1)) ne,Paired.bN t2 λy q ⟨c,z,e⟩=>#[c,z,kt _ _ e]]
theorem eO_{α β:Type}{F:α->β->Prop}{l:List α}{m:List β}{a:α}{b:β}(h:Paired F l m)(f:F a b):Paired F (l++[a]) (m++[b]):=Paired.snoc h f
section v
theorem Ke:br ["self","rows","tie","place"] gJ (a9 lX):=bF
inductive HS (K:af) (C:Addr) (vs:ag) (H:Hp) (Q:VK) (E:XK):Prop
 |mk:∀(p:Addr) (hs:Xa) (ts:Xb) (fp:ai),vs=[.ref p]->fF K C H p hs ts fp->ts.length<64->(∀(l:Addr) (as:ai) (H':Hp),aa H H'->H l=none->(∀a∈as,H a=none)->(∀a∈as,a≠l)->as.Nodup->xx K H' l as (turnsOf (aJ ts))->Q (.ref l) H')->HS K C vs H Q E
theorem j1_{f C:Addr}{fd:Ae}(F:bg K "turns" "Web.turns" lX f fd)(B:Bi mg)(T:Txt K mg C)(cT:!bo C 2 "ties" gJ (Od K C))(cR:!bc 1 "first_row_without" ["rows","tie"] (rF K)):!ak ba 3 f fd gJ (HS K C):=by
 exists F.bI Ke;let#[p,hs,ts,fp,rfl,W,bR,k]:=h;let sz:=b_;let#[dx,d1,l2,d3,jn,QZ,efp,h1,_]:=id W.ex;have ZN:(cZ d1 l2 d3).lookup ("ties":Str)=none:=iJ _ _ _ Z0 Z0 Z0
 apply#[_,ax (bh 1 Ke.nd (dE bf))
  (ax (fC eS Z (d_ (uK cT T.cl hr (pv 0))) (cq 2 Ke.nd)
   (ax (bh 3 Ke.nd (aP cR hr %[1,2|0]))
   (ax (bw (cn gf (pv 3) (bY iy (by rfl) B.len gX %[1|0]))
    (aC (j_ (kW mX xA xI vJ (pv 1) %[dE bf|0]))) bx)
   (aC (j_ (kW mX xA xI vJ (bA fA (pv 1) (pv 3)) %[2|0]))))))
  (aC (aY (pv 1)))),?_]
 apply#[zl,λlr Nc=>?_];have s0:aa H (upd H lr (.lst [])):=aa.new Nc;have wU:upd H lr (.lst []) lr\.lst []:=au;generalize upd H lr (.lst [])=H0 at s0 wU ⊢;apply#[_,Z,p,dx,_,Z,s0 _ _ h1,ZN,p,hs,ts,fp,Z,W.same s0,bR,λlt zs H1 s1 dQ ud tz=>?_];have CD:lt≠lr:=(bE wU dQ).symm;let lz:=bK tz;rw[aA,DN] at lz;let qm:=DN ts
 apply#[lt,Z,#[_,.of ud],iK (K:=K) (a:=lt) (xs:=zs) (λi σ H2=>∃(v2 v3:aN) (as:ai),σ=[some (.ref p),some (.ref lr),v2,v3]/\aR lr H1 H2/\(∀a∈as,H1 a=none/\a≠lr)/\as.Nodup/\xx K H2 lr as (turnsOf ((aJ ts).take i))/\(turnsOf ((aJ ts).take i)).length<=i/\∀r∈turnsOf ((aJ ts).take i),r.length<=i)
  #[none,none,[],Z,aR.refl _ _,by simp,.nil,#[s1 _ _ wU,.nil],bj _,by intro r hr;simp[turnsOf] at hr] (λi σ H2 _ ⟨_,_,_,_,b,_⟩=>.of (b _ _ ud CD)) ?_ ?_]
 ·rintro i y σ H2 hy ⟨v2,v3,as,rfl,b2,fa,nd,R,l1,CJ⟩;let#[t,ht,a,rfl,ha]:=oZ tz hy;have hi:i<(aJ ts).length:=(cU.mp ht).1;let Nb:=s1 _ _ wU;have ZY:a≠lr:=cb ha Nb nofun;let iP:=b2 _ _ ha ZY;let la:=bK R.2
  have BD:turnsOf ((aJ ts).take (i+1))=jf (turnsOf ((aJ ts).take i)) t:=by
   unfold turnsOf;rw[iS,ht,List.foldl_append];rfl
  generalize turnsOf ((aJ ts).take i)=rs at R l1 CJ la BD;apply#[_,Z,_,Z,lr,a,as,rs,t,Z,R,iP,λr hr=>by have:=CJ r hr;omega,λH3 s3=>?_];let R3:=R.same s3;let jv:=s3 _ _ iP;have b3:aR lr H1 H3:=b2.trans (aR.of s3);have f3:∀a∈as,H1 a=none/\a≠lr:=fa;apply#[_,Z,_,Z,lr,_,Z,.inl (.of R3.1),Z,_,Z,?_];apply aM (λc=>?_) (λc=>?_)
  ·have c:f_ rs t=rs.length:=by
    have:V.int (f_ rs t)=V.int ((as.map V.ref).length:Nat):=⇑c
    rw[aA,la] at this;have:=V.int.inj this;omega
   apply#[_,Z,.inl #[Z,_,.of R3.1],zl,λln wV=>?_];let#[s4,Nf]:=bp (o:=.lst []) wV;have AX:ln≠lr:=(bE R3.1 wV).symm;apply#[lr,_,_,Z,Z,s4 _ _ R3.1,by rw[aA];omega,?_]
   have fln:H1 ln=none:=by
    cases z:H1 ln with
    |none=>rfl
    |some o=>
     have:=b3 _ _ z AX;rw[wV] at this;cases this
   have ZS:ln∉as:=λm=>by
    let#[j,hj,e]:=lj m;let#[zz,e2,_]:=ie R3.2 j hj Z1;rw[e,wV] at e2;cases e2
   have QY:eZ (as.map V.ref++[V.ref ln]) (f_ rs t:Int)\.ref ln:=by
    rw[fP Z1 (by rw[fB,aA];show ((f_ rs t:Nat):Int)<((as.length+1:Nat):Int);omega),qH,c,xT (by rw[aA];omega),aA,la,Nat.sub_self];rfl
   have Bf:upd (upd H3 ln (.lst [])) lr (.lst (as.map V.ref++[.ref ln])) lr\.lst (as.map V.ref++[.ref ln]):=au;have Bg:upd (upd H3 ln (.lst [])) lr (.lst (as.map V.ref++[.ref ln])) ln\.lst []:=by rw[aD AX];exact Nf
   have k5:∀{b o},H3 b\o->b≠lr->upd (upd H3 ln (.lst [])) lr (.lst (as.map V.ref++[.ref ln])) b\o:=λe ne=>by rw[aD ne];exact s4 _ _ e
   generalize upd (upd H3 ln (.lst [])) lr (.lst (as.map V.ref++[.ref ln]))=H5 at Bf Bg k5 ⊢;apply#[_,Z,_,Z,lr,_,_,_,Z,Z,.of Bf,QY,.inl #[Z,_,.of Bg],_,Z,ln,_,_,Z,Z,Bg,by show 0<sizeLine;decide,?_];have k6:∀{b o},H3 b\o->b≠lr->upd H5 ln (.lst ([]++[.ref a])) b\o:=λe ne=>by rw[aD (bE e wV)];exact k5 e ne
   have F6:upd H5 ln (.lst ([]++[.ref a])) ln\.lst [.ref a]:=au;have F4:upd H5 ln (.lst ([]++[.ref a])) lr\.lst (as.map V.ref++[.ref ln]):=by rw[aD AX.symm];exact Bf
   generalize upd H5 ln (.lst ([]++[.ref a]))=H6 at k6 F6 F4 ⊢;have kt:∀b xs,H3 b\.tup xs->H6 b\.tup xs:=λb xs e=>k6 e (cb e R3.1 nofun)
   have ep:jf rs t=rs++[[t]]:=by
    unfold jf;rw[dif_neg Z1]
   apply#[_,_,as++[ln],Z,λb o e ne=>k6 (b3 _ _ e ne) ne,λx hx=>?_,?_,?_,?_,?_]
   ·rcases gD.mp hx with m|m
    ·exact fa x m
    obtain rfl:x=ln:=⇑m
    exact#[fln,AX]
   ·rw[List.nodup_append]
    exact#[nd,by simp,λx hx z hz=>by
     obtain rfl:z=ln:=⇑hz
     exact λq=>ZS (q▸hx)]
   ·rw[BD,ep];apply#[by rw[dC];exact F4,eO_ (Qn la λj h1 h2=>?_) #[_,F6,.cons #[a,Z,kt _ _ jv] .nil]];let#[zz,e,tt]:=ie R3.2 j h1 h2;exact#[zz,k6 e (fa _ (nD h1)).2,Paired.bN tt λy q ⟨c,z,e⟩=>#[c,z,kt _ _ e]]
   ·rw[BD];have:=PU rs t;omega
   rw[BD];exact PX CJ
  have c:f_ rs t<rs.length:=by
   let h1:=iZ_ rs t
   have:¬f_ rs t=rs.length:=λe=>c (by
    rw[aA,la,e];simp)
   omega
  have CM:f_ rs t<as.length:=by omega
  have nl:as[f_ rs t]≠lr:=(fa _ (nD CM)).2;let#[zz,ez,RF]:=ie R3.2 (f_ rs t) CM c;let _l:=bK RF;rw[aA] at _l;let _w:=CJ _ (nD c)
  have QY:eZ (as.map V.ref) (f_ rs t:Int)\.ref as[f_ rs t]:=by
   rw[fP Z1 (by rw[aA];omega),qH,dS,cw CM];rfl
  apply#[_,Z,_,Z,lr,_,_,_,Z,Z,.of R3.1,QY,.inl #[Z,_,.of ez],_,Z,_,_,_,Z,Z,ez,by omega,?_];have k6:∀{b o},H3 b\o->b≠as[f_ rs t]->upd H3 as[f_ rs t] (.lst (zz++[.ref a])) b\o:=λe ne=>by rw[aD ne];exact e
  have h6:upd H3 as[f_ rs t] (.lst (zz++[.ref a])) as[f_ rs t]\.lst (zz++[.ref a]):=au;generalize upd H3 as[f_ rs t] (.lst (zz++[.ref a]))=H6 at k6 h6 ⊢;have kt:∀b xs,H3 b\.tup xs->H6 b\.tup xs:=λb xs e=>k6 e (cb e ez nofun)
  have ep:jf rs t=rs.set (f_ rs t) (rs[f_ rs t]++[t]):=by
   unfold jf;rw[dif_pos c]
  apply#[_,_,as,Z,λb o e ne=>k6 (b3 _ _ e ne) (bE e (fa _ (nD CM)).1),fa,nd,?_,?_,?_]
  ·rw[BD,ep];apply R3.add nd c (cw CM) (k6 R3.1 nl.symm) h6 ?_ (λb o e _ ne=>k6 e ne) (λb hb=>(fa b hb).2) kt;rw[dC];exact Ca (Paired.bN RF λy q ⟨c,z,e⟩=>#[c,z,kt _ _ e]) (kt _ _ jv)
  ·rw[BD];have:=PU rs t;omega
  rw[BD];exact PX CJ
 rintro σ H2 ⟨v2,v3,as,rfl,b2,fa,nd,R,_,_⟩;rw[lz,<- qm,e_] at R;have s2:aa H H2:=λb o e=>b2 _ _ (s1 _ _ (s0 _ _ e)) (bE e Nc);exact#[_,Z,k lr as H2 s2 Nc (λa ha=>(s0.trans s1).free (fa a ha).1) (λa ha=>(fa a ha).2) nd R]
end
end Ev
namespace L2
open PySem PyProof.Rows
section
variable{X:Cx}
inductive tG (K:af) (x:V) (y:V) (H:Hp) (Q:VK):Prop
 |mk:∀a b xs,x=.ref a->y=.ref b->dM K H a xs->dM K H b []->Q (.bl xs.isEmpty) H->tG K x y H Q
theorem ik_(hu:X.A.units+0+1<cLine):dN X (compareOp .Eq) (tG X.K):=by
 intro pins s σ H x y v u Q I rx ry h;let#[a,b,xs,rfl,rfl,t,t',hq]:=h;cases xs with
 |nil=>exact SJ ia hu pins s σ H (.ref a) (.ref b) v u Q I rx ry #[[],[],#[a,[],Z,t,.nil],#[b,[],Z,t',.nil],hq]
 |cons z zs=>
  cases rx;cases ry;let#[us,r,pl,_]:=I.list t;let#[vs,r',mD,_]:=I.list t';let l1:=r.length;let l2:=r'.length;exact SeqAt.eq_list_lengthsAt pl.isList mD.isList (by simp only[cg,bne_iff_ne];simp at l1 l2;omega) Z1 #[.bl false,H,I,Z,hq]
end
end L2
namespace Ev
open PySem L2
def kI(ts:Xb)(m:Int):Xb:=((turnsOf (aJ ts))[(m % ((turnsOf (aJ ts)).length:Int)).toNat]?).getD []
def zB(hs:Xa)(ts:Xb)(qs:aL)(f:ao)(gd:Str)(t:Str × Str):gY:=iu hs ts qs f gd [] t.1 t.2++iu hs ts qs f gd [] t.2 t.1
def DB(hs:Xa)(ts:Xb)(qs:aL)(f:ao)(gd:Str)(m:Int):gY:=(kI ts m).flatMap (zB hs ts qs f gd)
theorem gh_{rs:List Xb}{t u:Str × Str}{r:Xb}(hr:r∈jf rs t)(hu:u∈r):u=t∨∃r'∈rs,u∈r':=by
 unfold jf at hr;split at hr
 ·rename_i dQ
  rcases List.mem_or_eq_of_mem_set hr with m|rfl
  ·exact .inr #[r,m,hu]
  rcases gD.mp hu with h|h
  ·exact .inr #[_,nD dQ,h]
  exact .inl ⇑h
 rcases gD.mp hr with m|m
 ·exact .inr #[r,m,hu]
 obtain rfl:r=[t]:=⇑m
 exact .inl ⇑hu
theorem We{u:Str × Str}:∀(ts:Xb) (rs:List Xb) {r:Xb},r∈ts.foldl jf rs->u∈r->u∈ts∨∃r'∈rs,u∈r'
 |[],rs,r,hr,hu=>.inr #[r,hr,hu]
 |t::ts,rs,r,hr,hu=>by
  rw[List.foldl_cons] at hr;rcases We ts (jf rs t) hr hu with h|⟨r',h1,h2⟩
  ·exact .inl (fb _ h)
  rcases gh_ h1 h2 with rfl|h
  ·exact .inl fQ
  exact .inr h
theorem Qv:∀(ts:Xb) (rs:List Xb),(ts.foldl jf rs).length<=rs.length+ts.length
 |[],rs=>bj _
 |t::ts,rs=>by
  rw[List.foldl_cons,ka];let h1:=Qv ts (jf rs t);let h2:=PU rs t;omega
theorem VI{n:Nat}:∀(ts:Xb) (rs:List Xb),(∀r∈rs,r.length<=n)->∀r∈ts.foldl jf rs,r.length<=n+ts.length
 |[],rs,h,r,hr=>h r hr
 |t::ts,rs,h,r,hr=>by
  rw[List.foldl_cons] at hr;have:=VI (n:=n+1) ts (jf rs t) (PX h) r hr;rw[ka];omega
theorem V4{ts:Xb}{m:Int}{u:Str × Str}(h:u∈kI ts m):u∈aJ ts:=by
 unfold kI at h;cases e:(turnsOf (aJ ts))[(m % ((turnsOf (aJ ts)).length:Int)).toNat]? with
 |none=>rw[e] at h;cases h
 |some r=>
  rw[e] at h;rcases We (aJ ts) [] (dI e) h with z|⟨_,z,_⟩
  ·exact z
  cases z
theorem f4_{hs:Xa}{ts:Xb}(G:Good hs ts)(m:Int):(kI ts m).length<64:=by
 unfold kI;cases e:(turnsOf (aJ ts))[(m % ((turnsOf (aJ ts)).length:Int)).toNat]? with
 |none=>show 0<64;decide
 |some r=>
  have:=VI (n:=0) (aJ ts) [] Z2 r (dI e);rw[DN] at this;have:=G.qf;show r.length<64;omega
theorem UB{hs:Xa}{ts:Xb}(G:Good hs ts){u:Str × Str}(h:u∈aJ ts):u.1∈aF hs/\u.2∈aF hs:=by
 have k:kT u∈(aJ ts).map kT:=bJ.mpr #[u,h,Z];rw[Km,(k7 _).mem_iff] at k;let#[t,ht,e]:=bJ.mp k;let e:=GL e;let#[h1,h2]:=G.IG t ht;let n1:=(iz hs).mem_iff.mpr h1;let n2:=(iz hs).mem_iff.mpr h2;rw[<- e];unfold aK;split
 ·exact#[n1,n2]
 exact#[n2,n1]
theorem UP{α β:Type}{g:α->List β}{n:Nat}(h:∀x,(g x).length<=n):∀l:List α,(l.flatMap g).length<=n * l.length
 |[]=>g7 _
 |a::l=>by
  let h1:=h a;let h2:=UP h l;rw[List.flatMap_cons,fB,ka,Nat.mul_succ];omega
theorem g0_(hs:Xa)(ts:Xb)(qs:aL)(f:ao)(gd:Str)(t:Str × Str):(zB hs ts qs f gd t).length<=2:=by
 unfold zB;rw[fB];let h1:=Cc hs ts qs f gd [] t.1 t.2;let h2:=Cc hs ts qs f gd [] t.2 t.1;omega
section v
theorem Ic:br ["sight","guard","moment","rows","moves","one","other"] ["sight","guard","moment"] (a9 Ph):=bF
inductive Qm (K:af) (CS CG CW:Addr) (vs:ag) (H:Hp) (Q:VK) (E:XK):Prop
 |mk:∀(v g p:Addr) (gd:Str) (m:Int) (hs:Xa) (ts:Xb) (qs:aL) (fp:ai) (f:ao),vs=[.ref v,.str gd,.int m]->0<=m->iQ K CS CG CW H v g p hs ts qs fp f->Wd hs ts qs f->(∀l ys H',aa H H'->H l=none->H' l\.lst ys->bG K H' ys ((DB hs ts qs f gd m).map kM)->Q (.ref l) H')->Qm K CS CG CW vs H Q E
theorem gg_{f0 CS CG CW:Addr}{fd:Ae}(F:bg K "moves_by_turns" "moves_by_turns" Ph f0 fd)(B:Bi mg)(TS:gE K CS)(TG:dA K CG)(TW:Txt K mg CW)(cT:!bo CW 3 "turns" gJ (HS K CW))(cH:!bc 4 "heaviest_move" kj (jK K CS CG CW)):!ak ba 5 f0 fd ["sight","guard","moment"] (Qm K CS CG CW):=by
 exists F.bI Ic;let#[v,g,p,gd,m,hs,ts,qs,fp,f,rfl,m0,S,W,k]:=h;let sz:=b_;have FO:a_ 3 _:=hr.mono (by decide);refine' #[_,?r0,?kk]
 case' r0=>refine' ax ?s1 ?r1
 case' r1=>refine' ax ?s2 ?r2
 case' r2=>refine' ax ?s3 (ax ?s4 (aC ?s5))
 case s1=>exact bh 3 Ic.nd (uK cT TW.cl FO (dz (dz (pv 0) Z) Z))
 case s2=>exact bw (cn (ik_ (j6 hr 0)) (pv 3) (dE bf)) (aC (aY (dE bf))) bx
 case s3=>exact bh 4 Ic.nd (dE bf)
 case' s4=>refine' fC eS Z (d_ (bA fA (pv 3) (bu pY (pv 2) (bY iy (by rfl) B.len gX %[3|0])))) (kJ Z (dD (cq 5 Ic.nd) (dD (cq 6 Ic.nd) iT))) (ax ?b1 (aC ?b2))
 case b1=>exact j_ (kW mX DD DE DH (pv 4) %[aP cH hr %[0,5,6,1,dE bf|0]|0])
 case b2=>exact j_ (kW mX DD DE DH (pv 4) %[aP cH hr %[0,6,5,1,dE bf|0]|0])
 case s5=>exact aY (pv 4)
 let#[dx,dl,dv,dp,ad,h1,G,h3,h4,h5,h6]:=S.ex;let#[gA,dw,dy,vs,bM,g1,g2,_]:=id G.ex;let#[eX,d1,l2,d3,jn,QZ,ef,w1,_]:=id g2.ex;have hY:(cZ d1 l2 d3).lookup ("turns":Str)=none:=iJ _ _ _ Z0 Z0 Z0;apply#[_,Z,v,CS,dx,_,_,Z,h1,TS.cl,TS.nW,gP _ _ _ _,g,CG,gA,_,_,Z,g1,TG.cl,TG.nW,jB _ _ _,p,eX,_,Z,w1,hY,p,hs,ts,bM,Z,g2,W.Gd.qf,λlr as H1 s1 nr _ _ _ R=>?_];lk;let la:=bK R.2;apply#[_,Z,zl,λle ne=>?_];let#[jq,e2]:=bp (o:=.lst []) ne;generalize upd H1 le (.lst [])=H2 at jq e2 ⊢;let s2:=s1.trans jq;let R2:=R.same jq;apply#[lr,le,_,Z,Z,.of R2.1,.of e2,_,Z,?_];apply aM (λc=>?_) (λc=>?_)
 ·have z:as=[]:=⇑c
  have z:turnsOf (aJ ts)=[]:=by
   rw[z] at la;exact List.length_eq_zero_iff.mp la.symm
  apply#[zl,λl nl=>?_];apply k l [] _ (s2.trans (aa.new nl)) (s2.free nl) au ?_;unfold DB kI;rw[z];exact .nil
 have z:as≠[]:=⇑c
 have pos:0<as.length:=List.length_pos_iff.mpr z;apply#[zl,λlm nm=>?_];lk;let#[AK,e3]:=bp (o:=.lst []) nm;generalize upd H2 lm (.lst [])=H3 at AK e3 ⊢;let s3:=s2.trans AK;have CC:H lm=none:=s2.free nm;let R3:=R2.same AK
 have lt:(m % ((turnsOf (aJ ts)).length:Int)).toNat<as.length:=by
  let h1:=Int.emod_nonneg m (show ((as.length:Nat):Int)≠0 by omega);let h2:=Int.emod_lt_of_pos m (show 0<((as.length:Nat):Int) by omega);rw[<- la];omega
 have lt':(m % ((turnsOf (aJ ts)).length:Int)).toNat<(turnsOf (aJ ts)).length:=by omega
 let#[zs,hz,tz]:=ie R2.2 _ lt lt'
 have er:kI ts m=(turnsOf (aJ ts))[(m % ((turnsOf (aJ ts)).length:Int)).toNat]:=by
  unfold kI;rw[cw lt'];rfl
 rw[<- er] at tz;let _I:=f4_ W.Gd m;have Za:∀u∈kI ts m,u.1∈aF hs/\u.2∈aF hs:=λu hu=>UB W.Gd (V4 hu);let h0:=Int.emod_nonneg m (show (((turnsOf (aJ ts)).length:Nat):Int)≠0 by omega)
 have ix:eZ (as.map V.ref) (m % ((as.map V.ref).length:Int))\.ref (as[(m % ((turnsOf (aJ ts)).length:Int)).toNat]):=by
  rw[aA,la,fP h0 (by rw[aA];omega),dS,cw lt];rfl
 generalize as[(m % ((turnsOf (aJ ts)).length:Int)).toNat]=ar at hz ix;let lz:=bK tz;rw[aA] at lz;have Q0:ar≠lm:=bE hz nm;replace hz:=AK _ _ hz;replace tz:=tz.same AK;apply#[_,Z,_,Z,_,Z,lr,_,Z,.inl (.of R3.1),_,_,Z,Z,by rw[aA];omega,lr,_,_,_,Z,Z,.of R3.1,ix,ar,Z,#[_,.of hz],iK (K:=K) (a:=ar) (xs:=zs) (λi σ H'=>∃(v5 v6:aN) (ys:ag),σ=[some (.ref v),some (.str gd),some (.int m),some (.ref lr),some (.ref lm),v5,v6]/\aa H H'/\aR lm H3 H'/\H' lm\.lst ys/\bG K H' ys ((((kI ts m).take i).flatMap (zB hs ts qs f gd)).map kM)) #[none,none,[],Z,s3,aR.refl _ _,e3,.nil] (λi σ H' _ ⟨_,_,_,_,_,b,_⟩=>.of (b _ _ hz Q0)) ?_ ?_]
 ·rintro i x σ H4 hx ⟨v5,v6,ys,rfl,s4,b4,m4,t4⟩;let#[u,hu,a,rfl,ha]:=oZ tz hx;have hi:i<(kI ts m).length:=(cU.mp hu).1;let#[n1,n2]:=Za u (dI hu);have um:H4 a\.tup [.str u.1,.str u.2]:=b4 _ _ ha (cb ha e3 nofun);apply#[a,_,Z,.of um,Z,_,_,Z,_,_,Z,Z,?_];dsimp only;let ly:=bK t4;rw[aA] at ly;let bl:=UP (g0_ hs ts qs f gd) ((kI ts m).take i);rw[d6] at bl;let l1:=Cc hs ts qs f gd [] u.1 u.2;let CJ:=Cc hs ts qs f gd [] u.2 u.1;apply#[_,Z,.inl #[Z,_,.of m4],_,Z,_,Z,_,Z,_,Z,zl,λlg ng=>?_];let#[AJ,e5]:=bp (o:=.lst []) ng;generalize upd H4 lg (.lst [])=H5 at AJ e5 ⊢;apply#[v,g,p,lg,u.1,u.2,gd,[],hs,ts,qs,fp,f,Z,S.same (s4.trans AJ),W,n1,n2,e5,λl6 z6 H6 wm n6 e6 t6=>?_];let yA:=AJ.trans wm;let m6:=yA _ _ m4;let _o:=bK t6;rw[aA] at _o;apply#[lm,l6,ys,z6,Z,Z,m6,e6,by omega,?_];have s7:aa H (upd H6 lm (.lst (ys++z6))):=iV (s4.trans yA) CC;have b7:aR lm H3 (upd H6 lm (.lst (ys++z6))):=λb o e n=>by rw[aD n];exact yA _ _ (b4 _ _ e n)
  have e7:upd H6 lm (.lst (ys++z6)) lm\.lst (ys++z6):=au
  have t7:bG K (upd H6 lm (.lst (ys++z6))) (ys++z6) ((((kI ts m).take i).flatMap (zB hs ts qs f gd)++iu hs ts qs f gd [] u.1 u.2).map kM):=by
   rw[dC];exact kZ (jC (t4.same yA) m6) (jC t6 m6)
  generalize upd H6 lm (.lst (ys++z6))=H7 at s7 b7 e7 t7 ⊢;dsimp only;apply#[_,Z,.inl #[Z,_,.of e7],_,Z,_,Z,_,Z,_,Z,zl,λSr ZT=>?_];let#[tm,e8]:=bp (o:=.lst []) ZT;generalize upd H7 Sr (.lst [])=H8 at tm e8 ⊢;apply#[v,g,p,Sr,u.2,u.1,gd,[],hs,ts,qs,fp,f,Z,S.same (s7.trans tm),W,n2,n1,e8,λl9 z9 H9 Y7 n9 e9 t9=>?_];let IU:=tm.trans Y7;let m9:=IU _ _ e7;let _n:=bK t9;have ly7:(ys++z6).length=ys.length+z6.length:=fB;rw[aA] at _n;apply#[lm,l9,ys++z6,z9,Z,Z,m9,e9,by omega,?_];apply#[_,_,(ys++z6)++z9,Z,iV (s7.trans IU) CC,λb o e n=>by rw[aD n];exact IU _ _ (b7 _ _ e n),au,?_];rw[show (kI ts m).take (i+1)=(kI ts m).take i++[u] by rw[iS,hu];rfl,List.flatMap_append,List.flatMap_cons,List.flatMap_nil,xR];unfold zB;rw[<- List.append_assoc,dC];exact kZ (jC (t7.same IU) m9) (jC t9 m9)
 rintro σ H4 ⟨v5,v6,ys,rfl,s4,b4,m4,t4⟩;rw[lz,e_] at t4;exact#[_,Z,k lm ys H4 s4 CC m4 t4]
theorem oq:br ["sight","rule","moment","words","moves","hand"] vp (a9 jN):=bF
inductive Oj (K:af) (CS CG CW:Addr) (vs:ag) (H:Hp) (Q:VK) (E:XK):Prop
 |mk:∀(v g p:Addr) (m:Int) (gd:Str) (hs:Xa) (ts:Xb) (qs:aL) (fp:ai) (f:ao),∀r∈rl,vs=[.ref v,.str r.1,.int m]->r.2.1="turns"->r.2.2.2\gd->0<=m->iQ K CS CG CW H v g p hs ts qs fp f->Wd hs ts qs f->(∀l ys H',aa H H'->H l=none->H' l\.lst ys->bG K H' ys ((DB hs ts qs f gd m).map kM)->Q (.ref l) H')->Oj K CS CG CW vs H Q E
theorem it_{f0 CS CG CW:Addr}{fd:Ae}(F:bg K "moves_seen" "moves_seen" jN f0 fd)(xB:!bc 2 BJ ["rule"] (Hx K))(cT:!bc 5 "moves_by_turns" ["sight","guard","moment"] (Qm K CS CG CW)):!ak ba 6 f0 fd vp (Oj K CS CG CW):=by
 exists F.bI oq;let#[v,g,p,m,gd,hs,ts,qs,fp,f,r,bQ,rfl,le,eg,m0,S,W,k]:=h;refine' #[_,ax ?s1 (ax ?s2 eE),?kk]
 case s1=>exact Du (i:=3) oq.nd Z (Or.inl Z) (aP xB hr %[1|0])
 case s2=>exact bw (cn gf (bA c_ (pv 3) az) ck) (aC (aY (aP cT hr %[0,bA c_ (pv 3) az,2|0]))) bx
 apply#[_,Z,r,bQ,Z,λaw ha=>?_];lk;apply#[_,Z,aw,_,_,_,Z,Z,ha _,Z,Z,_,Z,?_];rw[nB,bP le];apply bO ?_;apply#[_,Z,_,Z,aw,_,_,.str gd,Z,Z,ha _,?_,_,Z,v,g,p,gd,m,hs,ts,qs,fp,f,Z,m0,S,W,k];rw[eg];rfl
end
end Ev
namespace Ev
open PySem L2
theorem ak.two{P:Ad}{w:Af}{K:af}{mg:Str->Option Aa}{base:Heap}{CX:jF}{k:Nat}{f:Addr}{fd:Ae}{ps:ae}{sp RT Lx:Sp}(F:!ak CX k f fd ps RT)(G:!ak CX k f fd ps Lx)(h:∀vs H Q E,sp vs H Q E->RT vs H Q E∨Lx vs H Q E):!ak CX k f fd ps sp:=
 #[λvs H Q E q=>(h vs H Q E q).elim (F.len vs H Q E) (G.len vs H Q E),λA outer s H args us vs Q E hr e b v q=>(h vs H Q E q).elim (F.run A outer s H args us vs Q E hr e b v) (G.run A outer s H args us vs Q E hr e b v)]
def pW:zV:=λr hs ts qs f h=>if r.2.1="least" then zA r hs ts qs f h else if r.2.1="below" then B6 r hs ts qs f h else Dy r hs ts qs f h
theorem kK_:∀r∈rl,r.2.1≠"turns"->r.2.1≠"least"->r.2.1≠"below"->r.2.1="shares":=by decide +kernel
theorem iM_:∀r∈rl,r.2.1="turns"->r.2.2.2.isSome=true:=by decide +kernel
theorem Qj{r:Rl}(h:r.2.1="least")(hs:Xa)(ts:Xb)(qs:aL)(f:ao)(x:Str):pW r hs ts qs f x=zA r hs ts qs f x:=aH h
theorem PF{r:Rl}(h:r.2.1="below")(hs:Xa)(ts:Xb)(qs:aL)(f:ao)(x:Str):pW r hs ts qs f x=B6 r hs ts qs f x:=(aB (by rw[h];decide +kernel)).trans (aH h)
theorem fQ_{r:Rl}(h:r.2.1="shares")(hs:Xa)(ts:Xb)(qs:aL)(f:ao)(x:Str):pW r hs ts qs f x=Dy r hs ts qs f x:=(aB (by rw[h];decide +kernel)).trans (aB (by rw[h];decide +kernel))
def pN(r:Rl)(hs:Xa)(ts:Xb)(qs:aL)(f:ao)(m:Int):gY:=if r.2.1="turns" then DB hs ts qs f (r.2.2.2.getD "") m else BX pW r hs ts qs f
def gc(r:Rl)(ts:Xb):Nat:=if r.2.1="turns" then max 1 (turnsOf (aJ ts)).length else 1
def fE(r:Rl)(hs:Xa)(ts:Xb)(qs:aL)(f:ao):Bool:=(List.range (gc r ts)).all λm=>(pN r hs ts qs f m).isEmpty
def BT(T1 T2:Addr)(H H':Hp):Prop:=∀b o,H b\o->b≠T1->b≠T2->H' b\o
theorem BT.of{T1 T2:Addr}{H H':Hp}(s:aa H H'):BT T1 T2 H H':=λb o e _ _=>s b o e
theorem BT.trans{T1 T2:Addr}{H H1 H2:Hp}(a:BT T1 T2 H H1)(b:BT T1 T2 H1 H2):BT T1 T2 H H2:=λc o e n1 n2=>b c o (a c o e n1 n2) n1 n2
theorem BT.nt{T1 T2:Addr}{H H':Hp}(a:BT T1 T2 H H')(tb:Tb H T1 T2):NT H H':=λb o e n=>by
 let#[v1,h1]:=fu tb.a;let#[v2,h2]:=fu tb.b;exact a b o e (λz=>n v1 (by rw[z,h1] at e;exact (dY e).symm)) (λz=>n v2 (by rw[z,h2] at e;exact (dY e).symm))
theorem BT.sec{T1 T2:Addr}{H H':Hp}(a:aR T2 H H'):BT T1 T2 H H':=λb o e _ n=>a b o e n
section
variable{P:Ad}{w:Af}{K:af}{mg:Str->Option Aa}{base:Heap}{CS CG CW T1 T2:Addr}
theorem gl_{f0:Addr}{fd:Ae}{T:Addr}(l:!ak ba 6 f0 fd vq (vK K CS CG CW T (λr=>r.2.1="least") zA))(b:!ak ba 6 f0 fd vq (vK K CS CG CW T (λr=>r.2.1="below") B6))(s:!ak ba 6 f0 fd vq (vK K CS CG CW T (λr=>r.2.1="shares") Dy)):!ak ba 6 f0 fd vq (vK K CS CG CW T (λr=>r.2.1≠"turns") pW):=by
 apply ak.two l (Lx:=vK K CS CG CW T (λr=>r.2.1≠"turns"/\r.2.1≠"least") pW) (ak.two b s λvs H Q E q=>?_) λvs H Q E q=>?_
 ·let#[v,g,p,aw,h,hs,ts,qs,fp,f,r,hr,e,#[n1,n2],ha,S,W,hh,tab,k]:=q;by_cases c:r.2.1="below"
  ·exact .inl #[v,g,p,aw,h,hs,ts,qs,fp,f,r,hr,e,c,ha,S,W,hh,tab,λl ys H' b t n e tu=>k l ys H' b t n e (by rw[PF c];exact tu)]
  let c:=kK_ r hr n1 n2 c;exact .inr #[v,g,p,aw,h,hs,ts,qs,fp,f,r,hr,e,c,ha,S,W,hh,tab,λl ys H' b t n e tu=>k l ys H' b t n e (by rw[fQ_ c];exact tu)]
 let#[v,g,p,aw,h,hs,ts,qs,fp,f,r,hr,e,n1,ha,S,W,hh,tab,k]:=q;by_cases c:r.2.1="least"
 ·exact .inl #[v,g,p,aw,h,hs,ts,qs,fp,f,r,hr,e,c,ha,S,W,hh,tab,λl ys H' b t n e tu=>k l ys H' b t n e (by rw[Qj c];exact tu)]
 exact .inr #[v,g,p,aw,h,hs,ts,qs,fp,f,r,hr,e,#[n1,c],ha,S,W,hh,tab,k]
inductive HU (K:af) (CS CG CW T:Addr) (vs:ag) (H:Hp) (Q:VK) (E:XK):Prop
 |mk:∀(v g p:Addr) (m:Int) (hs:Xa) (ts:Xb) (qs:aL) (fp:ai) (f:ao),∀r∈rl,vs=[.ref v,.str r.1,.int m]->0<=m->iQ K CS CG CW H v g p hs ts qs fp f->Wd hs ts qs f->cE H T jr->(∀l ys H',aR T H H'->cE H' T jr->H l=none->H' l\.lst ys->bG K H' ys ((pN r hs ts qs f m).map kM)->Q (.ref l) H')->HU K CS CG CW T vs H Q E
theorem iQ_{f0:Addr}{fd:Ae}{T:Addr}(a:!ak ba 7 f0 fd vp (lI K CS CG CW T (λr=>r.2.1≠"turns") pW))(t:!ak ba 6 f0 fd vp (Oj K CS CG CW)):!ak ba 7 f0 fd vp (HU K CS CG CW T):=by
 apply ak.two a (t.mono (by decide)) λvs H Q E q=>?_;let#[v,g,p,m,hs,ts,qs,fp,f,r,hr,e,m0,S,W,tab,k]:=q;by_cases c:r.2.1="turns"
 ·let#[gd,eg]:=Cj.mp (iM_ r hr c);exact .inr #[v,g,p,m,gd,hs,ts,qs,fp,f,r,hr,e,c,eg,m0,S,W,λl ys H' s n e tu=>k l ys H' (aR.of s) (tab.same s) n e (by unfold pN;rw[aH c,eg];exact tu)]
 exact .inl #[v,g,p,m,hs,ts,qs,fp,f,r,hr,e,c,S,W,tab,λl ys H' b t n e tu=>k l ys H' b t n e (by unfold pN;rw[aB c];exact tu)]
theorem rX:br ["web","rule"] ["web","rule"] (a9 On):=bF
inductive Hg (K:af) (C:Addr) (vs:ag) (H:Hp) (Q:VK) (E:XK):Prop
 |mk:∀(p:Addr) (hs:Xa) (ts:Xb) (fp:ai),∀r∈rl,vs=[.ref p,.str r.1]->fF K C H p hs ts fp->ts.length<64->(∀H',aa H H'->Q (.int (gc r ts)) H')->Hg K C vs H Q E
theorem gG_{f C:Addr}{fd:Ae}(F:bg K "rows_by" "rows_by" On f fd)(B:Bi mg)(T:Txt K mg C)(cW:!bc 2 BJ ["rule"] (Hx K))(cT:!bo C 3 "turns" gJ (HS K C)):!ak ba 4 f fd ["web","rule"] (Hg K C):=by
 exists F.bI rX;let#[p,hs,ts,fp,r,bQ,rfl,W,h1,k]:=h;refine' #[_,ax ?s1 (aC ?s2),?kk]
 case s1=>exact bw (cn qB (bA c_ (aP cW hr %[1|0]) az) ck) (aC (aY az)) bx
 case s2=>exact aY (bY (Ie Z) (by rfl) B.max Dt %[az,bY iy (by rfl) B.len gX %[uK cT T.cl hr (pv 0)|0]|0])
 apply#[_,Z,r,bQ,Z,λa ha=>?_];apply#[a,_,_,_,Z,Z,ha _,Z,Z,_,Z,?_];apply aM (λc=>?_) (λc=>?_)
 ·have c:¬r.2.1="turns":=by simpa [nB] using c
  have:=k H (aa.refl _);unfold gc at this;rw[aB c] at this;exact this
 have c:r.2.1="turns":=by simpa [nB] using c
 let#[eX,d1,l2,d3,jn,QZ,ef,w1,_]:=id W.ex;apply#[_,Z,p,eX,_,Z,w1,iJ _ _ _ Z0 Z0 Z0,p,hs,ts,fp,Z,W,h1,λl as H' s _ _ _ _ R=>?_];apply#[l,_,Z,.inl (.of R.1),_,_,Z,?_];let la:=bK R.2;have:=k H' s;unfold gc at this;rw[aH c,<- la] at this;rw[aA,show (if ((as.length:Nat):Int) > 1 then ((as.length:Nat):Int) else 1)=((max 1 as.length:Nat):Int) by split<;>omega]
 exact this
theorem Os:br ["goods","placed","rule","sight","moment"] Dc (a9 Pt):=bF
structure zU (K:af) (CG CW T1 T2:Addr) (H:Hp) (g p d:Addr) (hs:Xa) (ts:Xb) (qs:aL) (fp:ai) (f:ao):Prop where
 Pl:p7 K CG CW H g p d hs ts qs fp f
 W:Wd hs ts qs f
 tb:Tb H T1 T2
 has:∀b∈fp,∃o,H b\o
inductive DA (K:af) (CG CW T1 T2:Addr) (vs:ag) (H:Hp) (Q:VK) (E:XK):Prop
 |mk:∀(g p d:Addr) (hs:Xa) (ts:Xb) (qs:aL) (fp:ai) (f:ao),∀r∈rl,vs=[.ref g,.ref d,.str r.1]->zU K CG CW T1 T2 H g p d hs ts qs fp f->(∀H',BT T1 T2 H H'->Tb H' T1 T2->Q (.bl (fE r hs ts qs f)) H')->DA K CG CW T1 T2 vs H Q E
theorem j2_{f0:Addr}{fd:Ae}(F:bg K "rests_at" "rests_at" Pt f0 fd)(B:Bi mg)(TG:dA K CG)(HG:!ig CS 7 "Sight" Dh (Hq K CS CG CW T1))(xD:!bc 7 "moves_seen" vp (HU K CS CG CW T2))(B0:!bc 4 "rows_by" ["web","rule"] (Hg K CW)):!ak ba 9 f0 fd Dc (DA K CG CW T1 T2):=by
 exists F.bI Os;let#[g,p,d,hs,ts,qs,fp,f,r,bQ,rfl,D,k]:=h;let sz:=b_;refine' #[_,ax ?s1 (ax ?s2 (aC (aY qz))),?kk]
 case s1=>exact bh 3 Os.nd (BR HG hr %[0,1|0])
 case' s2=>refine' fC eS Z (B9 (by rfl) B.range %[aP B0 hr %[dz (pv 0) Z,2|0]|0]) (cq 4 Os.nd) (aC (bw ?e1 (aC (aY qz)) bx))
 case e1=>exact cn (U3 (j6 hr 0)) (aP xD hr %[3,2,4|0]) (dE bf)
 apply#[_,Z,_,Z,λv dx hv w_ ne=>?_];have s2:aa H (upd (upd H dx (.own v)) v (.ins CS dx [])):=(aa.new w_).trans (aa.new (by rw[aD ne.symm];exact hv));have e2:upd (upd H dx (.own v)) v (.ins CS dx []) v\.ins CS dx []:=au;generalize upd (upd H dx (.own v)) v (.ins CS dx [])=H2 at s2 e2 ⊢
 have yb:v∉fp:=λhm=>by
  let#[o,e]:=D.has v hm;rw[e] at hv;cases hv
 have Im:p7 K CG CW H2 g p d hs ts qs fp f:=#[D.Pl.G.same s2,D.W.Gd,D.Pl.jc,s2 _ _ D.Pl.hd,D.W.at_,D.W.nd,D.W.bR];apply#[v,dx,g,p,d,hs,ts,qs,fp,f,Z,e2,yb,Im,D.W,D.tb.a.same s2,λH3 k3 gi S3=>#[Z,?_]];lk;let#[RI,C5]:=fu D.tb.a;have yO:∀b o,H b\o->b≠T1->H3 b\o:=λb o e n=>k3 b o (s2 _ _ e) (bE e hv) n;have AR:NT H H3:=λb o e n=>yO b o e (λz=>by rw[z,C5] at e;exact n _ (dY e).symm)
 have eP:cE H3 T2 jr:=by
  let#[es,a1,a2]:=D.tb.b;exact#[es,yO _ _ a1 D.tb.ne.symm,λx hx=>AR _ _ (a2 x hx) nofun]
 let#[_,_,_,_,_,_,GA3,_]:=id S3.ex;let#[gA,dw,dy,vs,bM,g1,g2,_]:=id GA3.ex
 have rn:gc r ts<=64:=by
  let tl:=Qv (aJ ts) [];rw[DN,p9] at tl;let qf:=D.W.Gd.qf
  have:(turnsOf (aJ ts)).length<=64:=by
   show ((aJ ts).foldl jf []).length<=64;omega
  unfold gc;split<;>omega
 apply#[_,Z,g,CG,gA,_,_,Z,g1,TG.cl,TG.nW,jB _ _ _,_,Z,p,hs,ts,bM,r,bQ,Z,g2,D.W.Gd.qf,λH4 s4=>?_];apply#[((gc r ts:Nat):Int),Z,by omega,by omega,?_];have WH:BT T1 T2 H H4:=λb o e n1 n2=>s4 _ _ (yO b o e n1);let S4:=S3.same s4;have eN:Tb H4 T1 T2:=#[gi.same s4,eP.same s4,D.tb.ne];apply B_ (λi σ H'=>∃v4:aN,σ=[some (.ref g),some (.ref d),some (.str r.1),some (.ref v),v4]/\BT T1 T2 H4 H'/\Tb H' T1 T2/\∀j:Nat,j<i->(pN r hs ts qs f j).isEmpty=true) #[none,Z,BT.of (aa.refl _),eN,by omega] ?_ ?_
 ·rintro i σ H5 hi ⟨v4,rfl,E1,ij,em⟩;rw[qH] at hi;lk;let#[K9,Gy]:=fu ij.b;apply#[_,Z,_,Z,_,Z,v,g,p,0+(i:Int),hs,ts,qs,fp,f,r,bQ,Z,by omega,S4.nt (E1.nt eN),D.W,ij.b,λl ys H6 b6 zZ nl hl tu=>?_];have wD:BT T1 T2 H5 H6:=BT.sec b6;apply#[zl,λle ne'=>?_];let s7:=aa.new (o:=.lst []) ne';have qQ:Tb (upd H6 le (.lst [])) T1 T2:=#[cE.same s7 (cE.but ij.a b6 #[_,Gy] D.tb.ne),zZ.same s7,D.tb.ne];let ly:=bK tu;rw[aA,Int.zero_add] at ly;apply#[l,le,ys,Z,Z,.of (s7 _ _ hl),.of au,_,Z,?_];let AQ:=(E1.trans wD).trans (BT.of s7);apply aM (λc=>?_) (λc=>?_)
  ·have c:ys.isEmpty=false:=⇑c
   have hf:fE r hs ts qs f=false:=by
    apply List.all_eq_false.mpr #[i,List.mem_range.mpr hi,?_];rw[List.isEmpty_eq_false_iff] at c;rw[List.isEmpty_iff];intro z;rw[z,p9] at ly;exact c (List.length_eq_zero_iff.mp ly)
   have:=k _ (WH.trans AQ) qQ;rw[hf] at this;exact this
  have c:ys.isEmpty=true:=⇑c
  apply#[_,Z,AQ,qQ,λj hj=>?_];by_cases e:j=i
  ·rw[e,List.isEmpty_iff];rw[List.isEmpty_iff] at c;rw[c,p9] at ly;exact List.length_eq_zero_iff.mp ly.symm
  exact em j Z1
 rintro σ H5 ⟨v4,rfl,E1,ij,em⟩;rw[qH] at em;have ht:fE r hs ts qs f=true:=List.all_eq_true.mpr λj hj=>em j (List.mem_range.mp hj);have:=k H5 (WH.trans E1) ij;rw[ht] at this;exact this
end
end Ev
namespace Ev
open PySem L2
theorem Vn{α:Type}{xs:List α}{i:Nat}{x:α}(h:xs[i]? = some x):xs.take (i+1)=xs.take i++[x]:=by rw[iS,h];rfl
def pJ(f:ao)(m:Mv):ao:=λn=>if n=m.1 then m.2.2 else f n
def jb(f:ao)(ms:gY):ao:=ms.foldl pJ f
theorem VJ(f:ao)(a:gY)(m:Mv):jb f (a++[m])=pJ (jb f a) m:=by
 unfold jb;rw[List.foldl_append];rfl
theorem UU{ns:ae}{f:ao}{m:Mv}(h:m.1∈ns):putK (bZ ns f) (Sum.inr m.1) (.str m.2.2)=bZ ns (pJ f m):=by
 unfold bZ;rw[Uv h];apply Kq λn _=>?_;unfold pJ;by_cases z:n=m.1
 ·rw[aH z,aH z]
 rw[aB z,aB z]
theorem Th{H:Hp}{p:Addr}{m:Mv}(h:H p\.tup ((kM m).map kV)):H p\.tup [.str m.1,.str m.2.1,.str m.2.2]:=h
theorem Ut{A:ae}{n:Str}:∀{ms:gY} {f:ao},(∀x∈ms,x.2.2∈A)->f n∈A->jb f ms n∈A
 |[],_,_,h=>h
 |m::ms,f,a,h=>by
  show jb (pJ f m) ms n∈A;apply Ut (λx hx=>a x (by simp[hx])) ?_;unfold pJ;split
  ·exact a m Z2
  exact h
section
variable{hs:Xa}{ts:Xb}{qs:aL}{f:ao}
def vO(hs:Xa)(qs:aL)(x:Mv):Prop:=x.1∈qs.map (·.1)/\x.2.2∈aF hs
theorem JF{gd a b:Str}{gv:ae}(hb:b∈aF hs):∀x∈iu hs ts qs f gd gv a b,vO hs qs x:=λx h=>by
 unfold iu at h;split at h
 ·rename_i n e
  let hm:=List.mem_singleton.mp h;subst hm;exact#[(J4 (List.mem_of_find?_eq_some e)).1,hb]
 cases h
theorem NP{ms ns:gY}(a:∀x∈ms,vO hs qs x)(b:∀x∈ns,vO hs qs x):∀x∈ms++ns,vO hs qs x:=λx h=>(gD.mp h).elim (a x) (b x)
theorem N0{gd h:Str}:∀{l:ae} {ms:gY},(∀o∈l,o∈aF hs)->(∀x∈ms,vO hs qs x)->∀x∈ny hs ts qs f gd h ms l,vO hs qs x
 |[],ms,_,a=>a
 |o::l,ms,hl,a=>by
  unfold ny;split
  ·exact N0 (λx hx=>hl x (by simp[hx])) (NP a (JF (hl o Z2)))
  exact N0 (λx hx=>hl x (by simp[hx])) a
theorem MH{h:Str}:∀{l:ae} {ms:gY},(∀o∈l,o∈aF hs)->(∀x∈ms,vO hs qs x)->∀x∈uE hs ts qs f h ms l,vO hs qs x
 |[],ms,_,a=>a
 |o::l,ms,hl,a=>by
  unfold uE;split
  ·apply MH (λx hx=>hl x (by simp[hx])) (NP a λx hx=>?_);let#[n,hn,rfl]:=bJ.mp hx;exact#[(J4 ((J8 _ _ _ _).subset hn)).1,hl o Z2]
  exact MH (λx hx=>hl x (by simp[hx])) a
theorem NZ(W:Wd hs ts qs f)(r:Rl)(m:Int):∀x∈pN r hs ts qs f m,vO hs qs x:=by
 have R0:∀h,∀o∈dB hs ts qs f h,o∈aF hs:=λh o ho=>C8 ((Ig hs ts qs f h).mem_iff.mp ho);unfold pN;split
 ·intro x hx;let#[t,ht,hx]:=List.mem_flatMap.mp hx;let#[t1,t2]:=UB W.Gd (V4 ht);exact NP (JF t2) (JF t1) x hx
 have full:∀x∈(aF hs).flatMap (pW r hs ts qs f),vO hs qs x:=λx hx=>by
  let#[h,hh,hx]:=List.mem_flatMap.mp hx;revert hx;unfold pW;split
  ·unfold zA uM;have:=R0 h;split
   ·intro z;cases z
   rename_i o _ e
   rw[e] at this;exact JF (this o Z2) x
  split
  ·exact N0 (R0 h) (λx z=>by cases z) x
  exact MH (λo ho=>C8 ho) (λx z=>by cases z) x
 unfold BX;split
 ·exact λx hx=>full x (List.mem_of_mem_take hx)
 exact full
def rC(r:Rl)(hs:Xa)(ts:Xb)(qs:aL)(m:Int)(f:ao):ao:=jb f (pN r hs ts qs f m)
def runM(r:Rl)(hs:Xa)(ts:Xb)(qs:aL)(f:ao):Nat->Str->Str
 |0=>f
 |n+1=>rC r hs ts qs n (runM r hs ts qs f n)
theorem Wd.step(W:Wd hs ts qs f)(r:Rl)(m:Int):Wd hs ts qs (rC r hs ts qs m f):=#[W.Gd,W.nd,W.bR,λn hn=>Ut (λx hx=>(iz hs).mem_iff.mp (NZ W r m x hx).2) (W.at_ n hn),W.wq]
theorem Wd.run(W:Wd hs ts qs f)(r:Rl):∀n,Wd hs ts qs (runM r hs ts qs f n)
 |0=>W
 |n+1=>(W.run r n).step r n
end
section
variable{P:Ad}{w:Af}{K:af}{mg:Str->Option Aa}{base:Heap}{CS CG CW T1 T2:Addr}
abbrev Zq:ae:=["goods","placed","rule","moment","after","piece","one","other"]
theorem Hr:br Zq ki (a9 ma):=bF
inductive GU (K:af) (CG CW T1 T2:Addr) (vs:ag) (H:Hp) (Q:VK) (E:XK):Prop
 |mk:∀(g p d:Addr) (m:Int) (hs:Xa) (ts:Xb) (qs:aL) (fp:ai) (f:ao),∀r∈rl,vs=[.ref g,.ref d,.str r.1,.int m]->0<=m->zU K CG CW T1 T2 H g p d hs ts qs fp f->(∀d' H',BT T1 T2 H H'->Tb H' T1 T2->H d'=none->H' d'\.dK (bZ (qs.map (·.1)) (rC r hs ts qs m f))->Q (.ref d') H')->GU K CG CW T1 T2 vs H Q E
theorem iv_{f0:Addr}{fd:Ae}(F:bg K "placed_after" "placed_after" ma f0 fd)(B:Bi mg)(HG:!ig CS 7 "Sight" Dh (Hq K CS CG CW T1))(xD:!bc 7 "moves_seen" vp (HU K CS CG CW T2)):!ak ba 9 f0 fd ki (GU K CG CW T1 T2):=by
 exists F.bI Hr;let#[g,p,d,m,hs,ts,qs,fp,f,r,bQ,rfl,m0,D,k]:=h;let sz:=b_;let hu:=gC hr;refine' #[_,ax ?s1 (ax ?s2 (aC (aY (pv 4)))),?kk]
 case s1=>exact bh 4 Hr.nd (iH KN (by rfl) B.dict uJ %[1|0])
 case s2=>exact fC eS Z (d_ (aP xD hr %[BR HG hr %[0,1|0],2,3|0])) (kJ Z (dD (cq 5 Hr.nd) (dD (cq 6 Hr.nd) (dD (cq 7 Hr.nd) iT)))) (aC (xH hu (pv 4) (pv 5) (pv 7) Z))
 let bR:=D.W.bR;apply#[_,Z,d,_,Z,.inl D.Pl.hd,λdl CH=>?_];let#[sd,ed]:=bp (o:=.dK (bZ (qs.map (·.1)) f)) CH;show pE _ _ _ _ (upd H dl (.dK (bZ (qs.map (·.1)) f)));generalize upd H dl (.dK (bZ (qs.map (·.1)) f))=H1 at sd ed ⊢;apply#[_,Z,_,Z,λv dx hv w_ ne=>?_];have s2:aa H1 (upd (upd H1 dx (.own v)) v (.ins CS dx [])):=(aa.new w_).trans (aa.new (by rw[aD ne.symm];exact hv));have e2:upd (upd H1 dx (.own v)) v (.ins CS dx []) v\.ins CS dx []:=au;generalize upd (upd H1 dx (.own v)) v (.ins CS dx [])=H2 at s2 e2 ⊢;let ik:=sd.trans s2
 have yb:v∉fp:=λhm=>by
  let#[o,e]:=D.has v hm;rw[sd _ _ e] at hv;cases hv
 have Im:p7 K CG CW H2 g p d hs ts qs fp f:=#[D.Pl.G.same ik,D.W.Gd,D.Pl.jc,ik _ _ D.Pl.hd,D.W.at_,D.W.nd,D.W.bR];apply#[v,dx,g,p,d,hs,ts,qs,fp,f,Z,e2,yb,Im,D.W,D.tb.a.same ik,λH3 k3 gi S3=>#[Z,?_]];let#[RI,C5]:=fu D.tb.a;have My:∀b o,H1 b\o->b≠T1->H3 b\o:=λb o e n=>k3 b o (s2 _ _ e) (bE e hv) n
 have eP:cE H3 T2 jr:=by
  let#[es,a1,a2]:=D.tb.b;exact#[es,My _ _ (sd _ _ a1) D.tb.ne.symm,λx hx=>My _ _ (sd _ _ (a2 x hx)) (λz=>by have:=a2 x hx;rw[z,C5] at this;cases this)]
 apply#[_,Z,_,Z,v,g,p,m,hs,ts,qs,fp,f,r,bQ,Z,m0,S3,D.W,eP,λl ys H4 b4 fR nl hl tu=>?_];let#[K9,Gy]:=fu eP;have qF:BT T1 T2 H1 H4:=λb o e n1 n2=>b4 _ _ (My b o e n1) n2;have eN:Tb H4 T1 T2:=#[cE.but gi b4 #[_,Gy] D.tb.ne,fR,D.tb.ne];have Eb:∀{T tv},H T\.tbl tv->dl≠T:=λe z=>by rw[<- z,CH] at e;cases e
 let#[Yv,NS]:=fu D.tb.b;let xo:=qF _ _ ed (Eb C5) (Eb NS);have _T:l≠dl:=cb hl xo nofun;let ly:=bK tu;rw[aA] at ly;apply#[l,Z,#[_,.of hl],iK (K:=K) (a:=l) (xs:=ys) (λj σ H'=>∃v5 v6 v7:aN,σ=[some (.ref g),some (.ref d),some (.str r.1),some (.int m),some (.ref dl),v5,v6,v7]/\aR dl H4 H'/\H' dl\.dK (bZ (qs.map (·.1)) (jb f ((pN r hs ts qs f m).take j)))) #[none,none,none,Z,aR.refl _ _,xo] (λj σ H' _ ⟨_,_,_,_,b,_⟩=>.of (b _ _ hl _T)) ?_ ?_]
 ·rintro j y σ H' hy ⟨v5,v6,v7,rfl,b',e'⟩;let#[x,hx,D9,rfl,wO]:=oZ tu hy;let wO:=Th wO;have Lc:D9≠dl:=cb wO xo nofun;apply#[D9,_,Z,.of (b' _ _ wO Lc),Z,_,_,Z,_,_,Z,_,_,Z,Z,?_];dsimp only;apply#[_,Z,_,Z,_,Z,dl,_,Z,.k (k:=Sum.inr x.1) e' (by rw[kY,aA];omega),?_];apply#[_,_,_,Z,b'.trans aR.upd,?_];rw[au,UU (NZ D.W r m x (dI hx)).1,Vn hx,VJ]
 rintro σ H' ⟨v5,v6,v7,rfl,b',e'⟩;rw[ly,e_] at e';have kT:∀{T qn},cE H4 T qn->cE H' T qn:=λ⟨es,a1,a2⟩=>#[es,b' _ _ a1 (λz=>by rw[z,xo] at a1;cases a1),λx hx=>b' _ _ (a2 x hx) (λz=>by have:=a2 x hx;rw[z,xo] at this;cases this)];exact#[_,Z,k dl H' (λb o e n1 n2=>b' b o (qF b o (sd _ _ e) n1 n2) (bE e CH)) #[kT eN.a,kT eN.b,D.tb.ne] CH e']
end
end Ev
namespace Ev
open PySem L2
section v
theorem oo:br ["goods","placed","levels"] kP (a9 lZ):=bF
def qh(hs:Xa)(qs:aL)(f:ao):Int:=sumF (aF hs) (ld f (qs.map gG)) λh=>oI hs / strOf hs h
inductive OD (K:af) (CG CW:Addr) (vs:ag) (H:Hp) (Q:VK) (E:XK):Prop
 |mk:∀(g p d:Addr) (hs:Xa) (ts:Xb) (qs:aL) (fp:ai) (f:ao),vs=[.ref g,.ref d]->p7 K CG CW H g p d hs ts qs fp f->(∀q∈qs,0<=q.2.1/\q.2.1<=1000000000)->(∀H',aa H H'->Q (.int (qh hs qs f)) H')->OD K CG CW vs H Q E
theorem if_{f CG CW:Addr}{fd:Ae}(F:bg K "sum_at" "sum_at" lZ f fd)(Mf:mg "sum"=none)(cL:!bc 3 "loads_at" kP (Ia K CG CW))(cV:!bc 4 "levels_at" kP (Kx K CG CW)):!ak ba 5 f fd kP (OD K CG CW):=by
 exists F.bI oo;let#[g,p,d,hs,ts,qs,fp,f,rfl,Pl,wp,k]:=h;let hu:=gC hr;let sz:=b_;let nl:=Pl.Gd.fS;let h8:=Pl.Gd.h8;refine' #[_,ax ?s1 (aC ?s2),?kk]
 case s1=>exact bh 2 oo.nd (aP cV hr %[0,1|0])
 case' s2=>refine' aY (bY (hw_ Z) (by rfl) Mf PyProof.Rows.boot_sum %[kX ["hand","load","levels"] 2 [2] (KC (G5 (aP cL hr %[0,1|0]))) (λfp s H=>?g1) (λfp s H=>jA) (λfp s H=>?e1)|0])
 case g1=>exact J7 (n:=2) (dD (gg (i:=0) (show (["hand","load","levels"]:ae).Nodup by decide +kernel) Z (Or.inl Z)) (dD (gg (i:=1) (show (["hand","load","levels"]:ae).Nodup by decide +kernel) Z (Or.inl Z)) iT))
 case e1=>exact bu oX (pv 1) (j9 hu (pv 2) (pv 0))
 apply#[_,Z,_,Z,g,p,d,hs,ts,qs,fp,f,Z,Pl,wp,λdv H1 s1 n1 e1=>?_];have Q8:p7 K CG CW H1 g p d hs ts qs fp f:=#[Pl.G.same s1,Pl.Gd,Pl.jc,s1 _ _ Pl.hd,Pl.at_,Pl.nd,Pl.bR];apply#[_,Z,_,Z,g,p,d,hs,ts,qs,fp,f,Z,Q8,λdl H2 s2 n2 e2=>?_];apply#[dl,_,Z,e2,λv hv=>?_];let#[s3,oK]:=bp (o:=pZ v dl) hv;let e3:=s3 _ _ e2;let vh:=s2.trans s3;generalize upd H2 v (pZ v dl)=H3 at s3 oK e3 vh ⊢;apply#[v,dl,_,Z,oK,e3,λo D hD=>?_];have dvl:dv≠dl:=bE e1 n2;have sf:aa H1 (upd H3 dl (.frz o (.dK (wL hs qs f)))):=iV vh n2;have ef:upd H3 dl (.frz o (.dK (wL hs qs f))) dl\.frz o (.dK (wL hs qs f)):=au;generalize upd H3 dl (.frz o (.dK (wL hs qs f)))=H4 at sf ef hD ⊢;apply fO_ (own:=2) (fv:=[some (.ref dv)]) Z GC (λi out H'=>aa H4 H'/\H' D\.lst out/\out=(((aF hs).take i).map λh=>ld f (qs.map gG) h * vj hs qs f h).map V.int) #[aa.new hD,au,Z] (λi out H' _ ⟨sm,_,_⟩=>sm _ _ ef) (λout H5 ⟨sm,xi,eo⟩=>?_) (λi ky x out H' hx ⟨sm,fo,eo⟩ t ht=>?_)
 ·rw[kY,e_] at eo;rw[eo] at xi;exact#[D,_,Z,.of xi,k H5 (s1.trans (sf.trans sm))]
 let#[n,hn,rfl,rfl]:=JN hx;have hi:i<(aF hs).length:=(cU.mp hn).1;let nm:=dI hn;let lo:=Jk wp Pl.bR f n;let#[ss,et]:=bp (o:=.tup [.str n,.int (ld f (qs.map gG) n)]) ht;apply#[[some (.str n),some (.int (ld f (qs.map gG) n))],#[t,_,_,Z,.of et,Z],Z,λNx hN=>eJ ?_];let s4:=(sf.trans sm).trans ss;let sD:=ss _ _ fo;let s5:=sm.trans ss;show Eh _ _ _ _ (upd H' t (.tup [.str n,.int (ld f (qs.map gG) n)])) _;generalize upd H' t (.tup [.str n,.int (ld f (qs.map gG) n)])=H6 at s4 sD s5 ⊢;apply#[_,Z,_,Z,_,Z,dv,.int (vj hs qs f n),Z,?_,_,_,Z,Z,.inl #[by omega,by omega],out,sD,by rw[eo,aA,aA,d6];omega,hN _ _ #[iV s5 hD,au,?_]]
 ·rw[<- Dw (g:=λh=>V.int (vj hs qs f h)) nm];exact .k (k:=Sum.inr n) (s4 _ _ e1)
 rw[jz hn,dC,dC,eo];rfl
end
end Ev
namespace Ev
open PySem L2
section
variable{P:Ad}{w:Af}{K:af}{mg:Str->Option Aa}{base:Heap}{CS CG CW T1 T2:Addr}
inductive Pb (K:af) (CG CW T1 T2:Addr) (vs:ag) (H:Hp) (Q:VK) (E:XK):Prop
 |mk:∀(g p d:Addr) (m:Int) (hs:Xa) (ts:Xb) (qs:aL) (fp:ai) (ns:ae) (f:ao),∀r∈rl,vs=[.ref g,.ref d,.str r.1,.int m]->0<=m->nE K CG CW H g p d hs ts qs fp ns f->Wd hs ts qs f->Tb H T1 T2->(∀l ys H',BT T1 T2 H H'->Tb H' T1 T2->H l=none->H' l\.lst ys->bG K H' ys ((pN r hs ts qs f m).map kM)->Q (.ref l) H')->Pb K CG CW T1 T2 vs H Q E
theorem hM_{f0:Addr}{fd:Ae}(F:bg K "moves_of" "moves_of" O3 f0 fd)(BY:!bc 3 BF qy (Ho K CG CW))(HG:!ig CS 7 "Sight" Dh (Hq K CS CG CW T1))(xD:!bc 7 "moves_seen" vp (HU K CS CG CW T2))(Qp:!bc 3 "checked_moments" fO V2) :
  ak P w K mg base ba 9 f0 fd uT (Pb K CG CW T1 T2):=by
 exists F.bI Wm;let#[g,p,d,m,hs,ts,qs,fp,ns,f,r,bQ,rfl,m0,S,W,tb,k]:=h;refine' #[_,ax ?s1 (aC ?s2),?kk]
 case s1=>exact bh 4 Wm.nd (aP BY hr %[0,1,2|0])
 case s2=>exact aY (aP xD hr %[BR HG hr %[0,4|0],2,aP Qp hr %[3|0]|0])
 apply#[_,Z,_,Z,_,Z,_,_,r,bQ,Z,#[g,p,d,hs,ts,qs,fp,ns,f,Z,S.G,S.jc,S.hd,S.so,W.nd,W.bR,λdp H1 s1 n1 e1=>?_]];lk
 have xt:dp∉fp:=λhm=>by
  let#[o,e,_]:=S.has dp hm;rw[e] at n1;cases n1
 have Pl:p7 K CG CW H1 g p dp hs ts qs fp f:=#[S.G.same s1,W.Gd,xt,e1,W.at_,W.nd,W.bR];apply#[_,Z,_,Z,λv dx hv w_ ne=>?_];have s2:aa H1 (upd (upd H1 dx (.own v)) v (.ins CS dx [])):=(aa.new w_).trans (aa.new (by rw[aD ne.symm];exact hv));have e2:upd (upd H1 dx (.own v)) v (.ins CS dx []) v\.ins CS dx []:=au;generalize upd (upd H1 dx (.own v)) v (.ins CS dx [])=H2 at s2 e2 ⊢
 have yb:v∉fp:=λhm=>by
  let#[o,e,_]:=S.has v hm;rw[s1 _ _ e] at hv;cases hv
 let ik:=s1.trans s2;have Im:p7 K CG CW H2 g p dp hs ts qs fp f:=#[Pl.G.same s2,W.Gd,xt,s2 _ _ e1,W.at_,W.nd,W.bR];apply#[v,dx,g,p,dp,hs,ts,qs,fp,f,Z,e2,yb,Im,W,tb.a.same ik,λH3 k3 gi S3=>#[Z,?_]];let#[RI,C5]:=fu tb.a;let#[K9,Gy]:=fu tb.b
 have nv:∀{b:Addr} {o:HO},H b\o->b≠v:=λe z=>by
  rw[z] at e;rw[s1 _ _ e] at hv;cases hv
 have yO:∀b o,H b\o->b≠T1->H3 b\o:=λb o e n=>k3 b o (ik _ _ e) (nv e) n;have AR:NT H H3:=λb o e n=>yO b o e (λz=>by rw[z,C5] at e;exact n _ (dY e).symm)
 have eP:cE H3 T2 jr:=by
  let#[es,a1,a2]:=tb.b;exact#[es,yO _ _ a1 tb.ne.symm,λx hx=>AR _ _ (a2 x hx) nofun]
 apply#[_,Z,_,Z,m,Z,m0,?_];apply#[v,g,p,m,hs,ts,qs,fp,f,r,bQ,Z,m0,S3,W,eP,λl ys H4 b4 fR nl hl tu=>?_];let#[Yv,NS]:=fu eP;let iO:=b4.nt NS;apply k l ys H4 (λb o e n1 n2=>b4 _ _ (yO b o e n1) n2) #[?_,fR,tb.ne] ?_ hl tu
 ·let#[es,a1,a2]:=gi;exact#[es,b4 _ _ a1 tb.ne,λx hx=>iO _ _ (a2 x hx) nofun]
 cases z:H l with
 |none=>rfl
 |some o=>
  by_cases y:l=T1
  ·let#[es,a1,_]:=gi;rw[y,a1] at nl;cases nl
  rw[yO _ _ z y] at nl;cases nl
theorem sE:br qy qy (a9 Oq):=bF
inductive J1 (K:af) (CG CW T1 T2:Addr) (vs:ag) (H:Hp) (Q:VK) (E:XK):Prop
 |mk:∀(g p d:Addr) (hs:Xa) (ts:Xb) (qs:aL) (fp:ai) (ns:ae) (f:ao),∀r∈rl,vs=[.ref g,.ref d,.str r.1]->nE K CG CW H g p d hs ts qs fp ns f->Wd hs ts qs f->Tb H T1 T2->(∀H',BT T1 T2 H H'->Tb H' T1 T2->Q (.bl (fE r hs ts qs f)) H')->J1 K CG CW T1 T2 vs H Q E
theorem j4_{f0:Addr}{fd:Ae}(F:bg K "at_rest" "at_rest" Oq f0 fd)(BY:!bc 3 BF qy (Ho K CG CW))(qx:!bc 9 "rests_at" Dc (DA K CG CW T1 T2)):!ak ba 10 f0 fd qy (J1 K CG CW T1 T2):=by
 exists F.bI sE;let#[g,p,d,hs,ts,qs,fp,ns,f,r,bQ,rfl,S,W,tb,k]:=h;refine' #[_,aC ?s1,?kk]
 case s1=>exact aY (aP qx hr %[0,aP BY hr %[0,1,2|0],2|0])
 apply#[_,Z,_,Z,_,Z,_,Z,_,_,r,bQ,Z,#[g,p,d,hs,ts,qs,fp,ns,f,Z,S.G,S.jc,S.hd,S.so,W.nd,W.bR,λdp H1 s1 n1 e1=>?_]]
 have xt:dp∉fp:=λhm=>by
  let#[o,e,_]:=S.has dp hm;rw[e] at n1;cases n1
 apply#[_,Z,g,p,dp,hs,ts,qs,fp,f,r,bQ,Z,#[#[S.G.same s1,W.Gd,xt,e1,W.at_,W.nd,W.bR],W,#[tb.a.same s1,tb.b.same s1,tb.ne],λb hb=>let #[o,e,_]:=S.has b hb;#[o,s1 _ _ e]],λH' nt t'=>k H' ((BT.of s1).trans nt) t']
end
end Ev
namespace Ev
open PySem L2
theorem kF_{H:Hp}{l d:Addr}{u:HO}(h:bW H l)(ne:d≠l):bW (upd H d u) l:=by
 rcases h with⟨n,e⟩|⟨n,m,c,e⟩
 ·exact .inl #[n,by rw[aD ne.symm];exact e]
 exact .inr #[n,m,c,by rw[aD ne.symm];exact e]
section v
theorem OQ:br [eY,"_law_pieces_here","_law_hands",ux,"_law_piece"] uW (a9 l7):=bF
inductive PB (K:af) (vs:ag) (H:Hp) (Q:VK) (E:XK):Prop
 |mk:∀(l lp lh:Addr) (yp yh:ag) (ps:aL) (hs:Xa),vs=[.ref l,.ref lp,.ref lh]->bW H l->H lp\.lst yp->lp≠l->uD K H yp ps->H lh\.lst yh->lh≠l->bG K H yh (hs.map kH)->0<hs.length->hs.length<=8->ps.length<=30->(ps.map (·.1)).Nodup->(∀d f H',aR l H H'->bW H' l->H d=none->H' d\.dK (bZ (ps.map (·.1)) f)->(∀n∈ps.map (·.1),f n∈hs.map (·.1))->Q (.ref d) H')->PB K vs H Q E
theorem j0_{f:Addr}{fd:Ae}(F:bg K "_law_stand" "_law_stand" l7 f fd)(B:Bi mg)(cD:!bc 1 qA uH vH):!ak ba 2 f fd uW (PB K):=by
 exists F.bI OQ;let#[l,lp,lh,yp,yh,ps,hs,rfl,st,CT,Je,pc,pT,CI,th,h0,h8,h30,nd,k]:=h;let hu:=gC hr;let sz:=b_;refine' #[_,?r0,?kk]
 case' r0=>refine' ax ?s1 (ax ?s2 (aC ?s3))
 case s1=>exact bh 3 OQ.nd Hk
 case s2=>exact fC eS Z (d_ (pv 1)) (cq 4 OQ.nd) (aC (xH hu (pv 3) (bA c_ (pv 4) az) (bA c_ (bA fA (pv 2) (aP cD hr %[0,bY iy (by rfl) B.len gX %[2|0]|0])) az) Z))
 case s3=>exact aY (pv 3)
 let _p:=bK pc;let _q:=bK th;rw[aA] at _q;intro d hd;let s1:=aa.new (o:=.dK []) hd
 have dl:d≠l:=by
  let#[xs,e]:=st.some;exact (bE e hd).symm
 have b1:aR l H (upd H d (.dK [])):=aR.of s1;have e1:upd H d (.dK []) d\.dK []:=au;let fD:=st.same s1;show pE _ _ _ _ (upd H d (.dK []));generalize upd H d (.dK [])=H1 at b1 e1 fD s1 ⊢;let#[Re,vk]:=st.some;have lpd:lp≠d:=bE CT hd;apply#[_,Z,lp,Z,#[_,.of (s1 _ _ CT)],iK (K:=K) (a:=lp) (xs:=yp) (λi σ H'=>∃(v4:aN) (f:ao),σ=[some (.ref l),some (.ref lp),some (.ref lh),some (.ref d),v4]/\aR l H H'/\bW H' l/\H' d\.dK (bZ ((ps.map (·.1)).take i) f)/\∀n∈(ps.map (·.1)).take i,f n∈hs.map (·.1)) #[none,λn=>n,Z,b1,fD,e1,λn hn=>by simp at hn] (λi σ H' _ ⟨_,_,_,b,_⟩=>.of (b _ _ CT Je)) ?_ ?_]
 ·rintro i y σ H2 hy ⟨v4,f,rfl,b2,dG,e2,fm⟩;have hi:i<yp.length:=(cU.mp hy).1;have Jt:i<ps.length:=by omega
  let#[t,v,et,ht,_]:=ie pc i hi Jt;rw[(cU.mp hy).2] at et;subst et;have hn:(ps.map (·.1))[i]? = some (ps[i]'Jt).1:=by rw[dS,cw Jt];rfl
  generalize ps[i]'Jt=q at ht hn;have tl:t≠l:=cb ht vk nofun;apply#[_,Z,_,Z,_,Z,lh,_,Z,.inl (.of (b2 _ _ pT CI)),l,(yh.length:Int),Z,by omega,by omega,dG,λj H3 j0 j1 b3 gO=>?_];let#[j,rfl]:=p_ j0;let xO:=b2.trans b3;have hj:j<yh.length:=by omega
  have SY:yh[j]? = some (yh[j]'hj):=cw hj;let#[h,hh,a,ea,ha]:=oZ th SY;have al:a≠l:=cb ha vk nofun;let jv:=Ti (xO _ _ ha al);let yS:=xO _ _ ht tl;let e3:=b3 _ _ e2 dl;apply#[lh,_,_,.ref a,Z,Z,.of (xO _ _ pT CI),by rw[fP Z1 Z1,qH,SY,ea],a,_,0,_,Z,Z,.of jv,Z,?_];apply#[_,Z,_,Z,t,_,0,_,Z,Z,.of yS,Z,d,_,Z,.k (k:=Sum.inr q.1) e3 (by rw[kY,d6,aA];omega),?_];apply#[_,λm=>if m=q.1 then h.1 else f m,Z,λb o e nb=>?_,?_,?_,?_]
  ·rw[aD (bE e hd)];exact xO _ _ e nb
  ·exact kF_ gO dl
  ·rw[au,jz hn,T7 (Pz nd hn)];congr 2;apply Kq λm _=>?_;by_cases z:m=q.1
   ·simp[z]
   simp[z]
  intro m hm;rw[jz hn] at hm;show (if m=q.1 then h.1 else f m)∈_;by_cases z:m=q.1
  ·rw[aH z];exact bJ.mpr #[h,dI hh,Z]
  rw[aB z];rcases gD.mp hm with hm|hm
  ·exact fm m hm
  exact absurd ⇑hm z
 rintro σ H2 ⟨v4,f,rfl,b2,dG,e2,fm⟩;rw[_p,<- aA (f:=λq:Pc=>q.1),e_] at e2 fm;exact#[_,Z,k d f H2 b2 dG hd e2 fm]
end
end Ev
namespace L2
open PySem PySem.Spec PyProof.Rows
theorem d7.frm{K:af}{H H':Hp}{v:V}{t:Aa}(h:d7 K H v t)(s:∀a o,v=.ref a->H a\o->(∀vs,o≠.tbl vs)->H' a\o):d7 K H' v t:=by
 cases h with
 |non=>exact .non
 |bl x=>exact .bl x
 |int x=>exact .int x
 |str x=>exact .str x
 |flt x=>exact .flt x
 |lst e=>exact .lst (s _ _ Z e nofun)
 |frz e=>exact .frz (s _ _ Z e nofun)
 |tup e=>exact .tup (s _ _ Z e nofun)
 |dK e=>exact .dK (s _ _ Z e nofun)
 |dT e=>exact .dT (s _ _ Z e nofun)
 |ins e a b c d f=>exact .ins (s _ _ Z e nofun) a b c d f
end L2
namespace Ev
open PySem L2
def kq(K:af)(H:Hp)(v:V)(T:String):Prop:=∃ty,d7 K H v ty/\PySem.W.kitOne K ty (.type T)\false
theorem kq.nt{K:af}{H H':Hp}{v:V}{T:String}(h:kq K H v T)(s:NT H H'):kq K H' v T:=let #[ty,a,b]:=h;#[ty,a.frm λa o _ e n=>s a o e n,b]
def DS(K:af)(H:Hp)(y:V)(c:Bool):Prop:=(c=true/\∃i,y=.int i)∨(c=false/\((∃b,y=.bl b)∨kq K H y "int"))
theorem DS.nt{K:af}{H H':Hp}{y:V}{c:Bool}(h:DS K H y c)(s:NT H H'):DS K H' y c:=h.imp id λ⟨e,h⟩=>#[e,h.imp id λh=>h.nt s]
section v
def lO(K:af):Sp:=λvs H Q _=>∃(v:V) (c:Bool),vs=[v]/\DS K H v c/\Q (.bl c) H
theorem kG_{f:Addr}{fd:Ae}(F:bg K "is_whole" "is_whole" wj f fd)(B:Bi mg):!ak ba 1 f fd fO (lO K):=by
 exists F.bI yu;let#[v,c,rfl,n,k]:=h;apply#[_,aC (aY (kL (bY iW (by rfl) B.iD iI %[0,iU (v:=.ty "int") (by rfl) B.int JM Z|0]) (kK (SH (bY iW (by rfl) B.iD iI %[0,iU (v:=.ty "bool") (by rfl) B.bool PyProof.Rows.Boot.«bool» rfl|0]))))),?_];rcases n with⟨rfl,i,rfl⟩|⟨rfl,⟨b,rfl⟩|⟨ty,h1,h2⟩⟩
 ·exact#[_,Z,_,_,_,_,Z,.int i,Z,_,Z,bO #[_,Z,_,_,_,_,Z,.int i,Z,_,Z,k]]
 ·exact#[_,Z,_,_,_,_,Z,.bl b,Z,_,Z,bO #[_,Z,_,_,_,_,Z,.bl b,Z,_,Z,k]]
 exact#[_,Z,_,_,_,_,Z,h1,h2,_,Z,aQ k]
def Ck(K:af)(H:Hp)(y:V)(a:Int)(c:Bool):Prop:=(∃i,y=.int i/\c=decide (a<=i))∨(c=false/\((∃b,y=.bl b)∨kq K H y "int"))
def QL(K:af):Sp:=λvs H Q _=>∃(v:V) (a:Int) (c:Bool),vs=[v,.int a]/\Ck K H v a c/\Q (.bl c) H
theorem g8_{f0:Addr}{fd:Ae}(F:bg K "is_whole_from" "is_whole_from" Kc f0 fd)(cI:!bc 1 "is_whole" fO (lO K)):!ak ba 2 f0 fd BH (QL K):=by
 exists F.bI Vt;let#[v,a,c,rfl,n,k]:=h;apply#[_,aC (aY (kL (aP cI hr %[0|0]) (kK (m_ pV (pv 1) (pv 0))))),?_];rcases n with⟨i,rfl,rfl⟩|⟨rfl,n⟩
 ·exact#[_,Z,_,true,Z,.inl #[Z,i,Z],_,Z,bO #[_,Z,_,Z,_,_,Z,Z,k]]
 exact#[_,Z,_,false,Z,.inr #[Z,n],_,Z,aQ k]
def qc(K:af)(H:Hp)(v:V)(x:Str)(n:Nat)(c:Bool):Prop:=(c=false/\kq K H v "tuple")∨∃a xs,v=.ref a/\H a\.tup xs/\((c=false/\xs.length≠n)∨(xs.length=n/\∃y r,xs=y::r/\((∃z,y=.str z/\c=decide (z=x))∨(c=false/\kq K H y "str"))))
theorem sC:br ke ke (a9 OO):=bF
inductive KG (K:af) (vs:ag) (H:Hp) (Q:VK) (E:XK):Prop
 |mk:∀(v:V) (x:Str) (n:Nat) (c:Bool),vs=[v,.str x,.int n]->qc K H v x n c->Q (.bl c) H->KG K vs H Q E
theorem hU_{f:Addr}{fd:Ae}(F:bg K "begins_with" "begins_with" OO f fd)(B:Bi mg):!ak ba 1 f fd ke (KG K):=by
 exists F.bI sC;let#[v,x,n,c,rfl,b,k]:=h;refine' #[_,ax (bw (PW.pt (uA (eF (dF (bY iW (by rfl) B.iD iI %[0,iU (v:=.ty "tuple") (by rfl) B.tuple vE Z|0]))) (uL (cn qB (bY iy (by rfl) B.len gX %[0|0]) (pv 2))))) (aC (aY qz)) bx) (aC (aY (kL (bY iW (by rfl) B.iD iI %[bA c_ (pv 0) az,iU (v:=.ty "str") (by rfl) B.str Dr Z|0]) (kK (m_ gf (bA c_ (pv 0) az) (pv 1)))))),?_];rcases b with⟨rfl,ty,h1,h2⟩|⟨a,xs,rfl,ha,b⟩
 ·exact#[_,Z,_,_,_,_,Z,h1,h2,false,Z,bO (bO k)]
 apply#[_,Z,_,_,_,_,Z,.tup ha,Z,true,Z,aQ ?_];apply#[_,Z,a,xs,Z,.inr (.of ha),_,Z,Z,_,Z,?_];rcases b with⟨rfl,ne⟩|⟨en,y,r,rfl,b⟩
 ·apply aM (λ_=>k) (λc=>?_);have c:(xs.length:Int)=n:=⇑c
  omega
 apply aM (λc=>absurd (show ((y::r).length:Int)=(n:Int) by omega) ⇑c) (λ_=>?_);apply#[_,Z,a,_,0,y,Z,Z,.of ha,L2.fP (j:=0) Z,?_];rcases b with⟨z,rfl,rfl⟩|⟨rfl,ty,h1,h2⟩
 ·apply#[_,_,_,true,Z,.str z,Z,_,Z,bO ?_];apply#[_,Z,a,_,0,.str z,Z,Z,.of ha,L2.fP (j:=0) Z,_,Z,Z,?_];rw[show decide (V.str z=V.str x)=decide (z=x) from decide_eq_decide.mpr #[λh=>V.str.inj h,λh=>by rw[h]]];exact k
 exact#[_,_,_,false,Z,h1,h2,_,Z,aQ k]
end
end Ev
namespace Ev
open PySem L2
def BM(K:af)(H:Hp)(v:V)(c:Bool):Prop:=(c=false/\qc K H v "rest" 2 false)∨∃(a:Addr) (y:V),v=.ref a/\H a\.tup [.str "rest",y]/\((c=false/\kq K H y "list")∨∃(l:Addr) (ys:ag) (bs:List Bool),y=.ref l/\H l\.lst ys/\Paired (DS K H) ys bs/\ys.length<=100000/\c=(decide (1<=ys.length)&&decide (ys.length<=3001)&&bs.all id))
section v
theorem r9:br ["paper"] ["paper"] (a9 OG):=bF
def VB(K:af):Sp:=λvs H Q _=>∃(v:V) (c:Bool),vs=[v]/\BM K H v c/\∀H',aa H H'->Q (.bl c) H'
theorem gQ_{f:Addr}{fd:Ae}(F:bg K "is_of_a_rest" "is_of_a_rest" OG f fd)(B:Bi mg){t:Tok}(mM:mg "MOST_MOMENTS"\.int 3000 t)(cB:!bc 1 "begins_with" ke (KG K))(cI:!bc 1 "is_whole" fO (lO K)):!ak ba 2 f fd ["paper"] (VB K):=by
 exists F.bI r9;let#[v,c,rfl,b,k]:=h;let sz:=b_;refine' #[_,ax ?s1 (aC ?s2),?kk]
 case s1=>exact bw (PW.pt (uA (eF (dF (aP cB hr %[0,ck,az|0]))) (uL (eF (dF (bY iW (by rfl) B.iD iI %[bA c_ (pv 0) az,iU (v:=.ty "list") (by rfl) B.list zK Z|0])))))) (aC (aY qz)) bx
 case' s2=>refine' aY (kL (Pg pV pV az (bY iy (by rfl) B.len gX %[bA c_ (pv 0) az|0]) (bu fH (xM (v:=.int 3000) (by rfl) mM #[t,Z]) az)) (kK (bY (UN Z) (by rfl) B.all PyProof.Rows.Boot.«all» %[kX ["number"] 1 [] (d_ (bA (A4 (K:=K) mC c_) (pv 0) az)) (λfp s H=>gg (i:=0) (show (["number"]:ae).Nodup by decide +kernel) Z (Or.inl Z)) (λfp s H=>jA) (λfp s H=>?te)|0])))
 case te=>exact aP cI hr %[0|0]
 rcases b with⟨rfl,b⟩|⟨a,y,rfl,ha,b⟩
 ·exact#[_,Z,v,"rest",2,false,Z,b,false,Z,bO (bO (k H (aa.refl H)))]
 apply#[_,Z,.ref a,"rest",2,true,Z,.inr #[a,_,Z,ha,.inr #[Z,_,_,Z,.inl #[_,Z,by simp]]],true,Z,aQ ?_];have zN:∀{x:V},eZ [x,y] 1\y:=λ{x}=>L2.fP (j:=1) Z;apply#[_,Z,a,_,1,y,Z,Z,.of ha,zN,?_];rcases b with⟨rfl,ty,h1,h2⟩|⟨l,ys,bs,rfl,hl,pb,l1,rfl⟩
 ·exact#[_,_,_,false,Z,h1,h2,false,Z,bO (k H (aa.refl H))]
 apply#[_,_,_,true,Z,.lst hl,Z,true,Z,aQ ?_];let lb:=bK pb;apply#[_,Z,a,_,1,.ref l,Z,Z,.of ha,zN,l,ys,Z,.inl (.of hl),?_];apply#[_,_,Z,Z,_,Z,?_];apply aM (λc1=>?_) (λc1=>?_);rotate_left 1
 ·have c1:¬(1:Int)<=(ys.length:Int):=⇑c1
  have:=k H (aa.refl H);rw[show decide (1<=ys.length)=false from dJ Z1] at this;exact#[_,Z,aQ this]
 have c1:(1:Int)<=(ys.length:Int):=⇑c1
 apply#[_,_,Z,Z,_,_,Z,Z,_,Z,?_];apply aM (λc2=>?_) (λc2=>?_);rotate_left 1
 ·have c2:¬(ys.length:Int)<=3000+1:=⇑c2
  have:=k H (aa.refl H);rw[show decide (ys.length<=3001)=false from dJ Z1,xP] at this;exact this
 have c2:(ys.length:Int)<=3000+1:=⇑c2
 apply#[_,Z,a,_,1,.ref l,Z,Z,.of ha,zN,l,Z,#[ys,.of hl],λD hD=>?_];apply k8 (own:=1) (fv:=[]) (xs:=ys) Z fq (λi out H'=>aa H H'/\H' D\.lst out/\out=(bs.take i).map V.bl) #[aa.new hD,au,Z] (λi out H' _ ⟨sm,_⟩=>.of (sm _ _ hl)) (λout H' ⟨sm,fo,eo⟩=>?_) (λi x out H' hx ⟨sm,fo,eo⟩=>?_)
 ·rw[lb,e_] at eo;have:=k H' sm;rw[show decide (1<=ys.length)=true from bP Z1,show decide (ys.length<=3001)=true from bP Z1] at this;exact#[D,bs,Z,.of (by rw[fo,eo]),this]
 have hi:i<ys.length:=(cU.mp hx).1;let w:=ie pb i hi Z1;rw[(cU.mp hx).2] at w;have lo:out.length=i:=by rw[eo,aA,d6];omega
 apply#[_,Z,Z,λNx hN=>eJ ?_];apply#[_,Z,x,_,Z,w.nt (NT.of sm),out,fo,by omega,hN (out++[.bl (bs[i]' Z1)]) _ #[iV sm hD,au,?_]];rw[iS,cw Z1,dC];exact d9 (λz=>z++_) eo
end
end Ev
namespace Ev
open PySem L2
def kn(K:af)(H:Hp)(v:V)(c:Bool):Prop:=(c=false/\qc K H v "ring" 3 false)∨∃(a:Addr) (y z:V),v=.ref a/\H a\.tup [.str "ring",y,z]/\((c=false/\Ck K H y 0 false)∨(Ck K H y 0 true/\c=false/\Ck K H z 1 false)∨∃i j:Int,y=.int i/\z=.int j/\0<=i/\1<=j/\c=decide (i+j<=3000))
section v
theorem r6:br ["paper"] ["paper"] (a9 Ob):=bF
def Vz(K:af):Sp:=λvs H Q _=>∃(v:V) (c:Bool),vs=[v]/\kn K H v c/\Q (.bl c) H
theorem hf_{f:Addr}{fd:Ae}(F:bg K "is_of_a_ring" "is_of_a_ring" Ob f fd){t:Tok}(mM:mg "MOST_MOMENTS"\.int 3000 t)(cB:!bc 1 "begins_with" ke (KG K))(cW:!bc 2 "is_whole_from" BH (QL K)):!ak ba 3 f fd ["paper"] (Vz K):=by
 exists F.bI r6;let#[v,c,rfl,b,k]:=h;refine' #[_,ax ?s1 (ax ?s2 (aC ?s3)),?kk]
 case s1=>exact bw (eF (dF (aP cB hr %[0,ck,az|0]))) (aC (aY qz)) bx
 case s2=>exact bw (PW.pt (uA (eF (dF (aP cW hr %[bA c_ (pv 0) az,az|0]))) (uL (eF (dF (aP cW hr %[bA c_ (pv 0) az,az|0])))))) (aC (aY qz)) bx
 case s3=>exact aY (m_ pV (bu fH (bA c_ (pv 0) az) (bA c_ (pv 0) az)) (xM (v:=.int 3000) (by rfl) mM #[t,Z]))
 rcases b with⟨rfl,b⟩|⟨a,y,z,rfl,ha,b⟩
 ·exact#[_,Z,v,"ring",3,false,Z,b,_,Z,bO k]
 apply#[_,Z,.ref a,"ring",3,true,Z,.inr #[a,_,Z,ha,.inr #[Z,_,_,Z,.inl #[_,Z,by simp]]],_,Z,aQ ?_];have zN:∀{x:V},eZ [x,y,z] 1\y:=λ{x}=>L2.fP (j:=1) Z;have at2:∀{x:V},eZ [x,y,z] 2\z:=λ{x}=>L2.fP (j:=2) Z;apply#[_,Z,a,_,1,y,Z,Z,.of ha,zN,?_];rcases b with⟨rfl,b⟩|⟨b1,rfl,b⟩|⟨i,j,rfl,rfl,i0,j0,rfl⟩
 ·exact#[y,0,false,Z,b,false,Z,bO (bO k)]
 ·apply#[y,0,true,Z,b1,true,Z,aQ ?_];exact#[_,Z,a,_,2,z,Z,Z,.of ha,at2,z,1,false,Z,b,false,Z,bO k]
 apply#[.int i,0,true,Z,.inl #[i,Z,(bP i0).symm],true,Z,aQ ?_];apply#[_,Z,a,_,2,.int j,Z,Z,.of ha,at2,.int j,1,true,Z,.inl #[j,Z,(bP j0).symm],true,Z,aQ ?_];exact#[_,Z,a,_,1,.int i,Z,Z,.of ha,zN,_,Z,a,_,2,.int j,Z,Z,.of ha,at2,_,_,Z,Z,_,_,Z,Z,k]
end
end Ev
namespace Ev
open PySem L2
inductive yF (x:V) (y:V) (H:Hp) (Q:VK):Prop
 |mk:∀(a b:Addr) (ns:ae) (f g:ao),x=.ref a->y=.ref b->H a\.dK (bZ ns f)->H b\.dK (bZ ns g)->Q (.bl (!(ns.all λn=>decide (f n=g n)))) H->yF x y H Q
theorem OS{X:Cx}(hu:X.A.units<cLine):dN X (compareOp .NotEq) yF:=by
 intro pins s σ H x y v u Q I rx ry h;let#[a,b,ns,f,g,rfl,rfl,ha,hb,q]:=h;cases rx;cases ry;let#[za,na,va,ra,da]:=mT I.aI (.inl ha);let#[zb,nb,vb,rb,db]:=mT I.aI (.inl hb);let la:=ra.length;let lb:=rb.length;rw[kY] at la lb;apply PySem.W.keq_ne na nb da db hu (r:=ns.all λn=>decide (f n=g n)) (λ_=>TV rb ns va ra λ_ h=>h) ⟨.bl _,H,I,rfl,?_⟩;rw[<- la,<- lb];simpa using q
def Ws(r:Rl)(hs:Xa)(ts:Xb)(qs:aL)(f:ao)(k:Nat):Bool:=!((qs.map (·.1)).all λn=>decide (runM r hs ts qs f (k+1) n=runM r hs ts qs f k n))
def EV(r:Rl)(hs:Xa)(ts:Xb)(qs:aL)(f:ao)(ss:List Int)(k:Nat):Prop:=ss[k]? = some (qh hs qs (runM r hs ts qs f k))/\fE r hs ts qs (runM r hs ts qs f k)=false/\¬(Ws r hs ts qs f k=true/\∃x y:Int,ss[k]? = some x/\ss[k+1]? = some y/\x<=y)
def UG(r:Rl)(hs:Xa)(ts:Xb)(qs:aL)(f:ao)(ss:List Int)(v:V)(H:Hp):Prop:=∃k:Nat,k<ss.length/\(∀j:Nat,j<k->EV r hs ts qs f ss j) /\
 ((∃t,ss[k]?≠some (qh hs qs (runM r hs ts qs f k))/\v=.ref t/\H t\.tup [.str "sum",.int k]) ∨
  (ss[k]? = some (qh hs qs (runM r hs ts qs f k))/\fE r hs ts qs (runM r hs ts qs f k)=true/\k+1<ss.length/\∃t,v=.ref t/\H t\.tup [.str "rests",.int k]) ∨
  (ss[k]? = some (qh hs qs (runM r hs ts qs f k))/\fE r hs ts qs (runM r hs ts qs f k)=false/\k+1<ss.length/\Ws r hs ts qs f k=true/\(∃x y:Int,ss[k]? = some x/\ss[k+1]? = some y/\x<=y)/\∃t,v=.ref t/\H t\.tup [.str "rise",.int k]) ∨
  (k+1=ss.length/\ss[k]? = some (qh hs qs (runM r hs ts qs f k))/\((fE r hs ts qs (runM r hs ts qs f k)=true/\v=.non)∨(fE r hs ts qs (runM r hs ts qs f k)=false/\∃t,v=.ref t/\H t\.tup [.str "goes",.int k]))))
section
variable{P:Ad}{w:Af}{K:af}{mg:Str->Option Aa}{base:Heap}{CS CG CW T1 T2:Addr}
abbrev frN:ae:=["goods","placed","rule","sums","last","there","k","after"]
theorem Dz:br frN uS (a9 mn):=bF
inductive OV (K:af) (CG CW T1 T2:Addr) (vs:ag) (H:Hp) (Q:VK) (E:XK):Prop
 |mk:∀(g p d l:Addr) (ss:List Int) (hs:Xa) (ts:Xb) (qs:aL) (fp:ai) (f:ao),∀r∈rl,vs=[.ref g,.ref d,.str r.1,.ref l]->H l\.lst (ss.map V.int)->0<ss.length->ss.length<=3001->zU K CG CW T1 T2 H g p d hs ts qs fp f->(∀v H',BT T1 T2 H H'->Tb H' T1 T2->UG r hs ts qs f ss v H'->Q v H')->OV K CG CW T1 T2 vs H Q E
theorem ii_{f0:Addr}{fd:Ae}(F:bg K "fault_of_rest" "fault_of_rest" mn f0 fd)(B:Bi mg)(Wz:!bc 5 "sum_at" kP (OD K CG CW))(qx:!bc 9 "rests_at" Dc (DA K CG CW T1 T2))(Hy:!bc 9 "placed_after" ki (GU K CG CW T1 T2)):!ak ba 10 f0 fd uS (OV K CG CW T1 T2):=by
 apply F.ok Dz (λvs H Q E h=>?_) (λaO A outer s H vs Q E hr h=>?_)
 ·let#[g,p,d,l,ss,hs,ts,qs,fp,f,r,bQ,rfl,_]:=h;rfl
 let#[g,p,d,l,ss,hs,ts,qs,fp,f,r,bQ,rfl,hl,l0,l3,D,k]:=h;let sz:=b_;refine' ⟨_,ax ?s1 ?r1,?kk⟩
 case s1=>exact bh 4 Dz.nd (bu xw (bY iy (by rfl) B.len gX %[3|0]) az)
 case' r1=>refine' ax ?s2 ?r2
 case s2=>exact bh 5 Dz.nd (pv 1)
 case' r2=>refine' ax ?s3 (ax ?s4 (aC ?s5))
 case' s3=>refine' fC eS Z (B9 (by rfl) B.range %[4|0]) (cq 6 Dz.nd) (ax ?b1 (ax ?b2 (ax ?b3 (ax ?b4 (aC ?b5)))))
 case b1=>exact bw (cn qB (bA fA (pv 3) (pv 6)) (aP Wz hr %[0,5|0])) (aC (aY (dR %[ck,6|0]))) bx
 case b2=>exact bw (dF (aP qx hr %[0,5,2|0])) (aC (aY (dR %[ck,6|0]))) bx
 case b3=>exact bh 7 Dz.nd (aP Hy hr %[0,5,2,6|0])
 case b4=>exact bw (PW.pt (xG (cn (OS (Nat.lt_of_succ_lt (j6 hr 0))) (pv 7) (pv 5)) (zI (cn Mz (bA fA (pv 3) (bu fH (pv 6) az)) (bA fA (pv 3) (pv 6)))))) (aC (aY (dR %[ck,6|0]))) bx
 case b5=>exact bh 5 Dz.nd (pv 7)
 case s4=>exact bw (cn qB (bA fA (pv 3) (pv 4)) (aP Wz hr %[0,5|0])) (aC (aY (dR %[ck,4|0]))) bx
 case s5=>exact aY (UK (dF (aP qx hr %[0,5,2|0])) zy (dR %[ck,4|0]))
 have at_:∀{i:Nat} {z:Int},ss[i]? = some z->eZ (ss.map V.int) (i:Int)\.int z:=λ{i z} e=>L2.fP (by rw[dS,e];rfl)
 have AY:∀{a:Addr},H a=none->a∉fp:=λna m=>by
  let#[o,e]:=D.has _ m;rw[e] at na;cases na
 obtain⟨n,en⟩:∃n:Nat,ss.length=n+1:=#[ss.length - 1,by omega];apply#[_,Z,l,_,Z,.inl (.of hl),_,_,Z,Z,setG ?_];dsimp only;rw[show ((ss.map V.int).length:Int) - 1=(n:Int) by rw[aA];omega];apply#[_,Z,setG ?_];dsimp only
 have PD:∀{G:Hp} {dp:Addr} {i:Nat},BT T1 T2 H G->Tb G T1 T2->(dp=d∨H dp=none)->G dp\.dK (bZ (qs.map (·.1)) (runM r hs ts qs f i))->zU K CG CW T1 T2 G g p dp hs ts qs fp (runM r hs ts qs f i):=λ{G dp i} bt tb nd e=>#[#[D.Pl.G.nt (bt.nt D.tb),D.W.Gd,nd.elim (λz=>z▸D.Pl.jc) AY,e,(D.W.run r i).at_,D.W.nd,D.W.bR],D.W.run r i,tb,λb hb=>by
  let#[o,e]:=D.has b hb;let#[u1,g1]:=fu tb.a;let#[u2,g2]:=fu tb.b;by_cases y1:b=T1
  ·exact#[_,y1▸g1]
  by_cases y2:b=T2
  ·exact#[_,y2▸g2]
  exact#[o,bt _ _ e y1 y2]]
 apply gQ (λσ H'=>∃(v6 v7:aN) (dp:Addr),σ=[some (.ref g),some (.ref d),some (.str r.1),some (.ref l),some (.int n),some (.ref dp),v6,v7]/\BT T1 T2 H H'/\Tb H' T1 T2/\(dp=d∨H dp=none)/\H' dp\.dK (bZ (qs.map (·.1)) (runM r hs ts qs f n))/\∀j:Nat,j<n->EV r hs ts qs f ss j) ?later (λN hN=>?loop)
 case loop=>
  apply#[_,Z,_,Z,by omega,by omega,?_];apply B_ (λi σ H'=>∃(v6 v7:aN) (dp:Addr),σ=[some (.ref g),some (.ref d),some (.str r.1),some (.ref l),some (.int n),some (.ref dp),v6,v7]/\BT T1 T2 H H'/\Tb H' T1 T2/\(dp=d∨H dp=none)/\H' dp\.dK (bZ (qs.map (·.1)) (runM r hs ts qs f i))/\∀j:Nat,j<i->EV r hs ts qs f ss j) #[none,none,d,Z,BT.of (aa.refl _),D.tb,.inl Z,D.Pl.hd,by omega] ?_ (λσ H' h=>hN _ _ h);rintro i σ H1 hi ⟨v6,v7,dp,rfl,b,tb,nd,ed,pa⟩;rw[qH] at hi;lk;rw[Int.zero_add];let nt:=b.nt D.tb;let Dn:=PD b tb nd ed;obtain⟨z,ez⟩:∃z,ss[i]? = some z:=#[_,cw Z1];obtain⟨y,ey⟩:∃y,ss[i+1]? = some y:=#[_,cw Z1];apply#[_,Z,_,Z,l,_,_,.int z,Z,Z,.inl (.inl (nt.lst hl)),at_ ez,?_];apply#[_,Z,_,Z,g,p,dp,hs,ts,qs,fp,_,Z,Dn.Pl,D.W.wq,λH2 s2=>?_];let b2:=b.trans (BT.of s2);have eP:Tb H2 T1 T2:=#[tb.a.same s2,tb.b.same s2,tb.ne];apply#[Z,_,Z,aM (λc=>?_) (λc=>?_)]
  ·have c:¬z=qh hs qs (runM r hs ts qs f i):=⇑c
   apply#[_,Z,zl,λt wF=>?_];let s3:=aa.new (o:=.tup [.str "sum",.int (i:Int)]) wF;exact k _ _ (b2.trans (BT.of s3)) #[eP.a.same s3,eP.b.same s3,tb.ne] #[i,by omega,pa,.inl #[t,λq=>c (dY (ez.symm.trans q)),Z,au]]
  have c:z=qh hs qs (runM r hs ts qs f i):=⇑c
  subst c;apply#[_,Z,_,Z,_,Z,g,p,dp,hs,ts,qs,fp,_,r,bQ,Z,PD b2 eP nd (s2 _ _ ed),λH3 b3 eO=>?_];let g5:=b2.trans b3;apply#[_,Z,aM (λc=>?_) (λc=>?_)]
  ·apply#[_,Z,zl,λt wF=>?_];let s4:=aa.new (o:=.tup [.str "rests",.int (i:Int)]) wF;exact k _ _ (g5.trans (BT.of s4)) #[eO.a.same s4,eO.b.same s4,tb.ne] #[i,by omega,pa,.inr (.inl #[ez,c,by omega,t,Z,au])]
  have c:fE r hs ts qs (runM r hs ts qs f i)=false:=⇑c
  have Vq:H3 dp\.dK (bZ (qs.map (·.1)) (runM r hs ts qs f i)):=(b3.nt eP).dK (s2 _ _ ed);apply#[_,Z,_,Z,_,Z,_,Z,g,p,dp,(i:Int),hs,ts,qs,fp,_,r,bQ,Z,by omega,PD g5 eO nd Vq,λdq H4 b4 eN n4 e4=>?_];lk;let qG:=g5.trans b4
  have nq:H dq=none:=by
   cases z:H dq with
   |none=>rfl
   |some o=>
    by_cases y1:dq=T1
    ·let#[tv,hT]:=fu eO.a;rw[y1,hT] at n4;cases n4
    by_cases y2:dq=T2
    ·let#[tv,hT]:=fu eO.b;rw[y2,hT] at n4;cases n4
    rw[g5 _ _ z y1 y2] at n4;cases n4
  have e4:H4 dq\.dK (bZ (qs.map (·.1)) (runM r hs ts qs f (i+1))):=e4;let xo:=(b4.nt eO).dK Vq;let CU:=(qG.nt D.tb).lst hl
  have next:EV r hs ts qs f ss i->∀j:Nat,j<i+1->EV r hs ts qs f ss j:=λpi j hj=>by
   by_cases c:j<i
   ·exact pa j c
   obtain rfl:j=i:=by omega
   exact pi
  apply#[_,Z,_,Z,dq,dp,_,_,_,Z,Z,e4,xo,?_];apply#[_,Z,aM (λch=>?_) (λch=>?_)]
  ·apply#[_,Z,_,Z,_,_,Z,Z,l,_,_,.int y,Z,Z,.inl (.inl CU),L2.fP (j:=i+1) (by rw[dS,ey];rfl),?_];apply#[_,Z,_,Z,l,_,_,.int _,Z,Z,.inl (.inl CU),at_ ez,?_];apply#[_,_,Z,Z,_,Z,aM (λc2=>?_) (λc2=>?_)]
   ·have c2:qh hs qs (runM r hs ts qs f i)<=y:=⇑c2
    apply#[_,Z,zl,λt wF=>?_];let s5:=aa.new (o:=.tup [.str "rise",.int (i:Int)]) wF;exact k _ _ (qG.trans (BT.of s5)) #[eN.a.same s5,eN.b.same s5,tb.ne] #[i,by omega,pa,.inr (.inr (.inl #[ez,c,by omega,ch,#[_,y,ez,ey,c2],t,Z,au]))]
   have c2:¬qh hs qs (runM r hs ts qs f i)<=y:=⇑c2
   apply#[_,Z,setG #[_,_,dq,Z,qG,eN,.inr nq,e4,next #[ez,c,λ⟨_,x',y',e1,e2,le⟩=>c2 ?_]]];rw[ez] at e1;rw[ey] at e2;cases e1;cases e2;exact le
  apply aQ #[_,Z,setG #[_,_,dq,Z,qG,eN,.inr nq,e4,next #[ez,c,λ⟨h1,_⟩=>ch h1]]]
 rintro σ H' ⟨v6,v7,dp,rfl,b,tb,nd,ed,pa⟩;let nt:=b.nt D.tb;let Dn:=PD b tb nd ed;obtain⟨z,ez⟩:∃z,ss[n]? = some z:=#[_,cw Z1];apply#[_,Z,_,Z,l,_,_,.int z,Z,Z,.inl (.inl (nt.lst hl)),at_ ez,?_];apply#[_,Z,_,Z,g,p,dp,hs,ts,qs,fp,_,Z,Dn.Pl,D.W.wq,λH2 s2=>?_];let b2:=b.trans (BT.of s2);have eP:Tb H2 T1 T2:=#[tb.a.same s2,tb.b.same s2,tb.ne];apply#[Z,_,Z,aM (λc=>?_) (λc=>?_)]
 ·have c:¬z=qh hs qs (runM r hs ts qs f n):=⇑c
  apply#[_,Z,zl,λt wF=>?_];let s3:=aa.new (o:=.tup [.str "sum",.int (n:Int)]) wF;exact k _ _ (b2.trans (BT.of s3)) #[eP.a.same s3,eP.b.same s3,tb.ne] #[n,by omega,pa,.inl #[t,λq=>c (dY (ez.symm.trans q)),Z,au]]
 have c:z=qh hs qs (runM r hs ts qs f n):=⇑c
 subst c;apply#[_,Z,_,Z,_,Z,g,p,dp,hs,ts,qs,fp,_,r,bQ,Z,PD b2 eP nd (s2 _ _ ed),λH3 b3 eO=>?_];let g5:=b2.trans b3;apply#[_,Z,aM (λc=>?_) (λc=>?_)]
 ·exact k _ _ g5 eO #[n,by omega,pa,.inr (.inr (.inr #[by omega,ez,.inl #[c,Z]]))]
 have c:fE r hs ts qs (runM r hs ts qs f n)=false:=⇑c
 apply#[_,Z,zl,λt wF=>?_];let s4:=aa.new (o:=.tup [.str "goes",.int (n:Int)]) wF;exact k _ _ (g5.trans (BT.of s4)) #[eO.a.same s4,eO.b.same s4,tb.ne] #[n,by omega,pa,.inr (.inr (.inr #[by omega,ez,.inr #[c,t,Z,au]]))]
end
end Ev
namespace Ev
open PySem L2
def sF(r:Rl)(hs:Xa)(ts:Xb)(qs:aL)(f:ao)(i j:Nat):Bool:=(qs.map (·.1)).all λn=>decide (runM r hs ts qs f i n=runM r hs ts qs f j n)
def Df(r:Rl)(hs:Xa)(ts:Xb)(qs:aL)(f:ao)(t lg:Nat)(v:V)(H:Hp):Prop:=
 (∃k:Nat,k<=t+lg/\(∀j:Nat,j<k->fE r hs ts qs (runM r hs ts qs f j)=false)/\fE r hs ts qs (runM r hs ts qs f k)=true/\∃a,v=.ref a/\H a\.tup [.str "rests",.int k]) ∨
 ((∀j:Nat,j<=t+lg->fE r hs ts qs (runM r hs ts qs f j)=false)/\((sF r hs ts qs f t (t+lg)=true/\lg % gc r ts=0/\v=.non)∨(¬(sF r hs ts qs f t (t+lg)=true/\lg % gc r ts=0)/\∃a,v=.ref a/\H a\.tup [.str "unlike"])))
theorem P_(r:Rl)(ts:Xb):0<gc r ts:=by
 unfold gc;split<;>omega
section
variable{P:Ad}{w:Af}{K:af}{mg:Str->Option Aa}{base:Heap}{CS CG CW T1 T2:Addr}
abbrev fgN:ae:=["goods","placed","rule","t","long","stands","k"]
theorem Oy:br fgN uU (a9 ml):=bF
inductive Oc (K:af) (CG CW T1 T2:Addr) (vs:ag) (H:Hp) (Q:VK) (E:XK):Prop
 |mk:∀(g p d:Addr) (t lg:Nat) (hs:Xa) (ts:Xb) (qs:aL) (fp:ai) (f:ao),∀r∈rl,vs=[.ref g,.ref d,.str r.1,.int t,.int lg]->t+lg<=3000->zU K CG CW T1 T2 H g p d hs ts qs fp f->(∀v H',BT T1 T2 H H'->Tb H' T1 T2->Df r hs ts qs f t lg v H'->Q v H')->Oc K CG CW T1 T2 vs H Q E
theorem ij_{f0:Addr}{fd:Ae}(F:bg K "fault_of_ring" "fault_of_ring" ml f0 fd)(B:Bi mg)(TG:dA K CG)(B0:!bc 4 "rows_by" ["web","rule"] (Hg K CW))(qx:!bc 9 "rests_at" Dc (DA K CG CW T1 T2))(Hy:!bc 9 "placed_after" ki (GU K CG CW T1 T2)):!ak ba 10 f0 fd uU (Oc K CG CW T1 T2):=by
 apply F.ok Oy (λvs H Q E h=>?_) (λaO A outer s H vs Q E hr h=>?_)
 ·let#[g,p,d,t,lg,hs,ts,qs,fp,f,r,bQ,rfl,_]:=h;rfl
 let#[g,p,d,t,lg,hs,ts,qs,fp,f,r,bQ,rfl,l3,D,k]:=h;let sz:=b_;refine' ⟨_,ax ?s1 ?r1,?kk⟩
 case s1=>exact bh 5 Oy.nd (dE %[1|0])
 case' r1=>refine' ax ?s2 (ax ?s3 (aC (aY zy)))
 case' s2=>refine' fC eS Z (B9 (by rfl) B.range %[bu fH (bu fH (pv 3) (pv 4)) az|0]) (cq 6 Oy.nd) (ax ?b1 (aC ?b2))
 case b1=>exact bw (dF (aP qx hr %[0,bA fA (pv 5) (pv 6),2|0])) (aC (aY (dR %[ck,6|0]))) bx
 case b2=>exact j_ (kW mX xA xI vJ (pv 5) %[aP Hy hr %[0,bA fA (pv 5) (pv 6),2,6|0]|0])
 case s3=>exact bw (PW.pt (uA (cn (OS (Nat.lt_of_succ_lt (j6 hr 0))) (bA fA (pv 5) (pv 3)) (bA fA (pv 5) (bu fH (pv 3) (pv 4)))) (uL (cn qB (bu pY (pv 4) (aP B0 hr %[dz (pv 0) Z,2|0])) az)))) (aC (aY (iH (JS (K:=K)) (by rfl) B.tuple vE %[dE %[ck|0]|0]))) bx
 have AY:∀{a:Addr},H a=none->a∉fp:=λna m=>by
  let#[o,e]:=D.has _ m;rw[e] at na;cases na
 have PD:∀{G:Hp} {dp:Addr} {i:Nat},BT T1 T2 H G->Tb G T1 T2->(dp=d∨H dp=none)->G dp\.dK (bZ (qs.map (·.1)) (runM r hs ts qs f i))->zU K CG CW T1 T2 G g p dp hs ts qs fp (runM r hs ts qs f i):=λ{G dp i} bt tb nd e=>#[#[D.Pl.G.nt (bt.nt D.tb),D.W.Gd,nd.elim (λz=>z▸D.Pl.jc) AY,e,(D.W.run r i).at_,D.W.nd,D.W.bR],D.W.run r i,tb,λb hb=>by
  let#[o,e]:=D.has b hb;let#[u1,g1]:=fu tb.a;let#[u2,g2]:=fu tb.b;by_cases y1:b=T1
  ·exact#[_,y1▸g1]
  by_cases y2:b=T2
  ·exact#[_,y2▸g2]
  exact#[o,bt _ _ e y1 y2]]
 apply#[_,Z,zl,λls AW=>?_];let#[s1,e1]:=bp (o:=.lst [.ref d]) AW;have qe:Tb (upd H ls (.lst [.ref d])) T1 T2:=#[D.tb.a.same s1,D.tb.b.same s1,D.tb.ne];generalize upd H ls (.lst [.ref d])=H1 at s1 e1 qe ⊢;lk;apply gQ (λσ H'=>∃(v6:aN) (ds:ai),σ=[some (.ref g),some (.ref d),some (.str r.1),some (.int t),some (.int lg),some (.ref ls),v6]/\BT T1 T2 H H'/\Tb H' T1 T2/\H' ls\.lst (ds.map V.ref)/\ds.length=t+lg+2/\(∀(j:Nat) (a:Addr),ds[j]? = some a->(a=d∨H a=none)/\H' a\.dK (bZ (qs.map (·.1)) (runM r hs ts qs f j)))/\∀j:Nat,j<t+lg+1->fE r hs ts qs (runM r hs ts qs f j)=false) ?later (λN hN=>?loop)
 case loop=>
  apply#[_,Z,_,Z,_,_,Z,Z,_,_,Z,Z,((t+lg+1:Nat):Int),Z,by omega,by omega,?_];apply B_ (λi σ H'=>∃(v6:aN) (ds:ai),σ=[some (.ref g),some (.ref d),some (.str r.1),some (.int t),some (.int lg),some (.ref ls),v6]/\BT T1 T2 H H'/\Tb H' T1 T2/\H' ls\.lst (ds.map V.ref)/\ds.length=i+1/\(∀(j:Nat) (a:Addr),ds[j]? = some a->(a=d∨H a=none)/\H' a\.dK (bZ (qs.map (·.1)) (runM r hs ts qs f j)))/\∀j:Nat,j<i->fE r hs ts qs (runM r hs ts qs f j)=false) #[none,[d],Z,BT.of s1,qe,e1,Z,λj a e=>?_,by omega] ?_ (λσ H' h=>hN _ _ (by rw[qH] at h;exact h))
  ·match j,e with
   |0,e=>cases e;exact#[.inl Z,s1 _ _ D.Pl.hd]
  rintro i σ H2 hi ⟨v6,ds,rfl,b2,eP,el,ld,da,no⟩;rw[qH] at hi;lk;rw[Int.zero_add];obtain⟨dp,uv⟩:∃dp,ds[i]? = some dp:=#[_,cw Z1];let#[nd,ed]:=da i dp uv;have at_:eZ (ds.map V.ref) (i:Int)\.ref dp:=L2.fP (by rw[dS,uv];rfl);apply#[_,Z,_,Z,_,Z,ls,_,_,.ref dp,Z,Z,.inl (.inl el),at_,_,Z,g,p,dp,hs,ts,qs,fp,_,r,bQ,Z,PD b2 eP nd ed,λH3 b3 eO=>?_];let g5:=b2.trans b3;let Om:=(b3.nt eP).lst el;have O_:∀(j:Nat) (a:Addr),ds[j]? = some a->(a=d∨H a=none)/\H3 a\.dK (bZ (qs.map (·.1)) (runM r hs ts qs f j)):=λj a e=>#[(da j a e).1,(b3.nt eP).dK (da j a e).2];apply#[_,Z,aM (λc=>?_) (λc=>?_)]
  ·apply#[_,Z,zl,λa na=>?_];let s4:=aa.new (o:=.tup [.str "rests",.int (i:Int)]) na;exact k _ _ (g5.trans (BT.of s4)) #[eO.a.same s4,eO.b.same s4,eO.ne] (.inl #[i,by omega,no,c,a,Z,au])
  have c:fE r hs ts qs (runM r hs ts qs f i)=false:=⇑c
  apply#[_,Z,.inl #[Z,#[_,.of Om]],?_];apply#[_,Z,_,Z,_,Z,ls,_,_,.ref dp,Z,Z,.inl (.inl Om),at_,_,Z,_,Z,g,p,dp,(i:Int),hs,ts,qs,fp,_,r,bQ,Z,by omega,PD g5 eO nd (O_ i dp uv).2,λdq H4 b4 eN n4 e4=>?_];let qG:=g5.trans b4
  have nq:H dq=none:=by
   cases z:H dq with
   |none=>rfl
   |some o=>
    by_cases y1:dq=T1
    ·let#[tv,hT]:=fu eO.a;rw[y1,hT] at n4;cases n4
    by_cases y2:dq=T2
    ·let#[tv,hT]:=fu eO.b;rw[y2,hT] at n4;cases n4
    rw[g5 _ _ z y1 y2] at n4;cases n4
  have e4:H4 dq\.dK (bZ (qs.map (·.1)) (runM r hs ts qs f (i+1))):=e4;let BG:=(b4.nt eO).lst Om;apply#[ls,_,_,Z,Z,BG,by rw[aA];omega,?_];have b5:aR ls H4 (upd H4 ls (.lst (ds.map V.ref++[.ref dq]))):=aR.upd
  have e5:upd H4 ls (.lst (ds.map V.ref++[.ref dq])) ls\.lst ((ds++[dq]).map V.ref):=by
   rw[au,dC];rfl
  generalize upd H4 ls (.lst (ds.map V.ref++[.ref dq]))=H5 at b5 e5 ⊢;have kT:∀{T qn},cE H4 T qn->cE H5 T qn:=λ⟨es,a1,a2⟩=>#[es,b5 _ _ a1 (λz=>by rw[z,BG] at a1;cases a1),λx hx=>b5 _ _ (a2 x hx) (λz=>by have:=a2 x hx;rw[z,BG] at this;cases this)];have kd:∀a kvs,H4 a\.dK kvs->H5 a\.dK kvs:=λa kvs e=>b5 _ _ e (cb e BG nofun);apply#[_,ds++[dq],Z,λb o e y1 y2=>b5 _ _ (qG b o e y1 y2) (bE e AW),#[kT eN.a,kT eN.b,eN.ne],e5,by rw[fB,ld];rfl,λj a e=>?_,λj hj=>?_]
  ·by_cases z:j<ds.length
   ·rw[zS z] at e;exact#[(O_ j a e).1,kd _ _ ((b4.nt eO).dK (O_ j a e).2)]
   rw[xT Z1] at e
   have ej:j=i+1:=by
    have:=(cU.mp e).1;simp only[zQ] at this;omega
   subst ej;rw[ld,Nat.sub_self] at e;cases e;exact#[.inr nq,kd _ _ e4]
  by_cases z:j<i
  ·exact no j z
  obtain rfl:j=i:=by omega
  exact c
 rintro σ H2 ⟨v6,ds,rfl,b2,eP,el,ld,da,no⟩;obtain⟨dt,GO⟩:∃dp,ds[t]? = some dp:=#[_,cw Z1];obtain⟨du,Vp⟩:∃dp,ds[t+lg]? = some dp:=#[_,cw Z1];let e1':=(da _ _ GO).2;let JX:=(da _ _ Vp).2;apply#[_,Z,_,Z,ls,_,_,.ref dt,Z,Z,.inl (.inl el),L2.fP (j:=t) (by rw[dS,GO];rfl),?_];apply#[_,Z,_,Z,_,Z,_,_,Z,Z,ls,_,_,.ref du,Z,Z,.inl (.inl el),L2.fP (j:=t+lg) (by rw[dS,Vp];rfl),?_];apply#[dt,du,_,_,_,Z,Z,e1',JX,?_];have Sa:∀j:Nat,j<=t+lg->fE r hs ts qs (runM r hs ts qs f j)=false:=λj hj=>no j Z1
 have Rh:∀H3,BT T1 T2 H H3->Tb H3 T1 T2->¬(sF r hs ts qs f t (t+lg)=true/\lg % gc r ts=0)->∀l2,H3 l2=none->∀H4,H4=upd H3 l2 (.lst [.str "unlike"])->∀a,H4 a=none->Q (.ref a) (upd H4 a (.tup [.str "unlike"])):=λH3 b3 eO un l2 n2 H4 e4 a na=>by
  subst e4;let s1:=aa.new (o:=.lst [.str "unlike"]) n2;let s2:=aa.new (o:=.tup [.str "unlike"]) na;let jq:=s1.trans s2;exact k _ _ (b3.trans (BT.of jq)) #[eO.a.same jq,eO.b.same jq,eO.ne] (.inr #[Sa,.inr #[un,a,Z,au]])
 apply#[_,Z,aM (λc=>?_) (λc=>?_)]
 ·have c:¬sF r hs ts qs f t (t+lg)=true:=by
   unfold sF;simpa using c
  apply bO #[zl,λl2 n2=>?_];exact#[l2,_,Z,.inl #[.inl (.of au),λa na=>Rh _ b2 eP (λz=>c z.1) l2 n2 _ Z a na]]
 have c:sF r hs ts qs f t (t+lg)=true:=by
  unfold sF;simpa using c
 let G2:=D.Pl.G.nt (b2.nt D.tb);let#[gA,dw,dy,vs,bM,g1,g2,_]:=id G2.ex;let rp:=P_ r ts;apply#[_,Z,_,Z,g,CG,gA,_,_,Z,g1,TG.cl,TG.nW,jB _ _ _,_,Z,p,hs,ts,bM,r,bQ,Z,g2,D.W.Gd.qf,λH3 s3=>?_];let b3:=b2.trans (BT.of s3);have eO:Tb H3 T1 T2:=#[eP.a.same s3,eP.b.same s3,eP.ne];apply#[_,_,Z,Z,by omega,Z,_,Z,aM (λc2=>?_) (λc2=>?_)]
 ·have c2:¬lg % gc r ts=0:=by
   have:¬(lg:Int) % ((gc r ts:Nat):Int)=0:=⇑c2
   omega
  apply#[zl,λl2 n2=>?_];exact#[l2,_,Z,.inl #[.inl (.of au),λa na=>Rh _ b3 eO (λz=>c2 z.2) l2 n2 _ Z a na]]
 have c2:lg % gc r ts=0:=by
  have:(lg:Int) % ((gc r ts:Nat):Int)=0:=⇑c2
  omega
 exact k _ _ b3 eO (.inr #[Sa,.inl #[c,c2,Z]])
end
end Ev
namespace Ev
open PySem L2
theorem qc.nt{K:af}{H H':Hp}{v:V}{x:Str}{n:Nat}{c:Bool}(h:qc K H v x n c)(s:NT H H'):qc K H' v x n c:=by
 rcases h with⟨e,h⟩|⟨a,xs,e,ha,h⟩
 ·exact .inl #[e,h.nt s]
 apply .inr #[a,xs,e,s.tup ha,h.imp id λ⟨en,y,r,ex,h⟩=>#[en,y,r,ex,h.imp id λ⟨e,h⟩=>#[e,h.nt s]]]
theorem BM.nt{K:af}{H H':Hp}{v:V}{c:Bool}(h:BM K H v c)(s:NT H H'):BM K H' v c:=by
 rcases h with⟨e,h⟩|⟨a,y,e,ha,h⟩
 ·exact .inl #[e,h.nt s]
 apply .inr #[a,y,e,s.tup ha,?_];rcases h with⟨e,h⟩|⟨l,ys,bs,e,hl,pb,l1,ec⟩
 ·exact .inl #[e,h.nt s]
 exact .inr #[l,ys,bs,e,s.lst hl,Paired.bN pb λ_ _ h=>h.nt s,l1,ec]
theorem Ck.nt{K:af}{H H':Hp}{y:V}{a:Int}{c:Bool}(h:Ck K H y a c)(s:NT H H'):Ck K H' y a c:=h.imp id λ⟨e,h⟩=>#[e,h.imp id λh=>h.nt s]
theorem kn.nt{K:af}{H H':Hp}{v:V}{c:Bool}(h:kn K H v c)(s:NT H H'):kn K H' v c:=by
 rcases h with⟨e,h⟩|⟨a,y,z,e,ha,h⟩
 ·exact .inl #[e,h.nt s]
 exact .inr #[a,y,z,e,s.tup ha,h.imp (λ⟨e,h⟩=>#[e,h.nt s]) λh=>h.imp (λ⟨a,e,h⟩=>#[a.nt s,e,h.nt s]) id]
theorem Uo{K:af}{H:Hp}:∀ss:List Int,Paired (DS K H) (ss.map V.int) (ss.map λ_=>true)
 |[]=>.nil
 |s::ss=>.cons (.inl #[Z,s,Z]) (Uo ss)
theorem ks_{K:af}{H:Hp}{a l:Addr}{ss:List Int}(ha:H a\.tup [.str "rest",.ref l])(hl:H l\.lst (ss.map V.int))(l0:0<ss.length)(l3:ss.length<=3001):BM K H (.ref a) true:=by
 apply .inr #[a,_,Z,ha,.inr #[l,_,_,Z,hl,Uo ss,by rw[aA];omega,?_]];rw[aA,bP (show 1<=ss.length by omega),bP l3]
 have:(ss.map λ_=>true).all id=true:=List.all_eq_true.mpr λb hb=>by
  let#[_,_,rfl]:=bJ.mp hb;rfl
 rw[this];rfl
section
variable{P:Ad}{w:Af}{K:af}{mg:Str->Option Aa}{base:Heap}{CS CG CW T1 T2:Addr}
theorem Vv:br ["goods","stand","rule","paper","placed"] pd (a9 OM):=bF
inductive KD (K:af) (CG CW T1 T2:Addr) (vs:ag) (H:Hp) (Q:VK) (E:XK):Prop
 |mk:∀(g p d:Addr) (v:V) (hs:Xa) (ts:Xb) (qs:aL) (fp:ai) (ns:ae) (f:ao),∀r∈rl,vs=[.ref g,.ref d,.str r.1,v]->nE K CG CW H g p d hs ts qs fp ns f->Wd hs ts qs f->Tb H T1 T2->((BM K H v false/\kn K H v false/\∀t H',BT T1 T2 H H'->Tb H' T1 T2->H' t\.tup [.str "form"]->Q (.ref t) H')∨(∃(a l:Addr) (ss:List Int),v=.ref a/\H a\.tup [.str "rest",.ref l]/\H l\.lst (ss.map V.int)/\0<ss.length/\ss.length<=3001/\∀v H',BT T1 T2 H H'->Tb H' T1 T2->UG r hs ts qs f ss v H'->Q v H')∨∃(a:Addr) (t lg:Nat),v=.ref a/\H a\.tup [.str "ring",.int t,.int lg]/\1<=lg/\t+lg<=3000/\∀v H',BT T1 T2 H H'->Tb H' T1 T2->Df r hs ts qs f t lg v H'->Q v H')->KD K CG CW T1 T2 vs H Q E
theorem ho_{f0:Addr}{fd:Ae}(F:bg K "paper_fault" "paper_fault" OM f0 fd)(B:Bi mg)(BY:!bc 3 BF qy (Ho K CG CW))(cR:!bc 2 "is_of_a_rest" ["paper"] (VB K))(cG:!bc 3 "is_of_a_ring" ["paper"] (Vz K))(Qz:!bc 10 "fault_of_rest" uS (OV K CG CW T1 T2))(QA:!bc 10 "fault_of_ring" uU (Oc K CG CW T1 T2)):!ak ba 11 f0 fd pd (KD K CG CW T1 T2):=by
 apply F.ok Vv (λvs H Q E h=>?_) (λaO A outer s H vs Q E hr h=>?_)
 ·let#[g,p,d,v,hs,ts,qs,fp,ns,f,r,bQ,rfl,_]:=h;rfl
 let#[g,p,d,v,hs,ts,qs,fp,ns,f,r,bQ,rfl,S,W,tb,h]:=h;refine' ⟨_,ax ?s1 (ax ?s2 (ax ?s3 (aC ?s4))),?kk⟩
 case s1=>exact bh 4 Vv.nd (aP BY hr %[0,1,2|0])
 case s2=>exact bw (dF (aP cR hr %[3|0])) (aC (aY (aP Qz hr %[0,4,2,bA c_ (pv 3) az|0]))) bx
 case s3=>exact bw (dF (aP cG hr %[3|0])) (aC (aY (aP QA hr %[0,4,2,bA c_ (pv 3) az,bA c_ (pv 3) az|0]))) bx
 case s4=>exact aY (iH (JS (K:=K)) (by rfl) B.tuple vE %[dE %[ck|0]|0])
 have AY:∀{a:Addr},H a=none->a∉fp:=λna m=>by
  let#[o,e,_]:=S.has _ m;rw[e] at na;cases na
 apply#[_,Z,_,Z,_,Z,_,_,r,bQ,Z,g,p,d,hs,ts,qs,fp,ns,f,Z,S.G,S.jc,S.hd,S.so,W.nd,W.bR,λdp H1 s1 n1 e1=>?_];lk;have qe:Tb H1 T1 T2:=#[tb.a.same s1,tb.b.same s1,tb.ne];have PD:∀{G:Hp},aa H1 G->zU K CG CW T1 T2 G g p dp hs ts qs fp f:=λ{G} s=>#[#[S.G.same (s1.trans s),W.Gd,AY n1,s _ _ e1,W.at_,W.nd,W.bR],W,#[qe.a.same s,qe.b.same s,tb.ne],λb hb=>let #[o,e,_]:=S.has b hb;#[o,s _ _ (s1 _ _ e)]];rcases h with⟨_a,Z6,k⟩|⟨a,l,ss,rfl,ha,hl,l0,l3,k⟩|⟨a,t,lg,rfl,ha,g0,g3,k⟩
 ·apply#[_,Z,v,false,Z,_a.nt (NT.of s1),λH2 s2=>#[_,Z,aQ ?_]];apply#[_,Z,v,false,Z,Z6.nt (NT.of (s1.trans s2)),_,Z,aQ ?_];apply#[zl,λl2 n2=>?_];let s3:=aa.new (o:=.lst [.str "form"]) n2;apply#[l2,_,Z,.inl #[.inl (.of au),λt nt=>?_]];let s4:=((s1.trans s2).trans s3).trans (aa.new (o:=.tup [.str "form"]) nt);exact k _ _ (BT.of s4) #[tb.a.same s4,tb.b.same s4,tb.ne] au
 ·apply#[_,Z,.ref a,true,Z,(ks_ ha hl l0 l3).nt (NT.of s1),λH2 s2=>#[_,Z,bO ?_]];let jq:=s1.trans s2;apply#[_,Z,_,Z,_,Z,_,Z,a,_,1,.ref l,Z,Z,.of (jq _ _ ha),L2.fP (j:=1) Z,?_];exact#[g,p,dp,l,ss,hs,ts,qs,fp,f,r,bQ,Z,jq _ _ hl,l0,l3,PD s2,λv H' b t u=>k v H' ((BT.of jq).trans b) t u]
 apply#[_,Z,.ref a,false,Z,(show BM K H1 (.ref a) false from .inl #[Z,.inr #[a,_,Z,s1 _ _ ha,.inl #[Z,by simp]]]),λH2 s2=>#[_,Z,aQ ?_]];let jq:=s1.trans s2;let iP:=jq _ _ ha;apply#[_,Z,.ref a,true,Z,.inr #[a,_,_,Z,iP,.inr (.inr #[t,lg,Z,Z,by omega,by omega,(bP Z1).symm])],_,Z,bO ?_];apply#[_,Z,_,Z,_,Z,_,Z,a,_,1,.int t,Z,Z,.of iP,L2.fP (j:=1) Z,_,Z,a,_,2,.int lg,Z,Z,.of iP,L2.fP (j:=2) Z,?_];exact#[g,p,dp,t,lg,hs,ts,qs,fp,f,r,bQ,Z,g3,PD s2,λv H' b t u=>k v H' ((BT.of jq).trans b) t u]
end
end Ev
namespace Ev
open PySem L2
theorem fF.xl{K:af}{C:Addr}{H:Hp}{p:Addr}{hs:Xa}{ts:Xb}{fp:ai}(W:fF K C H p hs ts fp){b:Addr}(hb:b∈fp):∃o,H b\o/\∀vs,o≠.tbl vs:=by
 let#[dx,d1,l2,d3,zs,as,rfl,h1,h2,h3,h4,h5,h6,h7]:=W.ex;simp only[cQ] at hb;rcases hb with rfl|rfl|rfl|rfl|hb
 ·exact#[_,h1,by intro vs z;cases z]
 ·exact#[_,h2,by intro vs z;cases z]
 ·exact#[_,h3,by intro vs z;cases z]
 ·exact#[_,h5,by intro vs z;cases z]
 let#[i,hi,e]:=lj hb;exact#[_,h7 i ((aF hs)[i]' Z1) b (cw Z1) (by rw[<- e];exact cw hi),by intro vs z;cases z]
theorem gK.xl{K:af}{CG CW:Addr}{H:Hp}{g p:Addr}{hs:Xa}{ts:Xb}{qs:aL}{fp:ai}(G:gK K CG CW H g p hs ts qs fp):∃uq,gK K CG CW H g p hs ts qs uq/\(∀b∈uq,b∈fp)/\∀b∈uq,∃o,H b\o/\∀vs,o≠.tbl vs:=by
 let#[dx,dw,dy,vs,bM,h1,h2,h3,h4,h5,m1,m2,m3,m4,m5]:=G.ex;apply#[g::dw::dy::(bM++vs.filterMap λv=>match v with | .ref a=>some a|_=>none),#[dx,dw,dy,vs,bM,h1,h2,h3,h4,h5,by simp,by simp,by simp,λb hb=>by simp[hb],λv hv a z=>?_],λb hb=>?_,λb hb=>?_]
 ·have:a∈vs.filterMap λv=>match v with | .ref a=>some a|_=>none:=xS.mpr #[v,hv,by rw[z]];simp only[cQ,gD];exact .inr (.inr (.inr (.inr this)))
 ·simp only[cQ,gD] at hb;rcases hb with rfl|rfl|rfl|hb|hb
  ·exact m1
  ·exact m2
  ·exact m3
  ·exact m4 b hb
  let#[v,hv,e]:=xS.mp hb;cases v with
  |ref a=>cases e;exact m5 _ hv _ Z
  |_=>cases e
 simp only[cQ,gD] at hb;rcases hb with rfl|rfl|rfl|hb|hb
 ·exact#[_,h1,by intro vs z;cases z]
 ·exact#[_,h3,by intro vs z;cases z]
 ·exact#[_,h4,by intro vs z;cases z]
 ·exact h2.xl hb
 let#[v,hv,e]:=xS.mp hb;let#[i,hi,ev]:=lj hv;let le:=bK h5;let w:=ie h5 i hi Z1;rw[ev] at w;cases o:(qs[i]' Z1).2.2 with
 |none=>
  rw[o] at w;rw[show v=.non from w] at e;cases e
 |some ws=>
  rw[o] at w;let#[a,ys,ea,ha,_]:=w;rw[ea] at e;cases e;exact#[_,ha,by intro vs z;cases z]
section
variable{K:af}{CG CW:Addr}
theorem SV{H:Hp}{R:Addr->Hp->Prop}{E:XK}{lh lt:Addr}{yh yt:ag}{hs:Xa}{ts:Xb}(G:Good hs ts)(h1:H lh\.lst yh)(h2:bG K H yh (hs.map kH))(h3:H lt\.lst yt)(h4:bG K H yt (ts.map kT))
  (k:∀p fp H',aa H H'->fF K CW H' p hs ts fp->(∀b∈fp,H b=none)->R p H'):∀x dx,H x=none->H dx=none->dx≠x->GW K CW (.ref x::([.ref lh,.ref lt]++[])) (upd (upd H dx (.own x)) x (.ins CW dx [])) (λv H2=>v=.non/\R x H2) E:=by
 intro p dx hp w_ ne;have s4:aa H (upd (upd H dx (.own p)) p (.ins CW dx [])):=(aa.new w_).trans (aa.new (by rw[aD ne.symm];exact hp));apply#[p,dx,lh,lt,yh,yt,hs,ts,Z,au,s4 _ _ h1,h2.same s4,s4 _ _ h3,h4.same s4,G,λbM H5 kp W fr=>#[Z,?_]];apply k p bM H5 (λb o e=>kp b o (s4 _ _ e) (bE e hp)) W λb hb=>?_;rcases fr b hb with rfl|z
 ·exact hp
 exact s4.free z
theorem UZ{H:Hp}{R:Addr->Hp->Prop}{E:XK}{p lp:Addr}{yp:ag}{hs:Xa}{ts:Xb}{ps:aL}{bM:ai}(W:fF K CW H p hs ts bM)(G:Good hs ts)(h1:H lp\.lst yp)(h2:uD K H yp ps)(gp:∀q∈ps,BA ts q)(nd:(ps.map (·.1)).Nodup)(len:ps.length<64)
  (k:∀g qs fp H',aa H H'->gK K CG CW H' g p hs ts qs fp->Qs ps qs->(∀b∈fp,b∈bM∨H b=none)->R g H'):∀x dx,H x=none->H dx=none->dx≠x->HW K CG CW (.ref x::([.ref p,.ref lp]++[])) (upd (upd H dx (.own x)) x (.ins CG dx [])) (λv H2=>v=.non/\R x H2) E:=by
 intro g dx hg w_ ne;have s4:aa H (upd (upd H dx (.own g)) g (.ins CG dx [])):=(aa.new w_).trans (aa.new (by rw[aD ne.symm];exact hg))
 have gw:g∉bM:=λm=>by
  let#[o,e]:=W.has m;rw[hg] at e;cases e
 apply#[g,dx,p,lp,yp,ps,hs,ts,bM,Z,au,W.same s4,gw,G,s4 _ _ h1,Paired.bN h2 λ_ _ q=>q.same s4,gp,nd,len,λqs fp H5 kp GA Qq fr=>#[Z,?_]];apply k g qs fp H5 (λb o e=>kp b o (s4 _ _ e) (bE e hg)) GA Qq λb hb=>?_;rcases fr b hb with rfl|z|z
 ·exact .inr hg
 ·exact .inl z
 exact .inr (s4.free z)
end
def jO:ae:=["least one high","least one fall","least one calm","least all high","least all fall","least all calm","below one high","below one fall","below one calm","below all high","below all fall","below all calm","shares one","shares all","turns high","turns fall","turns calm"]
theorem _W:∀x∈jO,∃r∈rl,r.1=x:=by decide +kernel
structure Wo (K:af) (CG CW:Addr) (H:Hp) (g p d:Addr) (hs:Xa) (ts:Xb) (qs:aL) (fp:ai) (ns:ae) (f:ao):Prop where
 S:nE K CG CW H g p d hs ts qs fp ns f
 W:Wd hs ts qs f
 R4:qs.length<=30
 w1:∀q∈qs,1<=q.2.1
section
variable{P:Ad}{w:Af}{K:af}{mg:Str->Option Aa}{base:Heap}{CG CW:Addr}
theorem JJ:br [eY,"_law_some"] [eY] (a9 sJ):=bF
def rE:Sp:=λvs H Q _=>∃l:Addr,vs=[.ref l]/\bW H l/\∀(r:Rl) (H':Hp),r∈rl->aR l H H'->bW H' l->Q (.str r.1) H'
theorem kQ_{f0:Addr}{fd:Ae}(F:bg K "_law_rule" "_law_rule" sJ f0 fd)(cD:!bc 1 qA uH vH):!ak ba 2 f0 fd [eY] rE:=by
 exists F.bI JJ;let#[l,rfl,st,k]:=h;refine' #[_,ax ?s1 (ax ?s2 (ax ?s3 (aC ?s4))),?kk]
 case s1=>exact bh 1 JJ.nd (dE %[ck,ck,ck,ck,ck,ck|0])
 case s2=>exact bh 1 JJ.nd (bu JG (pv 1) (dE %[ck,ck,ck,ck,ck|0]))
 case s3=>exact bh 1 JJ.nd (bu JG (pv 1) (dE %[ck,ck,ck,ck,ck,ck|0]))
 case s4=>exact aY (bA fA (pv 1) (aP cD hr %[0,az|0]))
 apply#[zl,λa na=>?_];let#[s1,e1]:=bp (o:=.lst ((jO.take 6).map V.str)) na;show iG _ _ _ (upd H a (.lst ((jO.take 6).map V.str))) _;generalize upd H a (.lst ((jO.take 6).map V.str))=H1 at s1 e1 ⊢;lk;apply#[_,Z,zl,λb nb=>?_];let#[s2,e2]:=bp (o:=.lst (((jO.drop 6).take 5).map V.str)) nb;show wx _ _ (upd H1 b (.lst (((jO.drop 6).take 5).map V.str))) _;generalize upd H1 b (.lst (((jO.drop 6).take 5).map V.str))=H2 at s2 e2 ⊢;apply#[a,b,_,_,Z,Z,s2 _ _ e1,e2,by decide +kernel,λc nc=>?_];let#[s3,e3]:=bp (o:=.lst ((jO.take 11).map V.str)) nc;show iG _ _ _ (upd H2 c (.lst ((jO.take 11).map V.str))) _;generalize upd H2 c (.lst ((jO.take 11).map V.str))=H3 at s3 e3 ⊢;lk;apply#[_,Z,zl,λb2 ZX=>?_];let#[s4,e4]:=bp (o:=.lst ((jO.drop 11).map V.str)) ZX;show wx _ _ (upd H3 b2 (.lst ((jO.drop 11).map V.str))) _;generalize upd H3 b2 (.lst ((jO.drop 11).map V.str))=H4 at s4 e4 ⊢;apply#[c,b2,_,_,Z,Z,s4 _ _ e3,e4,by decide +kernel,λe ne=>?_];let#[s5,e5]:=bp (o:=.lst (jO.map V.str)) ne;show iG _ _ _ (upd H4 e (.lst (jO.map V.str))) _;generalize upd H4 e (.lst (jO.map V.str))=H5 at s5 e5 ⊢;lk;let RX:=(((s1.trans s2).trans s3).trans s4).trans s5;have el:e≠l:=(((((st.same s1).same s2).same s3).same s4)).ne ne;apply#[_,Z,_,Z,l,17,Z,by decide,by decide,st.same RX,λq H6 q0 q1 b6 g_=>?_]
 let#[v,hv,r,ip,rfl]:=Gg (p:=λv:V=>∃r∈rl,v=.str r.1) (xs:=jO.map V.str) (r:=q) (n:=17) Z q0 q1 (λv hv=>by
  let#[x,hx,rfl]:=bJ.mp hv;let#[r,h1,h2]:=_W x hx;exact#[r,h1,by rw[h2]])
 exact#[e,_,_,_,Z,Z,.inl (.inl (b6 _ _ e5 el)),hv,k r H6 ip ((aR.of RX).trans b6) g_]
end
end Ev
namespace Ev
open PySem L2
theorem Wo.nt{K:af}{CG CW g p d:Addr}{H G:Hp}{hs:Xa}{ts:Xb}{qs:aL}{fp:ai}{ns:ae}{f:ao}(S:Wo K CG CW H g p d hs ts qs fp ns f)(s:NT H G):Wo K CG CW G g p d hs ts qs fp ns f:=#[S.S.nt s,S.W,S.R4,S.w1]
section
variable{P:Ad}{w:Af}{K:af}{mg:Str->Option Aa}{base:Heap}{CG CW:Addr}
abbrev XC:ae:=[eY,"_law_most_hands","_law_most_pieces","_law_hands","_law_ties","_law_pieces_here",ux]
theorem HQ:br XC uX (a9 lU):=bF
def nZ(K:af)(CG CW:Addr):Sp:=λvs H Q _=>∃(l:Addr) (m:Nat),vs=[.ref l,.int 4,.int m]/\m<=30/\bW H l/\∀(t g p d:Addr) (r:Rl) (hs:Xa) (ts:Xb) (qs:aL) (fp:ai) (ns:ae) (f:ao) (H':Hp),aR l H H'->bW H' l->r∈rl->H' t\.tup [.ref g,.ref d,.str r.1]->Wo K CG CW H' g p d hs ts qs fp ns f->d≠l->l∉fp->H d=none->Q (.ref t) H'
theorem iO_{f0:Addr}{fd:Ae}(F:bg K "_law_world" "_law_world" lU f0 fd)(cL:!bc 3 "_law_web" [eY,"_law_most"] (rJ K))(cP:!bc 3 "_law_pieces" uV (O2 K))(cS:!bc 2 "_law_stand" uW (PB K))(cR:!bc 2 "_law_rule" [eY] rE)(cW:!ig CW 5 "Web" o7 (GW K CW))(cG:!ig CG 7 "Goods" o5 (HW K CG CW)):!ak ba 9 f0 fd uX (nZ K CG CW):=by
 exists F.bI HQ;let#[l,m,rfl,Mg,st,k]:=h;let sz:=b_;refine' #[_,ax ?s1 (ax ?s2 (ax ?s3 (aC ?s4))),?kk]
 case s1=>exact xF (aP cL hr %[0,1|0]) (kJ Z (dD (cq 3 HQ.nd) (dD (cq 4 HQ.nd) iT)))
 case s2=>exact bh 5 HQ.nd (aP cP hr %[0,4,2|0])
 case s3=>exact bh 6 HQ.nd (aP cS hr %[0,5,3|0])
 case s4=>exact aY (dR %[BR cG hr %[BR cW hr %[3,4|0],5|0],6,aP cR hr %[0|0]|0])
 apply#[_,Z,_,Z,l,Z,st,λt0 lh lt yh yt hs ts H1 b1 fD yT Ja CD nll pT th dQ tt Gd _=>?_];apply#[t0,_,Z,.of yT,Z,_,_,Z,_,_,Z,Z,?_];have CI:lh≠l:=st.ne Ja;have qm:lt≠l:=st.ne CD;apply#[_,Z,_,Z,_,Z,l,lt,m,yt,ts,Z,Mg,fD,dQ,tt,qm,Gd.qf,Gd.tok,Gd.RK,λlp yp ps H2 b2 dG E_ CT pc gp nd pm _=>?_];lk;let#[Xp,gH]:=fD.some;let F8:=b2 _ _ pT CI;let Na:=b2 _ _ dQ qm;let RM:=jD th b2 gH;let Yz:=jD tt b2 gH;have Je:lp≠l:=fD.ne E_;let WN:=b1.trans b2;apply#[_,Z,_,Z,_,Z,l,lp,lh,yp,yh,ps,hs,Z,dG,CT,Je,pc,F8,CI,RM,?_,?_,by omega,nd,λd f H3 b3 gO Si ed fm=>?_]
 ·have:=Gd.h1;omega
 ·exact Gd.h8
 lk;let#[Xm,jW]:=dG.some;let Nh:=b3 _ _ F8 CI;let F3:=b3 _ _ Na qm;let Nd:=b3 _ _ CT Je;let YA:=jD RM b3 jW;let Yy:=jD Yz b3 jW;let g5:=WN.trans b3;have dl:d≠l:=dG.ne Si;have Zo:uD K H3 yp ps:=Paired.bN pc λ_ _ q=>q.but b3 dG;let#[Xl,uf]:=gO.some;let ZV:=WN.free dG Si;apply#[_,Z,_,Z,SV Gd Nh YA F3 Yy (λp bM H5 s5 W fw=>#[_,Z,UZ W Gd (s5 _ _ Nd) (Paired.bN Zo λ_ _ q=>q.same s5) gp nd Z1 (λg qs fp H6 s6 GA Qq fr=>?_)])];let wm:=s5.trans s6;let g_:=gO.same wm
 have lfp:l∉fp:=λm=>by
  rcases fr l m with z|z
  ·have:=fw l z;rw[uf] at this;cases this
  rw[s5 _ _ uf] at z;cases z
 have jc:d∉fp:=λm=>by
  rcases fr d m with z|z
  ·have:=fw d z;rw[ed] at this;cases this
  rw[s5 _ _ ed] at z;cases z
 apply#[_,Z,_,Z,l,Z,g_,λr H7 hr7 b7 jI=>?_];apply#[zl,λt nt=>?_];let#[s8,e8]:=bp (o:=.tup [.ref g,.ref d,.str r.1]) nt;generalize upd H7 t (.tup [.ref g,.ref d,.str r.1])=H8 at s8 e8 ⊢;let#[Xi,Jr]:=g_.some;let G7:=GA.keep (λc hc o e=>b7 _ _ e (λz=>lfp (z▸hc))) λc zs e=>b7 _ _ e (cb e Jr nofun);let#[uq,G8,sub,has]:=(G7.same s8).xl;let ed8:=s8 _ _ (b7 _ _ (wm _ _ ed) dl)
 have R6:(ps.map (·.1)).Perm (qs.map (·.1)):=by
  rw[Qq.E9];exact (zL _).symm
 let ql:=Qq.len;have KZ:aR l H H8:=((g5.trans (aR.of wm)).trans b7).trans (aR.of s8)
 have K6:∀q∈qs,1<=q.2.1/\q.2.1<=1000000000:=λq hq=>by
  let#[q',hq',rfl]:=Qq.mem q hq;exact#[(gp q' hq').w1,(gp q' hq').w2]
 exact k t g p d r hs ts qs uq (ps.map (·.1)) f H8 KZ (jI.same s8) hr7 e8 #[#[G8,λz=>jc (sub _ z),ed8,#[R6,fm],has],#[Gd,Qq.nd nd,by omega,λn hn=>fm n (R6.mem_iff.mpr hn),λq hq=>#[by have:=(K6 q hq).1;omega,(K6 q hq).2]],by omega,λq hq=>(K6 q hq).1] dl (λz=>lfp (sub _ z)) ZV
end
end Ev
namespace Ev
open PySem L2
theorem UL{α:Type}{xs:List α}(h:0<xs.length):eZ xs (-1)=xs[xs.length - 1]?:=by
 unfold eZ wM;rw[aB (by decide),aH Z1];show xs[((xs.length:Int) + -1).toNat]? = _;congr 1;omega
section
variable{P:Ad}{w:Af}{K:af}{mg:Str->Option Aa}{base:Heap}{CG CW T1 T2:Addr}
abbrev XJ:ae:=["_law_goods",ux,zx,"_law_many","_law_stands","_law_now","_law_piece","_law_one","_law_other"]
theorem DL:br XJ uY (a9 Og):=bF
inductive Py (K:af) (CG CW T1 T2:Addr) (vs:ag) (H:Hp) (Q:VK) (E:XK):Prop
 |mk:∀(g p d:Addr) (many:Nat) (hs:Xa) (ts:Xb) (qs:aL) (fp:ai) (ns:ae) (f:ao),∀r∈rl,vs=[.ref g,.ref d,.str r.1,.int many]->many<=3000->Wo K CG CW H g p d hs ts qs fp ns f->Tb H T1 T2->(∀(ls:Addr) (ds:ai) (n:Nat) (H':Hp),BT T1 T2 H H'->Tb H' T1 T2->H ls=none->H' ls\.lst (ds.map V.ref)->ds.length=n+1->n<=many->(∀(j:Nat) (a:Addr),ds[j]? = some a->H a=none/\a≠ls/\H' a\.dK (bZ ns (runM r hs ts qs f j)))->(∀j:Nat,j<n->fE r hs ts qs (runM r hs ts qs f j)=false)->(n=many∨fE r hs ts qs (runM r hs ts qs f n)=true)->Q (.ref ls) H')->Py K CG CW T1 T2 vs H Q E
theorem i1_{f0:Addr}{fd:Ae}(F:bg K "_law_walked" "_law_walked" Og f0 fd)(B:Bi mg)(qx:!bc 10 "at_rest" qy (J1 K CG CW T1 T2))(Qo:!bc 9 "moves_of" uT (Pb K CG CW T1 T2)):!ak ba 11 f0 fd uY (Py K CG CW T1 T2):=by
 apply F.ok DL (λvs H Q E h=>?_) (λaO A outer s H vs Q E hr h=>?_)
 ·let#[g,p,d,m,hs,ts,qs,fp,ns,f,r,bQ,rfl,_]:=h;rfl
 let#[g,p,d,many,hs,ts,qs,fp,ns,f,r,bQ,rfl,m3,O,tb,k]:=h;let sz:=b_;let hu:=gC hr;refine' ⟨_,ax ?s1 ?r1,?kk⟩
 case s1=>exact bh 4 DL.nd (dE %[iH KN (by rfl) B.dict uJ %[1|0]|0])
 case' r1=>refine' ax ?s2 (aC (aY (pv 4)))
 case' s2=>refine' U5 eS (PW.pt (xG ?w1 (zI ?w2))) (ax ?b1 (ax ?b2 (aC ?b3)))
 case w1=>exact cn pV (bY iy (by rfl) B.len gX %[4|0]) (pv 3)
 case w2=>exact eF (dF (aP qx hr %[0,bA fA (pv 4) (Dk Dv az),2|0]))
 case b1=>exact bh 5 DL.nd (iH KN (by rfl) B.dict uJ %[bA fA (pv 4) (Dk Dv az)|0])
 case b2=>exact fC eS Z (d_ (aP Qo hr %[0,5,2,bu xw (bY iy (by rfl) B.len gX %[4|0]) az|0])) (kJ Z (dD (cq 6 DL.nd) (dD (cq 7 DL.nd) (dD (cq 8 DL.nd) iT)))) (aC (xH hu (pv 5) (pv 6) (pv 8) Z))
 case b3=>exact j_ (kW mX xA xI vJ (pv 4) %[5|0])
 let S:=O.S;let pm:=S.so.perm;apply#[_,Z,d,_,Z,.inl S.hd,λd0 n0=>?_];let#[s1,e1]:=bp (o:=.dK (bZ ns f)) n0;show _/\_;generalize upd H d0 (.dK (bZ ns f))=H1 at s1 e1 ⊢;apply#[zl,λls AW=>?_];let s2:=aa.new (o:=.lst [.ref d0]) AW;have GM:upd H1 ls (.lst [.ref d0]) ls\.lst ([d0].map V.ref):=au;let e2:=s2 _ _ e1;have d0l:d0≠ls:=bE e1 AW;show iG _ _ _ (upd H1 ls (.lst [.ref d0])) _;generalize upd H1 ls (.lst [.ref d0])=H2 at s2 GM e2 ⊢;lk;let ik:=s1.trans s2;let Se:=s1.free AW;have eP:Tb H2 T1 T2:=#[tb.a.same ik,tb.b.same ik,tb.ne]
 have SD:∀{G:Hp} {dp:Addr} {i:Nat},NT H G->H dp=none->G dp\.dK (bZ ns (runM r hs ts qs f i))->nE K CG CW G g p dp hs ts qs fp ns (runM r hs ts qs f i):=λ{G dp i} nt nd e=>by
  apply#[S.G.nt nt,λm=>?_,e,#[pm,λn hn=>(O.W.run r i).at_ n (pm.mem_iff.mp hn)],λb hb=>?_]
  ·let#[o,e',_]:=S.has _ m;rw[nd] at e';cases e'
  let#[o,e,q]:=S.has b hb;exact#[o,nt _ _ e q,q]
 have last:∀{ds:ai} {n:Nat} {dp:Addr},ds.length=n+1->ds[n]? = some dp->eZ (ds.map V.ref) (-1)\.ref dp:=λ{ds n dp} ld e=>by
  rw[UL (by rw[aA];omega),aA,ld,Nat.add_sub_cancel,dS,e];rfl
 apply#[λm σ H'=>∃(i:Nat) (v5 v6 v7 v8:aN) (ds:ai),m=many+1 - i/\i<=many/\σ=[some (.ref g),some (.ref d),some (.str r.1),some (.int many),some (.ref ls),v5,v6,v7,v8]/\BT T1 T2 H H'/\Tb H' T1 T2/\H' ls\.lst (ds.map V.ref)/\ds.length=i+1/\(∀(j:Nat) (a:Addr),ds[j]? = some a->H a=none/\a≠ls/\H' a\.dK (bZ ns (runM r hs ts qs f j)))/\∀j:Nat,j<i->fE r hs ts qs (runM r hs ts qs f j)=false,#[many+1,0,none,none,none,none,[d0],Z,by omega,Z,BT.of ik,eP,GM,Z,λj a e=>?_,by omega],?_]
 ·match j,e with
  |0,e=>cases e;exact#[n0,d0l,e2]
 rintro m σ H3 ⟨i,v5,v6,v7,v8,ds,rfl,im,rfl,b3,eO,el,ld,da,no⟩;obtain⟨dp,uv⟩:∃dp,ds[i]? = some dp:=#[_,cw Z1];let#[nd,dl,ed]:=da i dp uv;have out:fE r hs ts qs (runM r hs ts qs f i)=true∨i=many->∀H4,BT T1 T2 H H4->Tb H4 T1 T2->NT H3 H4->Q (.ref ls) H4:=λc H4 b4 eN iO=>k ls ds i H4 b4 eN Se (iO.lst el) ld im (λj a e=>#[(da j a e).1,(da j a e).2.1,iO.dK (da j a e).2.2]) no c.symm;apply#[_,Z,ls,_,Z,.inl (.of el),_,Z,_,_,Z,Z,_,Z,?_];apply aM (λc=>?_) (λc=>?_);rotate_left 1
 ·have c:¬((ds.map V.ref).length:Int)<=(many:Int):=⇑c
  rw[aA] at c;exact aQ #[_,Z,out (.inr Z1) H3 b3 eO (NT.refl _)]
 have c:((ds.map V.ref).length:Int)<=(many:Int):=⇑c
 rw[aA] at c;apply#[_,Z,_,Z,1,Z,ls,_,_,.ref dp,Z,Z,.inl (.inl el),last ld uv,_,Z,?_];apply#[g,p,dp,hs,ts,qs,fp,ns,_,r,bQ,Z,SD (b3.nt tb) nd ed,O.W.run r i,eO,λH4 b4 eN=>?_];let qG:=b3.trans b4;let iO:=b4.nt eO;apply#[_,Z,aM (λc=>?_) (λc=>?_)];rotate_left 1
 ·have c:fE r hs ts qs (runM r hs ts qs f i)=true:=⇑c
  exact#[_,Z,out (.inl c) H4 qG eN iO]
 have cr:fE r hs ts qs (runM r hs ts qs f i)=false:=⇑c
 clear out;apply#[_,λbq H' h=>h,?_];let BG:=iO.lst el;let xo:=iO.dK ed;apply#[_,Z,1,Z,ls,_,_,.ref dp,Z,Z,.inl (.inl BG),last ld uv,dp,_,Z,.inl xo,λdn wH=>?_];let#[s5,e5]:=bp (o:=.dK (bZ ns (runM r hs ts qs f i))) wH;show iG _ _ _ (upd H4 dn (.dK (bZ ns (runM r hs ts qs f i)))) _;generalize upd H4 dn (.dK (bZ ns (runM r hs ts qs f i)))=H5 at s5 e5 ⊢;lk;let p8:=qG.trans (BT.of s5);have ij:Tb H5 T1 T2:=#[eN.a.same s5,eN.b.same s5,eN.ne];have E4:NT H3 H5:=iO.trans (NT.of s5);let el5:=E4.lst el
 have nn:H dn=none:=by
  cases z:H dn with
  |none=>rfl
  |some o=>
   by_cases y1:dn=T1
   ·let#[tv,hT]:=fu eN.a;rw[y1,hT] at wH;cases wH
   by_cases y2:dn=T2
   ·let#[tv,hT]:=fu eN.b;rw[y2,hT] at wH;cases wH
   rw[qG _ _ z y1 y2] at wH;cases wH
 have O5:dn≠ls:=(bE BG wH).symm;have dnp:∀{j:Nat} {a:Addr},ds[j]? = some a->a≠dn:=λ{j a} e=>bE (iO.dK (da j a e).2.2) wH;apply#[_,Z,_,Z,_,Z,_,Z,ls,_,Z,.inl (.of el5),_,_,Z,Z,?_];rw[show ((ds.map V.ref).length:Int) - 1=(i:Int) by rw[aA];omega];apply#[g,p,dn,(i:Int),hs,ts,qs,fp,ns,_,r,bQ,Z,by omega,SD (p8.nt tb) nn e5,O.W.run r i,ij,λl ys H6 b6 zY nl hl tu=>?_];let b06:=p8.trans b6;let wD:=b6.nt ij;let E3:=E4.trans wD;let e6:=wD.dK e5;let el6:=E3.lst el;have ldn:l≠dn:=cb hl e6 nofun;let ly:=bK tu;rw[aA] at ly
 have n64:ns.length<64:=by
  have:=pm.length_eq;rw[aA] at this;have:=O.W.bR;omega
 apply#[l,Z,#[_,.of hl],iK (K:=K) (a:=l) (xs:=ys) (λj σ H'=>∃v6 v7 v8:aN,σ=[some (.ref g),some (.ref d),some (.str r.1),some (.int many),some (.ref ls),some (.ref dn),v6,v7,v8]/\aR dn H6 H'/\H' dn\.dK (bZ ns (jb (runM r hs ts qs f i) ((pN r hs ts qs (runM r hs ts qs f i) i).take j)))) #[v6,v7,v8,Z,aR.refl _ _,e6] (λj σ H' _ ⟨_,_,_,_,b,_⟩=>.of (b _ _ hl ldn)) ?_ ?_]
 ·rintro j y σ H' hy ⟨v6,v7,v8,rfl,b',e'⟩;let#[x,hx,D9,rfl,wO]:=oZ tu hy;let wO:=Th wO;have Lc:D9≠dn:=cb wO e6 nofun;apply#[D9,_,Z,.of (b' _ _ wO Lc),Z,_,_,Z,_,_,Z,_,_,Z,Z,?_];dsimp only;apply#[_,Z,_,Z,_,Z,dn,_,Z,.k (k:=Sum.inr x.1) e' (by rw[kY];omega),?_];apply#[_,_,_,Z,b'.trans aR.upd,?_];rw[au,UU (pm.mem_iff.mpr (NZ (O.W.run r i) r i x (dI hx)).1),Vn hx,VJ]
 rintro σ H7 ⟨v6,v7,v8,rfl,b',e'⟩;rw[ly,e_] at e';have e':H7 dn\.dK (bZ ns (runM r hs ts qs f (i+1))):=e';have kT:∀{T qn},cE H6 T qn->cE H7 T qn:=λ⟨es,a1,a2⟩=>#[es,b' _ _ a1 (λz=>by rw[z,e6] at a1;cases a1),λx hx=>b' _ _ (a2 x hx) (λz=>by have:=a2 x hx;rw[z,e6] at this;cases this)];have qQ:Tb H7 T1 T2:=#[kT zY.a,kT zY.b,zY.ne];let JP:=b' _ _ el6 O5.symm;have QX:BT T1 T2 H H7:=λb o e y1 y2=>b' _ _ (b06 b o e y1 y2) (bE e nn);apply#[_,Z,.inl #[Z,#[_,.of JP]],_,Z,ls,_,_,Z,Z,JP,by rw[aA];omega,?_];have b8:aR ls H7 (upd H7 ls (.lst (ds.map V.ref++[.ref dn]))):=aR.upd
 have e8:upd H7 ls (.lst (ds.map V.ref++[.ref dn])) ls\.lst ((ds++[dn]).map V.ref):=by
  rw[au,dC];rfl
 generalize upd H7 ls (.lst (ds.map V.ref++[.ref dn]))=H8 at b8 e8 ⊢;have SA:∀{T qn},cE H7 T qn->cE H8 T qn:=λ⟨es,a1,a2⟩=>#[es,b8 _ _ a1 (λz=>by rw[z,JP] at a1;cases a1),λx hx=>b8 _ _ (a2 x hx) (λz=>by have:=a2 x hx;rw[z,JP] at this;cases this)];apply#[many+1 - (i+1),by omega,i+1,_,_,_,_,ds++[dn],Z,by omega,Z,λb o e y1 y2=>b8 _ _ (QX b o e y1 y2) (bE e Se),#[SA qQ.a,SA qQ.b,qQ.ne],e8,by rw[fB,ld];rfl,λj a e=>?_,λj hj=>?_]
 ·by_cases z:j<ds.length
  ·rw[zS z] at e;let#[x1,x2,x3]:=da j a e;exact#[x1,x2,b8 _ _ (b' _ _ (E3.dK x3) (dnp e)) x2]
  rw[xT Z1] at e
  have ej:j=i+1:=by
   have:=(cU.mp e).1;simp only[zQ] at this;omega
  subst ej;rw[ld,Nat.sub_self] at e;cases e;exact#[nn,O5,b8 _ _ e' O5]
 by_cases z:j<i
 ·exact no j z
 obtain rfl:j=i:=by omega
 exact cr
end
end Ev
namespace L2
open PySem PySem.Spec PyProof.Rows PySem.W jE di
section
variable{X:Cx}{e st:Expr}{te ts:TE}{pos p2:Pos}
end
section
variable{X:Cx}
end
end L2
namespace L2
open PySem PySem.Spec PyProof.Rows PySem.W jE di
def IY(K:af){D:Type}(R:Rp D):Rp (List D):=λH x ds=>∃a xs,x=.ref a/\gL K H a xs/\Paired (R H) xs ds
section
variable{X:Cx}
theorem Ox{D:Type}[DecidableEq D]{ds es:List D}:((List.range (min ds.length es.length)).all (λj=>decide (ds[j]? = es[j]?))&&ds.length == es.length)=decide (ds=es):=by
 by_cases hl:ds.length=es.length
 ·rw[hl,Nat.min_self,<- hl,QR hl];simp
 rw[dJ (λz=>hl (by rw[z])),show (ds.length == es.length)=false by rw[beq_eq_false_iff_ne];exact hl,xP]
theorem G6{n:Nat}{D:Type}[DecidableEq D]{R:Rp D}(c:jm X n R):jm X (n+1) (IY X.K R) where
 one:=λ{pins σ H s x d e} I hx hy=>by
  let#[a,xs,rfl,t,q]:=hx;let#[b,ys,e0,t',q']:=hy;cases e0;let e1:=I.eV t t';subst e1;exact PR c I q q'
 eq:=λ{pins σ H s A x y u v d e} I ru rv hx hy hu=>by
  let#[a,xs,rfl,t,q]:=hx;let#[b,ys,rfl,t',q']:=hy;cases ru;cases rv;by_cases xh:a=b
  ·subst xh;let e1:=I.eV t t';subst e1;rw[bP (PR c I q q')];exact SeqAt.EqAt.same _
  let#[us,r,pl,_]:=I.tuple t;let#[vs,r',mD,_]:=I.tuple t';let l1:=r.length;let l2:=r'.length;let l3:=bK q;let l4:=bK q';let key:=SeqAt.EqAt.of_refs xh (SeqAt.RcAt.tuples (A:=A) (s:=s) (vL pl) (vL mD) Z1 (Hc c I r r' q q' (A:=A.in1) (by show A.units+1+n<cLine;omega)));rw[show us.toArray.size=d.length by simp only[cg];omega,show vs.toArray.size=e.length by simp only[cg];omega,Ox] at key;exact key
end
end L2
namespace L2
open PySem PySem.Spec PyProof.Rows PySem.W jE di
section
variable{X:Cx}
theorem kE_{n:Nat}{D:Type}[DecidableEq D]{R:Rp D}(c:jm X n R)(hu:X.A.units+n+1<cLine):dN X (compareOp .NotEq) (pI (IY X.K R) true):=by
 intro pins s σ H x y v u Q I rx ry h;let#[d,e,#[a,xs,rfl,t,q],#[b,ys,rfl,t',q'],hq]:=h;cases rx;cases ry;let#[us,r,pl,_]:=I.tuple t;let#[vs,r',mD,_]:=I.tuple t';let l1:=r.length;let l2:=r'.length;let l3:=bK q;let l4:=bK q';apply SeqAt.RcNeAt.tuples (vL pl) (vL mD) Z1 (Hc c I r r' q q' (A:=X.A.in1) (by show X.A.units+1+n<cLine;omega)) X.prog X.w _ _ #[.bl _,H,I,Z,?_];rw[show us.toArray.size=d.length by simp only[cg];omega,show vs.toArray.size=e.length by simp only[cg];omega,Ox];exact hq
end
end L2
namespace L2
open PySem PySem.Spec PyProof.Rows PySem.W jE di
def fK:V->Option Key
 |.bl b=>some (.inl (if b then 1 else 0))
 |.int i=>some (.inl i)
 |.str x=>some (.inr x)
 |_=>none
def rK:Rp Key:=λ_ x d=>fK x\d
theorem T6{α:Type}[BEq α][LawfulBEq α][DecidableEq α](a b:α):(a == b)=decide (a=b):=by
 by_cases h:a=b
 ·subst h;simp
 simp[h]
theorem _Z{x y:V}{d e:Key}(hx:fK x\d)(hy:fK y\e):mO x y=decide (d=e)/\uB x=true/\uB y=true:=by
 have il:∀a b:Int,(a == b)=decide ((Sum.inl a:Key)=Sum.inl b):=λa b=>(T6 a b).trans (decide_eq_decide.mpr #[λh=>by rw[h],λh=>Sum.inl.inj h]);have ir:∀a b:Str,(a == b)=decide ((Sum.inr a:Key)=Sum.inr b):=λa b=>(T6 a b).trans (decide_eq_decide.mpr #[λh=>by rw[h],λh=>iF h]);cases x<;>cases hx<;>cases y<;>cases hy<;>apply#[?_,Z,Z]
 ·rename_i a b
  cases a<;>cases b<;>rfl
 ·exact il _ _
 ·rfl
 ·exact il _ _
 ·exact il _ _
 ·rfl
 ·rfl
 ·rfl
 exact ir _ _
section
variable{X:Cx}
theorem G_:jm X 0 rK where
 eq:=λ{pins σ H s A x y u v d e} I ru rv hx hy hu=>by
  let#[e2,fx,fy]:=_Z hx hy;let q:=GQ (A:=A) (s:=s) ru rv fx fy;rwa [e2] at q
 one:=λ{pins σ H s x d e} I hx hy=>dY ((show fK x\d from hx).symm.trans hy)
end
end L2
namespace L2
open PySem PySem.Spec PyProof.Rows PySem.W jE di
section
variable{X:Cx}
theorem jJ_{n:Nat}{D:Type}[DecidableEq D]{R:Rp D}(c:jm X n R)(hu:X.A.units+n+1<cLine):dN X (compareOp .Eq) (pI (IY X.K R) false):=by
 intro pins s σ H x y v u Q I rx ry h;let#[d,e,#[a,xs,rfl,t,q],#[b,ys,rfl,t',q'],hq]:=h;cases rx;cases ry;let#[us,r,pl,_]:=I.tuple t;let#[vs,r',mD,_]:=I.tuple t';let l1:=r.length;let l2:=r'.length;let l3:=bK q;let l4:=bK q';apply SeqAt.eq_tupleAt (vL pl) (vL mD) Z1 (Hc c I r r' q q' (A:=X.A.in1) (by show X.A.units+1+n<cLine;omega)) #[.bl _,H,I,Z,?_];rw[show us.toArray.size=d.length by simp only[cg];omega,show vs.toArray.size=e.length by simp only[cg];omega,Ox];exact hq
def tF(K:af)(neg:Bool):V->V->Hp->VK->Prop:=λx y H Q=>pI (IY K rK) neg x y H Q∨(x=.non/\y=.non/\Q (.bl (!neg)) H)
theorem kR_(hu:X.A.units+1<cLine):dN X (compareOp .Eq) (tF X.K false):=by
 intro pins s σ H x y v u Q I rx ry h;rcases h with h|⟨rfl,rfl,q⟩
 ·exact jJ_ G_ Z1 pins s σ H x y v u Q I rx ry h
 exact gf pins s σ H .non .non v u Q I rx ry #[Z,q]
theorem kL_(hu:X.A.units+1<cLine):dN X (compareOp .NotEq) (tF X.K true):=by
 intro pins s σ H x y v u Q I rx ry h;rcases h with h|⟨rfl,rfl,q⟩
 ·exact kE_ G_ Z1 pins s σ H x y v u Q I rx ry h
 exact qB pins s σ H .non .non v u Q I rx ry #[Z,q]
end
end L2
namespace Ev
open PySem L2
theorem _m{K:af}{H H':Hp}{a:Addr}{xs:ag}(s:NT H H')(h:dM K H a xs):dM K H' a xs:=by
 rcases h with (h|⟨o,h⟩)|h
 ·exact .inl (.inl (s.lst h))
 ·exact .inl (.inr #[o,s _ _ h nofun])
 exact .inr h
theorem Tb.nt{H G:Hp}{T1 T2:Addr}(t:Tb H T1 T2)(s:aa H G):Tb G T1 T2:=#[t.a.same s,t.b.same s,t.ne]
def NL(l:Addr)(H H':Hp):Prop:=∀b o,H b\o->(∀vs,o≠.tbl vs)->b≠l->H' b\o
theorem NL.trans{l:Addr}{H H1 H2:Hp}(a:NL l H H1)(b:NL l H1 H2):NL l H H2:=λc o e n m=>b c o (a c o e n m) n m
theorem NL.of{l:Addr}{H H':Hp}(s:NT H H'):NL l H H':=λb o e n _=>s b o e n
theorem NL.bt{l:Addr}{H H':Hp}(s:aR l H H'):NL l H H':=λb o e _ n=>s b o e n
theorem NL.nt{l:Addr}{H H1 H2:Hp}(b:NL l H1 H2)(nl:H l=none)(s:aa H H1):NT H H2:=λc o e n=>b _ _ (s _ _ e) n (bE e nl)
section
variable{K:af}{CG CW g p d l T1 T2:Addr}{H H':Hp}{hs:Xa}{ts:Xb}{qs:aL}{fp:ai}{ns:ae}{f:ao}
theorem Wo.but(O:Wo K CG CW H g p d hs ts qs fp ns f)(b:aR l H H')(st:bW H l)(dl:d≠l)(lfp:l∉fp):Wo K CG CW H' g p d hs ts qs fp ns f:=by
 let#[xs,hl]:=st.some
 exact#[#[O.S.G.keep (λc hc o e=>b _ _ e (λz=>lfp (z▸hc))) (λc zs e=>b _ _ e (cb e hl nofun)),O.S.jc,b _ _ O.S.hd dl,O.S.so,λc hc=>by
  let#[o,e,q]:=O.S.has c hc;exact#[o,b _ _ e (λz=>lfp (z▸hc)),q]],O.W,O.R4,O.w1]
theorem Tb.but(t:Tb H T1 T2)(b:aR l H H')(st:bW H l):Tb H' T1 T2:=by
 let#[xs,hl]:=st.some;have kT:∀{T qn},cE H T qn->cE H' T qn:=λ⟨es,a1,a2⟩=>#[es,b _ _ a1 (λz=>by rw[z,hl] at a1;cases a1),λx hx=>b _ _ (a2 x hx) (λz=>by have:=a2 x hx;rw[z,hl] at this;cases this)];exact#[kT t.a,kT t.b,t.ne]
end
end Ev
namespace Ev
open PySem L2
def dO(a b:Str):Xa:=[(a,2),(b,2)]
def fi(a b:Str):Xb:=[(a,b)]
def fj(w:Int):aL:=[("p",w,none)]
def rA:List Rl:=[("least all high","least","all",some "high"),("below one high","below","one",some "high"),("turns high","turns","all",some "high")]
abbrev pM(x y:Str):gY:=[(("p":Str),x,y)]
section
variable{a b x y:Str}{w:Int}{f:ao}{r:Rl}
theorem _J(ab:a≠b)(h:x=a∨x=b):strOf (dO a b) x=2:=by
 apply U0 (by simpa [dO] using ab) ?_;rcases h with rfl|rfl<;>simp[dO]
theorem Sj:lo (fj w) f x=if f "p"=x then w else 0:=by
 show ld f [("p",w)] x=_;unfold ld;by_cases h:f "p"=x<;>simp[h]
theorem Sk:eR (fj w) f x=if f "p"=x then (["p"]:ae) else []:=by
 have e:kC (fj w)=(["p"]:ae):=List.perm_singleton.mp (Hi (fj w));unfold eR;rw[e];by_cases h:f "p"=x<;>simp[h]
theorem gr_(n:Str):aK n n=(n,n):=(zJ n n).elim id id
theorem Mw:aJ (fi a b)=[aK a b]:=by
 have e:aX ((fi a b).map λt=>kT (aK t.1 t.2))=[kT (aK a b)]:=List.perm_singleton.mp (k7 _);unfold aJ;rw[e];rfl
theorem Sx(ab:a≠b)(h:(x=a/\y=b)∨(x=b/\y=a)):nb (dO a b) (fi a b) x=[y]:=by
 have p:(aF (dO a b)).Perm [a,b]:=iz (dO a b);let q:=p.filter λo=>decide (aK x o∈aJ (fi a b))
 have no:∀n:Str,aK n n≠aK a b:=λn e=>by
  rw[gr_] at e;rcases zJ a b with z|z<;>rw[z] at e<;>cases e<;>exact ab Z
 show (aF (dO a b)).filter (λo=>decide (aK x o∈aJ (fi a b)))=[y];apply List.perm_singleton.mp (q.trans ?_);rw[Mw];rcases h with⟨rfl,rfl⟩|⟨rfl,rfl⟩
 ·rw[List.filter_cons_of_neg ⇑(no x),List.filter_cons_of_pos Z2];exact List.Perm.refl _
 rw[List.filter_cons_of_pos (by rw[Qk];simp),List.filter_cons_of_neg ⇑(no x)];exact List.Perm.refl _
theorem JE(ab:a≠b)(h:(x=a/\y=b)∨(x=b/\y=a)):dB (dO a b) (fi a b) (fj w) f x=[y]:=List.perm_singleton.mp ((Ig (dO a b) (fi a b) (fj w) f x).trans (by rw[Sx ab h]))
theorem TZ(ab:a≠b)(h:(x=a/\y=b)∨(x=b/\y=a))(e:f "p"=x):kU (dO a b) (fj w) f x y=w * 2:=by
 have ne:x≠y:=by rcases h with⟨rfl,rfl⟩|⟨rfl,rfl⟩;exact ab;exact ab.symm
 unfold kU;rw[Sj,Sj,aH e,aB (by rw[e];exact ne),_J ab (by rcases h with⟨_,rfl⟩|⟨_,rfl⟩<;>simp),Int.zero_mul]
 omega
theorem lO_(w0:0<w)(ab:a≠b)(h:(x=a/\y=b)∨(x=b/\y=a))(e:f "p"=x):iu (dO a b) (fi a b) (fj w) f "high" [] x y=pM x y/\iu (dO a b) (fi a b) (fj w) f "high" [] y x=[]:=by
 have ne:x≠y:=by rcases h with⟨rfl,rfl⟩|⟨rfl,rfl⟩;exact ab;exact ab.symm
 have mx:x∈(dO a b).map (·.1):=by rcases h with⟨rfl,rfl⟩|⟨rfl,rfl⟩<;>simp[dO]
 have my:y∈(dO a b).map (·.1):=by rcases h with⟨rfl,rfl⟩|⟨rfl,rfl⟩<;>simp[dO]
 have ht:C_ (dO a b) (fi a b) (some x) (some y)=true:=by
  have hn:y∈near (aF (dO a b)) (aJ (fi a b)) x:=by
   rw[show near (aF (dO a b)) (aJ (fi a b)) x=[y] from Sx ab h];simp
  rw[KO,bP mx,bP my,bP hn];rfl
 have hp:uc (dO a b) (fi a b) (fj w) f "high" [] x y "p"=true:=by
  unfold uc mG Bu;rw[ht,show Iz (fj w) "p"=none from Z,TZ ab h e];unfold ur;rw[aH Z,bP (by omega:0<w * 2)];rfl
 unfold iu;rw[Sk,Sk,aH e,aB (by rw[e];exact ne),List.find?_cons_of_pos hp];exact#[Z,Z]
theorem Sv(g:Str->gY)(ab:a≠b)(h:(x=a/\y=b)∨(x=b/\y=a))(gx:g x=pM x y)(gy:g y=[]):(aF (dO a b)).flatMap g=pM x y:=by
 have p:(aF (dO a b)).Perm [a,b]:=iz (dO a b);apply List.perm_singleton.mp ((List.Perm.flatMap_right g p).trans ?_);rcases h with⟨rfl,rfl⟩|⟨rfl,rfl⟩<;>simp[gx,gy]
theorem JI(hr:r∈rA)(w0:0<w)(ab:a≠b)(h:(x=a/\y=b)∨(x=b/\y=a))(e:f "p"=x)(m:Int):pN r (dO a b) (fi a b) (fj w) f m=pM x y:=by
 have h':(y=a/\x=b)∨(y=b/\x=a):=by rcases h with⟨rfl,rfl⟩|⟨rfl,rfl⟩<;>simp
 let#[m1,m2]:=lO_ w0 ab h e;have ne:x≠y:=by rcases h with⟨rfl,rfl⟩|⟨rfl,rfl⟩;exact ab;exact ab.symm
 unfold rA at hr;simp only[cQ,List.not_mem_nil,or_false] at hr;rcases hr with rfl|rfl|rfl
 ·apply (aB (by decide)).trans ?_
  have:=Sv (pW ("least all high","least","all",some "high") (dO a b) (fi a b) (fj w) f) ab h (by
   rw[Qj Z];show uM _ _ _ _ "high" x=_;unfold uM;rw[JE ab h];exact m1) (by
   rw[Qj Z];show uM _ _ _ _ "high" y=_;unfold uM;rw[JE ab h'];exact m2)
  unfold BX;rw[this];rfl
 ·apply (aB (by decide)).trans ?_
  have:=Sv (pW ("below one high","below","one",some "high") (dO a b) (fi a b) (fj w) f) ab h (by
   rw[PF Z];show vI _ _ _ _ "high" x=_;unfold vI;rw[JE ab h];unfold ny ny;rw[TZ ab h e,aH Z1];exact m1) (by
   rw[PF Z];show vI _ _ _ _ "high" y=_;unfold vI;rw[JE ab h'];unfold ny ny;split
   ·exact m2
   rfl)
  unfold BX;rw[this];rfl
 apply (aH Z).trans ?_;show DB _ _ _ _ "high" m=_
 have e1:turnsOf (aJ (fi a b))=[[aK a b]]:=by
  rw[Mw];rfl
 unfold DB kI;rw[e1];show (([[aK a b]]:List Xb)[(m % 1).toNat]?.getD []).flatMap _=_;rw[Int.emod_one];show zB _ _ _ _ "high" (aK a b)++[]=_;rw[xR];unfold zB
 have:aK a b=(x,y)∨aK a b=(y,x):=by
  rcases h with⟨rfl,rfl⟩|⟨rfl,rfl⟩
  ·exact zJ _ _
  exact (zJ _ _).symm
 rcases this with z|z<;>rw[z]
 ·show iu _ _ _ _ "high" [] x y++iu _ _ _ _ "high" [] y x=_;rw[m1,m2];rfl
 show iu _ _ _ _ "high" [] y x++iu _ _ _ _ "high" [] x y=_;rw[m1,m2];rfl
theorem S9(hr:r∈rA):gc r (fi a b)=1:=by
 unfold rA at hr;simp only[cQ,List.not_mem_nil,or_false] at hr;rcases hr with rfl|rfl|rfl
 ·rfl
 ·rfl
 unfold gc;rw[aH Z,Mw];rfl
theorem Jj(hr:r∈rA)(w0:0<w)(ab:a≠b)(e:f "p"=b):∀k:Nat,runM r (dO a b) (fi a b) (fj w) f k "p"=if k % 2=0 then b else a
 |0=>e
 |k+1=>by
  let ih:=Jj hr w0 ab e k;show jb _ (pN r (dO a b) (fi a b) (fj w) _ k) "p"=_;by_cases z:k % 2=0
  ·rw[aH z] at ih;rw[JI hr w0 ab (.inr #[Z,Z]) ih,aB Z1];rfl
  rw[aB z] at ih;rw[JI hr w0 ab (.inl #[Z,Z]) ih,aH Z1];rfl
theorem lS_(hr:r∈rA)(w0:0<w)(ab:a≠b)(e:f "p"=b)(k:Nat):fE r (dO a b) (fi a b) (fj w) (runM r (dO a b) (fi a b) (fj w) f k)=false:=by
 unfold fE;rw[S9 hr];let ih:=Jj hr w0 ab e k;apply List.all_eq_false.mpr #[0,by simp,?_];by_cases z:k % 2=0
 ·rw[aH z] at ih;rw[JI hr w0 ab (.inr #[Z,Z]) ih];exact λz=>nomatch z
 rw[aB z] at ih;rw[JI hr w0 ab (.inl #[Z,Z]) ih];exact λz=>nomatch z
end
end Ev
namespace di
open PySem PySem.W PyProof.Rows
section
variable{prog:Ad}{w:Af}{K:Type}[DecidableEq K](knd:KeyKind prog w K)
def mZ(h:Heap)(m:List K × K)(a:Addr):Prop:=∃o n c v,h.get? a\o/\o.cls=.type "tuple"/\o.data=.seq (List.toArray [.ref c,v]) n/\IsTupleKey knd h m.1 c/\knd.is m.2 v=true
variable{knd}
variable{A:Ag}{E:Aa->Ab->Prop}{s:Ab}
theorem mZ.typeIs{m:List K × K}{a:Addr}(x:mZ knd s.heap m a):s.TypeIs (.ref a) "tuple":=let #[o,_,_,_,ho,hc,_]:=x;#[o,ho,hc]
theorem mZ.inj{h:Heap}{a:Addr}{x y:List K × K}(hx:mZ knd h x a)(hy:mZ knd h y a):x=y:=by
 let#[o,n,c,v,ho,_,hd,h1,h2]:=hx;let#[o',n',c',v',iq,_,gT,gU,gI]:=hy;obtain rfl:o=o':=dY (ho.symm.trans iq);rw[hd] at gT
 injection gT with e _
 have e2:[Value.ref c,v]=[Value.ref c',v']:=d9 Array.toList e
 injection e2 with e3 e4
 injection e3 with e3
 injection e4 with e4 _
 subst e3 e4;exact Prod.ext (h1.inj gU) (knd.inj _ _ _ h2 gI)
theorem mZ.keeps{h h':Heap}{m:List K × K}{a d:Addr}{o:Obj}{es ep}(x:mZ knd h m a)(ho:h.get? d\o)(hd:o.data=.dict es ep)(hs:Heap.SameBut d h h'):mZ knd h' m a:=by
 let#[o',n,c,v,iq,hc,gT,h1,h2]:=x
 have pR:a≠d:=by
  rintro rfl;obtain rfl:o'=o:=dY (iq.symm.trans ho);rw[hd] at gT;exact nomatch gT
 exact#[o',n,c,v,(hs.2 a pR).trans iq,hc,gT,h1.keeps ho hd hs,h2]
def Pk(knd:KeyKind prog w K)(m:List K × K):Int:=reduceHash (Builtin.Tuple.tupleHashOf [tupleKeyHash knd m.1,knd.hash m.2])
theorem eU_{m:List K × K}{a:Addr}{Q:Int->Ab->Prop}(hu:A.units+1<cLine)(hk:mZ knd s.heap m a)(h:Q (Pk knd m) { s with toks:=s.toks+(m.1.length+1+1+1) }) :
  wpAny (model prog w) A (pyHash (.ref a)) Q E s:=by
 let hT:=hk.typeIs;let#[o,n,c,v,ho,_,hd,h1,h2]:=hk;unfold pyHash
 first|unfold pyHashByItsType|skip
 first|refine aq (wpAny_cRoomFor_or (.inr Z1) ?_)|skip
 apply aq (wpAny_specialOf hT F.slot_tuple_hash.lookup ?_);show wpAny _ _ (if (some (Value.builtin "tuple.__hash__") == some Value.none)=true then _ else _) Q E s;rw[aB (by rw[beq_builtin_none];exact g6)];apply aq (wpAny_specialOf hT F.slot_tuple_hash.lookup ?_);show wpAny _ _ (callSpecialIfBoundUnlessNone? (.ref a) "__hash__" _ >>= _) Q E s;apply aq (wpAny_callSpecialIfBoundUnlessNone?_slot hT F.slot_tuple_hash (wpAny_call_entry F.slot_tuple_hash hT F.entry_tuple_hash ?_ (F.args_tuple_hash_1 _)));show wpAny _ _ (Builtin.Tuple.tupleItemsOf (.ref a) >>= _) _ _ s;apply aq (wpAny_tupleItemsOf ho hd ?_);apply aq ?_;rw[<- Array.forIn_toList]
 apply wpAny_forIn_list _
  (λrest (b:Array Int) s'=>(rest=[.ref c,v]/\b.toList=[]/\s'=s)∨(rest=[v]/\b.toList=[tupleKeyHash knd m.1]/\s'={ s with toks:=s.toks+(m.1.length+1) })∨(rest=[]/\b.toList=[tupleKeyHash knd m.1,knd.hash m.2]/\s'={ s with toks:=s.toks+(m.1.length+1+1) }))
  _ ?_ ?_ _ _ (.inl #[Z,Z,Z])
 ·rintro x rest b s' (⟨e,hb,rfl⟩|⟨e,hb,rfl⟩|⟨e,_⟩)
  ·injection e with e1 e2
   subst e1 e2;apply aq (wpAny_pyHash_tuple (knd:=knd) (by show _<cLine;omega) h1 ?_)
   first
    |exact aU (.inr (.inl ⟨rfl,by simp[hb],rfl⟩))
    |exact aq (aU (aU (.inr (.inl ⟨rfl,by simp[hb],rfl⟩))))
  ·injection e with e1 e2
   subst e1 e2;apply aq (knd.pyHash h2 ?_)
   first
    |exact aU (.inr (.inr ⟨rfl,by simp[hb],rfl⟩))
    |exact aq (aU (aU (.inr (.inr ⟨rfl,by simp[hb],rfl⟩))))
  cases e
 rintro b s' (⟨e,_⟩|⟨e,_⟩|⟨_,hb,rfl⟩)
 ·cases e
 ·cases e
 show wpAny _ _ (retInt (Builtin.Tuple.tupleHashOf b.toList)) _ _ _;rw[hb];apply wpAny_ret_mkInt ?_;unfold Pk reduceHash at h;show wpAny _ _ (if (decide (-(2:Int) ^ 63<=Builtin.Tuple.tupleHashOf [tupleKeyHash knd m.1,knd.hash m.2])&&decide (Builtin.Tuple.tupleHashOf [tupleKeyHash knd m.1,knd.hash m.2]<2 ^ 63))=true then _ else _) Q E _;by_cases hr:(decide (-(2:Int) ^ 63<=Builtin.Tuple.tupleHashOf [tupleKeyHash knd m.1,knd.hash m.2])&&decide (Builtin.Tuple.tupleHashOf [tupleKeyHash knd m.1,knd.hash m.2]<2 ^ 63))=true
 ·rw[aH hr];rw[aH hr] at h;exact aU (by simpa [Nat.add_assoc] using h)
 rw[aB hr];rw[aB hr] at h;exact aq (wpAny_rule (aU (by simpa [Nat.add_assoc] using h)))
theorem ey_{x y:List K × K}{a b:Addr}{P:PySem.Fin->Ab->Prop}(hu:A.units<cLine)(hx:mZ knd s.heap x a)(hy:mZ knd s.heap y b)(h:P (.done (.ret (.bool (decide (x=y))))) s) :
  wpAny (model prog w) A (Builtin.«tuple.__eq__» ⟨[.ref a,.ref b],[]⟩) P E s:=by
 let hTb:=hy.typeIs;let#[oa,na,c,v,hoa,_,hda,h1,h2]:=hx;let#[ob,nb,c',v',MX,_,pU,gU,gI]:=hy;show wpAny _ _ (isInstance (.ref b) (.type "tuple") >>= _) _ _ s;apply aq (wpAny_isInstance hTb isSubtype_tuple_tuple ?_);simp only[xU,k_,if_false];apply aq (wpAny_tupleItemsOf hoa hda ?_);apply aq (wpAny_tupleItemsOf MX pU ?_);apply aq ?_
 apply wpAny_forIn_list _
  (λrest r s'=>r.1=none/\s'=s/\((rest=[(.ref c,.ref c'),(v,v')])∨(rest=[(v,v')]/\x.1=y.1)∨(rest=[]/\x=y)))
  _ ?_ ?_ _ _ ⟨rfl,rfl,.inl rfl⟩
 ·rintro⟨u,u'⟩ rest r s' ⟨hr,rfl,e|⟨e,e1⟩|⟨e,_⟩⟩
  ·injection e with e2 e3
   injection e2 with e4 e5
   subst e3 e4 e5;apply aq (wpAny_eqBool_tuple (knd:=knd) hu h1 gU ?_);by_cases hk:x.1=y.1
   ·rw[bP hk];simp only[xU,k_,if_false];exact aU ⟨rfl,rfl,.inr (.inl ⟨by trivial,hk⟩)⟩
   rw[dJ hk];simp only[Bool.not_false,if_true];rw[dJ (λz:x=y=>hk (by rw[z]))] at h;exact aq (aU (aU (aU h)))
  ·injection e with e2 e3
   injection e2 with e4 e5
   subst e3 e4 e5;apply aq (knd.eqBool (a:=x.2) (b:=y.2) h2 gI ?_);by_cases hk:x.2=y.2
   ·rw[bP hk];simp only[xU,k_,if_false];exact aU ⟨rfl,rfl,.inr (.inr ⟨by trivial,Prod.ext e1 hk⟩)⟩
   rw[dJ hk];simp only[Bool.not_false,if_true];rw[dJ (λz:x=y=>hk (by rw[z]))] at h;exact aq (aU (aU (aU h)))
  cases e
 rintro⟨r1,r2⟩ s' ⟨hr,rfl,e|⟨e,_⟩|⟨_,e⟩⟩
 ·cases e
 ·cases e
 simp only at hr;subst hr;apply aU ?_;rw[bP e] at h;exact h
theorem eL_{x y:List K × K}{a b:Addr}{Q:Bool->Ab->Prop}(hu:A.units+1<cLine)(hx:mZ knd s.heap x a)(hy:mZ knd s.heap y b)(h:Q (decide (x=y)) s) :
  wpAny (model prog w) A (eqBool (.ref a) (.ref b)) Q E s:=by
 unfold eqBool
 try with_reducible apply mQ ?_
 show wpAny _ _ (if (Value.ref a == Value.ref b)=true then _ else _) Q E s;by_cases xh:(Value.ref a == Value.ref b)=true
 ·rw[aH xh];have e:a=b:=by have:=eq_of_beq xh;injection this
  subst e;obtain rfl:=hx.inj hy;exact aq (wpAny_rule (aU ⇑h))
 rw[aB xh]
 exact aq (wpAny_richCompare_same_room (op:=.Eq) hx.typeIs hy.typeIs F.slot_tuple_eq
  (wpAny_call_entry F.slot_tuple_eq hx.typeIs F.entry_tuple_eq (ey_ (by show _<cLine;omega) hx hy ⟨_,rfl,(λe=>nomatch e),qw h⟩) (F.args_tuple_eq_2 _ _)) Z1)
theorem eY_{n:Nat}{ks:List K}{a:Addr}{Q:Bool->Ab->Prop}(hk:IsTupleKey knd s.heap ks a)(h:Q true s):wpAny (model prog w) A (eqIsQuiet (n+1) (.ref a)) Q E s:=by
 let hT:=hk.typeIs;let#[o,items,m,ho,_,hd,hi]:=hk;unfold eqIsQuiet;apply aq (wpAny_specialOf hT F.slot_tuple_eq.lookup ?_);show wpAny _ _ (isInstance (.ref a) (.type "tuple") >>= _) _ _ s;apply aq (wpAny_isInstance hT isSubtype_tuple_tuple ?_);simp only[xU,k_,if_false];apply aq (wpAny_seqItems ho hd ?_);apply aq ?_;show wpAny _ _ (forIn items _ _) _ _ s;rw[<- Array.forIn_toList];apply wpAny_forIn_list _ (λrest r s'=>r.1=none/\s'=s/\∀v∈rest,carriedByValue v=true) _ ?_ ?_ _ _ ⟨rfl,rfl,hi.byValue⟩
 ·rintro v rest r s' ⟨hr,rfl,jX⟩;rw[eqIsQuiet_byValue _ (jX v fQ)];apply aq (aU ?_);simp only[xU,k_,if_false];exact aU ⟨rfl,rfl,λu S8=>jX u (fb _ S8)⟩
 rintro⟨r1,r2⟩ s' ⟨hr,rfl,_⟩;simp only at hr;subst hr;exact aU h
theorem g4_{m:List K × K}{a:Addr}{Q:Bool->Ab->Prop}(hk:mZ knd s.heap m a)(h:Q true s):wpAny (model prog w) A (eqIsQuiet 8 (.ref a)) Q E s:=by
 let hT:=hk.typeIs;let#[o,n,c,v,ho,_,hd,h1,h2]:=hk;unfold eqIsQuiet;apply aq (wpAny_specialOf hT F.slot_tuple_eq.lookup ?_);show wpAny _ _ (isInstance (.ref a) (.type "tuple") >>= _) _ _ s;apply aq (wpAny_isInstance hT isSubtype_tuple_tuple ?_);simp only[xU,k_,if_false];apply aq (wpAny_seqItems ho hd ?_);apply aq ?_;show wpAny _ _ (forIn (List.toArray [Value.ref c,v]) _ _) _ _ s;rw[<- Array.forIn_toList];apply wpAny_forIn_list _ (λrest r s'=>r.1=none/\s'=s/\(rest=[.ref c,v]∨rest=[v]∨rest=[])) _ ?_ ?_ _ _ ⟨rfl,rfl,.inl rfl⟩
 ·rintro u rest r s' ⟨hr,rfl,e|e|e⟩
  ·injection e with e1 e2
   subst e1 e2;apply aq (eY_ h1 ?_);simp only[xU,k_,if_false];exact aU ⟨rfl,rfl,.inr (.inl (by trivial))⟩
  ·injection e with e1 e2
   subst e1 e2;rw[eqIsQuiet_byValue _ (knd.byValue _ _ h2)];apply aq (aU ?_);simp only[xU,k_,if_false];exact aU ⟨rfl,rfl,.inr (.inr (by trivial))⟩
  cases e
 rintro⟨r1,r2⟩ s' ⟨hr,rfl,_⟩;simp only at hr;subst hr;exact aU h
end
def Ih{prog:Ad}{w:Af}{K:Type}[DecidableEq K](knd:KeyKind prog w K):HeapKind prog w (List K × K) where
 is:=mZ knd
 hash:=Pk knd
 draws:=λm=>m.1.length+1+1+1
 room:=λA=>A.units+1<cLine
 inj:=λhx hy=>hx.inj hy
 keeps:=λx ho hd hs=>x.keeps ho hd hs
 pyHash:=λhu hk h=>eU_ hu hk h
 eqBool:=λhu hx hy h=>eL_ hu hx hy h
 quiet:=λhk h=>g4_ hk h
end di
namespace L2
open PySem PySem.Spec PyProof.Rows PySem.W
section
variable{X:Cx}
end
end L2
namespace di
open PySem PySem.W PyProof.Rows
section
variable{prog:Ad}{w:Af}{A:Ag}{E:Aa->Ab->Prop}{s:Ab}
end
end di
namespace L2
open PySem PySem.Spec PyProof.Rows PySem.W di
def gj(d:Addr)(es:Array Ah)(ep:Nat):HO:=.ext λh=>Raw h d es ep/\(d == sysModules)=false
theorem l8_{X:Cx}{pins:List (Addr × Obj)}{σ:St}{H:Hp}{s:Ab}{d:Addr}{es:Array Ah}{ep:Nat}(I:Inv X pins σ H s)(e:H d\gj d es ep):Raw s.heap d es ep/\(d == sysModules)=false:=
 (show eC X.prog X.w H s.heap d (gj d es ep) from I.aI d _ e).1
theorem SO{P:Ad}{w:Af}{H:Hp}{h:Heap}{d:Addr}{es:Array Ah}{ep:Nat}(r:Raw h d es ep)(hd:(d == sysModules)=false):eC P w H h d (gj d es ep):=
 #[#[r,hd],(let #[o,e,_]:=r;#[o,e]),λh1 h2 ⟨a,b⟩ k=>#[a.d5 k,b]]
section
variable{X:Cx}{o i e value:Expr}{pos pos' pB:Pos}{td ty tv:TE}
end
section
variable{X:Cx}
end
end L2
namespace L2
open PySem PySem.Spec PyProof.Rows PySem.W di
abbrev dg:=ay × Int
def eQ(m:dg):ay × Key:=(m.1,Sum.inl m.2)
theorem UR{a b:dg}(h:eQ a=eQ b):a=b:=by
 let h1:=d9 Prod.fst h;let h2:=d9 Prod.snd h;exact Prod.ext h1 (Sum.inl.inj h2)
def gS(H:Hp)(b:Addr)(m:dg):Prop:=∃c,H b\.tup [.ref c,.int m.2]/\H c\.tup (m.1.map kV)
def ku(P:Ad)(w:Af)(H:Hp)(d:Addr)(kvs:List (dg × V)):Prop:=∃(es:Array Ah) (ep:Nat) (xs:List ((ay × Key) × Addr × Aa)),H d\gj d es ep/\es.toList=xs.map (entryOfKey (Ih (eB P w)))/\Paired (λ(p:dg × V) (q:(ay × Key) × Addr × Aa)=>eQ p.1=q.1/\gS H q.2.1 p.1/\RelV p.2 q.2.2) kvs xs/\(kvs.map (·.1)).Nodup
theorem gS.keep{H H':Hp}{b:Addr}{m:dg}(h:gS H b m)(k:∀c xs,H c\.tup xs->H' c\.tup xs):gS H' b m:=by
 let#[c,h1,h2]:=h;exact#[c,k _ _ h1,k _ _ h2]
theorem ku.keys{P:Ad}{w:Af}{H:Hp}{kvs:List (dg × V)}{xs:List ((ay × Key) × Addr × Aa)}(h:Paired (λ(p:dg × V) (q:(ay × Key) × Addr × Aa)=>eQ p.1=q.1/\gS H q.2.1 p.1/\RelV p.2 q.2.2) kvs xs):xs.map (·.1)=(kvs.map (·.1)).map eQ:=by
 induction h with
 |nil=>rfl
 |cons h t ih=>rw[eD,eD,eD,ih,h.1]
section
variable{X:Cx}{pins:List (Addr × Obj)}{σ:St}{H:Hp}{s:Ab}
theorem Kd{P:Ad}{w:Af}{H:Hp}{h:Heap}{b:Addr}{m:dg}(ok:eG P w H h)(e:gS H b m):(Ih (eB P w)).is h (eQ m) b:=by
 let#[c,h1,h2]:=e;let#[_,its,r,#[o,q1,q2,n,q3],_]:=(show eC P w H h b (.tup [.ref c,.int m.2]) from ok b _ h1);let#[u,v,rfl,r1,r2]:=vals2 r;cases r1;exact#[o,n,c,v,q1,q2,q3,Ds ok h2,vw (k:=Sum.inl m.2) r2]
theorem N2{d:Addr}{kvs:List (dg × V)}(I:Inv X pins σ H s)(h:ku X.prog X.w H d kvs):(d == sysModules)=false/\∃(es:Array Ah) (ep:Nat) (xs:List ((ay × Key) × Addr × Aa)),H d\gj d es ep/\s.heap.DictOfH (Ih (eB X.prog X.w)) d xs/\Paired (λ(p:dg × V) (q:(ay × Key) × Addr × Aa)=>eQ p.1=q.1/\gS H q.2.1 p.1/\RelV p.2 q.2.2) kvs xs:=by
 let#[es,ep,xs,e,ee,pr,nd]:=h;let#[#[o,ho,hc,hd],hs]:=l8_ I e;apply#[hs,es,ep,xs,e,#[o,es,ep,ho,hc,hd,ee,λx hx=>?_,?_],pr]
 ·let#[i,hi,ex]:=lj hx;let le:=bK pr;let#[a,b,_]:=ie pr i Z1 hi;rw[ex] at a b;rw[<- a];exact Kd I.aI b
 rw[ku.keys (P:=X.prog) (w:=X.w) pr,uQ,vM];exact (uQ.mp nd).imp λn e=>n (UR e)
theorem Ji{kvs:List (dg × V)}{xs:List ((ay × Key) × Addr × Aa)}(h:Paired (λ(p:dg × V) (q:(ay × Key) × Addr × Aa)=>eQ p.1=q.1/\gS H q.2.1 p.1/\RelV p.2 q.2.2) kvs xs)(m:dg):(m∉kvs.map (·.1)->atKey xs (eQ m)=none)/\∀v,(m,v)∈kvs->(kvs.map (·.1)).Nodup->∃p,atKey xs (eQ m)\p/\RelV v p.2:=by
 induction h with
 |nil=>exact#[λ_=>rfl,λv h=>by cases h]
 |@cons p q ps qs hq t ih=>
  let#[e,_,r]:=hq;by_cases z:p.1=m
  ·have e2:atKey (q::qs) (eQ m)\q.2:=by simp[atKey,xQ,<- e,z]
   apply#[λn=>absurd (by simp[z]) n,λv hv nd=>#[q.2,e2,?_]];rcases cQ.mp hv with hv|hv
   ·rw[<- hv] at r;exact r
   rw[eD,oY] at nd;exact absurd (bJ.mpr #[_,hv,z.symm]) nd.1
  have e2:atKey (q::qs) (eQ m)=atKey qs (eQ m):=by
   have:¬q.1=eQ m:=λy=>z (UR (e.trans y));simp[atKey,xQ,this]
  rw[e2];apply#[λn=>ih.1 λy=>n (by rw[eD];exact fb _ y),λv hv nd=>?_];rw[eD,oY] at nd;rcases cQ.mp hv with hv|hv
  ·rw[<- hv] at z;exact absurd Z z
  exact ih.2 v hv nd.2
theorem Oz{A:Ag}(hu:A.units+2<cLine):(Ih (eB X.prog X.w)).room A.in1:=by
 show A.units+1+1<cLine;omega
end
section
variable{X:Cx}{o i value:Expr}{pos pos':Pos}{td ty tv:TE}
def Ai:TE:=λ_ H Q=>∀p,H p=none->Q (.ref p) (upd H p (gj p #[] 0))
theorem jd_:PE X (.Dict [] [] pos) Ai:=λpins s σ H Q I h=>
 wpAny_Dict_empty #[.ref s.heap.objs.size,_,I.laid (a:=s.heap.objs.size) (o:=gj s.heap.objs.size #[] 0) (t':=s.toks) (λ_ _ q=>cj _ q) (bj _) (SO #[_,eh _ Z,#[Z,Z,Z],Z] (beq_eq_false_iff_ne.mpr (Ne.symm (dZ I.big)))),Z,h _ (I.aI.fresh (bj _))]
theorem jP_{P:Ad}{w:Af}{H:Hp}{d:Addr}:ku P w (upd H d (gj d #[] 0)) d []:=#[#[],0,[],au,Z,.nil,List.nodup_nil]
inductive rg (P:Ad) (w:Af) (Q:VK) (y:V) (x:V) (H2:Hp):Prop
 |mk:∀(d b:Addr) (m:dg) (kvs:List (dg × V)),x=.ref d->y=.ref b->gS H2 b m->ku P w H2 d kvs->(∀z:Bool,(z=true ↔ m∈kvs.map (·.1))->Q (.bl z) H2)->rg P w Q y x H2
def Eo(P:Ad)(w:Af)(ty td:TE):TE:=λσ H Q=>ty σ H λy H1=>td σ H1 λx H2=>rg P w Q y x H2
theorem kD_(hu:X.A.units+2<cLine)(hi:PE X i ty)(ho:PE X o td):PC X .In i o (Eo X.prog X.w ty td):=by
 intro pins s σ H Q I h;apply aV (hi pins s σ H _ I h) λiv s1 ⟨y,H1,I1,ry,q1⟩=>aV (ho pins s1 σ H1 _ I1 q1) λu s2 ⟨x,H2,I2,rx,d,b,m,kvs,ex,ey,mk,ms,q2⟩=>?_;subst ex ey;cases (show u=Value.ref d from rx);cases (show iv=Value.ref b from ry);let#[_,_,_,_,_,_,nd]:=id ms;let#[hs,es,ep,xs,e,dd,pr]:=N2 I2 ms;apply wpAny_in_heap (Oz hu) (Kd I2.aI mk) hs dd ?_;apply#[.bl _,H2,I2.tok _,Z,q2 _ ?_];by_cases z:m∈kvs.map (·.1)
 ·let#[#[m',v],hv,em]:=bJ.mp z;cases em;let#[p,hp,_]:=(Ji pr m').2 v hv nd;rw[hp];exact#[λ_=>z,λ_=>rfl]
 rw[(Ji pr m).1 z];exact#[λh=>(by cases h),λh=>absurd h z]
inductive nU (P:Ad) (w:Af) (Q:VK) (x:V) (y:V) (H2:Hp):Prop
 |mk:∀(d b:Addr) (m:dg) (kvs:List (dg × V)) (v:V),x=.ref d->y=.ref b->gS H2 b m->ku P w H2 d kvs->(m,v)∈kvs->Q v H2->nU P w Q x y H2
def Ak(P:Ad)(w:Af)(td ty:TE):TE:=λσ H Q=>td σ H λx H1=>ty σ H1 λy H2=>nU P w Q x y H2
theorem U2(hu:X.A.units+2<cLine)(ho:PE X o td)(hi:PE X i ty)(hs:xY i):PE X (.Subscript o i pos) (Ak X.prog X.w td ty):=by
 intro pins s σ H Q I h;apply Ou PySem.F.slot_dict_getitem.lookup hs (aV (ho pins s σ H _ I h) λu s1 ⟨x,H1,I1,rx,q1⟩=>aV (hi pins s1 σ H1 _ I1 q1) λiv s2 ⟨y,H2,I2,ry,d,b,m,kvs,v,ex,ey,mk,ms,mv,q2⟩=>?_);subst ex ey;cases (show u=Value.ref d from rx);cases (show iv=Value.ref b from ry);let#[_,_,_,_,_,_,nd]:=id ms;let#[hs,es,ep,xs,e,dd,pr]:=N2 I2 ms;let#[p,hp,rp]:=(Ji pr m).2 v mv nd;exact#[dd.typeIs,wpAny_getItem_heap (Oz hu) (Kd I2.aI mk) dd hp #[v,H2,I2.tok _,rp,q2]]
inductive oy (P:Ad) (w:Af) (D:Ends) (σ:St) (v:V) (x:V) (y:V) (H3:Hp):Prop
 |mk:∀(d b:Addr) (m:dg) (kvs:List (dg × V)),x=.ref d->y=.ref b->gS H3 b m->ku P w H3 d kvs->m∉kvs.map (·.1)->kvs.length<sizeLine->(∀H4,(∀c o,H3 c\o->c≠d->H4 c\o)->ku P w H4 d (kvs++[(m,v)])->D.nx σ H4)->oy P w D σ v x y H3
def AI(P:Ad)(w:Af)(td ty tv:TE):TS:=λD σ H=>tv σ H λv H1=>td σ H1 λx H2=>ty σ H2 λy H3=>oy P w D σ v x y H3
theorem iW_(hu:X.A.units+2<cLine)(ho:PE X o td)(hi:PE X i ty)(hv:PE X value tv)(hs:swapsWith value (some (.Subscript o i pos')) pos.line X.env=pure false) :
  PS X (.Assign [.Subscript o i pos'] value pos) (AI X.prog X.w td ty tv):=by
 intro pins s σ H D I h;apply wpAny_Assign_Subscript (aV (hv pins s σ H _ I h) λr s1 ⟨v,H1,I1,rv,q1⟩=>aV (ho pins s1 σ H1 _ I1 q1) λu s2 ⟨x,H2,I2,rx,q2⟩=>aV (hi pins s2 σ H2 _ I2 q2) λiv s3 ⟨y,H3,I3,ry,d,b,m,kvs,ex,ey,mk,ms,nm,hz,q3⟩=>?_) hs;subst ex ey;cases (show u=Value.ref d from rx);cases (show iv=Value.ref b from ry);let#[_,_,_,_,_,_,nd]:=id ms;let#[hs,es,ep,xs,e,dd,pr]:=N2 I3 ms;let le:=bK pr;apply wpAny_setItem_heap (hsz:=by omega) (Oz hu) (Kd I3.aI mk) dd λh' uw hsb=>?_;let#[q,zq,zr,hq,h2,h3,h4,_,h5]:=uw;have LP:Raw h' d zq zr:=#[q,hq,h2,h3];let I4:=J5 (t':=s3.toks+(Ih (eB X.prog X.w)).draws (eQ m)) I3 (by rw[e];exact True.intro) hsb #[q,hq] (SO LP hs)
 have kt:∀c xs,H3 c\.tup xs->upd H3 d (gj d zq zr) c\.tup xs:=λc xs ec=>by
  rw[aD (cb ec e nofun)];exact ec
 apply#[σ,_,I4,q3 _ (λc o e n=>by rw[aD n];exact e) #[zq,zr,_,au,h4,?_,?_]]
 ·have st:storedH xs (eQ m) b r=xs++[(eQ m,b,r)]:=by
   unfold storedH;rw[(Ji pr m).1 nm];rfl
  rw[st];exact Paired.snoc (Paired.bN pr λp q ⟨a,b,c⟩=>#[a,b.keep kt,c]) #[Z,mk.keep kt,rv]
 rw[dC,List.nodup_append];apply#[nd,by simp,λa ha b hb=>?_];rw[show b=m by simpa using hb];intro z;rw[z] at ha;exact nm ha
end
end L2
namespace di
open PySem PySem.W PyProof.Rows
section
variable{prog:Ad}{w:Af}{A:Ag}{E:Aa->Ab->Prop}{s:Ab}
inductive Src (h:Heap) (it l:Addr) (i:Nat) (xs:Array Aa):Prop
 |lst (a:h.IsListIter it l i) (b:h.IsList l xs):Src h it l i xs
 |tup (a:h.IsTupleIter it l i) (b:h.IsTuple l xs):Src h it l i xs
abbrev Zp(h:Heap)(z TI TO:Addr)(f0:Aa)(f1:Bool):Prop:=h.get? z=some { cls:=.type "zip",dict:=none,data:=.fields (List.toArray [f0,.bool f1,.bool false,.ref TI,.ref TO]),slots:=#[] }
abbrev K0(h:Heap)(T:Addr)(xs:Array Aa):Prop:=h.get? T=some { cls:=.type "tuple",data:=.seq xs }
structure WT (h:Heap) (z TI TO i1 i2 i3 l1 l2 l3:Addr) (k:Nat) (xs ys zs:Array Aa):Prop where
 nd:[z,TO,i1,i2,i3].Nodup
 ti:TI∉[z,TO,i1,i2,i3]
 ls:∀l∈[l1,l2,l3],l∉[z,TO,i1,i2,i3]
 hI:K0 h TI (List.toArray [.ref i1,.ref i2,.ref i3])
 hO:∃a b c,K0 h TO (List.toArray [a,b,c])
 s1:Src h i1 l1 k xs
 s2:Src h i2 l2 k ys
 s3:Src h i3 l3 k zs
end
end di
namespace di
open PySem PySem.W PyProof.Rows
section
variable{prog:Ad}{w:Af}{A:Ag}{E:Aa->Ab->Prop}{s:Ab}
end
end di
namespace L2
open PySem PySem.Spec PyProof.Rows PySem.W di
end L2
namespace di
open PySem PySem.W PyProof.Rows
section
variable{prog:Ad}{w:Af}{A:Ag}{E:Aa->Ab->Prop}{s:Ab}
structure Two (h:Heap) (z TI TO i1 i2 l1 l2:Addr) (k:Nat) (xs ys:Array Aa):Prop where
 nd:[z,TO,i1,i2].Nodup
 ti:TI∉[z,TO,i1,i2]
 ls:∀l∈[l1,l2],l∉[z,TO,i1,i2]
 hI:K0 h TI (List.toArray [.ref i1,.ref i2])
 hO:∃a b,K0 h TO (List.toArray [a,b])
 s1:Src h i1 l1 k xs
 s2:Src h i2 l2 k ys
 hz:Zp h z TI TO .none false∨∃T o f1,T∉[z,TO,i1,i2]/\h.get? T\o/\Zp h z TI TO (rawInt T) f1
end
end di
namespace di
open PySem PySem.W PyProof.Rows
section
variable{prog:Ad}{w:Af}{A:Ag}{E:Aa->Ab->Prop}{s:Ab}
end
end di
namespace di
open PySem PySem.W PyProof.Rows
section
variable{prog:Ad}{w:Af}{A:Ag}{E:Aa->Ab->Prop}{s:Ab}
end
section
variable{prog:Ad}{w:Af}{K:Type}[DecidableEq K]{knd:PySem.KeyKind prog w K}{A:Ag}
end
end di
namespace di
open PySem PySem.W PyProof.Rows
section
variable{prog:Ad}{w:Af}{A:Ag}{E:Aa->Ab->Prop}{s:Ab}
end
end di
namespace L2
open PySem PySem.Spec PySem.Calls PyProof.Rows PySem.W di
end L2
namespace di
open PySem PySem.W PyProof.Rows
section
variable{prog:Ad}{w:Af}{A:Ag}{E:Aa->Ab->Prop}{s:Ab}
end
end di
namespace di
open PySem PySem.W PyProof.Rows
section
variable{prog:Ad}{w:Af}{A:Ag}{E:Aa->Ab->Prop}{s:Ab}
end
end di
namespace L2
open PySem PySem.Spec PyProof.Rows PySem.W di
end L2
namespace L2
open PySem PySem.Spec PyProof.Rows PySem.W di
section
variable{X:Cx}
end
section
variable{X:Cx}{CX:jF}{k:Nat}{f C:Addr}{fd:Ae}{ps ks:ae}{sp:Sp}{E:XK}{m:Str}{pos apos:Pos}{e o:Expr}{es:List Expr}{CK:List Keyword}{ta:TE}{t tk:TA}{g:aj->aj->aj}{gV:ag->ag->ag}
end
structure FunD (K:af) (x qual:Str) (st:Stmt) (f:Addr) (fd:Ae):Prop where
 ex:∃(oc:Aa) (od:Option Addr) (T:Addr) (kV doc pm:Aa) (an:Option Addr) (aO ct:Aa) (i8:Array (Option Aa)) (o:Obj) (n:Nat),
  fd=PySem.W.fnOf x qual (jh st) (ib st) (a9 st) (.ref T) kV doc pm an aO ct/\K.lookup f=some ⟨oc,od,.func fd,i8⟩/\PySem.W.codeIn K aO qual=true/\K.lookup T\o/\o.data=.seq (List.toArray [.none]) n
end L2
namespace L2
open PySem PySem.Spec PyProof.Rows PySem.W di
open AutoSeq1 (wpAny_loadPart')
theorem da_{prog:Ad}{w:Af}(r:Addr)(o:Obj)(hc:o.cls=.type "dict_values")(φ:aj->Ab->Prop) :
  MeetsIn prog w (Builtin.«tuple.__new__» ⟨[.type "tuple",.ref r],[]⟩) (λA R s=>s.heap.get? r\o/\A.handled=none/\(∀(A':Ag) (E':Aa->Ab->Prop) (Rr:aj->Ab->Prop),A'.handled=none->(∀vs s1,φ vs s1->Rr vs s1)->wpAny (model prog w) A' (collect (.ref r)) Rr E' s)/\∀vs s1,φ vs s1->vs.length<=sizeLine/\R (.ok (.ret (.ref s1.heap.objs.size))) { s1 with heap:=s1.heap.push { cls:=.type "tuple",data:=.seq vs.toArray } }):=
 .of_wp λA R s h=>by
  let#[hp,g,d,tk,os]:=s;let#[ht,hh,col,h]:=h;let hsub:=sub_tuple_self;let Tw:=init_tuple_lookup;let hmh:=madeHere_tuple;have hT:Shared.TypeIs #[hp,g,d,tk,os] (.ref r) "dict_values":=#[o,ht,hc];have PY:∀{Rr:aj->Ab->Prop} {E':Aa->Ab->Prop},(∀vs s1,φ vs s1->Rr vs s1)->wpAny (model prog w) A.in1 (collect (.ref r)) Rr E' #[hp,g,d,tk,os]:=λh=>col A.in1 _ _ hh h
  wp_walk using p4 ht,wpAny_typeOf hT,PY
  intro vs s1 hv;let#[hz,h]:=h vs s1 hv;apply (show wpAny _ _ (Builtin.Tuple.tupleExact vs.toArray >>= λv=>ret v) _ _ _ from ?_);unfold Builtin.Tuple.tupleExact;apply aq (mU ?_ (by show vs.toArray.size<=sizeLine;simpa using hz));exact aU #[_,Z,h]
section
variable{X:Cx}
inductive yC (xs:ag) (H:Hp) (Q:VK):Prop
 |mk:∀v d kvs,xs=[.ref v]->H v\vz v d->H d\.dK kvs->(∀l,H l=none->Q (.ref l) (upd H l (.tup (kvs.map (·.2)))))->yC xs H Q
theorem i6_(hc:X.calm=true):gB X (.type "tuple") yC:=by
 intro pins s σ H xs us Q I r h;let#[v,d,kvs,rfl,hv,hd,q]:=h;let#[u,rfl,ru]:=vals1 r;cases ru;let#[z,hdn,vs,rel,dd]:=mT I.aI (.inl hd);let#[ep,dat]:=dd.dictAt;let#[iv,_,_]:=I.aI v _ hv;let hl:=rel.length;let#[o,ho,oc,_]:=id iv
 have col:∀(A':Ag) (E':Aa->Ab->Prop) (Rr:aj->Ab->Prop),A'.handled=none->(∀ws s1,(Inv X pins σ H s1/\Vals (kvs.map (·.2)) ws)->Rr ws s1)->wpAny (model X.prog X.w) A' (collect (.ref v)) Rr E' s:=λA' E' Rr hh q=>by
  apply kdu_collect (kdl_values (knd:=eB X.prog X.w) (kvs:=vs) (ep:=ep)) hh #[iv,dat] Z1 λh' tk acc k a=>q _ _ #[I.kept k,?_];have a':ItemsOf (λi v=>∃k,vs[i]? = some (k,v)) acc (kvs.map (·.2)).length:=by rw[aA,hl];exact a
  apply KL a' λj v ⟨k,e⟩ y hy=>?_;rw[dS] at hy;cases e3:kvs[j]? with
  |none=>rw[e3] at hy;cases hy
  |some kv=>
   rw[e3] at hy;let#[u,hu,ru]:=Nv rel j (k:=kv.1) (x:=kv.2) e3;rw[e] at hu;let hu:=dY hu;have g2:v=u:=d9 Prod.snd hu;cases (dY hy:kv.2=y);rw[g2];exact ru
 apply callType_newIn F.called_tuple (by decide) (F.typeCall_tuple_1 _) (F.newCall_tuple_1 _) (λobj=>F.args_object_init_2 obj _) F.entry_tuple_new
  (da_ v o oc λws s1=>Inv X pins σ H s1/\Vals (kvs.map (·.2)) ws) #[ho,I.ok.hd hc,col,λws s1 ⟨I1,r1⟩=>#[?_,#[_,eh _ Z,Z],?_]]
 ·rw[<- r1.length,aA];exact z
 exact#[.ref s1.heap.objs.size,_,I1.laid (t':=s1.toks) (λb o e=>cj _ e) (bj _) (show eC X.prog X.w _ _ _ (.tup (kvs.map (·.2))) from #[by rw[aA];exact z,ws,r1,IsTup.new _ _,_,eh _ Z,Z]),Z,q _ (I1.aI.fresh (bj _))]
end
end L2
namespace Ev
open PySem L2
def qk(r:Rl)(hs:Xa)(ts:Xb)(qs:aL)(f:ao)(i:Nat):dg:=(qs.map λq=>Sum.inr (runM r hs ts qs f i q.1),((i % gc r ts:Nat):Int))
def JB(r:Rl)(hs:Xa)(ts:Xb)(qs:aL)(f:ao)(i:Nat):Prop:=fE r hs ts qs (runM r hs ts qs f i)=false/\∀j:Nat,j<i->qk r hs ts qs f j≠qk r hs ts qs f i
def EH(r:Rl)(hs:Xa)(ts:Xb)(qs:aL)(f:ao)(n:Nat)(v:V)(H:Hp):Prop:=
 (∃(t d:Addr) (i:Nat),v=.ref t/\i<=n/\(∀j:Nat,j<i->JB r hs ts qs f j)/\fE r hs ts qs (runM r hs ts qs f i)=true/\H t\.tup [.str "rest",.int i,.ref d]/\H d\.dK (bZ (qs.map (·.1)) (runM r hs ts qs f i))) ∨
 (∃(t:Addr) (i j:Nat),v=.ref t/\i<=n/\(∀j:Nat,j<i->JB r hs ts qs f j)/\fE r hs ts qs (runM r hs ts qs f i)=false/\j<i/\qk r hs ts qs f j=qk r hs ts qs f i/\H t\.tup [.str "ring",.int j,.int ((i:Int) - j)]) ∨
 ∃t:Addr,v=.ref t/\(∀j:Nat,j<=n->JB r hs ts qs f j)/\H t\.tup [.str "more"]
theorem ku.nt{P:Ad}{w:Af}{H H':Hp}{d:Addr}{kvs:List (dg × V)}(h:ku P w H d kvs)(s:NT H H'):ku P w H' d kvs:=by
 let#[es,ep,xs,e,ee,pr,nd]:=h;exact#[es,ep,xs,s _ _ e nofun,ee,Paired.bN pr λp q ⟨a,b,c⟩=>#[a,b.keep λc xs e=>s _ _ e nofun,c],nd]
theorem eX_{d:Addr}{es:Array Ah}{ep:Nat}{q:Str}:zw d q≠gj d es ep:=by
 intro z
 injection z with z
 have hg:(Heap.mk (Array.replicate (d+1) { (default:Obj) with data:=.fields (List.toArray [.none,.str q default]) }) {}).get? d=some { (default:Obj) with data:=.fields (List.toArray [.none,.str q default]) }:=by
  unfold Heap.get?;simp only[Array.getElem?_replicate,Nat.lt_succ_self,if_true]
 let c:=(congrFun z (Heap.mk (Array.replicate (d+1) { (default:Obj) with data:=.fields (List.toArray [.none,.str q default]) }) {})).mp #[_,_,_,hg,Z,Z];let#[#[o',e,_,dd],_]:=c;rw[hg] at e;cases e;cases dd
def hV(r:Rl)(hs:Xa)(ts:Xb)(qs:aL)(f:ao)(i:Nat):List (dg × V):=(List.range i).map λj=>(qk r hs ts qs f j,V.int j)
theorem VH{r:Rl}{hs:Xa}{ts:Xb}{qs:aL}{f:ao}{i:Nat}{m:dg}:m∈(hV r hs ts qs f i).map (·.1) ↔ ∃j:Nat,j<i/\qk r hs ts qs f j=m:=by
 unfold hV;rw[cu,bJ];constructor
 ·rintro⟨j,hj,e⟩;exact#[j,List.mem_range.mp hj,e]
 rintro⟨j,hj,e⟩;exact#[j,List.mem_range.mpr hj,e]
theorem im_(qs:aL)(f:ao):(bZ (qs.map (·.1)) f).map (·.2)=(qs.map λq=>(Sum.inr (f q.1):Key)).map kV:=by
 unfold bZ dP;simp only[cu];exact uP λq _=>rfl
section
variable{P:Ad}{w:Af}{K:af}{mg:Str->Option Aa}{base:Heap}{CG CW T1 T2:Addr}
abbrev Y_:ae:=["goods","stand","rule","most","placed","rows","first_by_mark","moment","mark"]
theorem Cg:br Y_ ["goods","stand","rule","most"] (a9 l_):=bF
inductive lJ (K:af) (CG CW T1 T2:Addr) (vs:ag) (H:Hp) (Q:VK) (E:XK):Prop
 |mk:∀(g p d:Addr) (n:Nat) (hs:Xa) (ts:Xb) (qs:aL) (fp:ai) (ns:ae) (f:ao),∀r∈rl,vs=[.ref g,.ref d,.str r.1,.int n]->n<=3000->nE K CG CW H g p d hs ts qs fp ns f->Wd hs ts qs f->Tb H T1 T2->(∀v' H',BT T1 T2 H H'->Tb H' T1 T2->EH r hs ts qs f n v' H'->Q v' H')->lJ K CG CW T1 T2 vs H Q E
theorem jE_{f0:Addr}{fd:Ae}(F:bg K "run_of" "run_of" l_ f0 fd)(B:Bi mg)(TG:dA K CG)(BY:!bc 3 BF qy (Ho K CG CW))(cI:!bc 2 "is_whole_from" BH (QL K))(B0:!bc 4 "rows_by" ["web","rule"] (Hg K CW))(qx:!bc 9 "rests_at" Dc (DA K CG CW T1 T2))(Hy:!bc 9 "placed_after" ki (GU K CG CW T1 T2)):!ak ba 10 f0 fd ["goods","stand","rule","most"] (lJ K CG CW T1 T2):=by
 apply F.ok Cg (λvs H Q E h=>?_) (λaO A outer s H vs Q E hr h=>?_)
 ·let#[g,p,d,n,hs,ts,qs,fp,ns,f,r,bQ,rfl,_]:=h;rfl
 let#[g,p,d,n,hs,ts,qs,fp,ns,f,r,bQ,rfl,n3,S,W,tb,k]:=h;let sz:=b_;let Jm:=j6 hr 1;refine' ⟨_,?r0,?kk⟩
 case' r0=>refine' ax ?s1 ?r1
 case s1=>exact bh 4 Cg.nd (aP BY hr %[0,1,2|0])
 case' r1=>refine' ax ?s2 ?r2
 case s2=>exact bw (eF (dF (aP cI hr %[3,az|0]))) eE bx
 case' r2=>refine' ax ?s3 ?r3
 case s3=>exact bh 5 Cg.nd (aP B0 hr %[dz (pv 0) Z,2|0])
 case' r3=>refine' ax ?s4 ?r4
 case s4=>exact bh 6 Cg.nd jd_
 case' r4=>refine' ax ?s5 (aC ?s6)
 case' s5=>refine' fC eS Z (B9 (by rfl) B.range %[bu fH (pv 3) az|0]) (cq 7 Cg.nd) (ax ?b1 (ax ?b2 (ax ?b3 (ax ?b4 (aC ?b5)))))
 case b1=>exact bw (dF (aP qx hr %[0,4,2|0])) (aC (aY (dR %[ck,7,4|0]))) bx
 case b2=>exact bh 8 Cg.nd (dR %[iH (i6_ Z) (by rfl) B.tuple vE %[VG (pv 4)|0],bu pY (pv 7) (pv 5)|0])
 case b3=>exact bw (xv (kD_ Jm (pv 8) (pv 6))) (aC (aY (dR %[ck,U2 Jm (pv 6) (pv 8) (λ_ _=>rfl),bu xw (pv 7) (U2 Jm (pv 6) (pv 8) (λ_ _=>rfl))|0]))) bx
 case b4=>exact iW_ Jm (pv 6) (pv 8) (pv 7) Z
 case b5=>exact bh 4 Cg.nd (aP Hy hr %[0,4,2,7|0])
 case s6=>exact aY (iH (JS (K:=K)) (by rfl) B.tuple vE %[dE %[ck|0]|0])
 have one:1<=sizeLine:=by decide
 have AY:∀{a:Addr},H a=none->a∉fp:=λna m=>by
  let#[o,e,_]:=S.has _ m;rw[e] at na;cases na
 apply#[_,Z,_,Z,_,Z,_,_,r,bQ,Z,#[g,p,d,hs,ts,qs,fp,ns,f,Z,S.G,S.jc,S.hd,S.so,W.nd,W.bR,λdp H1 s1 n1 e1=>?_]];lk;apply#[_,Z,_,0,_,Z,.inl #[n,Z,Z],_,Z,?_];rw[bP (show (0:Int)<=(n:Int) by omega)];apply aQ ?_;let G1:=S.G.same s1;let#[gA,dw,dy,vs,bM,g1,g2,_]:=id G1.ex;apply#[_,Z,g,CG,gA,_,_,Z,g1,TG.cl,TG.nW,jB _ _ _,_,Z,p,hs,ts,bM,r,bQ,Z,g2,W.Gd.qf,λH2 s2=>?_];lk;intro dm nm;let sm:=aa.new (o:=gj dm #[] 0) nm;have M0:ku P w (upd H2 dm (gj dm #[] 0)) dm []:=jP_;generalize upd H2 dm (gj dm #[] 0)=H3 at sm M0 ⊢;lk;let pH:=(s1.trans s2).trans sm;let ZU:=(s1.trans s2).free nm;apply#[_,Z,_,_,Z,Z,_,Z,by omega,by omega,?_];apply B_ (λi σ H'=>∃(v7 v8:aN) (dp:Addr),σ=[some (.ref g),some (.ref d),some (.str r.1),some (.int n),some (.ref dp),some (.int (gc r ts)),some (.ref dm),v7,v8]/\BT T1 T2 H H'/\Tb H' T1 T2/\dp≠dm/\H dp=none/\H' dp\.dK (bZ (qs.map (·.1)) (runM r hs ts qs f i))/\ku P w H' dm (hV r hs ts qs f i)/\∀j:Nat,j<i->JB r hs ts qs f j) #[none,none,dp,Z,BT.of pH,#[tb.a.same pH,tb.b.same pH,tb.ne],?_,n1,sm _ _ (s2 _ _ e1),M0,by omega] ?_ ?_
 ·exact bE (s2 _ _ e1) nm
 ·rintro i σ H4 hi ⟨v7,v8,dp,rfl,b4,eN,VZ,np,e4,M4,go⟩;lk;let iO:=b4.nt tb;let Wi:=W.run r i;have PD:∀{G:Hp},NT H G->Tb G T1 T2->G dp\.dK (bZ (qs.map (·.1)) (runM r hs ts qs f i))->zU K CG CW T1 T2 G g p dp hs ts qs fp (runM r hs ts qs f i):=λnt tb e=>#[#[S.G.nt nt,W.Gd,AY np,e,Wi.at_,W.nd,W.bR],Wi,tb,λb hb=>let #[o,e,q]:=S.has b hb;#[o,nt _ _ e q]];apply#[_,Z,_,Z,_,Z,g,p,dp,hs,ts,qs,fp,_,r,bQ,Z,PD iO eN e4,λH5 b5 ij=>?_];let p8:=b4.trans b5;let E1:=p8.nt tb;let E2:=b5.nt eN;let e5:=E2.dK e4;let M5:=ku.nt M4 E2;apply#[_,Z,aM (λc=>?_) (λc=>?_)]
  ·apply#[_,Z,_,Z,zl,λt nt=>?_];let s6:=aa.new (o:=.tup [.str "rest",.int (0+(i:Int)),.ref dp]) nt;apply k _ _ (p8.trans (BT.of s6)) #[ij.a.same s6,ij.b.same s6,ij.ne] (.inl #[t,dp,i,Z,by omega,go,c,?_,s6 _ _ e5]);rw[au,Int.zero_add]
  have c:fE r hs ts qs (runM r hs ts qs f i)=false:=⇑c
  apply#[_,Z,dp,_,Z,e5,λv hv=>?_];let#[s6,e6]:=bp (o:=vz v dp) hv;generalize upd H5 v (vz v dp)=H6 at s6 e6 ⊢;apply#[v,dp,_,Z,e6,s6 _ _ e5,λl nl=>?_];let s7:=aa.new (o:=.tup ((bZ (qs.map (·.1)) (runM r hs ts qs f i)).map (·.2))) nl
  have e7:upd H6 l (.tup ((bZ (qs.map (·.1)) (runM r hs ts qs f i)).map (·.2))) l\.tup ((qk r hs ts qs f i).1.map kV):=by
   rw[au,im_];rfl
  generalize upd H6 l (.tup ((bZ (qs.map (·.1)) (runM r hs ts qs f i)).map (·.2)))=H7 at s7 e7 ⊢;let rp:=P_ r ts;apply#[_,Z,_,Z,_,_,Z,Z,by omega,zl,λt nt=>?_];let s8:=aa.new (o:=.tup [.ref l,.int ((0+(i:Int)) % ((gc r ts:Nat):Int))]) nt
  have e8:upd H7 t (.tup [.ref l,.int ((0+(i:Int)) % ((gc r ts:Nat):Int))]) t\.tup [.ref l,.int (qk r hs ts qs f i).2]:=by
   rw[au,Int.zero_add];rfl
  generalize upd H7 t (.tup [.ref l,.int ((0+(i:Int)) % ((gc r ts:Nat):Int))])=H8 at s8 e8 ⊢;lk;let EF:=(s6.trans s7).trans s8;have mk:gS H8 t (qk r hs ts qs f i):=#[l,e8,s8 _ _ e7];let M8:=ku.nt M5 (NT.of EF);let KZ:=p8.trans (BT.of EF);have qP:Tb H8 T1 T2:=#[ij.a.same EF,ij.b.same EF,ij.ne];apply#[_,Z,_,Z,dm,t,_,_,Z,Z,mk,M8,λz hz=>?_];apply#[_,Z,aM (λcz=>?_) (λcz=>?_)]
  ·let#[j,hj,ej]:=VH.mp (hz.mp cz)
   have mm:(qk r hs ts qs f i,V.int (j:Int))∈hV r hs ts qs f i:=by
    rw[<- ej];exact bJ.mpr #[j,List.mem_range.mpr hj,Z]
   apply#[_,Z,_,Z,dm,t,_,_,_,Z,Z,mk,M8,mm,?_];apply#[_,Z,_,Z,_,Z,dm,t,_,_,_,Z,Z,mk,M8,mm,_,_,Z,Z,zl,λa na=>?_];let s9:=aa.new (o:=.tup [.str "ring",.int (j:Int),.int (0+(i:Int) - (j:Int))]) na;apply k _ _ (KZ.trans (BT.of s9)) #[qP.a.same s9,qP.b.same s9,qP.ne] (.inr (.inl #[a,i,j,Z,by omega,go,c,hj,ej,?_]));rw[au,Int.zero_add]
  have nm:qk r hs ts qs f i∉(hV r hs ts qs f i).map (·.1):=λhm=>cz (hz.mpr hm)
  have lk:(hV r hs ts qs f i).length=i:=by
   unfold hV;rw[aA,List.length_range]
  apply#[_,Z,_,Z,_,Z,dm,t,_,_,Z,Z,mk,M8,nm,by omega,λH9 k9 M9=>?_]
  have M9:ku P w H9 dm (hV r hs ts qs f (i+1)):=by
   have e:hV r hs ts qs f (i+1)=hV r hs ts qs f i++[(qk r hs ts qs f i,V.int (0+(i:Int)))]:=by
    unfold hV;rw[List.range_succ,dC,Int.zero_add];rfl
   rw[e];exact M9
  let#[es8,ep8,_,em,_]:=id M8
  have kT:∀{T qn},cE H8 T qn->cE H9 T qn:=λ⟨es,a1,a2⟩=>#[es,k9 _ _ a1 (cb a1 em nofun),λx hx=>k9 _ _ (a2 x hx) (λz=>by
   let y:=a2 x hx;rw[z,em] at y;exact eX_ (dY y).symm)]
  have qO:Tb H9 T1 T2:=#[kT qP.a,kT qP.b,qP.ne];have QW:BT T1 T2 H H9:=λb o e y1 y2=>k9 b o (KZ b o e y1 y2) (bE e ZU);let e9:=k9 _ _ (EF _ _ e5) VZ;apply#[_,Z,_,Z,_,Z,_,Z,g,p,dp,0+(i:Int),hs,ts,qs,fp,_,r,bQ,Z,by omega,PD (QW.nt tb) qO e9,λdq Cp j7 Lg wI e10=>?_];lk;let#[es9,ep9,_,em9,_]:=id M9;apply#[_,_,dq,Z,QW.trans j7,Lg,(bE em9 wI).symm,?_,?_,ku.nt M9 (j7.nt qO),λj hj=>?_]
  ·cases z:H dq with
   |none=>rfl
   |some o=>
    by_cases y1:dq=T1
    ·let#[tv,hT]:=fu qO.a;rw[y1,hT] at wI;cases wI
    by_cases y2:dq=T2
    ·let#[tv,hT]:=fu qO.b;rw[y2,hT] at wI;cases wI
    rw[QW _ _ z y1 y2] at wI;cases wI
  ·rw[e10,Int.zero_add];rfl
  by_cases z:j<i
  ·exact go j z
  have:j=i:=by omega
  subst this;exact#[c,λj' Nk e=>nm (VH.mpr #[j',Nk,e])]
 rintro σ H4 ⟨v7,v8,dp,rfl,b4,eN,VZ,np,e4,M4,go⟩;apply#[one,λl nl=>?_];let#[s5,e5]:=bp (o:=.lst [.str "more"]) nl;generalize upd H4 l (.lst [.str "more"])=H5 at s5 e5 ⊢;apply#[l,_,Z,.inl #[.inl (.of e5),λt nt=>?_]];let s6:=aa.new (o:=.tup [.str "more"]) nt;let yA:=s5.trans s6;exact k _ _ (b4.trans (BT.of yA)) #[eN.a.same yA,eN.b.same yA,eN.ne] (.inr (.inr #[t,Z,λj hj=>go j Z1,au]))
end
end Ev
namespace L2
open PySem PySem.Spec PyProof.Rows PySem.W di
end L2
namespace di
open PySem PySem.W PyProof.Rows
end di
namespace L2
open PySem PySem.Spec PyProof.Rows PySem.W di
end L2
namespace HT
open PySem PySem.Spec PyProof.Rows PySem.W jE di
theorem ft{prog:Ad}{w:Af}{A:Ag}{E:Aa->Ab->Prop}{s:Ab}{t sl:Addr}{items:Array Aa}{vl vu:Aa}{lo hi:Option Int}{Q:Aa->Ab->Prop}(ht:IsTup s.heap t items)(hs:s.heap.IsSliceOf sl vl vu .none)(pl:IsPart vl lo)(pu:IsPart vu hi)
  (hw:bU items.size 0 lo=0/\bU items.size items.size hi=items.size) (h:Q (.ref t) s):wpAny (model prog w) A (getItem (.ref t) (.ref sl)) Q E s:=by
 let#[os,qq,xc,xa]:=id hs;have Bt:s.TypeIs (.ref sl) "slice":=#[os,qq,xc];unfold getItem
 try with_reducible apply mQ ?_
 first|refine aq (aU ?_)|skip
 apply aq (wpAny_sequenceKey ht.typeIs (by decide) ?_)
 apply aq (wpAny_callSpecial?_slot (name:=Str.ofString "__getitem__") ht.typeIs DF
  (wpAny_call_entry DF ht.typeIs entry_tuple_getitem ?_ (args_tuple_getitem _ _)))
 show wpAny _ _ (Builtin.Tuple.tupleItemsOf (.ref t) >>= _) _ _ s;apply aq (tupleItemsOf_ ht ?_);apply aq (wpAny_typeOf Bt ?_);rw[aH (by decide)];apply aq (WK hs pl pu ?_)
 have MI:(((bU items.size 0 lo:Nat):Int) == 0&&(1:Int) == 1&&(bU items.size items.size hi - bU items.size 0 lo) == items.size)=true:=by
  rw[hw.1,hw.2];simp
 show wpAny _ _ (if (((bU items.size 0 lo:Nat):Int) == 0&&(1:Int) == 1&&(bU items.size items.size hi - bU items.size 0 lo) == items.size)=true then _ else _) _ _ s;rw[aH MI];apply aq (m:=Builtin.Tuple.tupleIsExact _) ?_;apply aq (m:=typeOf _) (wpAny_typeOf ht.typeIs (aU ?_));show wpAny _ _ (if (Value.type "tuple" == Value.type "tuple")=true then _ else _) _ _ s;rw[aH (by decide)];apply aq (wpAny_rule ?_)
 first
  |exact aq (aU ⟨_,rfl,aU h⟩)
  |exact aU ⟨_,rfl,aU h⟩
  |exact aq (aU (aU ⟨_,rfl,aU h⟩))
end HT
namespace L2
open PySem PySem.Spec PyProof.Rows PySem.W
inductive EL (x:V) (lo:Option Int) (hi:Option Int) (H:Hp) (Q:VK):Prop
 |mk:∀a xs,x=.ref a->H a\.tup xs->(∀p H',aa H H'->H' p\.tup (dX xs lo hi)->Q (.ref p) H')->EL x lo hi H Q
theorem SW{X:Cx}:Il X EL:=by
 intro pins s σ H x v vl vu lo hi sl Q I rx hs pl pu h;let#[a,xs,rfl,hx,q]:=h;by_cases hw:HT.bU xs.length 0 lo=0/\HT.bU xs.length xs.length hi=xs.length
 ·cases rx;let#[its,r,ht,hz]:=I.tuple (.of hx);have hlen:its.toArray.size=xs.length:=by rw[cg];exact r.length.symm
  apply⟨"tuple",_,PyProof.Rows.slot_tuple_getitem.lookup,ht.typeIs,?_⟩;apply HT.ft ht hs pl pu (by rw[hlen];exact hw) ⟨.ref a,H,I,rfl,q _ _ (aa.refl H) ?_⟩;unfold dX;rw[hw.1,hw.2,List.drop_zero,Nat.sub_zero,e_];exact hx
 exact _z pins s σ H (.ref a) v vl vu lo hi sl Q I rx hs pl pu ⟨a,xs,rfl,.of hx,hw,λp hp=>q _ _ (aa.new hp) au⟩
end L2
namespace L2
open PySem PySem.Spec PyProof.Rows
section
variable{X:Cx}
inductive EJ (x:V) (lo:Option Int) (hi:Option Int) (H:Hp) (Q:VK):Prop
 |mk:∀z,x=.str z->z.length<=sizeLine->Q (.str (Txt.slice z lo hi)) H->EJ x lo hi H Q
theorem _N:Il X EJ:=by
 intro pins s σ H x v vl vu lo hi sl Q I rx hs pl pu h;let#[z,rfl,hz,q]:=h;let#[t,rfl]:=rx;apply⟨"str",_,PySem.F.slot_str_getitem.lookup,typeIs_str _ _ _,?_⟩
 have fin:∀lo hi,Q (.str (Txt.slice z lo hi)) H->(Txt.slice z lo hi).length<=sizeLine/\∀t' k,EP X pins σ Q (.str (Txt.slice z lo hi) t') { s with toks:=k }:=λlo hi q=>
  #[nC (Txt.slice_le z _ _) hz,λt' k=>#[.str _,H,I.kept (h':=s.heap) (t':=k) λ_ _ e=>e,#[t',Z],q]]
 cases pl with
 |none=>
  cases pu with
  |none=>exact wpAny_getItem_str_slice (l:=none) (u:=none) (st:=none) hs Z (post_val_or_str (fin _ _ q))
  |int j u=>exact wpAny_getItem_str_slice (l:=none) (u:=some (j,u)) (st:=none) hs Z (post_val_or_str (fin _ _ q))
 |int i u=>
  cases pu with
  |none=>exact wpAny_getItem_str_slice (l:=some (i,u)) (u:=none) (st:=none) hs Z (post_val_or_str (fin _ _ q))
  |int j u'=>exact wpAny_getItem_str_slice (l:=some (i,u)) (u:=some (j,u')) (st:=none) hs Z (post_val_or_str (fin _ _ q))
end
end L2
namespace L2
open PySem PySem.Spec PyProof.Rows PySem.W jE di
section
variable{X:Cx}
theorem l0_{n m:Nat}{D1 D2:Type}[DecidableEq D1][DecidableEq D2]{R1:Rp D1}{R2:Rp D2}(c1:jm X n R1)(c2:jm X m R2)(h1:X.A.units+n+1<cLine)(h2:X.A.units+m+1<cLine):dN X (compareOp .NotEq) (pI (r2 X.K R1 R2) true):=by
 intro pins s σ H x y v u Q I rx ry h;let#[d,e,#[a,x1,x2,rfl,t,q1,q2],#[b,y1,y2,rfl,t',Cz,Cy],hq]:=h;cases rx;cases ry;let#[its,r,it,_]:=I.tuple t;let#[its',r',MA,_]:=I.tuple t';let#[u1,u2,rfl,r1,r2]:=vals2 r;let#[w1,w2,rfl,LR,LQ]:=vals2 r'
 apply SeqAt.RcNeAt.tuples (e:=λj=>if j=0 then decide (d.1=e.1) else decide (d.2=e.2)) (vL it) (vL MA) Z1 (λj g1 g2=>by
  match j,g1,g2 with
  |0,_,_=>exact c1.eq I r1 LR q1 Cz (by show X.A.units+1+n<cLine;omega)
  |1,_,_=>exact c2.eq I r2 LQ q2 Cy (by show X.A.units+1+m<cLine;omega)) X.prog X.w _ _ #[.bl _,H,I,Z,?_]
 have e3:((List.range (min [u1,u2].toArray.size [w1,w2].toArray.size)).all (λj=>if j=0 then decide (d.1=e.1) else decide (d.2=e.2))&&[u1,u2].toArray.size == [w1,w2].toArray.size)=decide (d=e):=by
  show (decide (d.1=e.1)&&(decide (d.2=e.2)&&true)&&true)=_;by_cases z1:d.1=e.1
  ·by_cases z2:d.2=e.2
   ·have:d=e:=Prod.ext z1 z2;simp[this]
   have:¬d=e:=λz=>z2 (by rw[z]);simp[z1,z2,this]
  have:¬d=e:=λz=>z1 (by rw[z]);simp[z1,this]
 rw[e3];exact hq
end
end L2
namespace Ev
open PySem L2
theorem lM_:∀r∈rl,decide (Txt.slice r.1 none (some 5)=("turns":Str))=decide (r.2.1=("turns":Str)):=by decide +kernel
theorem _P:∀r∈rl,r.1.length<=sizeLine:=by decide +kernel
theorem OP{H:Hp}:∀ns:ae,Paired (rS H) (ns.map V.str) ns
 |[]=>.nil
 |n::ns=>.cons Z (OP ns)
def pA(r:Rl)(ts:Xb)(m:Nat):Int:=if r.2.1="turns" then ((m % gc r ts:Nat):Int) else 0
section
variable{P:Ad}{w:Af}{K:af}{mg:Str->Option Aa}{base:Heap}{CG CW T1 T2:Addr}
theorem lR:br ["_law_goods",ux,zx,"_law_moment","_law_rows","_law_turn"] uZ (a9 sQ):=bF
inductive lN (K:af) (CG CW:Addr) (vs:ag) (H:Hp) (Q:VK) (E:XK):Prop
 |mk:∀(g p d:Addr) (m:Nat) (hs:Xa) (ts:Xb) (qs:aL) (fp:ai) (ns:ae) (f:ao),∀r∈rl,vs=[.ref g,.ref d,.str r.1,.int m]->m<=10000->nE K CG CW H g p d hs ts qs fp ns f->Wd hs ts qs f->(∀t c H',aa H H'->H' t\.tup [.int (pA r ts m),.ref c]->H' c\.tup ((qs.map λq=>f q.1).map V.str)->Q (.ref t) H')->lN K CG CW vs H Q E
theorem jA_{f0:Addr}{fd:Ae}(F:bg K "_law_mark" "_law_mark" sQ f0 fd)(B:Bi mg)(TG:dA K CG)(TW:Txt K mg CW)(cT:!bo CW 3 "turns" gJ (HS K CW))(cN:!bo CG 1 "names" gJ (Ky K CG CW)):!ak ba 4 f0 fd uZ (lN K CG CW):=by
 apply F.ok lR (λvs H Q E h=>?_) (λaO A outer s H vs Q E hr h=>?_)
 ·let#[g,p,d,m,hs,ts,qs,fp,ns,f,r,bQ,rfl,_]:=h;rfl
 let#[g,p,d,m,hs,ts,qs,fp,ns,f,r,bQ,rfl,m3,S,W,k]:=h;let sz:=b_;let hu:=gC hr;have ip:a_ 1 _:=hr.mono (by decide);refine' ⟨_,ax ?s1 (ax ?s2 (aC ?s3)),?kk⟩
 case s1=>exact bh 4 lR.nd (bY iy (by rfl) B.len gX %[uK cT TW.cl hr (dz (pv 0) Z)|0])
 case s2=>exact bh 5 lR.nd (bu oX (bu pY (pv 3) (bY (Ie Z) (by rfl) B.max Dt %[az,4|0])) (iH Vo (by rfl) B.int JM %[m_ gf (vF _N (pv 2) vD (vC az)) ck|0]))
 case' s3=>refine' aY (dR %[5,iH (JS (K:=K)) (by rfl) B.tuple vE %[?c3|0]|0])
 case c3=>exact kX ["_law_name",ux] 1 [1] (d_ (uK cN TG.cl ip (pv 0))) (λfp s H=>gg (i:=0) (show (["_law_name",ux]:ae).Nodup by decide +kernel) Z (Or.inl Z)) (λfp s H=>jA) (λfp s H=>j9 hu (pv 1) (pv 0))
 let#[gA,dw,dy,Rf,bM,g1,g2,_]:=id S.G.ex;let#[eX,d1,l2,d3,jn,QZ,ef,w1,_]:=id g2.ex;apply#[_,Z,g,CG,gA,_,_,Z,g1,TG.cl,TG.nW,jB _ _ _,p,eX,_,Z,w1,iJ _ _ _ Z0 Z0 Z0,p,hs,ts,bM,Z,g2,W.Gd.qf,λl as H1 s1 _ _ _ _ R=>?_];apply#[l,_,Z,.inl (.of R.1),?_];let la:=bK R.2;rw[aA,la];lk
 have Fn:(turnsOf (aJ ts)).length<64:=by
  have h1:(turnsOf (aJ ts)).length <= [].length+(aJ ts).length:=Qv (aJ ts) [];rw[DN] at h1;have:=W.Gd.qf;simp only[p9] at h1;omega
 apply#[_,Z,_,Z,_,_,Z,?_];rw[show (if (((turnsOf (aJ ts)).length:Nat):Int) > 1 then (((turnsOf (aJ ts)).length:Nat):Int) else 1)=((max 1 (turnsOf (aJ ts)).length:Nat):Int) by split<;>omega]
 apply#[_,_,Z,Z,by omega,?_];apply#[_,Z,_,Z,r.1,Z,_P r bQ,Z,.inr #[_,Z,?_]];rw[show decide (V.str (Txt.slice r.1 none (some 5))=V.str ("turns":Str))=decide (r.2.1=("turns":Str)) from (nB _ _).trans (lM_ r bQ)];apply#[_,_,Z,Z,?cm,?_]
 case cm=>
  unfold xZ;have:((m:Int) % ((max 1 (turnsOf (aJ ts)).length:Nat):Int))=((m % max 1 (turnsOf (aJ ts)).length:Nat):Int):=rfl;let h1:=Nat.mod_le m (max 1 (turnsOf (aJ ts)).length);rw[this];exact .inl #[by omega,by omega]
 have et:(m:Int) % ((max 1 (turnsOf (aJ ts)).length:Nat):Int) * (if decide (r.2.1=("turns":Str))=true then 1 else 0)=pA r ts m:=by
  unfold pA gc;by_cases c:r.2.1=("turns":Str)
  ·rw[aH c,aH c,aH (bP c),Int.mul_one];rfl
  rw[aB c,aB ⇑c,Int.mul_zero]
 rw[et];lk;let S1:=S.nt (NT.of s1);clear g1 g2 w1 R la et Fn;let#[gA,dw,dy,Rf,bM,g1,g2,_]:=id S1.G.ex;apply#[_,Z,_,Z,g,gA,_,Z,g1,uN _ _ _ Z0 Z0 Z0,g,p,hs,ts,qs,fp,Z,S1.G,λln wV=>?_];let#[s2,e2]:=bp (o:=.lst ((qs.map (·.1)).map V.str)) wV;let hd2:=s2 _ _ S1.hd;generalize upd H1 ln (.lst ((qs.map (·.1)).map V.str))=H2 at s2 e2 hd2 ⊢;apply#[ln,Z,#[_,.of e2],λD hD=>?_];apply k8 (own:=1) (fv:=[some (.ref d)]) (xs:=(qs.map (·.1)).map V.str) Z fq (λi out H'=>aa H2 H'/\H' D\.lst out/\out=(((qs.map (·.1)).take i).map f).map V.str) #[aa.new hD,au,Z] (λi out H' _ ⟨sm,_,_⟩=>.of (sm _ _ e2)) (λout H3 ⟨sm,NW,eo⟩=>?_) (λi y out H' hy ⟨sm,fo,eo⟩=>?_);rotate_left 1
 ·let#[n,hn,rfl]:=jy hy;have hi:i<(qs.map (·.1)).length:=(cU.mp hn).1;let bR:=W.bR;rw[aA] at hi;have nm:n∈ns:=S.so.perm.mem_iff.mpr (dI hn);apply#[_,Z,Z,λNx hN=>eJ ?_];apply#[_,Z,_,Z,d,.str (f n),Z,?_,out,fo,by rw[eo,aA,aA,d6,aA];omega,hN _ _ #[iV sm hD,au,?_]]
  ·rw[<- Dw (g:=λn=>V.str (f n)) nm];exact .k (k:=Sum.inr n) (sm _ _ hd2)
  rw[eo,jz hn,dC,dC];rfl
 rw[aA,e_] at eo;apply#[D,_,Z,.inl #[.of NW,λt nt=>?_]];apply#[zl,λt2 mF=>?_];let s4:=aa.new (o:=.tup out) nt;let s5:=aa.new (o:=.tup [.int (pA r ts m),.ref t]) mF;apply k t2 t _ ((s1.trans s2).trans (sm.trans (s4.trans s5))) au (s5 _ _ ?_);rw[au,eo,show (qs.map (·.1)).map f=qs.map λq=>f q.1 from cu]
end
end Ev
namespace L2
open PySem PySem.Spec PyProof.Rows PySem.W
section
variable{X:Cx}
inductive GD (K:af) (i j:Nat) (v:V) (σ:St) (H:Hp) (Q:iL):Prop
 |mk:∀a u w,v=.ref a->gL K H a [u,w]->Q ((σ.set j (some w)).set i (some u)) H->GD K i j v σ H Q
theorem N4{i j:Nat}{x y:Str}{p1 p2 pB pos:Pos}{k:Nat}{e:Expr}{te:TE}(hN:X.N.Nodup)(hi:X.N[i]? = some x)(hj:X.N[j]? = some y)(hx:Loc X.env.scope x)(hy:Loc X.env.scope y)(he:PE X e te)(hc:X.calm=true:=by rfl)
  (hs:swapsWithSole [.Tuple [.Name x p1,.Name y p2] k pB] e pos.line X.env=pure false:=by rfl) (hw:swappedStores [.Tuple [.Name x p1,.Name y p2] k pB] e X.env=pure (some [x,y]):=by rfl)
  (fx:X.fn x=true∨X.env.scope.names.lookup x\.local:=by first|exact .inl rfl|exact .inr rfl|assumption) (fy:X.fn y=true∨X.env.scope.names.lookup y\.local:=by first|exact .inl rfl|exact .inr rfl|assumption):PS X (.Assign [.Tuple [.Name x p1,.Name y p2] k pB] e pos) (vW te (GD X.K i j)):=by
 intro pins s σ H D I h;apply Assign_Tuple_swapped (aV (he pins s σ H _ I h) λv s1 ⟨x0,H1,I1,r1,q1⟩=>?_) hs hw;let#[a,u,w,rfl,hq,q]:=q1;cases r1;let#[its,rv,ht,hz]:=I1.tuple hq;let#[v1,v2,rfl,ra,rb]:=vals2 rv
 have key:∀h',Heap.ExtBut s1.heap.objs.size s1.heap h'->wpAny (model X.prog X.w) X.A (assignInOrder [bindName X.env y,bindName X.env x] [v2,v1]) (λ_ s'=>∃bq H',Inv X pins bq H' s'/\D.nx bq H') X.xe { s1 with heap:=h' }:=λh' yR=>by
  have I2:Inv X pins σ H1 { s1 with heap:=h' }:=I1.kept (t':=s1.toks) λb o e=>yR b o (dZ (cy e)) e;apply assignInOrder_cons (bindName_ (KF I2 hN hj hy rb (λs3 I3=>?_) fy));apply assignInOrder_cons (bindName_ (KF I3 hN hi hx ra (λs4 I4=>?_) fx));exact assignInOrder_nil #[_,_,I4,q]
 exact unpackItems_tuple (items:=(List.toArray [v1,v2])) (I1.ok.hd hc) ht key
inductive GF (K:af) (n:Nat) (t:xW) (v:V) (σ:St) (H:Hp) (Q:iL):Prop
 |mk:∀a xs,v=.ref a->dM K H a xs->xs.length=n->t xs σ H Q->GF K n t v σ H Q
theorem _H{es:List Expr}{k:Nat}{t:xW}{n:Nat}{pos:Pos}(hc:X.calm=true)(h:DT X es t)
  (hn:(assignEach es X.env).length=n:=by rfl) (wQ:(assignEach es X.env).findIdx? (·.1)=none:=by rfl):PG X (.Tuple es k pos) (GF X.K n t):=by
 intro pins s σ H v u Q I r hw;let#[a,xs,e1,hq,hl,hw]:=hw;subst e1;cases r;let#[its,rv,ht,hz]:=I.list hq;rw[assign_Tuple];apply aq (wpAny_standAt ?_);unfold unpack;rw[hn,wQ,show n=its.toArray.size by rw[<- hl,cg];exact rv.length];apply aq (mQ (PySem.W.kun_itemsOf (I.ok.hd hc) ht.isList λh' hx=>?_));have I1:Inv X pins σ H { s with heap:=h' }:=I.kept (t':=s.toks) λb o e=>hx b o (dZ (cy e)) e;exact h pins _ σ H xs _ Q I1 ⇑rv hw
end
end L2
namespace Ev
open PySem L2
def uR(H:Hp)(t:Addr):Prop:=∃(x:Str) (ys:ag),H t\.tup (.str x::ys)/\(x="ring"->∃b l:Nat,ys=[.int b,.int l]/\1<=l/\b+l<=24)
section v
theorem qu:br [eY,"_law_told","_law_begin","_law_length","_law_way"] [eY,"_law_told"] (a9 AD):=bF
def yo:Sp:=λvs H Q _=>∃l t:Addr,vs=[.ref l,.ref t]/\bW H l/\uR H t/\∀(q:Addr) (b lg:Nat) (H':Hp),aR l H H'->bW H' l->H' q\.tup [.int b,.int lg]->b<=30->1<=lg->lg<=48->Q (.ref q) H'
theorem kZ_{f0:Addr}{fd:Ae}(F:bg K "_law_two" "_law_two" AD f0 fd)(B:Bi mg)(cD:!bc 1 qA uH vH):!ak ba 2 f0 fd [eY,"_law_told"] yo:=by
 exists F.bI qu;let#[l,t,rfl,st,tl,k]:=h;let sz:=b_;refine' #[_,?c0,?kk]
 case' c0=>refine' ax ?s1 ?c1
 case' c1=>refine' ax ?s2 ?c2
 case' c2=>refine' ax ?s3 ?c3
 case' c3=>refine' ax ?w1 ?c4
 case' c4=>refine' ax ?w2 ?c5
 case' c5=>refine' ax ?w3 ?c6
 case' c6=>refine' ax ?w4 ?c7
 case' c7=>refine' ax ?w5 ?c8
 case' c8=>refine' ax ?w6 ?c9
 case' c9=>refine' ax ?w7 (aC ?s9)
 case s1=>exact N4 (i:=2) (j:=3) qu.nd Z Z (Or.inl Z) (Or.inl Z) (dR %[aP cD hr %[0,az|0],bu fH az (aP cD hr %[0,az|0])|0])
 case s2=>exact bw (cn gf (bA c_ (pv 1) az) ck) (aC (xF (vF SW (pv 1) (vC az) vD) (kJ Z (dD (cq 2 qu.nd) (dD (cq 3 qu.nd) iT))))) bx
 case s3=>exact bh 4 qu.nd (aP cD hr %[0,az|0])
 case w1=>exact bw (cn gf (pv 4) az) (aC (bh 2 qu.nd (bu fH (bu fH (pv 2) az) (aP cD hr %[0,az|0])))) bx
 case w2=>exact bw (cn gf (pv 4) az) (aC (bh 3 qu.nd (bu oX (pv 3) (bu fH az (aP cD hr %[0,az|0]))))) bx
 case w3=>exact bw (cn gf (pv 4) az) (aC (bh 3 qu.nd (bu fH (pv 3) az))) bx
 case w4=>exact bw (cn gf (pv 4) az) (aC (bh 3 qu.nd (bY (Ie Z) (by rfl) B.max Dt %[az,bu xw (pv 3) az|0]))) bx
 case w5=>exact bw (cn gf (pv 4) az) (aC (bh 2 qu.nd (bY (Ie Z) (by rfl) B.max Dt %[az,bu xw (pv 2) az|0]))) bx
 case w6=>exact bw (cn gf (pv 4) az) (aC (bh 3 qu.nd (bY (Ie Z) (by rfl) B.max Dt %[az,bu xK (pv 3) az|0]))) bx
 case w7=>exact bw (cn gf (pv 4) az) (aC (N4 (i:=2) (j:=3) qu.nd Z Z (Or.inl Z) (Or.inl Z) (dR %[aP cD hr %[0,az|0],bu fH az (aP cD hr %[0,az|0])|0]))) bx
 case s9=>exact aY (dR %[bY (U9 Z) (by rfl) B.min PyProof.Rows.Boot.«min» %[2,az|0],bY (U9 Z) (by rfl) B.min PyProof.Rows.Boot.«min» %[3,az|0]|0])
 let#[x,ys,ht,tr]:=tl
 have tl:t≠l:=by
  let#[xs,hl]:=st.some;exact cb ht hl nofun
 apply#[_,Z,l,13,Z,by decide,by decide,st,λb0 H1 p0 p1 b1 fD=>?_];apply#[_,Z,l,12,Z,by decide,by decide,fD,λl0 H2 q0 q1 b2 dG=>#[_,_,Z,Z,zl,λa na=>?_]];let#[s3,e3]:=bp (o:=.tup [.int b0,.int (1+l0)]) na;let g5:=(b1.trans b2).trans (aR.of s3);let gO:=dG.same s3;generalize upd H2 a (.tup [.int b0,.int (1+l0)])=H3 at s3 e3 g5 gO ⊢;apply#[a,_,_,Z,.of e3,?_];dsimp only;let yS:=g5 _ _ ht tl;apply gQ (λσ H'=>∃b lg:Int,0<=b/\1<=lg/\σ=[some (.ref l),some (.ref t),some (.int b),some (.int lg),none]/\aR l H H'/\bW H' l) ?m2 (λN1 fW=>?m1)
 case m1=>
  apply#[_,Z,t,_,_,.str x,Z,Z,.of yS,L2.fP (j:=0) Z,Z,_,Z,aM (λc=>?_) (λc=>?_)]
  ·have e:x=("ring":Str):=by simpa [nB] using c
   let#[b,lg,rfl,l1,l2]:=tr e;exact#[_,Z,_,Z,t,_,Z,yS,λp H4 s4 hp=>#[p,_,Z,.of hp,Z,_,_,Z,_,_,Z,Z,fW _ _ #[b,lg,by omega,by omega,Z,g5.trans (aR.of s4),gO.same s4]]]
  exact fW _ _ #[b0,1+l0,p0,by omega,Z,g5,gO]
 rintro σ H4 ⟨b,lg,hb,hl,rfl,b4,gN⟩;apply#[_,Z,l,8,Z,by decide,by decide,gN,λwy H5 _ _ b5 fM=>?_];lk;let p8:=b4.trans b5;obtain⟨Iv,eI⟩:∃Iv:St->Hp->Prop,Iv=λσ H'=>∃b lg:Int,0<=b/\1<=lg/\σ=[some (.ref l),some (.ref t),some (.int b),some (.int lg),some (.int wy)]/\aR l H H'/\bW H' l:=#[_,Z]
 have mk:∀{b lg:Int} {H':Hp},0<=b->1<=lg->aR l H H'->bW H' l->Iv [some (.ref l),some (.ref t),some (.int b),some (.int lg),some (.int wy)] H':=λh1 h2 h3 h4=>by
  rw[eI];exact#[_,_,h1,h2,Z,h3,h4]
 clear g5 gO e3 s3 b4 b5 gN yS;apply gQ Iv ?n1 (λN1 fW=>?a1)
 case a1=>
  apply#[_,Z,Z,_,Z,aM (λ_=>?_) (λ_=>fW _ _ (mk hb hl p8 fM))];exact#[_,Z,_,_,Z,Z,_,Z,l,9,Z,by decide,by decide,fM,λz HC z0 z1 bC stC=>#[_,_,Z,Z,fW _ _ (mk Z1 hl (p8.trans bC) stC)]]
 clear p8 fM hb hl;intro σ HB iv;apply gQ Iv ?n2 (λN1 fW=>?a2)
 case a2=>
  rw[eI] at iv;let#[b,lg,hb,hl,rfl,bB,iN]:=iv;apply#[_,Z,Z,_,Z,aM (λ_=>?_) (λ_=>fW _ _ (mk hb hl bB iN))];apply#[_,Z,_,Z,l,2,Z,by decide,by decide,iN,λz HC z0 z1 bC stC=>#[_,_,Z,Z,_,_,Z,Z,.inr #[by omega,by omega],fW _ _ (mk hb ?_ (bB.trans bC) stC)]];have:z=0∨z=1:=by omega
  rcases this with rfl|rfl<;>omega
 clear iv;intro σ HB iv;apply gQ Iv ?n3 (λN1 fW=>?a3)
 case a3=>
  rw[eI] at iv;let#[b,lg,hb,hl,rfl,bB,iN]:=iv;apply#[_,Z,Z,_,Z,aM (λ_=>?_) (λ_=>fW _ _ (mk hb hl bB iN))];exact#[_,Z,_,_,Z,Z,fW _ _ (mk hb Z1 bB iN)]
 clear iv;intro σ HB iv;apply gQ Iv ?n4 (λN1 fW=>?a4)
 case a4=>
  rw[eI] at iv;let#[b,lg,hb,hl,rfl,bB,iN]:=iv;apply#[_,Z,Z,_,Z,aM (λ_=>?_) (λ_=>fW _ _ (mk hb hl bB iN))];exact#[_,Z,_,_,Z,Z,_,_,Z,fW _ _ (mk hb (by split<;>omega) bB iN)]
 clear iv;intro σ HB iv;apply gQ Iv ?n5 (λN1 fW=>?a5)
 case a5=>
  rw[eI] at iv;let#[b,lg,hb,hl,rfl,bB,iN]:=iv;apply#[_,Z,Z,_,Z,aM (λ_=>?_) (λ_=>fW _ _ (mk hb hl bB iN))];exact#[_,Z,_,_,Z,Z,_,_,Z,fW _ _ (mk (by split<;>omega) hl bB iN)]
 clear iv;intro σ HB iv;apply gQ Iv ?n6 (λN1 fW=>?a6)
 case a6=>
  rw[eI] at iv;let#[b,lg,hb,hl,rfl,bB,iN]:=iv;apply#[_,Z,Z,_,Z,aM (λ_=>?_) (λ_=>fW _ _ (mk hb hl bB iN))];exact#[_,Z,_,_,Z,Z,#[by decide,by decide],_,_,Z,fW _ _ (mk hb (by split<;>omega) bB iN)]
 clear iv;intro σ HB iv;apply gQ Iv ?n7 (λN1 fW=>?a7)
 case a7=>
  rw[eI] at iv;let#[b,lg,hb,hl,rfl,bB,iN]:=iv;apply#[_,Z,Z,_,Z,aM (λ_=>?_) (λ_=>fW _ _ (mk hb hl bB iN))];apply#[_,Z,l,13,Z,by decide,by decide,iN,λb0 H1 p0 p1 b1 fD=>?_];apply#[_,Z,l,12,Z,by decide,by decide,fD,λl0 H2 q0 q1 b2 dG=>#[_,_,Z,Z,zl,λa na=>?_]];let s3:=aa.new (o:=.tup [.int b0,.int (1+l0)]) na;exact#[a,_,_,Z,.of au,fW _ _ (mk p0 Z1 (((bB.trans b1).trans b2).trans (aR.of s3)) (dG.same s3))]
 clear iv;intro σ HB iv;rw[eI] at iv;let#[b,lg,hb,hl,rfl,bB,iN]:=iv;apply#[_,Z,_,_,Z,_,Z,_,_,Z,zl,λq nq=>?_];have h1:0<=(if (30:Int)<b then 30 else b)/\(if (30:Int)<b then 30 else b)<=30:=by split<;>omega
 have h2:1<=(if (48:Int)<lg then 48 else lg)/\(if (48:Int)<lg then 48 else lg)<=48:=by split<;>omega
 generalize (if (30:Int)<b then 30 else b)=b' at h1 ⊢;generalize (if (48:Int)<lg then 48 else lg)=l' at h2 ⊢;let#[b',rfl]:=p_ h1.1;let#[l',rfl]:=p_ (a:=l') Z1;let s3:=aa.new (o:=.tup [.int (b':Int),.int (l':Int)]) nq;exact k q b' l' _ (bB.trans (aR.of s3)) (iN.same s3) au Z1 Z1 Z1
end
end Ev
namespace Ev
open PySem L2
theorem jc_{t lg R:Nat}(h:0<R):t % R=(t+lg) % R ↔ lg % R=0:=by
 let h1:=Nat.mod_lt t h;let h2:=Nat.mod_lt lg h;rw[Nat.add_mod];generalize t % R=a at h1 ⊢;generalize lg % R=c at h2 ⊢;constructor
 ·intro e;by_cases z:a+c<R
  ·rw[Nat.mod_eq_of_lt z] at e;omega
  rw[Nat.mod_eq_sub_mod Z1,Nat.mod_eq_of_lt Z1] at e;omega
 intro e;rw[e,Nat.add_zero,Nat.mod_eq_of_lt h1]
theorem k6_(r:Rl)(ts:Xb)(t lg:Nat):pA r ts t=pA r ts (t+lg) ↔ lg % gc r ts=0:=by
 let hp:=P_ r ts;unfold pA;by_cases c:r.2.1=("turns":Str)
 ·rw[aH c,aH c,<- jc_ hp];exact Int.natCast_inj
 rw[aB c,aB c];have:gc r ts=1:=aB c;rw[this];exact#[λ_=>Nat.mod_one _,λ_=>rfl]
theorem kI_(r:Rl)(hs:Xa)(ts:Xb)(qs:aL)(f:ao)(i j:Nat):(qs.map λq=>runM r hs ts qs f i q.1)=(qs.map λq=>runM r hs ts qs f j q.1) ↔ sF r hs ts qs f i j=true:=by
 unfold sF;rw[List.map_inj_left,List.all_eq_true];constructor
 ·intro h n hn;let#[q,hq,rfl]:=bJ.mp hn;exact bP (h q hq)
 intro h q hq;exact vy (h _ (List.mem_map_of_mem hq))
section
variable{P:Ad}{w:Af}{K:af}{mg:Str->Option Aa}{base:Heap}{CG CW T1 T2:Addr}
abbrev LN:ae:=["_law_goods",ux,zx,"_law_begin","_law_length"]
theorem yx:br ["_law_goods",ux,zx,"_law_begin","_law_length","_law_stands"] LN (a9 AH):=bF
inductive rP (K:af) (CG CW T1 T2:Addr) (vs:ag) (H:Hp) (Q:VK) (E:XK):Prop
 |mk:∀(g p d:Addr) (t lg:Nat) (hs:Xa) (ts:Xb) (qs:aL) (fp:ai) (ns:ae) (f:ao),∀r∈rl,vs=[.ref g,.ref d,.str r.1,.int t,.int lg]->t+lg<=3000->Wo K CG CW H g p d hs ts qs fp ns f->Tb H T1 T2->(∀v H',BT T1 T2 H H'->Tb H' T1 T2->Df r hs ts qs f t lg v H'->Q v H')->rP K CG CW T1 T2 vs H Q E
theorem lD_{f0:Addr}{fd:Ae}(F:bg K "_law_due" "_law_due" AH f0 fd)(B:Bi mg)(Qc:!bc 11 "_law_walked" uY (Py K CG CW T1 T2))(qx:!bc 10 "at_rest" qy (J1 K CG CW T1 T2))(Kt:!bc 4 "_law_mark" uZ (lN K CG CW)):!ak ba 12 f0 fd LN (rP K CG CW T1 T2):=by
 apply F.ok yx (λvs H Q E h=>?_) (λaO A outer s H vs Q E hr h=>?_)
 ·let#[g,p,d,t,lg,hs,ts,qs,fp,ns,f,r,bQ,rfl,_]:=h;rfl
 let#[g,p,d,t,lg,hs,ts,qs,fp,ns,f,r,bQ,rfl,l3,O,tb,k]:=h;let sz:=b_;refine' ⟨_,ax ?s1 (ax ?s2 (ax ?s3 (aC (aY zy)))),?kk⟩
 case s1=>exact bh 5 yx.nd (aP Qc hr %[0,1,2,bu fH (pv 3) (pv 4)|0])
 case s2=>exact bw (dF (aP qx hr %[0,bA fA (pv 5) (Dk Dv az),2|0])) (aC (aY (dR %[ck,bu xw (bY iy (by rfl) B.len gX %[5|0]) az|0]))) bx
 case s3=>exact bw (cn (l0_ P0 (G6 ia) (j6 hr 0) (j6 hr 1)) (aP Kt hr %[0,bA fA (pv 5) (pv 3),2,3|0]) (aP Kt hr %[0,bA fA (pv 5) (Dk Dv az),2,bu fH (pv 3) (pv 4)|0])) (aC (aY (dR %[ck|0]))) bx
 let S:=O.S;let pm:=S.so.perm
 have SD:∀{G:Hp} {dp:Addr} {i:Nat},NT H G->H dp=none->G dp\.dK (bZ ns (runM r hs ts qs f i))->nE K CG CW G g p dp hs ts qs fp ns (runM r hs ts qs f i):=λ{G dp i} nt nd e=>by
  apply#[S.G.nt nt,λm=>?_,e,#[pm,λn hn=>(O.W.run r i).at_ n (pm.mem_iff.mp hn)],λb hb=>?_]
  ·let#[o,e',_]:=S.has _ m;rw[nd] at e';cases e'
  let#[o,e,q]:=S.has b hb;exact#[o,nt _ _ e q,q]
 have last:∀{ds:ai} {n:Nat} {dp:Addr},ds.length=n+1->ds[n]? = some dp->eZ (ds.map V.ref) (-1)\.ref dp:=λ{ds n dp} ld e=>by
  rw[UL (by rw[aA];omega),aA,ld,Nat.add_sub_cancel,dS,e];rfl
 apply#[_,Z,_,Z,_,Z,_,Z,_,Z,_,_,Z,Z,g,p,d,t+lg,hs,ts,qs,fp,ns,f,r,bQ,Z,l3,O,tb,λls ds n H1 b1 qe AW Ol ld nm da no fin=>?_];lk;let R_:=b1.nt tb;obtain⟨dp,uv⟩:∃dp,ds[n]? = some dp:=#[_,cw Z1];let#[nd,dl,ed]:=da n dp uv;apply#[_,Z,_,Z,1,Z,ls,_,_,.ref dp,Z,Z,.inl (.inl Ol),last ld uv,_,Z,g,p,dp,hs,ts,qs,fp,ns,_,r,bQ,Z,SD R_ nd ed,O.W.run r n,qe,λH2 b2 eP=>#[_,Z,aM (λc=>?_) (λc=>?_)]]
 ·let mF:=b2.nt qe;apply#[_,Z,ls,_,Z,.inl (.of (mF.lst Ol)),_,_,Z,Z,zl,λq nq=>?_];let s3:=aa.new (o:=.tup [.str "rests",.int (((ds.map V.ref).length:Int) - 1)]) nq;apply k _ _ ((b1.trans b2).trans (BT.of s3)) (eP.nt s3) (.inl #[n,nm,no,c,q,Z,?_]);rw[au,aA,ld,show (((n+1:Nat):Int) - 1)=(n:Int) by omega]
 have c:fE r hs ts qs (runM r hs ts qs f n)=false:=⇑c
 obtain rfl:n=t+lg:=by
  rcases fin with e|e
  ·exact e
  rw[c] at e;cases e
 have al:∀j:Nat,j<=t+lg->fE r hs ts qs (runM r hs ts qs f j)=false:=λj hj=>by
  by_cases z:j<t+lg
  ·exact no j z
  obtain rfl:j=t+lg:=by omega
  exact c
 let mF:=b2.nt qe;let E5:=R_.trans mF;let GM:=mF.lst Ol;obtain⟨dt,GO⟩:∃dt,ds[t]? = some dt:=#[_,cw Z1];let#[ZW,_,ed']:=da t dt GO;apply#[_,Z,_,Z,_,Z,ls,_,_,.ref dt,Z,Z,.of GM,L2.fP (j:=t) (by rw[dS,GO];rfl),_,Z,_,Z,g,p,dt,t,hs,ts,qs,fp,ns,_,r,bQ,Z,by omega,SD E5 ZW (mF.dK ed'),O.W.run r t,λm1 c1 H3 s3 h1 gU=>?_];apply#[_,Z,_,Z,1,Z,ls,_,_,.ref dp,Z,Z,.inl (.inl (s3 _ _ GM)),last ld uv,_,Z,_,Z,_,Z,_,_,Z,Z,g,p,dp,t+lg,hs,ts,qs,fp,ns,_,r,bQ,Z,by omega,SD (E5.trans (NT.of s3)) nd (s3 _ _ (mF.dK ed)),O.W.run r (t+lg),λm2 c2 H4 s4 h2 gI=>?_];apply#[(pA r ts t,qs.map λq=>runM r hs ts qs f t q.1),(pA r ts (t+lg),qs.map λq=>runM r hs ts qs f (t+lg) q.1),#[m1,_,_,Z,.of (s4 _ _ h1),Z,c1,_,Z,.of (s4 _ _ gU),OP _],#[m2,_,_,Z,.of h2,Z,c2,_,Z,.of gI,OP _],_,Z,?_];let b4:=((b1.trans b2).trans (BT.of s3)).trans (BT.of s4);let eN:=(eP.nt s3).nt s4
 have key:(pA r ts t,qs.map λq=>runM r hs ts qs f t q.1)=(pA r ts (t+lg),qs.map λq=>runM r hs ts qs f (t+lg) q.1) ↔ (sF r hs ts qs f t (t+lg)=true/\lg % gc r ts=0):=by
  rw[Prod.mk.injEq,k6_,kI_,and_comm]
 apply aM (λc=>?_) (λc=>?_)
 ·apply#[zl,λq nq=>?_];let s5:=aa.new (o:=.tup [.str "unlike"]) nq;apply k _ _ (b4.trans (BT.of s5)) (eN.nt s5) (.inr #[al,.inr #[λz=>?_,q,Z,au]]);rw[bP (key.mpr z)] at c;simp at c
 apply k _ _ b4 eN (.inr #[al,.inl ?_]);by_cases z:(pA r ts t,qs.map λq=>runM r hs ts qs f t q.1)=(pA r ts (t+lg),qs.map λq=>runM r hs ts qs f (t+lg) q.1)
 ·exact#[(key.mp z).1,(key.mp z).2,Z]
 rw[dJ z] at c;simp at c
end
end Ev
namespace Ev
open PySem L2
theorem l9_:∀r∈rA,r∈rl:=by decide +kernel
theorem lU_{w:Int}{qs:aL}(h:Qs (fj w) qs):qs=fj w:=by
 have l:qs.length=1:=h.len;let#[q,rfl]:=List.length_eq_one_iff.mp l;let#[p,hp,e]:=h.mem q Z2;rw[show p=(("p":Str),w,none) by simpa [fj] using hp] at e;rw[e];rfl
theorem jZ_{a b:Str}(ab:a≠b)(na:gZ a=true)(nb:gZ b=true):Good (dO a b) (fi a b):=by
 apply#[λh hh=>?_,by simpa [dO] using ab,by show 1<=2;decide,by show 2<=8;decide,λt ht=>?_,by simp[fi],by show 1<64;decide,λt ht=>?_]
 ·simp only[dO,cQ,List.not_mem_nil,or_false] at hh;rcases hh with rfl|rfl
  ·exact#[na,by show (1:Int)<=2;decide,by show (2:Int)<=1000;decide]
  exact#[nb,by show (1:Int)<=2;decide,by show (2:Int)<=1000;decide]
 ·obtain rfl:t=(a,b):=by simpa [fi] using ht
  exact#[na,nb,ab]
 obtain rfl:t=(a,b):=by simpa [fi] using ht
 simp[dO]
theorem lT_{a b:Str}{w:Int}(G:Good (dO a b) (fi a b))(w1:1<=w)(w2:w<=1000000000):Wd (dO a b) (fi a b) (fj w) (λ_=>b):=#[G,by simp[fj],by show 1<64;decide,λn _=>by simp[dO],λq hq=>by
 obtain rfl:q=(("p":Str),w,none):=by simpa [fj] using hq
 exact#[by show 0<=w;omega,w2]]
theorem lK_{ts:Xb}{w:Int}(w1:1<=w)(w2:w<=1000000000):∀q∈fj w,BA ts q:=λq hq=>by
 obtain rfl:q=(("p":Str),w,none):=by simpa [fj] using hq
 exact#[by show gZ "p"=true;decide +kernel,w1,w2,λws h=>nomatch h]
theorem jB_{r:Rl}{a b:Str}{w:Int}{t lg:Nat}{v:V}{H:Hp}(hr:r∈rA)(w1:1<=w)(ab:a≠b)(h:Df r (dO a b) (fi a b) (fj w) (λ_=>b) t lg v H):(lg % 2=0/\v=.non)∨(lg % 2=1/\∃a,v=.ref a/\H a\.tup [.str "unlike"]):=by
 let go:=λk=>lS_ (f:=λ_=>b) hr (by omega:0<w) ab Z k
 have sa:sF r (dO a b) (fi a b) (fj w) (λ_=>b) t (t+lg)=true ↔ lg % 2=0:=by
  show (decide (_=_)&&true)=true ↔ _;rw[Jj hr Z1 ab Z,Jj hr Z1 ab Z,Bool.and_true,decide_eq_true_iff];by_cases z1:t % 2=0
  ·by_cases z2:(t+lg) % 2=0
   ·rw[aH z1,aH z2];exact#[λ_=>by omega,λ_=>rfl]
   rw[aH z1,aB z2];exact#[λe=>absurd e.symm ab,λe=>by omega]
  by_cases z2:(t+lg) % 2=0
  ·rw[aB z1,aH z2];exact#[λe=>absurd e ab,λe=>by omega]
  rw[aB z1,aB z2];exact#[λ_=>by omega,λ_=>rfl]
 rcases h with⟨k,_,_,h,_⟩|⟨_,⟨h1,_,h2⟩|⟨h1,h2⟩⟩
 ·rw[go k] at h;cases h
 ·exact .inl #[sa.mp h1,h2]
 apply .inr #[?_,h2];have:¬lg % 2=0:=λe=>h1 #[sa.mpr e,by rw[S9 hr];exact Nat.mod_one _];omega
section
variable{P:Ad}{w:Af}{K:af}{mg:Str->Option Aa}{base:Heap}{CG CW T1 T2:Addr}
abbrev _B:ae:=[eY,"_law_one","_law_other",zx,"_law_goods","_law_begin","_law_length","_law_due_here"]
theorem B1:br _B [eY] (a9 sR):=bF
def rH(T1 T2:Addr):Sp:=λvs H Q _=>∃l:Addr,vs=[.ref l]/\bW H l/\Tb H T1 T2/\∀H',NL l H H'->Tb H' T1 T2->Q (.bl true) H'
theorem kr_{f0:Addr}{fd:Ae}(F:bg K "_law_long" "_law_long" sR f0 fd)(B:Bi mg)(cD:!bc 1 qA uH vH)(cN:!bc 2 "_law_names" kg Ka)(DG:!bc 11 "paper_fault" pd (KD K CG CW T1 T2))(cW:!ig CW 5 "Web" o7 (GW K CW))(cG:!ig CG 7 "Goods" o5 (HW K CG CW)):!ak ba 12 f0 fd [eY] (rH T1 T2):=by
 exists F.bI B1;let#[l,rfl,st,tb,k]:=h;let sz:=b_;have ip:a_ 1 _:=hr.mono (by decide);refine' #[_,ax ?s1 (ax ?s2 (ax ?s3 (ax ?s4 (ax ?s5 (aC ?s6))))),?kk]
 case s1=>exact xF (aP cN hr %[0,az|0]) (_H Z (dD (cq 1 B1.nd) (dD (cq 2 B1.nd) iT)))
 case s2=>exact bh 3 B1.nd (bA fA (dE %[ck,ck,ck|0]) (aP cD hr %[0,az|0]))
 case' s3=>refine' bh 4 B1.nd (BR cG hr %[BR cW hr %[?h1,?h2|0],?h3|0])
 case h1=>exact dE %[dR %[1,az|0],dR %[2,az|0]|0]
 case h2=>exact dE %[dR %[1,2|0]|0]
 case h3=>exact dE %[dR %[ck,bu fH az (aP cD hr %[0,bu Np az az|0]),zy|0]|0]
 case s4=>exact N4 (i:=5) (j:=6) B1.nd Z Z (Or.inl Z) (Or.inl Z) (dR %[aP cD hr %[0,az|0],bu fH az (aP cD hr %[0,az|0])|0])
 case s5=>exact bh 7 B1.nd (bA fA (dE %[zy,dR %[ck|0]|0]) (bu pY (pv 6) az))
 case s6=>exact aY (m_ (kR_ (j6 hr 0)) (aP DG hr %[4,k0_ (ia_ ck (pv 2) k5_) Z Z Z2 Z2,3,dR %[ck,5,6|0]|0]) (pv 7))
 apply#[_,Z,l,2,Z,by decide,st,λln ns H1 b1 fD _ hn1 N=>?_]
 obtain⟨a,b,rfl⟩:∃a b,ns=[a,b]:=by
  match ns,N.len with
  |[a,b],_=>exact#[a,b,Z]
 have ab:a≠b:=⇑(N.nd)
 apply#[ln,_,Z,.of hn1,Z,_,_,Z,_,_,Z,Z,?_];dsimp only;let qe:=tb.but b1 st;apply#[zl,λlr AX=>?_];let#[s2,e2]:=bp (o:=.lst (rA.map λr=>V.str r.1)) AX;let _x:=fD.ne AX;apply#[_,Z,l,3,Z,by decide,by decide,fD.same s2,λz H3 z0 z1 b3 gO=>?_]
 let#[v,hv,r,FP,rfl]:=Gg (p:=λv:V=>∃r∈rA,v=.str r.1) (xs:=rA.map λr=>V.str r.1) (r:=z) (n:=3) Z z0 z1 (λv hv=>by
  let#[r,hr,rfl]:=bJ.mp hv;exact#[r,hr,Z])
 apply#[lr,_,_,_,Z,Z,.of (b3 _ _ e2 _x),hv,?_];let eO:=(qe.nt s2).but b3 (fD.same s2);let g5:=(b1.trans (aR.of s2)).trans b3;clear e2 s2 hv b3 b1 qe;lk;apply#[_,Z,zl,λa1 h1=>#[_,Z,zl,λa2 h2=>#[zl,λlh Ja=>#[_,Z,_,Z,zl,λa3 h3=>#[zl,λlt CD=>?_]]]]];let y1:=aa.new (o:=.tup [.str a,.int 2]) h1;let y2:=aa.new (o:=.tup [.str b,.int 2]) h2;let y3:=aa.new (o:=.lst [.ref a1,.ref a2]) Ja;let y4:=aa.new (o:=.tup [.str a,.str b]) h3;let y5:=aa.new (o:=.lst [.ref a3]) CD;let G:=jZ_ ab (N.ok a Z2) (N.ok b Z2);apply SV G (y5 _ _ (y4 _ _ au)) (.cons #[a1,Z,y5 _ _ (y4 _ _ (y3 _ _ (y2 _ _ au)))] (.cons #[a2,Z,y5 _ _ (y4 _ _ (y3 _ _ au))] .nil)) au (.cons #[a3,Z,y5 _ _ au] .nil) λp bM H5 s5 W fw=>?_;have mw:aa H3 H5:=((((y1.trans y2).trans y3).trans y4).trans y5).trans s5
 have Mo:l∉bM:=λm=>by
  let#[xs,e]:=(gO.same ((((y1.trans y2).trans y3).trans y4).trans y5)).some;rw[fw l m] at e;cases e
 clear y1 y2 y3 y4 y5 h1 h2 Ja h3 CD s5 fw;let fM:=gO.same mw;let ij:=eO.nt mw;let p8:=g5.trans (aR.of mw);apply#[_,Z,_,_,Z,Z,#[by decide,by decide,by decide],l,_,Z,by decide,by decide,fM,λz' H6 z0 z1 b6 g_=>#[_,_,Z,Z,zl,λa4 h4=>#[zl,λlp E_=>?_]]];have w1:1<=1+z':=by omega
 have w2:1+z'<=1000000000:=by
  have:z'<1000000000:=z1;omega
 generalize 1+z'=w at w1 w2 h4 E_ ⊢;let y1:=aa.new (o:=.tup [.str "p",.int w,.non]) h4;let y2:=aa.new (o:=.lst [.ref a4]) E_;let Cs:=y1.trans y2;let#[Xj,zc]:=fM.some;let W6:=W.keep (λc hc o e=>b6 _ _ e (λz=>Mo (z▸hc))) λc zs e=>b6 _ _ e (cb e zc nofun);apply UZ (ps:=fj w) (W6.same Cs) G au (.cons #[a4,.non,Z,y2 _ _ au,Z] .nil) (lK_ w1 w2) (by simp[fj]) (by show 1<64;decide) λg qs fp H7 s7 GA Qq fr=>?_;obtain rfl:=lU_ Qq;let#[uq,G7,sub,has]:=GA.xl
 have lfp:l∉uq:=λm=>(fr l (sub _ m)).elim Mo λz=>by
  let#[xs,e]:=(g_.same Cs).some;rw[e] at z;cases z
 let IV:=Cs.trans s7;let jI:=g_.same IV;let qQ:=(ij.but b6 fM).nt IV;let QX:=(p8.trans b6).trans (aR.of IV);clear y1 y2 Cs s7 fr Qq GA W6 zc h4 E_ IV b6 g_ W Mo fM ij p8 mw eO gO g5;lk;apply#[_,Z,l,3,Z,by decide,by decide,jI,λt H8 t0 t1 b8 vg=>?_];apply#[_,Z,l,100,Z,by decide,by decide,vg,λz2 H9 q0 q1 b9 qg=>#[_,_,Z,Z,?_]];obtain⟨lg,elg,l1,l2⟩:∃lg:Nat,1000+z2=(lg:Int)/\1000<=lg/\lg<1100:=#[(1000+z2).toNat,by omega,by omega,by omega];let#[t,rfl]:=p_ t0;rw[elg];apply#[zl,λa5 h5=>?_];apply#[a5,_,_,Z,.of au,?_];let y1:=aa.new (o:=.tup [.int t,.int lg]) h5;generalize upd H9 a5 (.tup [.int t,.int lg])=HA at y1 ⊢;dsimp only;apply#[zl,λtu ZL=>#[zl,λld ZO=>?_]];let y2:=aa.new (o:=.tup [.str "unlike"]) ZL;let y3:=aa.new (o:=.lst [.non,.ref tu]) ZO;have eu:upd (upd HA tu (.tup [.str "unlike"])) ld (.lst [.non,.ref tu]) tu\.tup [.str "unlike"]:=y3 _ _ au;have el:upd (upd HA tu (.tup [.str "unlike"])) ld (.lst [.non,.ref tu]) ld\.lst [.non,.ref tu]:=au;let D3:=(y1.trans y2).trans y3;generalize upd (upd HA tu (.tup [.str "unlike"])) ld (.lst [.non,.ref tu])=HB at eu el D3 ⊢
 obtain⟨v,hv,cs⟩:∃v,eZ [V.non,.ref tu] ((lg:Int) % 2)\v/\((lg % 2=0/\v=.non)∨(lg % 2=1/\v=.ref tu)):=by
  rw[show (lg:Int) % 2=((lg % 2:Nat):Int) from Z];have:lg % 2=0∨lg % 2=1:=by omega
  rcases this with e|e
  ·exact#[.non,by rw[e];exact L2.fP (j:=0) Z,.inl #[e,Z]]
  exact#[.ref tu,by rw[e];exact L2.fP (j:=1) Z,.inr #[e,Z]]
 apply#[_,Z,_,_,Z,Z,by decide,ld,_,_,v,Z,Z,.of el,hv,?_];lk;let iN:=qg.same D3;let Ii:=(b8.trans b9).trans (aR.of D3);let ZP:=(NL.bt QX).trans (NL.bt Ii);let YB:=qQ.but Ii jI;let#[xs7,hl7]:=jI.some;have GB:gK K CG CW HB g p (dO a b) (fi a b) (fj w) uq:=G7.keep (λc hc o e=>Ii _ _ e (λz=>lfp (z▸hc))) λc zs e=>Ii _ _ e (cb e hl7 nofun);apply#[_,Z,λd nd=>#[_,Z,au,[(.inr "p",.str b)],Z,by simp,?_]]
 have y4:aa HB (upd (upd HB d (.dK [])) d (.dK (p6 [] [(.inr "p",.str b)]))):=by
  rw[TX];exact aa.new nd
 have ed:upd (upd HB d (.dK [])) d (.dK (p6 [] [(.inr "p",.str b)])) d\.dK (bZ ["p"] λ_=>b):=au;generalize upd (upd HB d (.dK [])) d (.dK (p6 [] [(.inr "p",.str b)]))=HC at y4 ed ⊢;apply#[_,Z,_,Z,_,Z,zl,λq nq=>?_];let y5:=aa.new (o:=.tup [.str "ring",.int t,.int lg]) nq;let Iy:=y4.trans y5
 have hasB:∀c∈uq,∃o,HB c\o/\∀vs,o≠.tbl vs:=λc hc=>by
  let#[o,e,z]:=has c hc;exact#[o,Ii _ _ e (λz=>lfp (z▸hc)),z]
 let WS:=lT_ G w1 w2
 have S:nE K CG CW (upd HC q (.tup [.str "ring",.int t,.int lg])) g p d (dO a b) (fi a b) (fj w) uq ["p"] (λ_=>b):=#[GB.same Iy,λm=>(by
  let#[o,e,_]:=hasB _ m;rw[nd] at e;cases e),y5 _ _ ed,#[List.Perm.refl _,WS.at_],λc hc=>by
  let#[o,e,z]:=hasB c hc;exact#[o,Iy _ _ e,z]]
 let Ec:=YB.nt Iy;apply#[g,p,d,_,dO a b,fi a b,fj w,uq,["p"],λ_=>b,r,l9_ r FP,Z,S,WS,Ec,.inr (.inr #[q,t,lg,Z,au,by omega,by omega,λv' HD bD Lf fg=>?_])];let nt:=(NT.of Iy).trans (bD.nt Ec);apply#[_,Z,?_];let fin:=k HD (ZP.trans (NL.of nt)) Lf;rcases jB_ FP w1 ab fg with⟨e1,rfl⟩|⟨e1,x,rfl,hx⟩
 ·rcases cs with⟨_,rfl⟩|⟨e2,_⟩
  ·exact .inr #[Z,Z,fin]
  omega
 rcases cs with⟨e2,_⟩|⟨_,rfl⟩
 ·omega
 exact .inl #[[.inr "unlike"],[.inr "unlike"],#[x,_,Z,.of hx,.cons Z .nil],#[tu,_,Z,.of (nt.tup eu),.cons Z .nil],by simpa using fin]
end
end Ev
namespace Ev
open PySem L2
theorem nE.copy{K:af}{CG CW g p d dk:Addr}{H G:Hp}{hs:Xa}{ts:Xb}{qs:aL}{fp:ai}{ns:ae}{f:ao}(S:nE K CG CW H g p d hs ts qs fp ns f)(s:NT H G)(n:H dk=none)(e:G dk\.dK (bZ ns f)):nE K CG CW G g p dk hs ts qs fp ns f:=#[S.G.nt s,λm=>(by
 let#[o,e',_]:=S.has _ m;rw[n] at e';cases e'),e,S.so,λb hb=>by
 let#[o,e,q]:=S.has b hb;exact#[o,s _ _ e q,q]]
theorem jH_{ns:ae}{f:ao}:(ns.all λn=>decide (f n=f n))=true:=List.all_eq_true.mpr λn _=>bP Z
def Cq(H:Hp)(v:V)(c:Option ay):Prop:=(c=none/\v=.non)∨∃(a:Addr) (ks:ay),c\ks/\v=.ref a/\H a\.tup (ks.map kV)
theorem _L{r:Rl}{hs:Xa}{ts:Xb}{qs:aL}{f:ao}{t lg:Nat}{v v':V}{H H':Hp}(a:Df r hs ts qs f t lg v H)(b:Df r hs ts qs f t lg v' H'):∃c,Cq H v c/\Cq H' v' c:=by
 rcases a with⟨k,hk,al,re,a,rfl,ha⟩|⟨al,⟨h1,h2,rfl⟩|⟨h1,a,rfl,ha⟩⟩
 ·rcases b with⟨k',Bj,Q3,yB,a',rfl,C4⟩|⟨Q3,_⟩
  ·obtain rfl:k=k':=by
    rcases Nat.lt_trichotomy k k' with z|z|z
    ·rw[Q3 k z] at re;cases re
    ·exact z
    rw[al k' z] at yB;cases yB
   exact#[some [.inr "rests",.inl k],.inr #[a,_,Z,Z,ha],.inr #[a',_,Z,Z,C4]]
  rw[Q3 k hk] at re;cases re
 ·rcases b with⟨k',Bj,_,yB,_⟩|⟨_,⟨_,_,rfl⟩|⟨gU,_⟩⟩
  ·rw[al k' Bj] at yB;cases yB
  ·exact#[none,.inl #[Z,Z],.inl #[Z,Z]]
  exact absurd #[h1,h2] gU
 rcases b with⟨k',Bj,_,yB,_⟩|⟨_,⟨gU,gI,_⟩|⟨_,a',rfl,C4⟩⟩
 ·rw[al k' Bj] at yB;cases yB
 ·exact absurd #[gU,gI] h1
 exact#[some [.inr "unlike"],.inr #[a,_,Z,Z,ha],.inr #[a',_,Z,Z,C4]]
theorem Cq.nt{H H':Hp}{v:V}{c:Option ay}(h:Cq H v c)(s:NT H H'):Cq H' v c:=h.imp id λ⟨a,ks,e,e2,ha⟩=>#[a,ks,e,e2,s.tup ha]
theorem Kb{H:Hp}:∀ks:ay,Paired (rK H) (ks.map kV) ks
 |[]=>.nil
 |.inl i::ks=>.cons Z (Kb ks)
 |.inr x::ks=>.cons Z (Kb ks)
theorem lQ_{K:af}{Q:VK}{H:Hp}{v v':V}{c:Option ay}{neg:Bool}(a:Cq H v c)(b:Cq H v' c)(q:Q (.bl (!neg)) H):tF K neg v v' H Q:=by
 rcases a with⟨rfl,rfl⟩|⟨x,ks,rfl,rfl,hx⟩
 ·rcases b with⟨_,rfl⟩|⟨_,_,e,_⟩
  ·exact .inr #[Z,Z,q]
  cases e
 rcases b with⟨e,_⟩|⟨y,qo,e,rfl,hy⟩
 ·cases e
 cases e;exact .inl #[ks,ks,#[x,_,Z,.of hx,Kb ks],#[y,_,Z,.of hy,Kb ks],by cases neg<;>simpa using q]
theorem kj_{r:Rl}{hs:Xa}{ts:Xb}{qs:aL}{f:ao}{v:V}{H:Hp}(h:EH r hs ts qs f 24 v H):∃t,v=.ref t/\uR H t:=by
 rcases h with⟨t,d,i,rfl,_,_,_,ht,_⟩|⟨t,i,j,rfl,hi,_,_,hj,_,ht⟩|⟨t,rfl,_,ht⟩
 ·exact#[t,Z,_,_,ht,λe=>absurd e Z0]
 ·exact#[t,Z,_,_,ht,λ_=>#[j,i - j,by rw[Int.ofNat_sub Z1],by omega,by omega]]
 exact#[t,Z,_,_,ht,λe=>absurd e Z0]
theorem uR.nt{H H':Hp}{t:Addr}(h:uR H t)(s:NT H H'):uR H' t:=by
 let#[x,ys,e,q]:=h;exact#[x,ys,s.tup e,q]
theorem uR.but{H H':Hp}{l t:Addr}(h:uR H t)(b:aR l H H')(st:bW H l):uR H' t:=by
 let#[x,ys,e,q]:=h;let#[xs,hl]:=st.some;exact#[x,ys,b _ _ e (cb e hl nofun),q]
section
variable{P:Ad}{w:Af}{K:af}{mg:Str->Option Aa}{base:Heap}{CG CW T1 T2:Addr}
abbrev _s:ae:=[xq,eY,"_law_cell","_law_goods",ux,zx,"_law_told","_law_k","_law_begin","_law_length","_law_handed","_law_found"]
theorem ni:br _s [xq] (a9 hG):=bF
def og(K:af)(T1 T2:Addr):Sp:=λvs H Q _=>∃(a:Addr) (ns:List Int),vs=[.ref a]/\Tb H T1 T2/\dM K H a (ns.map V.int)/\ns.length<=63/\∀H',Q (.bl true) H'
theorem _t{f0:Addr}{fd:Ae}(F:bg K "law" "law" hG f0 fd)(B:Bi mg)(cC:!bc 1 "_law_cell_at" o6 (rQ K))(cD:!bc 1 qA uH vH)(xB:!bc 9 "_law_world" uX (nZ K CG CW))(Qh:!bc 10 "run_of" ["goods","stand","rule","most"] (lJ K CG CW T1 T2))(Qe:!bc 2 "_law_two" [eY,"_law_told"] yo)(DG:!bc 11 "paper_fault" pd (KD K CG CW T1 T2))(QB:!bc 12 "_law_due" LN (rP K CG CW T1 T2))(Qr:!bc 12 "_law_long" [eY] (rH T1 T2)):!ak ba 13 f0 fd [xq] (og K T1 T2):=by
 exists F.bI ni;let#[la,ns,rfl,tb,Jq,h63,k]:=h;let sz:=b_;refine' #[_,ax ?s1 (ax ?s2 (ax ?s3 (aC (aY qz)))),?kk]
 case s1=>exact bh 1 ni.nd (dE %[aP cC hr %[0,az|0]|0])
 case s2=>exact bw (PW.pt (xG (cn gf (aP cD hr %[1,az|0]) az) (zI (eF (dF (aP Qr hr %[1|0])))))) eE bx
 case' s3=>refine' fC eS Z ?i3 (cq 2 ni.nd) (ax ?b1 (ax ?b2 (ax ?b3 (aC ?b4))))
 case i3=>exact d_ (vF B7 (bu kd_ (pv 0) (dE %[az|0])) vD (vC az))
 case b1=>exact bh 1 ni.nd (dE %[2|0])
 case b2=>exact xF (aP xB hr %[1,az,az|0]) (kJ Z (dD (cq 3 ni.nd) (dD (cq 4 ni.nd) (dD (cq 5 ni.nd) iT))))
 case b3=>exact bh 6 ni.nd (aP Qh hr %[3,4,5,az|0])
 case' b4=>refine' fC eS Z (B9 (by rfl) B.range %[az|0]) (cq 7 ni.nd) (ax ?k1 (ax ?k2 (ax ?k3 (ax ?k4 (ax ?k5 (aC ?k6))))))
 case k1=>exact xF (aP Qe hr %[1,6|0]) (kJ Z (dD (cq 8 ni.nd) (dD (cq 9 ni.nd) iT)))
 case k2=>exact bw (PW.pt (xG (cn gf (pv 7) az) (zI (cn gf (bA c_ (pv 6) az) ck)))) (aC (xF (vF SW (pv 6) (vC az) vD) (kJ Z (dD (cq 8 ni.nd) (dD (cq 9 ni.nd) iT))))) bx
 case k3=>exact bh 10 ni.nd (iH KN (by rfl) B.dict uJ %[4|0])
 case k4=>exact bh 11 ni.nd (aP DG hr %[3,10,5,dR %[ck,8,9|0]|0])
 case k5=>exact bw (PW.pt (uA (cn (kL_ (j6 hr 0)) (pv 11) (aP QB hr %[3,4,5,8,9|0])) (uL (cn (OS (Nat.lt_of_succ_lt (j6 hr 0))) (pv 10) (pv 4))))) eE bx
 case k6=>exact bw (PW.pt (xG (cn ki_ (pv 11) zy) (zI (eF (dF (bY iW (by rfl) B.iD iI %[11,iU (v:=.ty "tuple") (by rfl) B.tuple vE Z|0])))))) eE bx
 apply#[_,Z,la,ns,2,Z,by decide,Jq,λc=>#[zl,λl nl=>?_]];let s1:=aa.new (o:=.lst [.int c]) nl;have fD:bW (upd H l (.lst [.int c])) l:=.inl #[c,au];generalize upd H l (.lst [.int c])=H1 at s1 fD ⊢;lk;apply gQ (λσ H'=>NT H H'/\Tb H' T1 T2/\σ=[some (.ref la),some (.ref l),none,none,none,none,none,none,none,none,none,none]) ?m2 (λN1 fW=>?m1)
 case m1=>
  apply#[_,Z,l,8,Z,by decide,by decide,fD,λz H2 z0 z1 b2 dG=>#[Z,_,Z,?_]];have mF:NT H H2:=(NL.bt b2).nt nl s1;let eP:=(tb.nt s1).but b2 fD;apply aM (λc=>?_) (λc=>?_);rotate_left 1
  ·exact aQ (fW _ _ #[mF,eP,Z])
  exact#[_,Z,l,Z,dG,eP,λH3 ZQ eO=>#[_,Z,aQ (fW _ _ #[(((NL.bt b2).trans ZQ)).nt nl s1,eO,Z])]]
 rintro σ H2 ⟨mF,eP,rfl⟩;clear s1 fD nl;apply#[_,Z,zl,λp1 n1=>?_];apply#[la,p1,_,_,Z,Z,_m (mF.trans (NT.of (aa.new n1))) Jq,au,by rw[aA];show _+1<=_;omega,λp2 n2=>?_];apply#[_,Z,p2,_,Z,.of au,λp3 n3=>?_];let s3:=((aa.new (o:=.lst [.int 0]) n1).trans (aa.new (o:=.lst (ns.map V.int++[.int 0])) n2)).trans (aa.new (o:=.lst (dX (ns.map V.int++[.int 0]) none (some 2))) n3)
 have Fx:∀y∈dX (ns.map V.int++[.int 0]) none (some 2),∃i,y=.int i:=λy hy=>by
  unfold dX at hy;rcases gD.mp (List.mem_of_mem_drop (List.mem_of_mem_take hy)) with hy|hy
  ·let#[i,_,e]:=bJ.mp hy;exact#[i,e.symm]
  exact#[0,by simpa using hy]
 generalize dX (ns.map V.int++[.int 0]) none (some 2)=zs at Fx s3 ⊢;have e3:upd (upd (upd H2 p1 (.lst [.int 0])) p2 (.lst (ns.map V.int++[.int 0]))) p3 (.lst zs) p3\.lst zs:=au;generalize upd (upd (upd H2 p1 (.lst [.int 0])) p2 (.lst (ns.map V.int++[.int 0]))) p3 (.lst zs)=H3 at s3 e3 ⊢;apply#[p3,Z,#[_,.of e3],iK (K:=K) (a:=p3) (xs:=zs) (λi σ H'=>∃v1 v2 v3 v4 v5 v6 v7 v8 v9 vA vB:aN,NT H3 H'/\Tb H' T1 T2/\σ=[some (.ref la),v1,v2,v3,v4,v5,v6,v7,v8,v9,vA,vB]) #[_,none,none,none,none,none,none,none,none,none,none,NT.refl _,eP.nt s3,Z] (λi σ H' _ ⟨_,_,_,_,_,_,_,_,_,_,_,nt,_⟩=>.of (nt.lst e3)) ?_ ?_];rotate_left 1
 ·exact λσ HX _=>k _
 rintro i y σ H4 hy ⟨v1,v2,v3,v4,v5,v6,v7,v8,v9,vA,vB,iO,eN,rfl⟩;let#[c,rfl]:=Fx y (dI hy);lk;apply#[_,Z,zl,λl nl=>?_];let s5:=aa.new (o:=.lst [.int c]) nl;have fM:bW (upd H4 l (.lst [.int c])) l:=.inl #[c,au];let ij:=eN.nt s5;generalize upd H4 l (.lst [.int c])=H5 at s5 fM ij ⊢;lk;apply#[_,Z,l,5,Z,by decide,fM,λt g p d r hs ts qs fp tK f H6 b6 g_ MR ht O dl lfp nd=>?_];apply#[t,_,Z,.of ht,Z,_,_,Z,_,_,Z,_,_,Z,Z,?_];dsimp only;let zY:=ij.but b6 fM;have Sd:NL l H5 H6:=NL.bt b6;clear ht nd b6;apply#[_,Z,_,Z,_,Z,g,p,d,24,hs,ts,qs,fp,tK,f,r,MR,Z,by decide,O.S,O.W,zY,λv H7 b7 qQ ru=>?_];let#[t,rfl,tl]:=kj_ ru;lk;let AQ:=b7.nt zY;let O7:=O.nt AQ;let jI:=g_.nt AQ;let Sb:=Sd.trans (NL.of AQ);clear O zY g_ Sd b7 AQ ru fM ij;apply#[3,Z,by decide,by decide,B_ (lo:=0) (n:=3) (λj σ H'=>∃v7 v8 v9 vA vB:aN,σ=[some (.ref la),some (.ref l),some (.int c),some (.ref g),some (.ref d),some (.str r.1),some (.ref t),v7,v8,v9,vA,vB]/\NL l H5 H'/\Tb H' T1 T2/\Wo K CG CW H' g p d hs ts qs fp tK f/\bW H' l/\uR H' t) #[_,_,_,_,_,Z,Sb,qQ,O7,jI,tl] ?_ ?_];rotate_left 1
 ·rintro σ H8 ⟨w7,w8,w9,wA,wB,rfl,Jb,qP,O8,vg,IF⟩;exact#[_,_,_,_,_,_,_,_,_,_,_,iO.trans (Jb.nt nl s5),qP,Z]
 clear Sb qQ O7 jI tl;rintro j σ H8 hj ⟨w7,w8,w9,wA,wB,rfl,Jb,qP,O8,vg,IF⟩;lk;apply#[_,Z,_,Z,l,t,Z,vg,IF,λq b lg H9 b9 qg hq hb l1 l2=>?_];apply#[q,_,Z,.of hq,Z,_,_,Z,_,_,Z,Z,?_];let qO:=qP.but b9 vg;let O9:=O8.but b9 vg dl lfp;let Cu:=IF.but b9 vg;let Fb:=Jb.trans (NL.bt b9);clear b9 hq Jb qP O8 vg IF;dsimp only;apply gQ (λσ H'=>∃b lg:Nat,1<=lg/\b+lg<=3000/\σ=[some (.ref la),some (.ref l),some (.int c),some (.ref g),some (.ref d),some (.str r.1),some (.ref t),some (.int (0+(j:Int))),some (.int b),some (.int lg),wA,wB]/\NL l H5 H'/\Tb H' T1 T2/\Wo K CG CW H' g p d hs ts qs fp tK f/\bW H' l/\uR H' t) ?m4 (λN1 fW=>?m3)
 case m3=>
  let no:=fW _ _ #[b,lg,l1,by omega,Z,Fb,qO,O9,qg,Cu];let#[x,ys,hx,tr]:=id Cu;apply#[_,Z,Z,_,Z,aM (λ_=>?_) (λ_=>aQ no)];apply#[_,Z,t,_,_,.str x,Z,Z,.of hx,L2.fP (j:=0) Z,Z,_,Z,aM (λcc=>?_) (λ_=>no)];have e:x=("ring":Str):=by simpa [nB] using cc
  let#[b',_Q,rfl,g1,g2]:=tr e;exact#[_,Z,_,Z,t,_,Z,hx,λp' HA sA hp=>#[p',_,Z,.of hp,Z,_,_,Z,_,_,Z,Z,fW _ _ #[b',_Q,g1,by omega,Z,Fb.trans (NL.of (NT.of sA)),qO.nt sA,O9.nt (NT.of sA),qg.same sA,Cu.nt (NT.of sA)]]]
 clear Fb qO O9 qg Cu l1 l2 hb;rintro σ H9 ⟨b,lg,l1,l2,rfl,Fb,qO,O9,qg,Cu⟩;apply#[_,Z,d,_,Z,.inl O9.S.hd,λdk tS=>?_];let#[sA,eA]:=bp (o:=.dK (bZ tK f)) tS;show iG _ _ _ (upd H9 dk (.dK (bZ tK f))) _;generalize upd H9 dk (.dK (bZ tK f))=HA at sA eA ⊢;lk;apply#[_,Z,_,Z,_,Z,_,Z,_,Z,zl,λq hq=>?_];let sB:=aa.new (o:=.tup [.str "ring",.int b,.int lg]) hq;let IT:=sA.trans sB;let OB:=O9.nt (NT.of IT);apply#[g,p,dk,_,hs,ts,qs,fp,tK,f,r,MR,Z,O9.S.copy (NT.of IT) tS (sB _ _ eA),O9.W,qO.nt IT,.inr (.inr #[q,b,lg,Z,au,l1,l2,λv HC bC Ec fg=>?_])];lk;let R9:=(NT.of sB).trans (bC.nt (qO.nt IT));let EZ:=(NT.of sA).trans R9;let OC:=O9.nt EZ;apply#[_,Z,_,Z,_,Z,_,Z,_,Z,_,Z,g,p,d,b,lg,hs,ts,qs,fp,tK,f,r,MR,Z,l2,OC,Ec,λv' HD bD Lf fg'=>?_];let#[cc,f1,f2]:=_L fg fg';let L4:=bD.nt Ec;let f1:=f1.nt L4;apply lQ_ (neg:=true) f1 f2 ?_;apply#[_,Z,aM (λc=>by simp at c) (λ_=>?_)];let tJ:=EZ.trans L4;apply#[_,Z,_,Z,dk,d,tK,f,f,Z,Z,(R9.trans L4).dK eA,tJ.dK O9.S.hd,_,Z,aM (λc=>?_) (λ_=>?_)]
 ·rw[jH_] at c;cases c
 let no:=λvA vB=>(#[_,_,_,_,_,Z,Fb.trans (NL.of tJ),Lf,O9.nt tJ,qg.nt tJ,Cu.nt tJ]:∃v7 v8 v9 XQ XO:aN,[some (.ref la),some (.ref l),some (.int c),some (.ref g),some (.ref d),some (.str r.1),some (.ref t),some (.int (0+(j:Int))),some (.int b),some (.int lg),vA,vB]=[some (.ref la),some (.ref l),some (.int c),some (.ref g),some (.ref d),some (.str r.1),some (.ref t),v7,v8,v9,XQ,XO]/\NL l H5 HD/\Tb HD T1 T2/\Wo K CG CW HD g p d hs ts qs fp tK f/\bW HD l/\uR HD t);rcases f1 with⟨_,rfl⟩|⟨x,ks,_,rfl,hx⟩
 ·exact#[_,Z,Z,_,Z,aM (λc=>by simp at c) (λ_=>aQ (no _ _))]
 apply#[_,Z,Z,_,Z,aM (λ_=>?_) (λc=>by simp at c)];exact#[_,Z,_,_,_,true,Z,.tup hx,Z,_,Z,aM (λc=>by simp at c) (λ_=>no _ _)]
end
end Ev
namespace Ev
open PySem L2
structure Fd (K:af) (mg:Str->Option Aa) (x:Str) (st:Stmt):Prop where
 ex:∃f fd,bg K x x st f fd/\mg x\.ref f/\PySem.W.keepIn K (.ref f)=true
theorem GK{K:af}{h:Heap}{mg:Str->Option Aa}{x:Str}{st:Stmt}(X:K.In h)(G:h.Ns mainGlobals mg){f:Addr}{oc:Aa}{od an:Option Addr}{i8:Array (Option Aa)}{kV doc pm aO ct:Aa}(a:PySem.W.nsIn K mainGlobals x\some (.ref f))
  (l:K.lookup f=some #[oc,od,.func (PySem.W.fnOf x x (jh st) (ib st) (a9 st) .none kV doc pm an aO ct),i8]) (c:PySem.W.codeIn K aO x=true) (k:PySem.W.keepIn K (.ref f)=true):Fd K mg x st:=#[_,_,MM l c k,pX X G a,k]
structure Md (K:af) (C:Addr) (m qual:Str) (st:Stmt):Prop where
 ex:∃f fd,bg K m qual st f fd/\Meth K C m f
theorem Ff{K:af}{C:Addr}{m qual:Str}{st:Stmt}{f:Addr}{oc:Aa}{od an:Option Addr}{i8:Array (Option Aa)}{kV doc pm aO ct:Aa}(a:PySem.W.findIn K (.ref C) m\some (.ref f))(i:PySem.W.isFn K (.ref f)=true)
  (l:K.lookup f=some #[oc,od,.func (PySem.W.fnOf m qual (jh st) (ib st) (a9 st) .none kV doc pm an aO ct),i8]) (c:PySem.W.codeIn K aO qual=true) (k:PySem.W.keepIn K (.ref f)=true):Md K C m qual st:=#[_,_,MM l c k,a,i,k]
theorem cal{P:Ad}{w:Af}{K:af}{mg:Str->Option Aa}{base:Heap}{x:Str}{st:Stmt}{k:Nat}{ps:ae}{sp:Sp}(d:Fd K mg x st)(ok:∀f fd,bg K x x st f fd->!ak ba k f fd ps sp)
  (h:∀(kV doc pm:Aa) (an:Option Addr) (aO ct:Aa) (us:aj),us.length=ps.length->bindArgs (PySem.W.fnOf x x (jh st) (ib st) (a9 st) .none kV doc pm an aO ct) #[us,[]]=pure (ps.zip us)):!bc k x ps sp:=by
 let#[f,fd,F,m,kp]:=d.ex;exact#[f,fd,ok f fd F,m,kp,F.binds h]
theorem P7{P:Ad}{w:Af}{K:af}{mg:Str->Option Aa}{base:Heap}{C:Addr}{m qual:Str}{st:Stmt}{k:Nat}{ps:ae}{sp:Sp}(d:Md K C m qual st)(ok:∀f fd,bg K m qual st f fd->!ak ba k f fd ps sp)
  (h:∀(kV doc pm:Aa) (an:Option Addr) (aO ct:Aa) (us:aj),us.length=ps.length->bindArgs (PySem.W.fnOf m qual (jh st) (ib st) (a9 st) .none kV doc pm an aO ct) #[us,[]]=pure (ps.zip us)):!bo C k m ps sp:=by
 let#[f,fd,F,m]:=d.ex;exact#[f,fd,ok f fd F,m,F.binds h]
theorem P8{P:Ad}{w:Af}{K:af}{mg:Str->Option Aa}{base:Heap}{C:Addr}{x qual:Str}{st:Stmt}{k:Nat}{ps:ae}{sp:Sp}(d:Md K C "__init__" qual st)(hx:mg x\.ref C)(mk:PySem.W.makesIn K C=true)(kc:PySem.W.keepIn K (.ref C)=true)(ok:∀f fd,bg K "__init__" qual st f fd->!ak ba k f fd ps sp)
  (h:∀(kV doc pm:Aa) (an:Option Addr) (aO ct:Aa) (us:aj),us.length=ps.length->bindArgs (PySem.W.fnOf "__init__" qual (jh st) (ib st) (a9 st) .none kV doc pm an aO ct) #[us,[]]=pure (ps.zip us)):!ig C k x ps sp:=by
 let#[f,fd,F,m]:=d.ex;exact#[f,fd,ok f fd F,#[mk,m.1,m.2,kc],hx,F.binds h]
theorem eM{K:af}{a:Addr}{od:Option Addr}{p q:Str}{x y:Tok}{z:Aa}{u:V}{n:Nat}{sl:Array (Option Aa)}(h:K.lookup a=some #[.type "tuple",od,.seq (List.toArray [.str p x,.str q y,z]) n,sl])(r:RelV u z):∀H,gL K H a [.str p,.str q,u]:=λH=>
 .inr #[_,_,_,h,Z,Z,(show 3<=sizeLine by decide),.cons #[x,Z] (.cons #[y,Z] (.cons r .nil))]
theorem rules_at{K:af}{w:Af}{mg:Str->Option Aa}{d:Addr}{es:Array Ah}{ep:Nat}{t0 t1 t2 t3 t4 t5 t6 t7 t8 t9 IL IK IJ RS RR RQ RP:Tok}{b0 b1 b2 b3 b4 b5 b6 b7 b8 b9 j7 KY KW xO qF KU zM:Addr}
  {ZH ZG ZF ZE ZD ZC ZA Zz Zy Zx L1 L0 LZ LY LX LW LV:Option Addr} {x0 y0 n0 v0 x1 y1 n1 v1 x2 y2 n2 v2 x3 y3 n3 v3 x4 y4 n4 v4 x5 y5 n5 v5 x6 y6 n6 v6 x7 y7 n7 v7 x8 y8 n8 v8 x9 y9 n9 v9 Xw Xg wI v10 Xv Xf Z_ v11 Xu Cs Mb Xt D3 Ma Xs Xe Z9 XW Xr Xd Z8 XU Xq Xc Z7 XT:Nat} {Y3 Y2 IP Y1 Y0 YZ YY YX YW YV LF LD LC LB LA Lz Ly:Array (Option Aa)}
  (m:mg "RULES"\.ref d) (hs:(d == sysModules)=false) (hl:K.lookup d=some #[.type "dict",none,.dict es ep,#[]]) (he:es.toList=JU w [("least one high",t0,.ref b0),("least one fall",t1,.ref b1),("least one calm",t2,.ref b2),("least all high",t3,.ref b3),("least all fall",t4,.ref b4),("least all calm",t5,.ref b5),("below one high",t6,.ref b6),("below one fall",t7,.ref b7),("below one calm",t8,.ref b8),("below all high",t9,.ref b9),("below all fall",IL,.ref j7),("below all calm",IK,.ref KY),("shares one",IJ,.ref KW),("shares all",RS,.ref xO),("turns high",RR,.ref qF),("turns fall",RQ,.ref KU),("turns calm",RP,.ref zM)])
  (u0:K.lookup b0=some #[.type "tuple",ZH,.seq (List.toArray [.str "least" x0,.str "one" y0,.str "high" v0]) n0,Y3])
  (u1:K.lookup b1=some #[.type "tuple",ZG,.seq (List.toArray [.str "least" x1,.str "one" y1,.str "fall" v1]) n1,Y2])
  (u2:K.lookup b2=some #[.type "tuple",ZF,.seq (List.toArray [.str "least" x2,.str "one" y2,.str "calm" v2]) n2,IP])
  (u3:K.lookup b3=some #[.type "tuple",ZE,.seq (List.toArray [.str "least" x3,.str "all" y3,.str "high" v3]) n3,Y1])
  (u4:K.lookup b4=some #[.type "tuple",ZD,.seq (List.toArray [.str "least" x4,.str "all" y4,.str "fall" v4]) n4,Y0])
  (u5:K.lookup b5=some #[.type "tuple",ZC,.seq (List.toArray [.str "least" x5,.str "all" y5,.str "calm" v5]) n5,YZ])
  (u6:K.lookup b6=some #[.type "tuple",ZA,.seq (List.toArray [.str "below" x6,.str "one" y6,.str "high" v6]) n6,YY])
  (u7:K.lookup b7=some #[.type "tuple",Zz,.seq (List.toArray [.str "below" x7,.str "one" y7,.str "fall" v7]) n7,YX])
  (u8:K.lookup b8=some #[.type "tuple",Zy,.seq (List.toArray [.str "below" x8,.str "one" y8,.str "calm" v8]) n8,YW])
  (u9:K.lookup b9=some #[.type "tuple",Zx,.seq (List.toArray [.str "below" x9,.str "all" y9,.str "high" v9]) n9,YV])
  (Yt:K.lookup j7=some #[.type "tuple",L1,.seq (List.toArray [.str "below" Xw,.str "all" Xg,.str "fall" v10]) wI,LF])
  (Ys:K.lookup KY=some #[.type "tuple",L0,.seq (List.toArray [.str "below" Xv,.str "all" Xf,.str "calm" v11]) Z_,LD])
  (Yr:K.lookup KW=some #[.type "tuple",LZ,.seq (List.toArray [.str "shares" Xu,.str "one" Cs,.none]) Mb,LC])
  (Yq:K.lookup xO=some #[.type "tuple",LY,.seq (List.toArray [.str "shares" Xt,.str "all" D3,.none]) Ma,LB])
  (Yp:K.lookup qF=some #[.type "tuple",LX,.seq (List.toArray [.str "turns" Xs,.str "all" Xe,.str "high" XW]) Z9,LA])
  (Yo:K.lookup KU=some #[.type "tuple",LW,.seq (List.toArray [.str "turns" Xr,.str "all" Xd,.str "fall" XU]) Z8,Lz])
  (Yn:K.lookup zM=some #[.type "tuple",LV,.seq (List.toArray [.str "turns" Xq,.str "all" Xc,.str "calm" XT]) Z7,Ly]) :
  Kf K w mg d [b0,b1,b2,b3,b4,b5,b6,b7,b8,b9,j7,KY,KW,xO,qF,KU,zM]:=by
 apply#[m,Z,#[hs,?_,[("least one high",t0,.ref b0),("least one fall",t1,.ref b1),("least one calm",t2,.ref b2),("least all high",t3,.ref b3),("least all fall",t4,.ref b4),("least all calm",t5,.ref b5),("below one high",t6,.ref b6),("below one fall",t7,.ref b7),("below one calm",t8,.ref b8),("below all high",t9,.ref b9),("below all fall",IL,.ref j7),("below all calm",IK,.ref KY),("shares one",IJ,.ref KW),("shares all",RS,.ref xO),("turns high",RR,.ref qF),("turns fall",RQ,.ref KU),("turns calm",RP,.ref zM)],_,es,ep,hl,#[Z,Z,Z],Z,he,?_],?_]
 ·rw[VA Z];exact hG_
 ·exact .cons #[Z,Z] (.cons #[Z,Z] (.cons #[Z,Z] (.cons #[Z,Z] (.cons #[Z,Z] (.cons #[Z,Z] (.cons #[Z,Z] (.cons #[Z,Z] (.cons #[Z,Z] (.cons #[Z,Z] (.cons #[Z,Z] (.cons #[Z,Z] (.cons #[Z,Z] (.cons #[Z,Z] (.cons #[Z,Z] (.cons #[Z,Z] (.cons #[Z,Z] (.nil)))))))))))))))))
 exact .cons (eM u0 #[_,Z]) (.cons (eM u1 #[_,Z]) (.cons (eM u2 #[_,Z]) (.cons (eM u3 #[_,Z]) (.cons (eM u4 #[_,Z]) (.cons (eM u5 #[_,Z]) (.cons (eM u6 #[_,Z]) (.cons (eM u7 #[_,Z]) (.cons (eM u8 #[_,Z]) (.cons (eM u9 #[_,Z]) (.cons (eM Yt #[_,Z]) (.cons (eM Ys #[_,Z]) (.cons (eM Yr Z) (.cons (eM Yq Z) (.cons (eM Yp #[_,Z]) (.cons (eM Yo #[_,Z]) (.cons (eM Yn #[_,Z]) (.nil)))))))))))))))))
structure Tg (P:Ad) (w:Af) (b:Heap):Prop where
theorem bS{P:Ad}{w:Af}{K:af}{mg:Str->Option Aa}{base:Heap}{x:Str}{st:Stmt}{k:Nat}{ps:ae}{sp:Sp}(q:Tg P w base)(d:Fd K mg x st)(ok:∀f fd,bg K x x st f fd->!ak ba k f fd ps sp)(h:∀(kV doc pm:Aa) (an:Option Addr) (aO ct:Aa) (us:aj),us.length=ps.length->bindArgs (PySem.W.fnOf x x (jh st) (ib st) (a9 st) .none kV doc pm an aO ct) #[us,[]]=pure (ps.zip us):=by first|(exact λ_ _ _ _ _ _ us (hl:us.length=1)=>match us,hl with | [_],_=>rfl)|(exact λ_ _ _ _ _ _ us (hl:us.length=2)=>match us,hl with | [_,_],_=>rfl)|(exact λ_ _ _ _ _ _ us (hl:us.length=3)=>match us,hl with | [_,_,_],_=>rfl)|(exact λ_ _ _ _ _ _ us (hl:us.length=4)=>match us,hl with | [_,_,_,_],_=>rfl)|(exact λ_ _ _ _ _ _ us (hl:us.length=5)=>match us,hl with | [_,_,_,_,_],_=>rfl)|(exact λ_ _ _ _ _ _ us (hl:us.length=0)=>match us,hl with | [],_=>rfl)):!bc k x ps sp:=cal d ok h
theorem mP{P:Ad}{w:Af}{K:af}{mg:Str->Option Aa}{base:Heap}{C:Addr}{m qual:Str}{st:Stmt}{k:Nat}{ps:ae}{sp:Sp}(q:Tg P w base)(d:Md K C m qual st)(ok:∀f fd,bg K m qual st f fd->!ak ba k f fd ps sp)(h:∀(kV doc pm:Aa) (an:Option Addr) (aO ct:Aa) (us:aj),us.length=ps.length->bindArgs (PySem.W.fnOf m qual (jh st) (ib st) (a9 st) .none kV doc pm an aO ct) #[us,[]]=pure (ps.zip us):=by first|(exact λ_ _ _ _ _ _ us (hl:us.length=1)=>match us,hl with | [_],_=>rfl)|(exact λ_ _ _ _ _ _ us (hl:us.length=2)=>match us,hl with | [_,_],_=>rfl)|(exact λ_ _ _ _ _ _ us (hl:us.length=3)=>match us,hl with | [_,_,_],_=>rfl)|(exact λ_ _ _ _ _ _ us (hl:us.length=4)=>match us,hl with | [_,_,_,_],_=>rfl)|(exact λ_ _ _ _ _ _ us (hl:us.length=5)=>match us,hl with | [_,_,_,_,_],_=>rfl)|(exact λ_ _ _ _ _ _ us (hl:us.length=0)=>match us,hl with | [],_=>rfl)):!bo C k m ps sp:=P7 d ok h
theorem P9{P:Ad}{w:Af}{K:af}{mg:Str->Option Aa}{base:Heap}{C:Addr}{x qual:Str}{st:Stmt}{k:Nat}{ps:ae}{sp:Sp}(q:Tg P w base)(d:Md K C "__init__" qual st)(hx:mg x\.ref C)(mk:PySem.W.makesIn K C=true)(kc:PySem.W.keepIn K (.ref C)=true)(ok:∀f fd,bg K "__init__" qual st f fd->!ak ba k f fd ps sp)(h:∀(kV doc pm:Aa) (an:Option Addr) (aO ct:Aa) (us:aj),us.length=ps.length->bindArgs (PySem.W.fnOf "__init__" qual (jh st) (ib st) (a9 st) .none kV doc pm an aO ct) #[us,[]]=pure (ps.zip us):=by first|(exact λ_ _ _ _ _ _ us (hl:us.length=1)=>match us,hl with | [_],_=>rfl)|(exact λ_ _ _ _ _ _ us (hl:us.length=2)=>match us,hl with | [_,_],_=>rfl)|(exact λ_ _ _ _ _ _ us (hl:us.length=3)=>match us,hl with | [_,_,_],_=>rfl)|(exact λ_ _ _ _ _ _ us (hl:us.length=4)=>match us,hl with | [_,_,_,_],_=>rfl)|(exact λ_ _ _ _ _ _ us (hl:us.length=5)=>match us,hl with | [_,_,_,_,_],_=>rfl)|(exact λ_ _ _ _ _ _ us (hl:us.length=0)=>match us,hl with | [],_=>rfl)):!ig C k x ps sp:=P8 d hx mk kc ok h
theorem jz_(r:Rl)(hs:Xa)(ts:Xb)(qs:aL)(f:ao)(h:Str)(W:Wd hs ts qs f):(pW r hs ts qs f h).length<=1000:=by
 unfold pW;split
 ·exact nC (gD_ r hs ts qs f h) (by decide)
 split
 ·exact nC (hy_ r hs ts qs f h W) (by decide)
 exact ge_ r hs ts qs f h W
theorem all_mk{l:W.OpenLaw}{w:Af}{K:af}{h:Heap}{mg:Str->Option Aa}{fa CW CG CS d fl fh fr c1 c2 T1 T2:Addr}{P6:Aa}{as:ai}(X:K.In h)(G:h.Ns mainGlobals mg)(hfa:mg "law"\.ref fa)
  (f0:Fd K mg "is_whole" wj)
  (f1:Fd K mg "is_whole_from" Kc)
  (f2:Fd K mg "is_whole_within" lW)
  (f3:Fd K mg "is_name" sN)
  (f4:Fd K mg "lesser_first" Oh)
  (f5:Fd K mg "is_pair_of_names" sL)
  (f6:Fd K mg "sorted_ties" OE)
  (f7:Fd K mg "greatest_divisor" LJ)
  (f8:Fd K mg "least_multiple" LI)
  (f9:Fd K mg "is_hand_with_strength" sV)
  (f10:Fd K mg "checked_strengths" AE)
  (f11:Fd K mg "checked_ties" sH)
  (f12:Fd K mg "neighbours_of_all" sM)
  (f13:Fd K mg "checked_ways" mr)
  (f14:Fd K mg "checked_piece" OI)
  (f15:Fd K mg "checked_pieces" O4)
  (f16:Fd K mg "checked_stand" Of)
  (f17:Fd K mg "loads_at" Pn)
  (f18:Fd K mg "multiple_of_strengths" sO)
  (f19:Fd K mg "levels_at" Oa)
  (f20:Fd K mg "is_rule" OT)
  (f21:Fd K mg BJ lV)
  (f22:Fd K mg "fits" sY)
  (f23:Fd K mg "heaviest_move" AG)
  (f24:Fd K mg "moves_by_least" Pp)
  (f25:Fd K mg "moves_by_below" Pi)
  (f26:Fd K mg "share_moves" AF)
  (f27:Fd K mg "moves_by_shares" QE)
  (f28:Fd K mg "moves_from" Hv)
  (f29:Fd K mg "ties_anew" tj)
  (f30:Fd K mg "first_row_without" O6)
  (f31:Fd K mg "moves_by_turns" Ph)
  (f32:Fd K mg "moves_seen" jN)
  (f33:Fd K mg BF Ow)
  (f34:Fd K mg "checked_moments" Qd)
  (f35:Fd K mg "moves_of" O3)
  (f36:Fd K mg "rows_by" On)
  (f37:Fd K mg "rests_at" Pt)
  (f38:Fd K mg "at_rest" Oq)
  (f39:Fd K mg "sum_at" lZ)
  (f40:Fd K mg "placed_after" ma)
  (f41:Fd K mg "begins_with" OO)
  (f42:Fd K mg "is_of_a_rest" OG)
  (f43:Fd K mg "is_of_a_ring" Ob)
  (f44:Fd K mg "fault_of_rest" mn)
  (f45:Fd K mg "fault_of_ring" ml)
  (f46:Fd K mg "paper_fault" OM)
  (f47:Fd K mg "run_of" l_)
  (f48:Fd K mg "_law_cell_at" s_)
  (f49:Fd K mg qA mq)
  (f50:Fd K mg "_law_names" me)
  (f51:Fd K mg "_law_web" sT)
  (f52:Fd K mg "_law_ways" sG)
  (f53:Fd K mg "_law_pieces" OR)
  (f54:Fd K mg "_law_stand" l7)
  (f55:Fd K mg "_law_rule" sJ)
  (f56:Fd K mg "_law_world" lU)
  (f57:Fd K mg "_law_walked" Og)
  (f58:Fd K mg "_law_mark" sQ)
  (f59:Fd K mg "_law_due" AH)
  (f60:Fd K mg "_law_two" AD)
  (f61:Fd K mg "_law_long" sR)
  (m0:Md K CW "__init__" "Web.__init__" sU)
  (m1:Md K CW "has_hand" "Web.has_hand" wk)
  (m2:Md K CW "hands" "Web.hands" mi)
  (m3:Md K CW "strength" "Web.strength" Qi)
  (m4:Md K CW "neighbours" "Web.neighbours" md)
  (m5:Md K CW "are_tied" "Web.are_tied" sI)
  (m6:Md K CW "ties" "Web.ties" lY)
  (m7:Md K CW "most_neighbours" "Web.most_neighbours" sP)
  (m8:Md K CW "turns" "Web.turns" lX)
  (m9:Md K CG "__init__" "Goods.__init__" mj)
  (_k:Md K CG "has_piece" "Goods.has_piece" sX)
  (_j:Md K CG "names" "Goods.names" OF)
  (_i:Md K CG "weight" "Goods.weight" Pw)
  (_h:Md K CG "may_go" "Goods.may_go" sW)
  (_g:Md K CS "__init__" "Sight.__init__" l8)
  (_e:Md K CS "lead" "Sight.lead" sS)
  (_d:Md K CS "joint_strength" "Sight.joint_strength" mh)
  {ZJ Sz V_ R5 Wp:Aa} {Zv WQ:Option Addr} {YT:Array (Option Aa)} {ZK kVh dch Zn cth:Aa} {Zw anh:Option Addr} {YU:Array (Option Aa)} {ZI kVr dcr Zm ctr:Aa} {Zu anr:Option Addr} {YS:Array (Option Aa)} {t8 t9 IL IK IJ:Tok}
  (al:W.nsIn K mainGlobals "law"\some (.ref fl)) (ll:K.lookup fl=some #[ZJ,Zv,.func (W.fnOf "law" "law" (jh hG) (ib hG) (a9 hG) .none Sz V_ R5 WQ P6 Wp),YT]) (cl:W.codeIn K P6 "law"=true) (kl:W.keepIn K (.ref fl)=true) (ah:W.nsIn K mainGlobals qD\some (.ref fh)) (lh:K.lookup fh=some #[ZK,Zw,.func (W.fnOf qD qD (jh iC) (ib iC) (a9 iC) .none kVh dch Zn anh (.ref c1) cth),YU]) (hZ:W.codeIn K (.ref c1) qD=true) (kh:W.keepIn K (.ref fh)=true) (h1:W.codeHdIn K c1 T1=true) (aW:W.nsIn K mainGlobals "Web"\some (.ref CW)) (aG:W.nsIn K mainGlobals "Goods"\some (.ref CG)) (aS:W.nsIn K mainGlobals "Sight"\some (.ref CS)) (ar:W.findIn K (.ref CS) BS\some (.ref fr)) (ir:W.isFn K (.ref fr)=true) (lr:K.lookup fr=some #[ZI,Zu,.func (W.fnOf BS "Sight.rising_neighbours" (jh vo) (ib vo) (a9 vo) .none kVr dcr Zm anr (.ref c2) ctr),YS]) (Zb:W.codeIn K (.ref c2) "Sight.rising_neighbours"=true) (kr:W.keepIn K (.ref fr)=true) (h2:W.codeHdIn K c2 T2=true) (c8_:W.nsIn K mainGlobals "MOST_LETTERS"\some (.int 8 t8)) (c9_:W.nsIn K mainGlobals "MOST_HANDS"\some (.int 8 t9)) (QK:W.nsIn K mainGlobals "MOST_STRENGTH"\some (.int 1000 IL)) (QJ:W.nsIn K mainGlobals "MOST_WEIGHT"\some (.int 1000000000 IK)) (HV:W.nsIn K mainGlobals "MOST_MOMENTS"\some (.int 3000 IJ)) (XB:W.plainGet K CW Str.empty=true) (XI:W.hasDictIn K CW=true) (XA:W.plainOver K CW=true) (Xz:W.findIn K (.ref CW) "__setattr__"\some (.builtin "object.__setattr__")) (XG:W.makesIn K CW=true) (XH:W.keepIn K (.ref CW)=true) (XF:W.findIn K (.ref CW) vv\none) (XE:W.findIn K (.ref CW) "sorted_pairs"\none) (XD:W.findIn K (.ref CW) BK\none) (gpg:W.plainGet K CG Str.empty=true) (ghd:W.hasDictIn K CG=true) (gpo:W.plainOver K CG=true) (gsa:W.findIn K (.ref CG) "__setattr__"\some (.builtin "object.__setattr__")) (gmk:W.makesIn K CG=true) (gkc:W.keepIn K (.ref CG)=true) (gn0:W.findIn K (.ref CG) "web"\none) (gn1:W.findIn K (.ref CG) qt\none) (gn2:W.findIn K (.ref CG) BU\none) (YK:W.plainGet K CS Str.empty=true) (Y6:W.hasDictIn K CS=true) (YJ:W.plainOver K CS=true) (YI:W.findIn K (.ref CS) "__setattr__"\some (.builtin "object.__setattr__")) (YQ:W.makesIn K CS=true) (Y5:W.keepIn K (.ref CS)=true) (YO:W.findIn K (.ref CS) "wares"\none) (YN:W.findIn K (.ref CS) iR\none) (YM:W.findIn K (.ref CS) oU\none) (YL:W.findIn K (.ref CS) BL\none) (iha:W.findIn K (.ref CW) "__class__"\some (.builtin "object.__class__")) (ihn:W.specialIn K (.builtin "object.__class__") "__get__"\some (.builtin "getset_descriptor.__get__")) (itk:W.takesIn K (.builtin "object.__class__")\true) (imo:W.mroIn K CW (.type "object")\true) (D0:W.nsIn K mainGlobals "sum"\none) (z0:W.nsIn K mainGlobals "isinstance"\none) (z1:W.nsIn K mainGlobals "int"\none) (z2:W.nsIn K mainGlobals "bool"\none) (z3:W.nsIn K mainGlobals "str"\none) (z4:W.nsIn K mainGlobals "tuple"\none) (z5:W.nsIn K mainGlobals "list"\none) (z6:W.nsIn K mainGlobals "dict"\none) (z7:W.nsIn K mainGlobals "len"\none) (z8:W.nsIn K mainGlobals "all"\none) (z9:W.nsIn K mainGlobals "sorted"\none) (W8:W.nsIn K mainGlobals "max"\none) (W7:W.nsIn K mainGlobals "range"\none) (W5:W.nsIn K mainGlobals "any"\none) (W4:W.nsIn K mainGlobals "enumerate"\none) (W3:W.nsIn K mainGlobals "min"\none) (W2:W.nsIn K mainGlobals "abs"\none) (R:Kf K w mg d as) :
  ∃fd:Ae,(∀(s:Ab) (v:Aa),BindsTo s fd #[[v],[]] [(xq,v)])/\(∀T'∈[T2,T1],isCodeTable h T')/\∀base:Heap,K.In base->base.Ns mainGlobals mg->(∀T'∈[T2,T1],base.BuiltinsAt mg T')->ak l.prog w K mg base ba 13 fa fd [xq] (og K T1 T2):=by
 let e:=hfa.symm.trans (pX X G al);cases e;have B:Bi mg:=#[j5 X G z0,j5 X G z1,j5 X G z2,j5 X G z3,j5 X G z4,j5 X G z5,j5 X G z6,j5 X G z7,j5 X G z8,j5 X G z9,j5 X G W8,j5 X G W7,j5 X G W5,j5 X G W4,j5 X G W3,j5 X G W2];have TW:Txt K mg CW:=#[#[XB,XI,XA,Xz],XF,XE,XD];have TG:dA K CG:=#[#[gpg,ghd,gpo,gsa],gn0,gn1,gn2];have TS:gE K CS:=#[#[YK,Y6,YJ,YI],YO,YN,YM,YL];have IW:Iu K CW:=#[iha,ihn,itk,imo];let FL:=MM (st:=hG) ll cl kl;have FH:kA K qD qD iC fh c1 _:=#[#[_,_,_,_,_,_,_,_,Z,lh,hZ],kh];have FR:kA K BS "Sight.rising_neighbours" vo fr c2 _:=#[#[_,_,_,_,_,_,_,_,Z,lr,Zb],kr];apply#[W.fnOf "law" "law" (jh hG) (ib hG) (a9 hG) .none Sz V_ R5 WQ P6 Wp,λs v=>.of_eq Z,λT' C6=>?_,λbase KB _ uj=>?_]
 ·have cd:∀{c T0:Addr},W.codeHdIn K c T0=true->isCodeTable h T0:=λ{c _} z=>by
   let#[o,IA,file,tf,flags,tg,inF,text,tt,q1,q2,q3,q4,_]:=W.codeHd_of_K X z;exact#[c,o,IA,q1,q2,q3,q4]
  have C6:T'=T2∨T'=T1:=⇑C6
  rcases C6 with rfl|rfl
  ·exact cd h2
  exact cd h1
 have q:Tg l.prog w base:=⟨⟩;let HJ:=bS q f0 λ_ _ F=>lI_ F B;let uC:=bS q f2 λ_ _ F=>iP_ F HJ;let Qa:=bS q f1 λ_ _ F=>hC_ F HJ;let uF:=bS q f3 λ_ _ F=>kA_ F B (pX X G c8_);let B5:=bS q f4 λ_ _ F=>hI_ F;let HE:=bS q f5 λ_ _ F=>km_ F B uF;let zF:=bS q f6 λ_ _ F=>gy_ F B HE B5;let HM:=bS q f9 λ_ _ F=>jT_ F B uF uC (pX X G QK);let cStr:=bS q f10 λ_ _ F=>l4_ F B HM (pX X G c9_);let Hu:=bS q f11 λ_ _ F=>jW_ F B zF;let HF:=bS q f12 λ_ _ F=>kS_ F B5;let Hs:=P9 q m0 (pX X G aW) XG XH λ_ _ F=>kc_ F TW B cStr Hu HF;let AZ:=mP q m1 λ_ _ F=>lE_ F TW B;let Fh:=mP q m1 λ_ _ F=>kp_ F TW B;let i9:=mP q m2 λ_ _ F=>is_ F TW B;let wJ:=mP q m3 λ_ _ F=>eE_ F TW AZ;let Fg:=mP q m4 λ_ _ F=>ig_ F TW B AZ;let yL:=mP q m5 λ_ _ F=>iF_ F TW Fh;let QC:=bS q f13 λ_ _ F=>id_ F TW zF yL;let cCP:=bS q f14 λ_ _ F=>gU_ F B uF uC QC (pX X G QJ);let QD:=bS q f15 λ_ _ F=>gc_ F B cCP;let uG:=P9 q m9 (pX X G aG) gmk gkc λ_ _ F=>io_ F TG TW IW B (pX X G aW) QD;let Bv:=mP q _k λ_ _ F=>jQ_ (CW:=CW) F TG B;let uo:=mP q _j λ_ _ F=>go_ (CW:=CW) F TG B;let gW:=mP q _i λ_ _ F=>g1_ (CP:=CW) F TG Bv;let GE:=mP q _h λ_ _ F=>k1_ (CP:=CW) F TG TW Bv yL B5;let cGd:=bS q f7 λ_ _ F=>lR_ F;let cLM:=bS q f8 λ_ _ F=>lL_ F cGd;let cCS:=bS q f16 λ_ _ F=>h5_ F B TG TW Bv AZ uo;let HI:=bS q f17 λ_ _ F=>gi_ F B TG TW i9 gW;let cMu:=bS q f18 λ_ _ F=>jU_ F TW cLM i9 wJ;let Kv:=bS q f19 λ_ _ F=>hK_ F TG TW HI cMu wJ;have Qy:bc l.prog w K mg base 6 qD kP (oj K CG CW T1):=#[_,_,kW_ FH B TG TW (W.codeHd_of_K KB h1) (uj T1 Z2) i9 gW,pX X G ah,kh,FH.fn.binds (λ_ _ _ _ _ _ us (hl:us.length=2)=>match us,hl with | [_,_],_=>rfl)];let mR:=P9 q _g (pX X G aS) YQ Y5 λ_ _ F=>j6_ F TS HI Kv Qy;let IS:=mP q _e λ_ _ F=>kl_ F TS TG TW wJ;let RV:=mP q _d λ_ _ F=>iz_ F TS TG TW wJ;have RU:bo l.prog w K mg base CS 4 BS jx (GY K CS CG CW T2):=#[_,_,jO_ FR B TS TG TW (W.codeHd_of_K KB h2) (uj T2 Z2) Fg,#[ar,ir,kr],FR.fn.binds (λ_ _ _ _ _ _ us (hl:us.length=2)=>match us,hl with | [_,_],_=>rfl)];let cIR:=bS q f20 λ_ _ F=>hA_ F B R;let Kr:=bS q f21 λ_ _ F=>jg_ F R cIR;let cFi:=bS q f22 λ_ _ F=>kN_ F;let Qx:=bS q f23 λ_ _ F=>kX_ F TS TG IS RV cFi gW GE;let cBL:=bS q f24 λ_ _ F=>fP_ F TS RU Qx;let cBB:=bS q f25 λ_ _ F=>ga_ F TS RU IS Qx;let _c:=mP q m7 λ_ _ F=>kh_ F TW B;let Qg:=bS q f26 λ_ _ F=>_E F TS TG TW IS RV _c gW GE;let cBS:=bS q f27 λ_ _ F=>eK_ F TS TG TW Fg IS Qg;let cMF:=bS q f28 λ_ _ F=>gl_ (gk_ F cBL) (gf_ F cBB) (fN_ F cBS);let cAn:=bS q f29 λ_ _ F=>k9_ F;let _b:=mP q m6 λ_ _ F=>iL_ F TW cAn;let B0:=bS q f30 λ_ _ F=>kY_ F B;let Me:=mP q m8 λ_ _ F=>j1_ F B TW _b B0;let cBT:=bS q f31 λ_ _ F=>gg_ F B TS TG TW Me Qx;let xD:=bS q f32 λ_ _ F=>iQ_ (kg_ F TS TG TW (λr z=>z) jz_ Kr i9 cMF) (it_ F Kr cBT);let xC:=bS q f33 λ_ _ F=>i2_ F Kr cCS;let Qp:=bS q f34 λ_ _ F=>f6_ F Qa;let Qo:=bS q f35 λ_ _ F=>hM_ F xC mR xD Qp;let BZ:=bS q f36 λ_ _ F=>gG_ F B TW Kr Me;let xE:=bS q f37 λ_ _ F=>j2_ F B TG mR xD BZ;let Hw:=bS q f38 λ_ _ F=>j4_ F xC xE;let Qf:=bS q f39 λ_ _ F=>if_ F (j5 X G D0) HI Kv;let Ql:=bS q f40 λ_ _ F=>iv_ F B mR xD;let HL:=bS q f0 λ_ _ F=>kG_ F B;let Ht:=bS q f1 λ_ _ F=>g8_ F HL;let HP:=bS q f41 λ_ _ F=>hU_ F B;let cOR:=bS q f42 λ_ _ F=>gQ_ F B (pX X G HV) HP HL;let cOG:=bS q f43 λ_ _ F=>hf_ F (pX X G HV) HP Ht;let Qz:=bS q f44 λ_ _ F=>ii_ F B Qf xE Ql;let QA:=bS q f45 λ_ _ F=>ij_ F B TG BZ xE Ql;let DG:=bS q f46 λ_ _ F=>ho_ F B xC cOR cOG Qz QA;let HN:=bS q f48 λ_ _ F=>kM_ F B;let jd:=bS q f49 λ_ _ F=>iX_ F B;let B2:=bS q f50 λ_ _ F=>iI_ F B jd;let cLW:=bS q f51 λ_ _ F=>kC_ F B jd B2;let cLY:=bS q f52 λ_ _ F=>ka_ F B jd;let cLP:=bS q f53 λ_ _ F=>hs_ F B jd B2 cLY;let cLS:=bS q f54 λ_ _ F=>j0_ F B jd;let cLR:=bS q f55 λ_ _ F=>kQ_ F jd;let xB:=bS q f56 λ_ _ F=>iO_ F cLW cLP cLS cLR Hs uG;let Qh:=bS q f47 λ_ _ F=>jE_ F B TG xC Ht BZ xE Ql;let Qc:=bS q f57 λ_ _ F=>i1_ F B Hw Qo;let Kt:=bS q f58 λ_ _ F=>jA_ F B TG TW Me uo;let QB:=bS q f59 λ_ _ F=>lD_ F B Qc Hw Kt;let Qe:=bS q f60 λ_ _ F=>kZ_ F B jd;let Qr:=bS q f61 λ_ _ F=>kr_ F B jd B2 DG Hs uG;exact _t FL B HN jd xB Qh Qe DG QB Qr
theorem Ui{H:Hp}{T:Addr}{q:Str}(h:H T\.tbl #[]):cE H T q:=#[[],h,λe he=>by cases he]
theorem walk{l:PySem.W.OpenLaw}{q:Ad}{loose:ae}{XP:(Str->Option Aa)->Heap->Prop}{d:DefRec}{K:Params->af}{as:ai}{T1 T2:Addr}{JQ:∀P:Params,as=(K P).map (·.1)}(hn:l.most\63)(uh:d.params.defaults=[])(FD:([T2,T1].all λT=>!as.contains T)=true)(ne:T1≠T2)
  (F:∀(w:Af) (mg:Str->Option Aa) (fa:Addr) (h:Heap),(K w.params).In h->h.Ns mainGlobals mg->mg d.name\.ref fa->
   ∃fd:Ae,(∀(s:Ab) (u:Aa),BindsTo s fd #[[u],[]] [(xq,u)])/\(∀T'∈[T2,T1],isCodeTable h T')/\∀base:Heap,(K w.params).In base->base.Ns mainGlobals mg->(∀T'∈[T2,T1],base.BuiltinsAt mg T')->ak l.prog w (K w.params) mg base ba 13 fa fd [xq] (og (K w.params) T1 T2)) :
  PySem.W.WalkO q loose XP (PySem.W.kmHook K as JQ [T2,T1]).says l.row.toRowW d [] (λf vs=>PySem.call f vs):=
 L2.qN (n:=63) (k:=13) (x:=xq) (CX:=λ_=>ba) (sp:=λw=>og (K w.params) T1 T2) hn (by decide) uh #[Z,by decide,by decide] FD F (λ_ _ a ns hl hT hS=>#[a,ns,Z,#[Ui (hT T1 Z2),Ui (hT T2 Z2),ne],hS,hl,λ_=>rfl]) λ_ _ _ _ _ z=>z
end Ev
namespace PySem.W.Fast
universe tw16947534471738434560 tw1016482798582726880 tw16427615352739872002 tw5305086888210247042 tw8996491028332148707 tw5840856932250527844 tw13268409380754781508 tw2902066375009204548 tw12326956523295226692 tw2274001800689574053 tw14002687426757845189 tw6509438306313636517 tw17469014060483458949 tw5934892973623957990 tw4162177197228515271 tw6316849479105499240 tw15963113909784215144 tw2266031406507316008 tw5039023166259504040 tw16452599878205726697 tw7598385598679008362 tw13606403369450327146 tw7539440686196352012 tw9952526469351947053 tw12440844686771372430 tw14866100628332483278 tw14308903667403634542 tw2642981046605974223 tw3104178801126198130 tw9500438512734282610 tw7963975528670696371 tw16016109090263779348 tw8353560806459822228 tw13561690437473035414 tw614160471221016215 tw16536358194840001016 tw2872256405597810777 tw12801862190414691579 tw16068886370839295964 tw8593992789635564829 tw1358712303801207069 tw10991375898621388093 tw3833739896088067582 tw8359672218725270318 tw11941493986967193041 tw7587411779558747459 tw3155840645350893457 tw11224557493674808639 tw10820684043923040020 tw7339327076384682883 tw2972337056124484923 tw6386027589737473965 tw1356344197511066519 tw5352029345023826358 tw6295679845022656528 tw5935069691045894341 tw9625972880709161275 tw16658606105102049609 tw8173901687368726288 tw10937668515589833645 tw7231691172121410672 tw4298947294291848802 tw8825055071482741106 tw6213559043634009738 tw11031531040409008412 tw17728578142533237046 tw5365161794956138171 tw3568402414743014827 tw18202196187835433226 tw17809457383145984541 tw15282329518272329450 tw3821046198770140882 tw13128639239039052167 tw12264369729744766902 tw3426673459401806154 tw18358478644052468106 tw12758862339321492889 tw15355581829938585169 tw14168711633088752119 tw2349453791489225747 tw16235466340595098601 tw2280486348871889502 tw9375534342222516182 tw9877494733091698068 tw11895441765872410192 tw18296536696977974855 tw10297335091837692694 tw16386780075268557722 tw9397454502155683783 tw14294281886323712822 tw13481068058747063671 tw17237511637423285972 tw16564015947556566179 tw11586672242068753210 tw7302714456648359890 tw18218861531263670188 tw4399106888573384791 tw1742723721923677068 tw8156820407959833883 tw2955169786370045295 tw10954866885911246326 tw8200609818836713876 tw4348830739420833793 tw16948761910130582936 tw3558185495062210036 tw4056288514098375243 tw180600692940378598 tw16257178990512658039 tw11169086557047482927 tw9003930750045106439 tw7018013715213134668 tw13206910848255452796 tw18239745612259980900 tw10134056537621656857 tw11344163521636336479 tw3653968007156778015 tw15973834233903792439 tw10623148549473397061 tw4471510689073204022 tw7718726137763770766 tw2491127612467913479 tw13722262080978043087 tw1682135795054947735 tw9168535216334140123 tw13908385165651311446 tw5158075828019355279 tw11167545624558325662 tw17840311921925261878 tw17621471397371205130 tw14018923077199362889 tw3633587905924285608 tw10435722266966628070 tw1872211277613674467 tw4019272159809993385 tw8101466708971116124 tw11975994880836646852 tw12080967097887006771 tw9183013692686542854 tw12161981881119218055 tw18216103515750064686 tw2671162537982583490 tw7890568750160490608 tw4178818557621824689 tw7091516989625260134 tw8171275246276030793 tw17596013096038805443 tw5216760704512127577 tw18151610950220644277 tw8726915479006715249 tw14336306723289078846 tw8617413773785461204 tw8521502242665275456 tw18094864026878401770 tw9362275431518782526 tw5543027249521257007 tw3092400624521461421 tw5842834355090691573 tw7945684621731179373 tw10487379171448926294 tw13072716401384921578 tw8772628623518662998 tw17056555112475037042 tw4704603266072304563 tw902475942467404676 tw8117865790023815595 tw8331100059052821703 tw5252450015915432433 tw430441208987479941 tw18397910981376660607 tw9444931183273189418 tw3346581444477736753 tw13291984419315661728 tw2847029599330340576 tw5828162323449963750 tw13740946184505620852 tw15749539686971540303 tw469618645379554568 tw11853528804441137519 tw9203209377142378461 tw5918806440033766693 tw3766293600047950429 tw16112928991345440179 tw11693537109909856296 tw5383035652765605094 tw7810686513783330734 tw4665057995720145074 tw8366667154405675079 tw342010910394759602 tw897397790060674655 tw14340835798253114157 tw8557314474177943419 tw2947527290748141238 tw11535180824770055884 tw6421618465962866263 tw11977004559285282699 tw13195851740692976269 tw9636682954845704975 tw13077926597101131065 tw8227040418686220667 tw12803772448499454744 tw2409411169705059427 tw5975147384486912350 tw15405245776737335998 tw8943363102516573734 tw7724988057456610265 tw17670678625029185327 tw10256081287633931242 tw9383745433056984803 tw14807851299840930772 tw3619443248990506671 tw5912651383973400855 tw12200798872922535198 tw8894288180625937093 tw12950874242547507332 tw14165206388931380316 tw8331948411921251013 tw8861737979039413854 tw4772766225784148645 tw926419541741147483 tw7620782974244714568 tw698909038568065039 tw11642558553945432129 tw16531696078565960666 tw12753966451081396793 tw4608228093267789151 tw17053274054624822626 tw14302376221650296098 tw1855654134881289568 tw7641146391065246121 tw15477066111553955562 tw17901834898099439479 tw2439419418646047472 tw12705765367762417230 tw14590713707091161909 tw7362257138234138720 tw8322204369620685022 tw2578915451408805049 tw11241950570683207947 tw5455960503087114596 tw7261314140785829804 tw7666220174726636007 tw15153138793721270065 tw6276971912587204552 tw11974220059108806535 tw6646515433564690636 tw9489863360525528268 tw7357265000665347755 tw14800473539952326866 tw15039084703778747941 tw7065760410600079204 tw11318787382112379840 tw10270154651727746673 tw8461784039441244391 tw5840349768950973692 tw13582357136648392996 tw14439085499497872468 tw9640572280757854782 tw10137310967044323413 tw3932827556655662343 tw14524266801806728879 tw8021370594280238086 tw6177742594520420703 tw12888081816180766206 tw7071286586172207903 tw11451408760865541172 tw5602412777044570883 tw4367704094002440165 tw14839354311013833984 tw12571097136164680608 tw4010638922687614297 tw331970060214023460 tw16559818624249422630 tw7588179776184792269 tw8484052419796252776 tw1272156619665621909 tw3236454213393963297 tw1035800951371055934 tw5321538501921866031 tw10699875673103625729 tw17012650158093064025 tw16008125764165634849 tw8403281069228333062 tw11856621465008060413 tw2876904116664609252 tw13246877383030538983 tw13319760957645679316 tw11624697435623173337 tw7157332918988739863 tw2510764714944478966 tw3077199781481937785 tw9183763038431462852 tw14087572484679885155 tw17263185096088359979 tw13032032794707510480 tw11005142846899937714 tw5748698172784407985 tw5748460856576665916 tw5948625697750747050 tw9979554124635152936 tw13332982094807249694 tw6449685209605461418 tw1270878243495752308 tw9062873542496946104 tw16817466910520655828 tw10753723186418296029 tw942131000928375175 tw17905637604451653855 tw2485583732655169466 tw14629635657767248851 tw17764406899673290154 tw9647203839163610869 tw2828335729316334942 tw16575579711060966640 tw1290926097143624117 tw10998669461725437972 tw13768066284624655833 tw6437563418443094572 tw2231804340851676055 tw4105738733527651351 tw11538796164418332352 tw4465391143203289272 tw4123886739942834541 tw16660365160314560540 tw2185320648635681460 tw13466180072791738227 tw4851939455036750021 tw6583555040619907090 tw2666181335472825622 tw3637231009707806809 tw12557004181107465809 tw17442725602907287055 tw13309704620635925315 tw17749743017912226618 tw8116824685830621633 tw10562102001976931192 tw221797328969911460 tw3590803476501821656 tw14624228202252049461 tw9382248900213512161 tw15834974958028208081 tw3978033730320874821 tw14064797310363548761 tw14198596521904234148 tw9229245806576095807 tw459823629520477536 tw2833942937740602048 tw2511831308226752923 tw14470395160891583834 tw11208484757115544102 tw1613720550946181729 tw14580549874475370272 tw2797010030402033555 tw7439321358103012261 tw31032869692903037 tw13361609830201407564 tw2199390401892214010 tw3261205418603891832 tw11302805213468229918 tw7372027825840462522 tw2871156719628506385 tw13968249142545289714 tw7439571690322716199 tw1244286607764689782 tw1556004257278285124 tw16394229764465479865 tw16280336251445388575 tw3244651598324449255 tw16256244153832471704 tw689206524448012189 tw14870423394676621994 tw8649004619918664681 tw15724163495925079813 tw10021866875168387689 tw14121602887970669033 tw4524772995634497611 tw11530070983439229273 tw1749557914531656363 tw5158703550497774667 tw13541791083446837143 tw6754698690705372834 tw18050728877305971684 tw10176310361951952771 tw1405961167857068335 tw5518632714151393427 tw5261139109498441825 tw16342602257893674694 tw3943354127565514671 tw6462960253693870011 tw11657511896059398168 tw7627975041191422124 tw10301166198348067125 tw4466949584233256017 tw9068142745210327712 tw4376449434841272851 tw15167765623844411138 tw2203240792872658004 tw14718116763693762043 tw6529142413747097746 tw7727704533486585201 tw8684107639570321665 tw11977410038799187858 tw3151413835930341064 tw2013985847454142991 tw13574736246962720280 tw13930532652602312591 tw924122136472382072 tw9597095253676290653 tw1679913066167141490 tw11224651626684589018 tw6965250811821189537 tw8708176975300193823 tw16820383686712524169 tw16707406829477243353 tw15344661365773169243 tw5018692426421081649 tw13650612739227753689 tw12411139488005169788 tw12581302546210731669 tw2159366995978698041 tw13959724543296533042 tw14998866088814725715 tw1949007316889534120 tw14746073048048460440 tw11067694521127990094 tw3801768393642721107 tw8326604836334609096 tw464831392834595583 tw3429840030926794048 tw4443845178790518948 tw6457296117425121220 tw626903047445506821 tw4311709944108001320 tw12790805145607660127 tw10656927045108103979 tw3876750127916517785 tw18265247551076162797 tw7380606605155789746 tw4896788803377041978 tw11379426266263250888 tw12740528449716686713 tw16475948716857378749 tw10587397455950766045 tw13307627053667567371 tw2472802122511090358
end PySem.W.Fast
open PySem PySem.W PyProof.Rows
set_option maxRecDepth 100000 in
local macro_rules|`(%[|$k:num])=>let i:=Lean.mkIdent;if k.getNat==1 then`(Ev.GK $(i `KX) $(i `G) ?_ ?_ ?_ ?_)else`(Ev.Ff ?_ ?_ ?_ ?_ ?_)
theorem PySem.Challenge.cw_evenpieces_k53_rings_spoilt_holds : PySem.Challenge.rw_evenpieces_k53_rings_spoilt.Holds := by
 w_on;o_law;k_head;(case hw=>w_witness2)
 k_fill
 apply Ev.walk (l:=PySem.Challenge.rw_evenpieces_k53_rings_spoilt) rfl rfl (by rfl) (by decide) ?F
 case F=>
  intro w mg fa h KX G hmg;refine' Ev.all_mk KX G hmg %[|1] %[|1] %[|1] %[|1] %[|1] %[|1] %[|1] %[|1] %[|1] %[|1] %[|1] %[|1] %[|1] %[|1] %[|1] %[|1] %[|1] %[|1] %[|1] %[|1] %[|1] %[|1] %[|1] %[|1] %[|1] %[|1] %[|1] %[|1] %[|1] %[|1] %[|1] %[|1] %[|1] %[|1] %[|1] %[|1] %[|1] %[|1] %[|1] %[|1] %[|1] %[|1] %[|1] %[|1] %[|1] %[|1] %[|1] %[|1] %[|1] %[|1] %[|1] %[|1] %[|1] %[|1] %[|1] %[|1] %[|1] %[|1] %[|1] %[|1] %[|1] %[|1] %[|2] %[|2] %[|2] %[|2] %[|2] %[|2] %[|2] %[|2] %[|2] %[|2] %[|2] %[|2] %[|2] %[|2] %[|2] %[|2] %[|2] ?_ ?_ ?_ ?_ ?_ ?_ ?_ ?_ ?h1 ?aW ?aG ?aS ?_ ?_ ?_ ?_ ?_ ?h2 ?_ ?_ ?_ ?_ ?_ ?_ ?_ ?_ ?_ ?_ ?_ ?_ ?_ ?_ ?_ ?_ ?_ ?_ ?_ ?_ ?_ ?_ ?_ ?_ ?_ ?_ ?_ ?_ ?_ ?_ ?_ ?_ ?_ ?_ ?_ ?_ ?_ ?_ ?_ ?_ ?_ ?_ ?_ ?_ ?_ ?_ ?_ ?_ ?_ ?_ ?_ ?_ ?_ ?_ (Ev.rules_at ?rm ?rs ?rl ?re ?_ ?_ ?_ ?_ ?_ ?_ ?_ ?_ ?_ ?_ ?_ ?_ ?_ ?_ ?_ ?_ ?_)
  (case aW=>k_is);(case aG=>k_is);(case aS=>k_is)
  any_goals k_is
  (case h1=>kernel_rfl);(case h2=>kernel_rfl)
  case' rm=>refine' PySem.W.mg_of KX G ?rmn
  (first|(case rmn=>k_is)|(case rm=>k_is))
  (try (case rl=>k_is))
  (case rs=>rfl)
  (case re=>rfl)
  any_goals k_is

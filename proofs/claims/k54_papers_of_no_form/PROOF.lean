import PyProof.Rows.All
import Wide.All
import OpenK.AllK
import Wide.FinOn
import Lean
import PyProof.EqAt
import PyProof.EqKinds
import PyProof.TupleCall
import PyProof.Rows.SeqMore
import KE.KLam
import KE.KSortTup
import KE.KEqDict
import PyProof.NeKinds
import PySem.Challenge.RW_evenpieces_k54_papers_of_no_form
set_option maxHeartbeats 0
set_option Elab.async false
set_option linter.all false
noncomputable section
local macro_rules|`(def $x:declId $s:optDeclSig $v:declVal)=>`(noncomputable def $x:declId $s:optDeclSig $v:declVal)
local macro_rules|`(abbrev $x:declId $s:optDeclSig $v:declVal)=>`(noncomputable abbrev $x:declId $s:optDeclSig $v:declVal)
local macro_rules|`(universe $x*)=>return Lean.mkNullNode (←x.mapM λa=>do return(←`(theorem $a:ident:True:=⟨⟩)).raw)
abbrev Xa:=List (PySem.Str × Int)
abbrev Xb:=List (PySem.Str × PySem.Str)
set_option compiler.extract_closed false
set_option maxRecDepth 100000
theorem aC:type_of% @PySem.wpAny_bind:=@PySem.wpAny_bind
theorem cc:type_of% @PySem.Heap.get?_push_of_some:=@PySem.Heap.get?_push_of_some
abbrev Aa:=PySem.Value
abbrev Ab:=PySem.Shared
theorem bP:type_of% @PySem.Paired.length:=@PySem.Paired.length
theorem cb:type_of% @decide_eq_true:=@decide_eq_true
theorem bA:type_of% @PySem.wpAny_pure:=@PySem.wpAny_pure
abbrev Ad:=PySem.Program
abbrev Ae:=PySem.FuncData
theorem eJ:type_of% @PySem.Heap.get?_push_size:=@PySem.Heap.get?_push_size
theorem b_:type_of% @PySem.sizeLine_eq:=@PySem.sizeLine_eq
theorem cm:type_of% @PySem.Heap.lt_size:=@PySem.Heap.lt_size
theorem aE:type_of% @if_neg:=@if_neg
theorem dM:type_of% @decide_eq_false:=@decide_eq_false
theorem d5:type_of% @Option.some.inj:=@Option.some.inj
theorem eh:type_of% @PySem.PassesOwn.never:=@PySem.PassesOwn.never
theorem aJ:type_of% @if_pos:=@if_pos
theorem i_:type_of% @PySem.F.plainAttrs_list:=@PySem.F.plainAttrs_list
abbrev Af:=PySem.World
theorem l8:type_of% @PySem.Heap.get?_update_other:=@PySem.Heap.get?_update_other
theorem gz:type_of% @PySem.boot_len:=@PySem.boot_len
theorem jM:type_of% @PySem.W.mg_none_of:=@PySem.W.mg_none_of
abbrev Ag:=PySem.Around
theorem tU:type_of% @PySem.F.type_list_append:=@PySem.F.type_list_append
theorem tT:type_of% @PySem.F.slot_list_append:=@PySem.F.slot_list_append
theorem pd:type_of% @PySem.mem_of_lookup:=@PySem.mem_of_lookup
theorem gO:type_of% @Sum.inr.inj:=@Sum.inr.inj
theorem eI:type_of% @congrArg:=@congrArg
theorem pT:type_of% @PySem.wpAny_loadPart':=@PySem.wpAny_loadPart'
theorem tH:type_of% @PySem.wpAny_truthy_bool:=@PySem.wpAny_truthy_bool
theorem uB:type_of% @PySem.wpAny_newObj_type:=@PySem.wpAny_newObj_type
theorem o8:type_of% @PySem.W.mg_of:=@PySem.W.mg_of
theorem tG:type_of% @PySem.W.kia_one:=@PySem.W.kia_one
theorem wF:type_of% @of_decide_eq_true:=@of_decide_eq_true
theorem Cy:type_of% @PySem.F.type_list_extend:=@PySem.F.type_list_extend
theorem Cw:type_of% @PySem.F.slot_list_extend:=@PySem.F.slot_list_extend
theorem Z0{p:Prop}[Decidable p](h:decide p=true:=by decide +kernel):p:=of_decide_eq_true h
theorem Z1{p:Prop}(h:p:=by omega):p:=h
theorem Z2{p:Prop}(h:p:=by simp):p:=h
local macro_rules|`(tactic|let $x:ident:=$e)=>`(tactic|have $x:ident:=$e)
local macro_rules|`($a\$b)=>`($a=some $b)
local macro_rules|`(⇑$h)=>`(by simpa using $h)
local macro_rules|`(tactic|exists $e)=>let i:=Lean.mkIdent;`(tactic|refine $e λ$(i `aM) $(i `A) $(i `outer) $(i `s) $(i `H) $(i `vs) $(i `Q) $(i `E) $(i `hr) $(i `h)=>?_)
local macro_rules|`(section v)=>let i:=Lean.mkIdent;return Lean.mkNullNode #[←`(section),←`(variable{$(i `P):ident:$(i `Ad)}{$(i `w):ident:$(i `Af)}{$(i `K):ident:$(i `af)}{$(i `mg):ident:$(i `Str)->$(i `Option) $(i `Aa)}{$(i `base):ident:$(i `Heap)})]
local macro_rules|`(tactic|apply $e)=>`(tactic|refine $e)
local macro_rules|`(#[$x,$xs,*])=>`(⟨$x,$xs,*⟩)
local macro_rules|`(tactic|let $p:term:=$e)=>let g:=λ(x:Lean.Syntax)=>(if x.isIdent then`(rcasesPat|$(⟨x⟩):ident) else if x.isOfKind ``Lean.Parser.Term.hole then`(rcasesPat|_) else pure ⟨x⟩:Lean.MacroM (Lean.TSyntax `rcasesPat));p.raw.rewriteBottomUpM (λn=>if n.isOfKind `«term#[_,]» then n[1].getSepArgs.mapM (λx=>g x>>=λy=>`(Lean.Parser.Tactic.rcasesPatLo|$y:rcasesPat))>>=λs=>`(rcasesPat|⟨$s,*⟩)>>=λt=>pure t.raw else pure n)>>=λq=>`(tactic|obtain $(⟨q⟩):rcasesPat:=$e)
theorem Z{α:Sort _}{a:α}:a=a:=rfl
abbrev af:=PySem.W.Frag
theorem ay:type_of% @List.length_map:=@List.length_map
theorem cg:type_of% @List.getElem?_eq_getElem:=@List.getElem?_eq_getElem
theorem cw:type_of% @List.getElem?_eq_some_iff:=@List.getElem?_eq_some_iff
theorem dC:type_of% @List.mem_of_getElem?:=@List.mem_of_getElem?
theorem cX:type_of% @List.size_toArray:=@List.size_toArray
theorem br:type_of% @Nat.le_refl:=@Nat.le_refl
theorem bN:type_of% @List.mem_map:=@List.mem_map
theorem eA:type_of% @List.mem_cons_of_mem:=@List.mem_cons_of_mem
theorem dW:type_of% @List.length_append:=@List.length_append
theorem dQ:type_of% @List.getElem?_map:=@List.getElem?_map
theorem cq:type_of% @List.mem_cons:=@List.mem_cons
theorem dP:type_of% @List.length_take:=@List.length_take
theorem dD:type_of% @List.map_append:=@List.map_append
theorem eP:type_of% @List.mem_cons_self:=@List.mem_cons_self
theorem ck:type_of% @List.map_map:=@List.map_map
theorem eX:type_of% @List.take_length:=@List.take_length
theorem f_:type_of% @Bool.false_ne_true:=@Bool.false_ne_true
theorem fB:type_of% @List.mem_append:=@List.mem_append
theorem dY:type_of% @Nat.ne_of_lt:=@Nat.ne_of_lt
theorem fi:type_of% @List.map_cons:=@List.map_cons
theorem km:type_of% @List.mem_append_right:=@List.mem_append_right
theorem iQ:type_of% @Nat.lt_of_lt_of_le:=@Nat.lt_of_lt_of_le
theorem ig:type_of% @List.take_add_one:=@List.take_add_one
theorem iO:type_of% @List.length_cons:=@List.length_cons
theorem mm:type_of% @List.getElem_of_mem:=@List.getElem_of_mem
theorem p_:type_of% @Int.eq_ofNat_of_zero_le:=@Int.eq_ofNat_of_zero_le
theorem xa:type_of% @List.getElem?_append_right:=@List.getElem?_append_right
theorem w_:type_of% @List.nodup_iff_pairwise_ne:=@List.nodup_iff_pairwise_ne
theorem ow:type_of% @Int.toNat_natCast:=@Int.toNat_natCast
theorem ml:type_of% @List.getElem_mem:=@List.getElem_mem
theorem gA:type_of% @Nat.zero_le:=@Nat.zero_le
theorem uS:type_of% @List.length_replicate:=@List.length_replicate
theorem tY:type_of% @Array.length_toList:=@Array.length_toList
theorem yT:type_of% @List.getElem?_append_left:=@List.getElem?_append_left
theorem w9:type_of% @List.take_of_length_le:=@List.take_of_length_le
theorem uR:type_of% @List.map_congr_left:=@List.map_congr_left
theorem tX:type_of% @List.pairwise_map:=@List.pairwise_map
theorem Bq:type_of% @Option.isSome_iff_exists:=@Option.isSome_iff_exists
theorem p7:type_of% @List.nodup_cons:=@List.nodup_cons
theorem yS:type_of% @List.length_singleton:=@List.length_singleton
theorem p6:type_of% @List.length_nil:=@List.length_nil
theorem tW:type_of% @List.lookup_cons:=@List.lookup_cons
theorem wZ:type_of% @List.mem_filterMap:=@List.mem_filterMap
theorem wY:type_of% @List.mem_singleton:=@List.mem_singleton
theorem tV:type_of% @Bool.and_false:=@Bool.and_false
theorem yQ:type_of% @Bool.false_eq_true:=@Bool.false_eq_true
theorem ph:type_of% @Nat.le_trans:=@Nat.le_trans
theorem wX:type_of% @List.length_drop:=@List.length_drop
theorem yP:type_of% @List.append_nil:=@List.append_nil
theorem wW:type_of% @Nat.lt_irrefl:=@Nat.lt_irrefl
theorem uT:type_of% @Nat.ne_of_gt:=@Nat.ne_of_gt
abbrev aj:=List PySem.Value
abbrev aq:=PySem.Str->PySem.Str
abbrev ai:=List PySem.Addr
abbrev ae:=List PySem.Str
namespace L2
open PySem PySem.Spec PyProof.Rows
abbrev Key:=Sum Int Str
def wu:Key->Aa->Bool
 |.inl k,v=>Value.isInt k v
 |.inr x,v=>Value.isStrOf x v
def MN(w:Af):Key->Int
 |.inl k=>hashInt k
 |.inr x=>hashStr w x
theorem p9:∀{k:Key} {v:Aa},wu k v=true->(∃i t,k=Sum.inl i/\v=Value.int i t)∨(∃x t,k=Sum.inr x/\v=Value.str x t)
 |.inl i,v,h=>by
  let#[t,e]:=Value.isInt_shape (k:=i) (v:=v) h;exact .inl #[i,t,Z,e]
 |.inr x,v,h=>by
  let#[t,e]:=Value.isStrOf_shape (x:=x) (v:=v) h;exact .inr #[x,t,Z,e]
theorem gu_(i:Int)(t:Tok):wu (.inl i) (.int i t)=true:=by simp[wu,Value.isInt]
theorem hD_(x:Str)(t:Tok):wu (.inr x) (.str x t)=true:=by simp[wu,Value.isStrOf]
theorem kz_(a b:Int):decide ((Sum.inl a:Key)=Sum.inl b)=(a == b):=by
 by_cases e:a=b
 ·subst e;simp
 have h:¬(Sum.inl a:Key)=Sum.inl b:=λq=>e (Sum.inl.inj q);rw[dM h];exact (beq_eq_false_iff_ne.mpr e).symm
theorem l3_(a b:Str):decide ((Sum.inr a:Key)=Sum.inr b)=decide (a=b):=by
 by_cases e:a=b
 ·subst e;simp
 have h:¬(Sum.inr a:Key)=Sum.inr b:=λq=>e (gO q);rw[dM h,dM e]
theorem kF_(a:Int)(b:Str):decide ((Sum.inl a:Key)=Sum.inr b)=false:=dM (λq=>nomatch q)
theorem l7_(a:Str)(b:Int):decide ((Sum.inr a:Key)=Sum.inl b)=false:=dM (λq=>nomatch q)
def eZ(prog:Ad)(w:Af):PySem.KeyKind prog w Key where
 is:=wu
 hash:=MN w
 inj:=λv a b ha hb=>by
  rcases p9 ha with⟨i,t,rfl,rfl⟩|⟨x,t,rfl,rfl⟩
  ·rcases p9 hb with⟨j,u,rfl,e⟩|⟨y,u,rfl,e⟩
   ·injection e with e1 _;rw[e1]
   exact nomatch e
  rcases p9 hb with⟨j,u,rfl,e⟩|⟨y,u,rfl,e⟩
  ·exact nomatch e
  injection e with e1 _;rw[e1]
 byValue:=λk v h=>by
  rcases p9 h with⟨i,t,rfl,rfl⟩|⟨x,t,rfl,rfl⟩<;>rfl
 pyHash:=λhv h=>by
  rcases p9 hv with⟨i,t,rfl,rfl⟩|⟨x,t,rfl,rfl⟩
  ·exact wpAny_pyHash_int h
  exact wpAny_pyHash_str h
 eqBool:=λhu hv h=>by
  rcases p9 hu with⟨i,t,rfl,rfl⟩|⟨x,t,rfl,rfl⟩
  ·rcases p9 hv with⟨j,u,rfl,rfl⟩|⟨y,u,rfl,rfl⟩
   ·rw[kz_] at h;exact wpAny_eqBool_int h
   rw[kF_] at h;exact SeqAt.EqAt.int_str i t y u _ _ _ _ h
  rcases p9 hv with⟨j,u,rfl,rfl⟩|⟨y,u,rfl,rfl⟩
  ·rw[l7_] at h;exact SeqAt.EqAt.str_int x t j u _ _ _ _ h
  rw[l3_] at h;exact wpAny_eqBool_str h
 «strs»:=λk x t v h=>by
  rcases p9 h with⟨i,u,rfl,e⟩|⟨y,u,rfl,e⟩
  ·exact nomatch e
  injection e with e1 _
  subst e1;cases v<;>rfl
theorem ev_(prog:Ad)(w:Af)(i:Int)(t:Tok):(eZ prog w).is (.inl i) (.int i t)=true:=gu_ i t
theorem Rc(prog:Ad)(w:Af)(x:Str)(t:Tok):(eZ prog w).is (.inr x) (.str x t)=true:=hD_ x t
end L2
abbrev aA:=List L2.Key
namespace L2
open PySem PySem.Spec PyProof.Rows
inductive V where
 |non|bl (b:Bool)|int (i:Int)|str (x:Str)|byt (b:Array UInt8)|flt (b:UInt64)|ref (a:Addr)|ty (n:String)
 deriving DecidableEq
def RelV:V->Aa->Prop
 |.non,u=>u=Value.none
 |.bl b,u=>u=Value.bool b
 |.int i,u=>∃t,u=Value.int i t
 |.str x,u=>∃t,u=Value.str x t
 |.byt b,u=>∃t,u=Value.bytes b t
 |.flt b,u=>∃t,u=Value.float b t
 |.ref a,u=>u=Value.ref a
 |.ty n,u=>u=Value.type n
abbrev Vals:List V->aj->Prop:=Paired RelV
theorem Vals.length{xs:List V}{us:aj}(r:Vals xs us):xs.length=us.length:=bP r
theorem Vals.get:∀{xs:List V} {us:aj} {i:Nat} {x:V},Vals xs us->xs[i]? = some x->∃u,us[i]? = some u/\RelV x u
 |_,_,_,_,.nil,e=>by simp at e
 |_,_,0,_,.cons r _,e=>by simp at e;subst e;exact#[_,Z,r]
 |_,_,i+1,x,.cons _ t,e=>by
  let#[u,h1,h2]:=Vals.get (i:=i) (x:=x) t ⇑e;exact#[u,by simpa using h1,h2]
theorem Vals.set{x:V}{u:Aa}(r:RelV x u):∀{xs:List V} {us:aj} (i:Nat),Vals xs us->Vals (xs.set i x) (us.set i u)
 |_,_,_,.nil=>.nil
 |_,_,0,.cons _ t=>.cons r t
 |_,_,i+1,.cons q t=>.cons q (Vals.set r i t)
theorem Vals.append:∀{xs ys:List V} {us ws:aj},Vals xs us->Vals ys ws->Vals (xs++ys) (us++ws)
 |_,_,_,_,.nil,s=>s
 |_,_,_,_,.cons r t,s=>.cons r (Vals.append t s)
theorem Vals.take:∀{xs:List V} {us:aj} (n:Nat),Vals xs us->Vals (xs.take n) (us.take n)
 |_,_,0,_=>.nil
 |_,_,_+1,.nil=>.nil
 |_,_,n+1,.cons r t=>.cons r (Vals.take n t)
theorem Vals.drop:∀{xs:List V} {us:aj} (n:Nat),Vals xs us->Vals (xs.drop n) (us.drop n)
 |_,_,0,r=>r
 |_,_,_+1,.nil=>.nil
 |_,_,n+1,.cons _ t=>Vals.drop n t
def eC:Option V->Option Aa->Prop
 |some v,some u=>RelV v u
 |none,none=>True
 |_,_=>False
def KV{κ:Type}:List (κ × V)->List (κ × Aa)->Prop:=Paired λ(p:κ × V) (q:κ × Aa)=>p.1=q.1/\RelV p.2 q.2
def kV:Key->V
 |.inl i=>.int i
 |.inr x=>.str x
inductive HO where
  |lst (xs:List V)
  |tup (xs:List V)
  |dK (kvs:List (Key × V))|dT (kvs:List (aA × V))
  |set (S:Int->Bool) (n:Nat)
  |ins (C dx:Addr) (fs:List (Str × V))
  |own (x:Addr)
  |xd (fs:List (Str × V))
  |met (f x:Addr)
  |rng (lo hi:Int)
  |frz (o:Obj) (u:HO)
  |tbl (ps:Array Aa)
  |ext (φ:Heap->Prop)
abbrev Hp:=Addr->Option HO
def upd(H:Hp)(a:Addr)(o:HO):Hp:=λb=>if b=a then some o else H b
theorem ao{H:Hp}{a:Addr}{o:HO}:upd H a o a\o:=by unfold upd;rw[aJ Z]
theorem az{H:Hp}{a b:Addr}{o:HO}(h:b≠a):upd H a o b=H b:=by unfold upd;rw[aE h]
theorem O0{H:Hp}{a:Addr}{o u:HO}:upd (upd H a o) a u=upd H a u:=by
 funext b;unfold upd;split<;>rfl
theorem cy{H:Hp}{a b:Addr}{o u:HO}(h:H a\o)(h':H b\u)(d:o≠u):a≠b:=by
 intro e;subst e;rw[h] at h';exact d (d5 h')
theorem bu{H:Hp}{a b:Addr}{o:HO}(h:H a\o)(h':H b=none):a≠b:=by
 intro e;subst e;rw[h] at h';cases h'
section
variable(P:Ad)(w:Af)
def eM(H:Hp)(h:Heap)(a:Addr):HO->Prop
 |.lst xs=>xs.length<=sizeLine/\∃(its:aj) (n:Nat),Vals xs its/\h.get? a=some { cls:=.type "list",data:=.seq its.toArray n }
 |.tup xs=>xs.length<=sizeLine/\∃its:aj,Vals xs its/\IsTup h a its.toArray/\∃o,h.get? a\o/\o.dict=none
 |.dK kvs=>kvs.length<=sizeLine/\(a == sysModules)=false/\∃vs,KV kvs vs/\h.DictOf (eZ P w) a vs
 |.dT kvs=>kvs.length<=sizeLine/\(a == sysModules)=false/\∃xs:List (aA × Addr × Aa),
   Paired (λ(p:aA × V) (q:aA × Addr × Aa)=>p.1=q.1/\H q.2.1\.tup (p.1.map kV)/\RelV p.2 q.2.2) kvs xs /\
   ∃o es ep,h.get? a\o/\o.ExactDict/\o.data=.dict es ep/\es.toList=xs.map (entryOfKey (tupleKind (eZ P w)))/\(xs.map (·.1)).Nodup
 |.set S n=>h.SetOf (intKind P w) a S n
 |.ins C dx fs=>H dx\.own a/\fs.length<=1000/\dx≠a/\h.get? a\PySem.W.instObj C dx /\
   ∃mA,h.Ns1 dx mA/\(∀f,eC (fs.lookup f) (mA f))/\PySem.Within mA (fs.map (·.1))
 |.own _=>∃o,h.get? a\o
 |.xd fs=>∃mA,h.Ns1 a mA/\∀f,eC (fs.lookup f) (mA f)
 |.rng lo hi=>∃t u v,h.get? a=some { cls:=.type "range",data:=.fields (List.toArray [.int lo t,.int hi u,.int 1 v]) }
 |.frz o u=>h.get? a\o/\eM H h a u
 |.tbl ps=>h.get? a=some { cls:=.none,data:=.fields ps }
 |.met f x=>h.get? a\PySem.W.methodObj (.ref f) (.ref x)
 |.ext φ=>φ h/\(∃o,h.get? a\o)/\∀h1 h2:Heap,φ h1->(∀o,h1.get? a\o->h2.get? a\o)->φ h2
def eD(H:Hp)(h:Heap):Prop:=∀a o,H a\o->eM P w H h a o
end
section
variable{P:Ad}{w:Af}{H H':Hp}{h h':Heap}{a:Addr}{o:HO}
theorem eM.lt(x:eM P w H h a o):a<h.objs.size:=by
 cases o with
 |lst xs=>let#[_,_,_,_,e]:=x;exact cm e
 |tup xs=>let#[_,_,_,p,_]:=x;exact p.lt
 |dK kvs=>let#[_,_,_,_,o,_,_,e,_]:=x;exact cm e
 |dT kvs=>let#[_,_,_,_,o,_,_,e,_]:=x;exact cm e
 |set S n=>let#[o,_,_,_,e,_]:=x;exact cm e
 |ins C dx fs=>let#[_,_,_,e,_]:=x;exact cm e
 |own y=>let#[_,e]:=x;exact cm e
 |xd fs=>let#[_,#[_,_,_,e,_],_]:=x;exact cm e
 |rng lo hi=>let#[_,_,_,e]:=x;exact cm e
 |frz ob u=>let#[e,_]:=x;exact cm e
 |tbl ps=>exact cm (show h.get? a\_ from x)
 |met f y=>exact cm (show h.get? a\_ from x)
 |ext φ=>let#[_,#[_,e],_]:=x;exact cm e
theorem Paired.bQ{α β:Type}{F G:α->β->Prop}:∀{EK:List α} {EJ:List β},Paired F EK EJ->(∀a b,F a b->G a b)->Paired G EK EJ
 |_,_,.nil,_=>.nil
 |_,_,.cons r t,f=>.cons (f _ _ r) (Paired.bQ t f)
theorem eM.dX(x:eM P w H h a o)(k:∀b u,(b=a∨H b\.own a)->h.get? b\u->h'.get? b\u)
  (ho:∀b,H b\.own a->H' b\.own a) (ht:∀b xs,H b\.tup xs->H' b\.tup xs):eM P w H' h' a o:=by
 induction o with
 |lst xs=>let#[z,its,n,r,e]:=x;exact#[z,its,n,r,k _ _ (.inl Z) e]
 |tup xs=>let#[z,its,r,#[ob,e,c],o2,e2,c2]:=x;exact#[z,its,r,#[ob,k _ _ (.inl Z) e,c],o2,k _ _ (.inl Z) e2,c2]
 |dK kvs=>let#[z,y,vs,r,ob,es,ep,e,c]:=x;exact#[z,y,vs,r,ob,es,ep,k _ _ (.inl Z) e,c]
 |dT kvs=>
  let#[z,y,xs,r,ob,es,ep,e,c]:=x;exact#[z,y,xs,Paired.bQ r λp q z=>#[z.1,ht _ _ z.2.1,z.2.2],ob,es,ep,k _ _ (.inl Z) e,c]
 |set S n=>let#[ob,es,ep,t,e,c]:=x;exact#[ob,es,ep,t,k _ _ (.inl Z) e,c]
 |ins C dx fs=>
  let#[d,z,ne,e,mA,#[od,es,ep,e2,c],r]:=x;exact#[ho _ d,z,ne,k _ _ (.inl Z) e,mA,#[od,es,ep,k _ _ (.inr d) e2,c],r]
 |own y=>let#[ob,e]:=x;exact#[ob,k _ _ (.inl Z) e]
 |xd fs=>let#[mA,#[od,es,ep,e,c],r]:=x;exact#[mA,#[od,es,ep,k _ _ (.inl Z) e,c],r]
 |rng lo hi=>let#[t,u,v,e]:=x;exact#[t,u,v,k _ _ (.inl Z) e]
 |frz ob u ih=>let#[e,q]:=x;exact#[k _ _ (.inl Z) e,ih q]
 |tbl ps=>
  have e:h.get? a=some { cls:=.none,data:=.fields ps }:=x;show h'.get? a=some { cls:=.none,data:=.fields ps };exact k a _ (.inl Z) e
 |met f y=>
  have e:h.get? a\PySem.W.methodObj (.ref f) (.ref y):=x;show h'.get? a\PySem.W.methodObj (.ref f) (.ref y);exact k a _ (.inl Z) e
 |ext φ=>let#[p,#[o,e],st]:=x;exact#[st _ _ p λo q=>k _ _ (.inl Z) q,#[o,k _ _ (.inl Z) e],st]
theorem eD.lt(x:eD P w H h)(e:H a\o):a<h.objs.size:=(x a o e).lt
theorem eD.fresh(x:eD P w H h)(e:h.objs.size<=a):H a=none:=by
 cases q:H a with
 |none=>rfl
 |some u=>exact absurd (iQ (x.lt q) e) (wW _)
theorem eD.kept(x:eD P w H h)(k:∀b u,h.get? b\u->h'.get? b\u):eD P w H h':=λa o e=>
 (x a o e).dX (λb u _ q=>k b u q) (λ_ q=>q) λ_ _ q=>q
theorem eD.laid(x:eD P w H h)(k:∀b u,h.get? b\u->h'.get? b\u)(hp:h.objs.size<=a)(new:eM P w (upd H a o) h' a o):eD P w (upd H a o) h':=λb u e=>by
 let hn:=x.fresh hp;by_cases hb:b=a
 ·subst hb;rw[ao] at e;cases e;exact new
 rw[az hb] at e;exact (x b u e).dX (λc v _ q=>k c v q) (λc q=>by rw[az (bu q hn)];exact q) λc xs q=>by rw[az (bu q hn)];exact q
end
def Rd(H:Hp)(a:Addr)(u:HO):Prop:=H a=some u∨∃o,H a\.frz o u
theorem Rd.of{H:Hp}{a:Addr}{u:HO}(h:H a\u):Rd H a u:=.inl h
theorem Rd.ok{P:Ad}{w:Af}{H:Hp}{h:Heap}{a:Addr}{u:HO}(r:Rd H a u)(x:eD P w H h):eM P w H h a u:=by
 rcases r with r|⟨o,r⟩
 ·exact x a u r
 let#[_,q]:=x a _ r;exact q
def Iy:Option HO->Prop
 |some (.lst _)=>True
 |some (.dK _)=>True
 |some (.dT _)=>True
 |some (.set _ _)=>True
 |some (.ins _ _ _)=>True
 |some (.ext _)=>True
 |_=>False
section
variable{P:Ad}{w:Af}{H:Hp}{h h':Heap}{x e:Addr}{o':HO}
theorem eD.write(ok:eD P w H h)(mu:Iy (H x))(he:e=x∨H e\.own x)(k:∀b u,b≠e->h.get? b\u->h'.get? b\u)(BY:∃u,h'.get? e\u)
  (new:eM P w (upd H x o') h' x o'):eD P w (upd H x o') h':=λb u q=>by
 have EA:∀c y,H c\.own y->c≠x:=λc y r z=>by subst z;rw[r] at mu;exact mu
 have Ml:∀c xs,H c\.tup xs->c≠x:=λc xs r z=>by subst z;rw[r] at mu;exact mu
 by_cases hb:b=x
 ·subst hb;rw[ao] at q;cases q;exact new
 rw[az hb] at q;by_cases Av:b=e
 ·have q':H b\.own x:=by
   rcases he with z|z
   ·exact absurd (Av.trans z) hb
   rw[Av];exact z
  rw[q] at q';cases q';let#[v,hv]:=BY;exact#[v,by rw[Av];exact hv]
 apply (ok b u q).dX (λc v hc r=>k c v ?_ r) (λc r=>by rw[az (EA c b r)];exact r) λc xs r=>by rw[az (Ml c xs r)];exact r
 rcases hc with rfl|hc
 ·exact Av
 rintro rfl;rcases he with z|z
 ·exact EA c b hc z
 rw[hc] at z;cases z;exact hb Z
end
structure Un (fs ex:ai) (H H':Hp) (h h':Heap):Prop where
 keep:∀b o,h.get? b\o->H b=none->b∉fs->b∉ex->h'.get? b\o
 slot:∀b o,h.get? b\o->H b=none->b∈fs->b∉ex->∃sl,h'.get? b=some { o with slots:=sl }
 free:∀b o,h.get? b\o->H b=none->b∉ex->H' b=none
 there:∀b o,h.get? b\o->b∉ex->∃o',h'.get? b\o'
 gD:∀b xs,H b\.tup xs->H' b\.tup xs
 fG:∀b o u,H b\.frz o u->H' b\.frz o u
 gg:∀b ps,H b\.tbl ps->∃more,H' b\.tbl (ps++more)
section
variable{fs fs' ex ex':ai}{H H1 H2:Hp}{h h1 h2 h':Heap}{a x e:Addr}{o:HO}
theorem Un.any(u:Un fs ex H H1 h h1){b:Addr}{ob:Obj}(q:h.get? b\ob)(n:H b=none)(hx:b∉ex):∃sl,h1.get? b=some { ob with slots:=sl }:=by
 by_cases hb:b∈fs
 ·exact u.slot b ob q n hb hx
 exact#[ob.slots,u.keep b ob q n hb hx]
theorem Un.kept(k:∀b u,h.get? b\u->h'.get? b\u):Un fs ex H H h h':=
 #[λb ob q _ _ _=>k b ob q,λb ob q _ _ _=>#[ob.slots,k b ob q],λ_ _ _ n _=>n,λb ob q _=>#[ob,k b ob q],λ_ _ q=>q,λ_ _ _ q=>q,λ_ ps q=>#[#[],by rw[q];simp]]
theorem Un.refl:Un fs ex H H h h:=Un.kept λ_ _ q=>q
theorem Un.laid(k:∀b u,h.get? b\u->h'.get? b\u)(hp:h.objs.size<=a)(hn:H a=none):Un fs ex H (upd H a o) h h' where
 keep:=λb u q _ _ _=>k b u q
 slot:=λb u q _ _ _=>#[u.slots,k b u q]
 free:=λb u q n _=>by rw[az (dY (iQ (cm q) hp))];exact n
 there:=λb u q _=>#[u,k b u q]
 gD:=λb xs q=>by rw[az (bu q hn)];exact q
 fG:=λb u xs q=>by rw[az (bu q hn)];exact q
 gg:=λb ps q=>#[#[],by rw[az (bu q hn),q];simp]
theorem Un.write(mu:Iy (H x))(he:e=x∨H e\.own x)(k:∀b u,b≠e->h.get? b\u->h'.get? b\u)(BY:∃u,h'.get? e\u):Un fs ex H (upd H x o) h h':=by
 have hx:∀b,H b=none->b≠x:=λb n z=>by subst z;rw[n] at mu;exact mu
 have hb:∀b,H b=none->b≠e:=λb n z=>by
  subst z;rcases he with r|r
  ·exact hx b n r
  rw[n] at r;cases r
 have hm:∀b u,H b\u->¬Iy (some u)->b≠x:=λb u q nm z=>by subst z;rw[q] at mu;exact nm mu
 apply#[λb u q n _ _=>k b u (hb b n) q,λb u q n _ _=>#[u.slots,k b u (hb b n) q],λb u q n _=>by rw[az (hx b n)];exact n,λb u q _=>?_,
  λb xs q=>by rw[az (hm b _ q λz=>z)];exact q,λb u xs q=>by rw[az (hm b _ q λz=>z)];exact q,λb ps q=>#[#[],by rw[az (hm b _ q λz=>z),q];simp]]
 by_cases Av:b=e
 ·subst Av;exact BY
 exact#[u,k b u Av q]
end
def IH(h:Heap)(H:Hp):ai:=(List.range h.objs.size).filter λa=>(H a).isSome
def hJ(h:Heap)(H:Hp):Heap:=PySem.W.hideAll h (IH h H)
theorem gH_(h:Heap)(H:Hp):(hJ h H).objs.size=h.objs.size:=PySem.W.hideAll_size _ _
theorem i2_{h:Heap}{H:Hp}{b:Addr}{o:Obj}(e:h.get? b\o)(n:H b=none):(hJ h H).get? b\o:=
 PySem.W.hideAll_get _ e λhm=>by
  have q:(H b).isSome=true:=(List.mem_filter.mp hm).2;rw[n] at q;simp at q
theorem kl_{h:Heap}{H:Hp}{b:Addr}{o:Obj}(e:(hJ h H).get? b\o):h.get? b\o/\H b=none:=by
 have e':h.get? b\o:=PySem.W.of_hideAll (IH h H) e;apply#[e',?_];cases q:H b with
 |none=>rfl
 |some x=>
  have hm:b∈IH h H:=List.mem_filter.mpr #[List.mem_range.mpr (cm e'),by simp[q]];have z:(hJ h H).get? b=none:=PySem.W.hideAll_none (IH h H) hm;rw[z] at e;cases e
end L2
abbrev ag:=List L2.V
abbrev aI:=Option L2.V
namespace L2
open PySem PySem.Spec PyProof.Rows
structure Mod (K:af) (mg:Str->Option Aa) (base:Heap):Prop where
 EO:K.In base
 glob:base.Ns mainGlobals mg
 blt:∃mb,base.Ns builtinsNs mb/\∀x:Str,x≠"__name__"->mb x=bootBuiltins x
 nolimit:base.NoLimit
structure Cx where
 prog:Ad
 w:Af
 K:af
 mg:Str->Option Aa
 base:Heap
 A:Ag
 N:ae
 cz:Ab
 iT:Hp
 env:Env
 outer:List Env
 stack:List Env
 ex:ai
 fn:Str->Bool
 calm:Bool
 pn:List (Addr × Obj)
 xe:Aa->Ab->Prop
def gM(l:List Env):ai:=l.filterMap (·.frame)
abbrev Cx.fs(X:Cx):ai:=gM X.outer
def Rr(sc:Scope)(x:Str):Prop:=sc.names.lookup x=some .local∨sc.names.lookup x\.cell∨sc.names.lookup x\.free
def Loc(sc:Scope)(x:Str):Prop:=sc.names.lookup x=some .local∨sc.names.lookup x\.cell
def Look(env:Env)(h:Heap)(m:Str->Option Aa)(x:Str)(u:Aa):Prop:=
 (env.kindOf x\.local/\m x\u)∨((env.kindOf x\.cell∨env.kindOf x\.free)/\∃c,env.cells.lookup x\c/\h.IsCell c (some u))
structure Cx.Ok (X:Cx):Prop where
 mod:Mod X.K X.mg X.base
 kind:X.env.scope.kind=.function
 glob:X.env.globals=mainGlobals
 blt:X.env.builtins=builtinsNs
 above:X.cz.heap.objs.size<=X.env.locals
 inj:∀x y c,X.env.cells.lookup x\c->X.env.cells.lookup y\c->x=y
 has:∀x,(X.env.kindOf x\.cell∨X.env.kindOf x\.free)->∃c,X.env.cells.lookup x\c
 Cv:∀x c,X.fn x=true->X.env.cells.lookup x\c->X.cz.heap.objs.size<=c
 hd:X.calm=true->X.A.handled=none
 frames:X.A.frames\X.stack
 IR:X.stack=X.outer∨(X.stack=X.env::X.outer/\X.env.frame\X.env.locals)
 JQ:∀b∈X.ex,b≠X.env.locals/\∀x c,X.env.cells.lookup x\c->c≠b
 bs:∀b o,X.base.get? b\o->X.cz.heap.get? b\o/\X.iT b=none
 tS:X.base.objs.size<=X.cz.heap.objs.size
 sr:∀b o,X.base.get? b\o->b∉X.ex
 tD:∀b∈X.ex,b∉X.fs
 fF:X.cz.heap.FunFrames X.base X.outer
 wb:∀b∈X.fs,X.iT b=none
structure Inv (X:Cx) (pins:List (Addr × Obj)) (σ:List aI) (H:Hp) (s:Ab):Prop where
 ok:X.Ok
 os:s.os=X.cz.os
 bare:AllBare s.gens
 base:Un X.fs X.ex X.iT H X.cz.heap s.heap
 loc:∃m,s.heap.Ns X.env.locals m/\∀(i:Nat) (x:Str) (v:V),X.N[i]? = some x->σ[i]? = some (some v)->Rr X.env.scope x->∃u,RelV v u/\Look X.env s.heap m x u
 cell:∀x c,X.env.cells.lookup x\c->∃v,s.heap.IsCell c v
 free:H X.env.locals=none
 dU:∀x c,X.env.cells.lookup x\c->H c=none
 pin:∀p∈X.pn++pins,s.heap.get? p.1\p.2/\H p.1=none/\p.1≠X.env.locals/\p.1∉X.fs/\∀v,p.2.data≠.cell v
 aH:eD X.prog X.w H s.heap
 len:σ.length=X.N.length
section
variable{X:Cx}{pins:List (Addr × Obj)}{σ:List aI}{H H':Hp}{s:Ab}{h':Heap}
theorem Cx.Ok.Mn(ok:X.Ok){b:Addr}{o:Obj}(e:X.base.get? b\o):b∉X.fs:=λhb=>by
 have:=(ok.fF.mem hb).1;rw[e] at this;cases this
theorem Inv.bs(I:Inv X pins σ H s):∀b o,X.base.get? b\o->s.heap.get? b\o/\H b=none:=λb o e=>
 #[I.base.keep b o (I.ok.bs b o e).1 (I.ok.bs b o e).2 (I.ok.Mn e) (I.ok.sr b o e),I.base.free b o (I.ok.bs b o e).1 (I.ok.bs b o e).2 (I.ok.sr b o e)]
theorem Inv.bk(I:Inv X pins σ H s):∀b o,X.base.get? b\o->s.heap.get? b\o:=λb o e=>(I.bs b o e).1
theorem Inv.mod(I:Inv X pins σ H s):Mod X.K X.mg X.base:=I.ok.mod
theorem Inv.fR(I:Inv X pins σ H s):X.K.In s.heap:=I.ok.mod.EO.keeps I.bk
theorem Inv.lt(I:Inv X pins σ H s):X.env.locals<s.heap.objs.size:=let #[_,hn,_]:=I.loc;hn.lt
theorem Inv.sz(I:Inv X pins σ H s):X.cz.heap.objs.size<=s.heap.objs.size:=ph I.ok.above (Nat.le_of_lt I.lt)
theorem Inv.Mm(I:Inv X pins σ H s){a:Addr}(h:s.heap.objs.size<=a):a∉X.fs:=λhb=>by
 let#[_,o,ho,_]:=I.ok.fF.mem hb;exact absurd (iQ (cm ho) (ph I.sz h)) (wW _)
theorem Inv.uA(I:Inv X pins σ H s):∀x c,X.env.cells.lookup x\c->c≠X.env.locals:=λx c e z=>by
 let#[v,o,ho,hd]:=I.cell x c e;let#[m,#[o',es,ep,jB,jE,_],_]:=I.loc;rw[z,jB] at ho;cases ho;rw[jE] at hd;cases hd
theorem Inv.fF(I:Inv X pins σ H s):s.heap.FunFrames X.base X.outer:=by
 have all:∀(l:List Env),(∀b∈gM l,b∈X.fs)->X.cz.heap.FunFrames X.base l->s.heap.FunFrames X.base l:=by
  intro l
  induction l with
  |nil=>intro _ _;trivial
  |cons env r ih=>
   intro hs hl;let#[hk,#[L,o,hf,hn,ho,hd],hr]:=hl;have hL:L∈X.fs:=hs L (by unfold gM;rw[List.filterMap_cons,hf];exact eP);let#[sl,e]:=I.base.slot L o ho (I.ok.wb L hL) hL λz=>I.ok.tD L z hL;exact#[hk,#[L,_,hf,hn,e,hd],ih (λb hb=>hs b (by unfold gM;rw[List.filterMap_cons,hf];exact eA _ hb)) hr]
 exact all X.outer (λ_ hb=>hb) I.ok.fF
theorem Inv.stack(I:Inv X pins σ H s):s.heap.FunFrames X.base X.stack:=by
 rcases I.ok.IR with e|⟨e,hf⟩
 ·rw[e];exact I.fF
 rw[e];let#[m,hn,_]:=I.loc;apply .cons (by rw[I.ok.kind];decide) hf hn ?_ I.fF;exact Heap.get?_none_of_le (ph I.ok.tS I.ok.above)
theorem Inv.iz(I:Inv X pins σ H s):∀b∈gM X.stack,b∈X.env.locals::X.fs:=λb hb=>by
 rcases I.ok.IR with e|⟨e,hf⟩
 ·rw[e] at hb;exact eA _ hb
 rw[e] at hb;unfold gM at hb;rw[List.filterMap_cons,hf] at hb;exact hb
theorem Inv.iA(I:Inv X pins σ H s):∀b∈gM X.stack,H b=none:=λb hb=>by
 rcases cq.mp (I.iz b hb) with e|hb
 ·rw[e];exact I.free
 let#[_,o,ho,_]:=I.ok.fF.mem hb;exact I.base.free b o ho (I.ok.wb b hb) λz=>I.ok.tD b z hb
theorem Inv.step{g':Array GenState}{t':Nat}{d':Drawn}{ch:ai}(I:Inv X pins σ H s)
  (uy:∀b∈ch,(b∈X.ex∨X.cz.heap.objs.size<=b)/\b≠X.env.locals/\(∀x c,X.env.cells.lookup x\c->c≠b)/\∀p∈X.pn++pins,p.1≠b)
  (keep:∀b o,b≠X.env.locals->b∉X.fs->b∉ch->s.heap.get? b\o->H b=none->h'.get? b\o)
  (slot:∀b o,b≠X.env.locals->b∈X.fs->b∉ch->s.heap.get? b\o->H b=none->∃sl,h'.get? b=some { o with slots:=sl }) (free:∀b o,b∉ch->s.heap.get? b\o->H b=none->H' b=none)
  (there:∀b o,b∉ch->s.heap.get? b\o->∃o',h'.get? b\o')
  (gD:∀b xs,H b\.tup xs->H' b\.tup xs) (fG:∀b o u,H b\.frz o u->H' b\.frz o u) (gg:∀b ps,H b\.tbl ps->∃more,H' b\.tbl (ps++more))
  (ns:∀m,s.heap.Ns X.env.locals m->h'.Ns X.env.locals m) (aH:eD X.prog X.w H' h') (hg:AllBare g') :
  Inv X pins σ H' { s with heap:=h',gens:=g',drawn:=d',toks:=t' }:=by
 have SE:∀b o,X.cz.heap.get? b\o->b≠X.env.locals:=λb o e=>dY (iQ (cm e) I.ok.above)
 have Ji:∀b o,X.cz.heap.get? b\o->b∉X.ex->b∉ch:=λb o e hx hb=>by
  rcases (uy b hb).1 with z|z
  ·exact hx z
  exact absurd (iQ (cm e) z) (wW _)
 have cellK:∀x c,X.env.cells.lookup x\c->∀v,s.heap.IsCell c v->h'.IsCell c v:=λx c e v ⟨o,ho,hd⟩=>by
  have EF:c∉ch:=λz=>(uy c z).2.2.1 x c e Z;by_cases hc:c∈X.fs
  ·let#[sl,q]:=slot c o (I.uA x c e) hc EF ho (I.dU x c e);exact#[_,q,hd]
  exact#[o,keep c o (I.uA x c e) hc EF ho (I.dU x c e),hd]
 apply#[I.ok,I.os,hg,#[λb o e n hb hx=>?_,λb o e n hb hx=>?_,λb o e n hx=>?_,λb o e hx=>?_,λb xs e=>gD b xs (I.base.gD b xs e),λb o xs e=>fG b o xs (I.base.fG b o xs e),λb ps e=>?_],?_,λx c e=>?_,?_,λx c e=>?_,λp hp=>?_,aH,I.len]
 ·exact keep b o (SE b o e) hb (Ji b o e hx) (I.base.keep b o e n hb hx) (I.base.free b o e n hx)
 ·let#[sl,e1]:=I.base.slot b o e n hb hx;let#[Zu,e2]:=slot b _ (SE b o e) hb (Ji b o e hx) e1 (I.base.free b o e n hx);exact#[Zu,e2]
 ·let#[o',e1]:=I.base.there b o e hx;exact free b o' (Ji b o e hx) e1 (I.base.free b o e n hx)
 ·let#[o',e1]:=I.base.there b o e hx;exact there b o' (Ji b o e hx) e1
 ·let#[m1,e1]:=I.base.gg b ps e;let#[m2,e2]:=gg b _ e1;exact#[m1++m2,by rw[e2,Array.append_assoc]]
 ·let#[m,hn,hl]:=I.loc;apply#[m,ns m hn,λi x v e1 e2 e3=>?_];let#[u,r,l]:=hl i x v e1 e2 e3;apply#[u,r,?_];rcases l with l|⟨k,c,e,z⟩
  ·exact .inl l
  exact .inr #[k,c,e,cellK x c e _ z]
 ·let#[v,z]:=I.cell x c e;exact#[v,cellK x c e v z]
 ·let#[m,#[o,_,_,ho,_],_]:=I.loc;exact free _ o (λz=>(uy _ z).2.1 Z) ho I.free
 ·let#[v,o,ho,hd]:=I.cell x c e;exact free c o (λz=>(uy c z).2.2.1 x c e Z) ho (I.dU x c e)
 let#[e,n,ne,nf,d]:=I.pin p hp;have EF:p.1∉ch:=λz=>(uy p.1 z).2.2.2 p hp Z;exact#[keep p.1 p.2 ne nf EF e n,free p.1 p.2 EF e n,ne,nf,d]
theorem Inv.un{t':Nat}(I:Inv X pins σ H s)(u:Un X.fs [] H H' s.heap h')(aH:eD X.prog X.w H' h'):Inv X pins σ H' { s with heap:=h',toks:=t' }:=by
 let#[m,#[o,es,ep,ho,r],_]:=id I.loc;let#[sl,hL]:=u.any ho I.free Z2
 exact I.step (g':=s.gens) (d':=s.drawn) (ch:=[]) (λ_ z=>nomatch z) (λb o _ hb _ e n=>u.keep b o e n hb Z2) (λb o _ hb _ e n=>u.slot b o e n hb Z2) (λb o _ e n=>u.free b o e n Z2) (λb o _ e=>u.there b o e Z2) u.gD u.fG u.gg (λm' hm=>by
  let#[o',JR,JS,jB,r']:=hm;rw[ho] at jB;cases jB;exact#[_,JR,JS,hL,r']) aH I.bare
theorem Inv.call{g':Array GenState}{t':Nat}{d':Drawn}{ch:ai}(I:Inv X pins σ H s)(u:Un (gM X.stack) ch H H' s.heap h')(aH:eD X.prog X.w H' h')(hg:AllBare g')
  (uy:∀b∈ch,(b∈X.ex∨X.cz.heap.objs.size<=b)/\b≠X.env.locals/\(∀x c,X.env.cells.lookup x\c->c≠b)/\∀p∈X.pn++pins,p.1≠b) :
  Inv X pins σ H' { s with heap:=h',gens:=g',drawn:=d',toks:=t' }:=by
 let#[m,#[o,es,ep,ho,r],_]:=id I.loc;let#[sl,hL]:=u.any ho I.free λz=>(uy _ z).2.1 Z
 exact I.step (ch:=ch) uy (λb o hL hb hc e n=>u.keep b o e n (λz=>(cq.mp (I.iz b z)).elim hL hb) hc) (λb o _ _ hc e n=>u.any e n hc) (λb o hc e n=>u.free b o e n hc) (λb o hc e=>u.there b o e hc) u.gD u.fG u.gg (λm' hm=>by
  let#[o',JR,JS,jB,r']:=hm;rw[ho] at jB;cases jB;exact#[_,JR,JS,hL,r']) aH hg
theorem Inv.turned{t':Nat}{it:Addr}(I:Inv X pins σ H s)(k:∀b o,b≠it->s.heap.get? b\o->h'.get? b\o)(hn:H it=none)(hL:it≠X.env.locals)
  (h1:it∈X.ex∨X.cz.heap.objs.size<=it) (h2:∀x c,X.env.cells.lookup x\c->c≠it) (h3:∀p∈X.pn++pins,p.1≠it):Inv X pins σ H { s with heap:=h',toks:=t' }:=by
 have SC:∀b u,H b\u->b≠it:=λb u e z=>by rw[z,hn] at e;cases e
 apply I.step (g':=s.gens) (d':=s.drawn) (ch:=[it]) (λb hb=>?_) (λb o _ _ hc e _=>k b o (λz=>hc (by simp[z])) e) (λb o _ _ hc e _=>#[o.slots,k b o (λz=>hc (by simp[z])) e]) (λ_ _ _ _ n=>n)
  (λb o hc e=>#[o,k b o (λz=>hc (by simp[z])) e]) (λ_ _ e=>e) (λ_ _ _ e=>e) (λb ps e=>#[#[],by rw[e];simp]) (λm hm=>?_) (λb u e=>?_) I.bare
 ·have e:b=it:=⇑hb
  subst e;exact#[h1,hL,h2,h3]
 ·let#[o,es,ep,ho,r]:=hm;exact#[o,es,ep,k _ o (Ne.symm hL) ho,r]
 apply (I.aH b u e).dX (λc v hc q=>k c v ?_ q) (λ_ q=>q) λ_ _ q=>q;rcases hc with z|z
 ·rw[z];exact SC b u e
 exact SC c _ z
theorem Inv.tok(I:Inv X pins σ H s)(t:Nat):Inv X pins σ H { s with toks:=t }:=I.un (h':=s.heap) (t':=t) Un.refl I.aH
theorem Inv.kept{t':Nat}(I:Inv X pins σ H s)(k:∀b u,s.heap.get? b\u->h'.get? b\u):Inv X pins σ H { s with heap:=h',toks:=t' }:=I.un (Un.kept k) (I.aH.kept k)
theorem Inv.laid{a:Addr}{o:HO}{t':Nat}(I:Inv X pins σ H s)(k:∀b u,s.heap.get? b\u->h'.get? b\u)(hp:s.heap.objs.size<=a)(new:eM X.prog X.w (upd H a o) h' a o) :
  Inv X pins σ (upd H a o) { s with heap:=h',toks:=t' }:=I.un (Un.laid k hp (I.aH.fresh hp)) (I.aH.laid k hp new)
theorem Inv.write{x e:Addr}{o:HO}{t':Nat}(I:Inv X pins σ H s)(mu:Iy (H x))(he:e=x∨H e\.own x)(k:∀b u,b≠e->s.heap.get? b\u->h'.get? b\u)(BY:∃u,h'.get? e\u)
  (new:eM X.prog X.w (upd H x o) h' x o):Inv X pins σ (upd H x o) { s with heap:=h',toks:=t' }:=I.un (Un.write mu he k BY) (I.aH.write mu he k BY new)
theorem Inv.nj{xM:List (Addr × Obj)}(I:Inv X pins σ H s)(h:∀p∈xM,s.heap.get? p.1\p.2/\H p.1=none/\p.1≠X.env.locals/\p.1∉X.fs/\∀v,p.2.data≠.cell v):Inv X xM σ H s:=
 #[I.ok,I.os,I.bare,I.base,I.loc,I.cell,I.free,I.dU,λp hp=>(fB.mp hp).elim (λz=>I.pin p (List.mem_append_left _ z)) (h p),I.aH,I.len]
theorem Vr{N:ae}(hN:N.Nodup){i j:Nat}{x:Str}(a:N[i]? = some x)(b:N[j]? = some x):i=j:=by
 let#[h1,e1]:=cw.mp a;let#[h2,e2]:=cw.mp b;exact (List.getElem_inj hN).mp (e1.trans e2.symm)
theorem VF{M:Model}{A:Ag}{E:Aa->Ab->Prop}{i:Nat}{x:Str}{v:V}{u:Aa}{Q:Unit->Ab->Prop}(I:Inv X pins σ H s)(hN:X.N.Nodup)(hi:X.N[i]? = some x)(hx:Loc X.env.scope x)(r:RelV v u)
  (h:∀s',Inv X pins (σ.set i (some v)) H s'->(∃a,Heap.SameBut a s.heap s'.heap/\(a=X.env.locals∨X.env.cells.lookup x\a))->Q () s') (hf:X.fn x=true∨X.env.scope.names.lookup x\.local:=by first|exact .inl Z|exact .inr Z|assumption):wpAny M A (storeName X.env x u) Q E s:=by
 let#[m,hn,hl]:=id I.loc;have NQ:(X.env.scope.kind == .class || (X.env.scope.kind == .module&&X.env.locals != X.env.globals))=false:=by rw[I.ok.kind];rfl
 have FI:i<σ.length:=by rw[I.len];exact (cw.mp hi).1
 let uA:=I.uA
 have tracked:∀{a:Addr} {h':Heap},(∃o,s.heap.get? a\o/\H a=none)->Heap.SameBut a s.heap h'->eD X.prog X.w H h':=λ{a h'} ha hs b ob e=>by
  let#[_,_,yf]:=ha;apply (I.aH b ob e).dX (λc w' hc q=>(hs.2 c ?_).trans q) (λ_ q=>q) λ_ _ q=>q;rintro rfl;rcases hc with rfl|hc
  ·rw[yf] at e;cases e
  rw[yf] at hc;cases hc
 rcases hx with hk|hk
 ·apply wpAny_storeName_local hk hn (λh' Ak hs=>?_) NQ;let#[oL,_,_,Ju,_]:=id hn;apply h _ #[I.ok,I.os,I.bare,#[λb o e n hb hx=>?_,λb o e n hb hx=>?_,I.base.free,λb o e hx=>?_,I.base.gD,I.base.fG,I.base.gg],#[_,Ak,λj y v' e1 e2 e3=>?_],λy c e=>?_,I.free,I.dU,λp hp=>?_,tracked #[oL,Ju,I.free] hs,by simpa using I.len] #[_,hs,.inl Z]
  ·exact (hs.2 b (dY (iQ (cm e) I.ok.above))).trans (I.base.keep b o e n hb hx)
  ·let#[sl,e1]:=I.base.slot b o e n hb hx;exact#[sl,(hs.2 b (dY (iQ (cm e) I.ok.above))).trans e1]
  ·let#[o',e1]:=I.base.there b o e hx;exact#[o',(hs.2 b (dY (iQ (cm e) I.ok.above))).trans e1]
  ·by_cases hj:j=i
   ·subst hj;rw[hi] at e1;cases e1;rw[List.getElem?_set_self FI] at e2;cases e2;exact#[u,r,.inl #[hk,by simp]]
   rw[List.getElem?_set_ne (Ne.symm hj)] at e2;let#[u',r',q]:=hl j y v' e1 e2 e3;apply#[u',r',?_];rcases q with⟨k,e⟩|⟨k,c,e,z⟩
   ·apply .inl #[k,?_];have:y≠x:=λe=>hj (Vr hN e1 (e▸hi));simp[this,e]
   exact .inr #[k,c,e,z.sameBut hs (uA y c e)]
  ·let#[w',z]:=I.cell y c e;exact#[w',z.sameBut hs (uA y c e)]
  let#[e,n,ne,nf,d]:=I.pin p hp;exact#[(hs.2 p.1 ne).trans e,n,ne,nf,d]
 have NB:X.fn x=true:=by
  rcases hf with z|z
  ·exact z
  rw[z] at hk;cases hk
 let#[c,hc]:=I.ok.has x (.inl hk);let#[w',z]:=I.cell x c hc;apply wpAny_storeName_cell I.ok.kind hk hc z (λh' B0 hs=>?_);let#[oc,Fl,M7]:=id z;apply h { s with heap:=h' } #[I.ok,I.os,I.bare,#[λb o e n hb hx=>?_,λb o e n hb hx=>?_,I.base.free,λb o e hx=>?_,I.base.gD,I.base.fG,I.base.gg],#[m,hn.sameBut hs (Ne.symm (uA x c hc)),λj y v' e1 e2 e3=>?_],λy c' e=>?_,I.free,I.dU,λp hp=>?_,tracked #[oc,Fl,I.dU x c hc] hs,by simpa using I.len] #[c,hs,.inr hc]
 ·exact (hs.2 b (dY (iQ (cm e) (I.ok.Cv x c NB hc)))).trans (I.base.keep b o e n hb hx)
 ·let#[sl,e1]:=I.base.slot b o e n hb hx;exact#[sl,(hs.2 b (dY (iQ (cm e) (I.ok.Cv x c NB hc)))).trans e1]
 ·let#[o',e1]:=I.base.there b o e hx;exact#[o',(hs.2 b (dY (iQ (cm e) (I.ok.Cv x c NB hc)))).trans e1]
 ·by_cases hj:j=i
  ·subst hj;rw[hi] at e1;cases e1;rw[List.getElem?_set_self FI] at e2;cases e2;exact#[u,r,.inr #[.inl hk,c,hc,B0]]
  rw[List.getElem?_set_ne (Ne.symm hj)] at e2;let#[u',r',q]:=hl j y v' e1 e2 e3;apply#[u',r',?_];rcases q with q|⟨k,c',e,z'⟩
  ·exact .inl q
  apply .inr #[k,c',e,z'.sameBut hs ?_];rintro rfl;exact hj (Vr hN e1 (I.ok.inj _ _ _ e hc▸hi))
 ·by_cases Uk:c'=c
  ·subst Uk;exact#[_,B0]
  let#[w2,z2]:=I.cell y c' e;exact#[w2,z2.sameBut hs Uk]
 let#[e,n,ne,nf,d]:=I.pin p hp;apply#[(hs.2 p.1 ?_).trans e,n,ne,nf,d];intro q;rw[q,Fl] at e;have q':oc=p.2:=d5 e;exact d w' (by rw[<- q'];exact M7)
theorem U9{M:Model}{A:Ag}{E:Aa->Ab->Prop}{i:Nat}{x:Str}{v:V}{u:Aa}{Q:Unit->Ab->Prop}(I:Inv X pins σ H s)(hN:X.N.Nodup)(hi:X.N[i]? = some x)(hx:Loc X.env.scope x)(r:RelV v u)
  (h:∀s',Inv X pins (σ.set i (some v)) H s'->Q () s') (hf:X.fn x=true∨X.env.scope.names.lookup x\.local:=by first|exact .inl Z|exact .inr Z|assumption):wpAny M A (storeName X.env x u) Q E s:=
 VF I hN hi hx r (λs' I' _=>h s' I') hf
theorem Inv.yF{s':Ab}{ch:ai}(I:Inv X pins σ H s)(ho:s'.os=s.os)(u:Un (gM X.stack) ch H H' s.heap s'.heap)(aH:eD X.prog X.w H' s'.heap)(hg:AllBare s'.gens)
  (uy:∀b∈ch,(b∈X.ex∨X.cz.heap.objs.size<=b)/\b≠X.env.locals/\(∀x c,X.env.cells.lookup x\c->c≠b)/\∀p∈X.pn++pins,p.1≠b):Inv X pins σ H' s':=by
 let#[h',g',d',t',o']:=s';have e:o'=s.os:=ho;subst e;exact I.call (g':=g') (t':=t') (d':=d') u aH hg uy
end
abbrev XK:=Aa->Option Addr->Hp->Prop
abbrev St:=List aI
abbrev VK:=V->Hp->Prop
abbrev TE:=St->Hp->VK->Prop
abbrev TT:=St->Hp->(Bool->Hp->Prop)->Prop
abbrev TA:=St->Hp->(ag->Hp->Prop)->Prop
structure Ends where
 nx:St->Hp->Prop
 rt:VK
 bk:St->Hp->Prop:=λ_ _=>False
 ct:St->Hp->Prop:=λ_ _=>False
abbrev TS:=Ends->St->Hp->Prop
def EP(X:Cx)(pins:List (Addr × Obj))(σ:St)(Q:VK)(u:Aa)(s':Ab):Prop:=∃v H',Inv X pins σ H' s'/\RelV v u/\Q v H'
def TP(X:Cx)(pins:List (Addr × Obj))(σ:St)(Q:Bool->Hp->Prop)(b:Bool)(s':Ab):Prop:=∃H',Inv X pins σ H' s'/\Q b H'
def AP(X:Cx)(pins:List (Addr × Obj))(σ:St)(Q:ag->Hp->Prop)(us:aj)(s':Ab):Prop:=∃vs H',Inv X pins σ H' s'/\Vals vs us/\Q vs H'
def SP(X:Cx)(pins:List (Addr × Obj))(D:Ends)(f:Flow)(s':Ab):Prop:=
 match f with
 |.next=>∃bq H',Inv X pins bq H' s'/\D.nx bq H'
 |.brk=>∃bq H',Inv X pins bq H' s'/\D.bk bq H'
 |.cont=>∃bq H',Inv X pins bq H' s'/\D.ct bq H'
 |.ret u=>∃v bq H',Inv X pins bq H' s'/\RelV v u/\D.rt v H'
def PE(X:Cx)(e:Expr)(t:TE):Prop:=
 ∀(pins:List (Addr × Obj)) (s:Ab) (σ:St) (H:Hp) (Q:VK),Inv X pins σ H s->t σ H Q->wpAny (model X.prog X.w) X.A (eval e X.env) (EP X pins σ Q) X.xe s
def PT(X:Cx)(e:Expr)(t:TT):Prop:=
 ∀(pins:List (Addr × Obj)) (s:Ab) (σ:St) (H:Hp) (Q:Bool->Hp->Prop),Inv X pins σ H s->t σ H Q->wpAny (model X.prog X.w) X.A (isTrue e X.env (eval e X.env)) (TP X pins σ Q) X.xe s
def PW(X:Cx)(e:Expr)(t:TT):Prop:=
 ∀(whole:Sem Aa) (pins:List (Addr × Obj)) (s:Ab) (σ:St) (H:Hp) (Q:Bool->Hp->Prop),Inv X pins σ H s->t σ H Q->wpAny (model X.prog X.w) X.A (isTrue e X.env whole) (TP X pins σ Q) X.xe s
theorem PW.pt{X:Cx}{e:Expr}{t:TT}(h:PW X e t):PT X e t:=h _
def PA(X:Cx)(es:List Expr)(t:TA):Prop:=
 ∀(pos:Pos) (pins:List (Addr × Obj)) (s:Ab) (σ:St) (H:Hp) (Q:ag->Hp->Prop),Inv X pins σ H s->t σ H Q->wpAny (model X.prog X.w) X.A (spliced (backTo pos (starEach es X.env))) (AP X pins σ Q) X.xe s
def PS(X:Cx)(st:Stmt)(t:TS):Prop:=
 ∀(pins:List (Addr × Obj)) (s:Ab) (σ:St) (H:Hp) (D:Ends),Inv X pins σ H s->t D σ H->wpAny (model X.prog X.w) X.A (exec st X.env) (SP X pins D) X.xe s
def kz(X:Cx)(st:List Stmt)(t:TS):Prop:=
 ∀(pins:List (Addr × Obj)) (s:Ab) (σ:St) (H:Hp) (D:Ends),Inv X pins σ H s->t D σ H->wpAny (model X.prog X.w) X.A (execs st X.env) (SP X pins D) X.xe s
theorem aV{α:Type}{t:Sem α}{Q Q':α->Ab->Prop}{M:Model}{A:Ag}{E:Aa->Ab->Prop}{s:Ab}(h:wpAny M A t Q E s)(hQ:∀a s,Q a s->Q' a s):wpAny M A t Q' E s:=wpAny_mono h hQ λ_ _ x=>x
end L2
abbrev jX:=L2.St->L2.Hp->Prop
namespace L2
open PySem PySem.Spec PyProof.Rows
section
variable{X:Cx}
inductive g8 (i:Nat) (σ:St) (H:Hp) (Q:VK):Prop
 |mk:∀v,σ[i]? = some (some v)->Q v H->g8 i σ H Q
def tC(v:V):TE:=λ_ H Q=>Q v H
theorem kL_{i:Nat}{x:Str}{pos:Pos}(hN:X.N[i]? = some x)(hv:Rr X.env.scope x)(hd:(x == ("__debug__":Str))=false:=by decide)(gK:(x == ("__classdict__":Str))=false:=by decide):PE X (.Name x pos) (g8 i):=by
 intro pins s σ H Q I h;let#[v,e,h]:=h;let#[m,hn,hl]:=I.loc;let#[u,r,l]:=hl i x v hN e hv;have fin:EP X pins σ Q u s:=#[v,H,I,r,h];rcases l with⟨hk,hm⟩|⟨hk,c,hc,nK⟩
 ·exact wpAny_Name (wpAny_loadName_local I.ok.kind hk hn hm fin) hd
 rcases hk with hk|hk
 ·exact wpAny_Name (wpAny_loadName_cell I.ok.kind hk hc nK fin) hd
 exact wpAny_Name (wpAny_loadName_free I.ok.kind hk hc nK fin gK) hd
theorem au{i j pos}:PE X (.Constant (.int i) j pos) (tC (.int i)):=λ_ _ _ H _ I h=>wpAny_Constant_int #[.int i,H,I.tok _,#[_,Z],h]
theorem ke{b j pos}:PE X (.Constant (.bool b) j pos) (tC (.bl b)):=λ_ _ _ H _ I h=>Constant_bool #[.bl b,H,I,Z,h]
theorem pU{j pos}:PE X (.Constant .none j pos) (tC .non):=λ_ _ _ H _ I h=>Constant_none #[.non,H,I,Z,h]
theorem bf{x j pos}:PE X (.Constant (.str x) j pos) (tC (.str x)):=λ_ _ _ H _ I h=>Calls.Constant_str #[.str x,H,I.tok _,#[_,Z],h]
def Gl(X:Cx)(x:Str):Prop:=X.env.kindOf x=some .globalImplicit
theorem OZ{E:Aa->Ab->Prop}{pins:List (Addr × Obj)}{s:Ab}{σ:St}{H:Hp}{x:Str}{u:Aa}{pos:Pos}{Q:Aa->Ab->Prop}(I:Inv X pins σ H s)(hg:Gl X x)(hm:X.mg x\u)(h:Q u s)
  (hd:(x == ("__debug__":Str))=false:=by decide):wpAny (model X.prog X.w) X.A (eval (.Name x pos) X.env) Q E s:=
 Calls.Name_function_global I.ok.kind hg (Calls.loadGlobal_global (by rw[I.ok.glob];exact I.mod.glob.keeps I.bk) hm h) hd
theorem Cr{E:Aa->Ab->Prop}{pins:List (Addr × Obj)}{s:Ab}{σ:St}{H:Hp}{x:Str}{u:Aa}{pos:Pos}{Q:Aa->Ab->Prop}(I:Inv X pins σ H s)(hg:Gl X x)(hm:X.mg x=none)(hv:bootBuiltins x\u)(h:Q u s)
  (hn:x≠"__name__":=by decide) (hd:(x == ("__debug__":Str))=false:=by decide):wpAny (model X.prog X.w) X.A (eval (.Name x pos) X.env) Q E s:=by
 let#[mb,h1,h2]:=I.mod.blt;exact Calls.Name_function_global I.ok.kind hg (Calls.loadGlobal_builtin (by rw[I.ok.glob];exact I.mod.glob.keeps I.bk) hm (by rw[I.ok.blt];exact h1.keeps I.bk) ((h2 x hn).trans hv) h) hd
theorem wJ{x:Str}{v:V}{u:Aa}{pos:Pos}(hg:Gl X x)(hm:X.mg x\u)(r:RelV v u)(hd:(x == ("__debug__":Str))=false:=by decide):PE X (.Name x pos) (tC v):=
 λ_ _ _ H _ I h=>OZ I hg hm #[v,H,I,r,h] hd
theorem iR{x:Str}{v:V}{u:Aa}{pos:Pos}(hg:Gl X x)(hm:X.mg x=none)(hv:bootBuiltins x\u)(r:RelV v u)(hn:x≠"__name__":=by decide)(hd:(x == ("__debug__":Str))=false:=by decide):PE X (.Name x pos) (tC v):=
 λ_ _ _ H _ I h=>Cr I hg hm hv #[v,H,I,r,h] hn hd
variable{a b:Expr}{ta tb:TE}{pos:Pos}
def PC(X:Cx)(op:CmpOp)(a b:Expr)(t:TE):Prop:=
 ∀(pins:List (Addr × Obj)) (s:Ab) (σ:St) (H:Hp) (Q:VK),Inv X pins σ H s->t σ H Q->
  wpAny (model X.prog X.w) X.A (eval a X.env) (λv aU=>wpAny (model X.prog X.w) X.A (eval b X.env) (λu g9=>wpAny (model X.prog X.w) X.A (compareOp op v u) (EP X pins σ Q) X.xe g9) X.xe aU) X.xe s
theorem ju(b:Expr){op:CmpOp}(h:op≠.In)(h2:op≠.NotIn):behindInMarks op b=false:=by
 have e1:(op == CmpOp.In)=false:=by cases op<;>first|rfl|exact absurd Z h
 have e2:(op == CmpOp.NotIn)=false:=by cases op<;>first|rfl|exact absurd Z h2
 cases b<;>simp[behindInMarks,e1,e2]
def LB(ta:TE):TE:=λσ H Q=>ta σ H λx H1=>Q (.bl (decide (x=.non))) H1
theorem RelV.sj{x:V}{v:Aa}(r:RelV x v):(v == Value.none)=decide (x=.non):=by
 cases x with
 |non=>cases r;rfl
 |bl _=>cases r;rfl
 |int _=>let#[t,rfl]:=r;rfl
 |str _=>let#[t,rfl]:=r;rfl
 |byt _=>let#[t,rfl]:=r;rfl
 |flt _=>let#[t,rfl]:=r;rfl
 |ref _=>cases r;rfl
 |ty _=>cases r;rfl
theorem JJ{j pos'}(ha:PE X a ta):PC X .Is a (.Constant .none j pos') (LB ta):=by
 intro pins s σ H Q I h;apply aV (ha pins s σ H _ I h) λv s1 ⟨x,H1,I1,r1,q1⟩=>?_;exact Constant_none (is_none_gen #[.bl _,H1,I1,by rw[r1.sj];rfl,q1])
inductive Sa (Q:Bool->Hp->Prop) (x:V) (H1:Hp):Prop
 |mk:∀c,x=.bl c->Q c H1->Sa Q x H1
def tB(t:TE):TT:=λσ H Q=>t σ H λx H1=>Sa Q x H1
theorem GT{op:CmpOp}{t:TE}(h:PC X op a b t)(h1:behindInMarks op b=false:=by first|exact ju _ (by decide) (by decide)|rfl):PE X (.Compare a [op] [b] pos) t:=λpins s σ H Q I hw=>wpAny_Compare1 (h pins s σ H Q I hw) h1
theorem yB{op:CmpOp}{t:TE}(h:PC X op a b t)(h1:behindInMarks op b=false:=by first|exact ju _ (by decide) (by decide)|rfl):PT X (.Compare a [op] [b] pos) (tB t):=by
 intro pins s σ H Q I hw;apply wpAny_isTrue_Compare1 (aV (h pins s σ H _ I hw) λv s1 h1=>aV h1 λu s2 h2=>aV h2 λc s3 ⟨x,H1,I1,r1,q1⟩=>?_) h1;let#[d,rfl,q]:=q1;cases r1;exact tH #[H1,I1,q]
theorem dR{e:Expr}{t:TE}(h:PE X e t)(he:∀whole,isTrue e X.env whole=(do let v <- whole;standAt e.pos;holding [v] (truthy v)):=by intro _;rfl):PT X e (tB t):=by
 intro pins s σ H Q I hw;apply isTrue_plain (aV (h pins s σ H _ I hw) λv s1 ⟨x,H1,I1,r1,q1⟩=>?_) (he _);let#[d,rfl,q]:=q1;cases r1;exact tH #[H1,I1,q]
variable{tA IL:TT}{rest:List Expr}
def LH(t u:TT):TT:=λσ H Q=>t σ H λc H1=>if c=true then u σ H1 Q else Q false H1
def Y5(t u:TT):TT:=λσ H Q=>t σ H λc H1=>if c=true then Q true H1 else u σ H1 Q
def Lz(t:TT):TT:=λσ H Q=>t σ H λc H1=>Q (!c) H1
theorem Hd(ha:PT X a tA):PW X (.BoolOp .And [a] pos) tA:=by
 intro wh pins s σ H Q I h;apply isTrue_and (aV (ha pins s σ H Q I h) λc s1 e=>?_);cases c with
 |true=>exact isTrue_and_nil e
 |false=>exact e
theorem uN(ha:PT X a tA):PW X (.BoolOp .Or [a] pos) tA:=by
 intro wh pins s σ H Q I h;apply isTrue_or (aV (ha pins s σ H Q I h) λc s1 e=>?_);cases c with
 |false=>exact isTrue_or_nil e
 |true=>exact e
theorem Cn(ha:PT X a tA)(hb:PW X (.BoolOp .And (b::rest) pos) IL):PW X (.BoolOp .And (a::b::rest) pos) (LH tA IL):=by
 intro wh pins s σ H Q I h;apply isTrue_and (aV (ha pins s σ H _ I h) λc s1 ⟨H1,I1,q1⟩=>?_);cases c with
 |true=>exact hb wh pins s1 σ H1 Q I1 q1
 |false=>exact#[H1,I1,q1]
theorem uz(ha:PT X a tA)(hb:PW X (.BoolOp .Or (b::rest) pos) IL):PW X (.BoolOp .Or (a::b::rest) pos) (Y5 tA IL):=by
 intro wh pins s σ H Q I h;apply isTrue_or (aV (ha pins s σ H _ I h) λc s1 ⟨H1,I1,q1⟩=>?_);cases c with
 |true=>exact#[H1,I1,q1]
 |false=>exact hb wh pins s1 σ H1 Q I1 q1
theorem eQ(ha:PT X a tA):PT X (.UnaryOp .Not a pos) (Lz tA):=by
 intro pins s σ H Q I h;exact isTrue_not (ha pins s σ H (λc H1=>Q (!c) H1) I h)
inductive qx (tb:TE) (σ:St) (Q:VK) (x:V) (H1:Hp):Prop
 |mk:∀c,x=.bl c->(if c=true then tb σ H1 Q else Q (.bl false) H1)->qx tb σ Q x H1
def Dp(ta tb:TE):TE:=λσ H Q=>ta σ H λx H1=>qx tb σ Q x H1
inductive xl (tb:TE) (σ:St) (Q:VK) (x:V) (H1:Hp):Prop
 |mk:∀c,x=.bl c->(if c=true then Q (.bl true) H1 else tb σ H1 Q)->xl tb σ Q x H1
def Ly(ta tb:TE):TE:=λσ H Q=>ta σ H λx H1=>xl tb σ Q x H1
inductive qo (Q:VK) (x:V) (H1:Hp):Prop
 |mk:∀c,x=.bl c->Q (.bl (!c)) H1->qo Q x H1
def Dg(ta:TE):TE:=λσ H Q=>ta σ H λx H1=>qo Q x H1
theorem j9{op}{t:TE}(h:PE X a t):PE X (.BoolOp op [a] pos) t:=λpins s σ H Q I hw=>BoolOp_one (h pins s σ H Q I hw)
theorem j_(ha:PE X a ta)(hb:PE X (.BoolOp .And (b::rest) pos) tb):PE X (.BoolOp .And (a::b::rest) pos) (Dp ta tb):=by
 intro pins s σ H Q I h;apply BoolOp_and (aV (ha pins s σ H _ I h) λv s1 ⟨x,H1,I1,r1,q1⟩=>?_);let#[c,rfl,q1]:=q1;cases r1;apply tH ?_;cases c with
 |true=>exact hb pins s1 σ H1 Q I1 q1
 |false=>exact#[.bl false,H1,I1,Z,q1]
theorem SQ(ha:PE X a ta)(hb:PE X (.BoolOp .Or (b::rest) pos) tb):PE X (.BoolOp .Or (a::b::rest) pos) (Ly ta tb):=by
 intro pins s σ H Q I h;apply BoolOp_or (aV (ha pins s σ H _ I h) λv s1 ⟨x,H1,I1,r1,q1⟩=>?_);let#[c,rfl,q1]:=q1;cases r1;apply tH ?_;cases c with
 |false=>exact hb pins s1 σ H1 Q I1 q1
 |true=>exact#[.bl true,H1,I1,Z,q1]
theorem Tp(ha:PE X a ta):PE X (.UnaryOp .Not a pos) (Dg ta):=by
 intro pins s σ H Q I h;apply UnaryOp_ (aV (ha pins s σ H _ I h) λv s1 ⟨x,H1,I1,r1,q1⟩=>?_);let#[c,rfl,q1]:=q1;cases r1;exact not_of (tH #[.bl (!c),H1,I1,Z,q1])
def Y6(t:TT)(ta tb:TE):TE:=λσ H Q=>t σ H λc H1=>if c=true then ta σ H1 Q else tb σ H1 Q
theorem Vq{c:Expr}(hc:PT X c tA)(ha:PE X a ta)(hb:PE X b tb):PE X (.IfExp c a b pos) (Y6 tA ta tb):=by
 intro pins s σ H Q I h;apply wpAny_IfExp (aV (hc pins s σ H _ I h) λd s1 ⟨H1,I1,q1⟩=>?_);cases d with
 |true=>exact ha pins s1 σ H1 Q I1 q1
 |false=>exact hb pins s1 σ H1 Q I1 q1
end
end L2
namespace L2
open PySem PySem.Spec PyProof.Rows
def dN(K:af)(H:Hp)(a:Addr)(xs:ag):Prop:=
 Rd H a (.lst xs) ∨
  ∃(o:Obj) (its:Array Aa) (n:Nat),K.lookup a\o/\o.cls=.type "list"/\o.dict=none/\o.data=.seq its n/\its.size<=sizeLine/\Vals xs its.toList
def gB(K:af)(H:Hp)(a:Addr)(xs:ag):Prop:=
 Rd H a (.tup xs) ∨
  ∃(o:Obj) (its:Array Aa) (n:Nat),K.lookup a\o/\o.cls=.type "tuple"/\o.data=.seq its n/\its.size<=sizeLine/\Vals xs its.toList
def Rq:Aa->aI
 |.none=>some .non
 |.bool b=>some (.bl b)
 |.int i _=>some (.int i)
 |.str x _=>some (.str x)
 |.bytes b _=>some (.byt b)
 |.float b _=>some (.flt b)
 |.ref a=>some (.ref a)
 |.type n=>some (.ty n)
 |_=>none
theorem RelV.abs{x:V}{u:Aa}(r:RelV x u):Rq u\x:=by
 cases x with
 |non=>cases r;rfl
 |bl _=>cases r;rfl
 |int _=>let#[t,rfl]:=r;rfl
 |str _=>let#[t,rfl]:=r;rfl
 |byt _=>let#[t,rfl]:=r;rfl
 |flt _=>let#[t,rfl]:=r;rfl
 |ref _=>cases r;rfl
 |ty _=>cases r;rfl
theorem RelV.inj{x y:V}{u:Aa}(r:RelV x u)(q:RelV y u):x=y:=d5 (r.abs.symm.trans q.abs)
theorem Vals.inj:∀{xs ys:ag} {us:aj},Vals xs us->Vals ys us->xs=ys
 |_,_,_,.nil,.nil=>rfl
 |_,_,_,.cons r t,.cons r' t'=>by rw[r.inj r',Vals.inj t t']
section
variable{X:Cx}{pins:List (Addr × Obj)}{σ:St}{H:Hp}{s:Ab}{a:Addr}{xs ys:ag}
theorem dN.of{K:af}(h:H a\.lst xs):dN K H a xs:=.inl (.inl h)
theorem gB.of{K:af}(h:H a\.tup xs):gB K H a xs:=.inl (.inl h)
theorem Inv.list(I:Inv X pins σ H s)(h:dN X.K H a xs):∃its:aj,Vals xs its/\PlainL s.heap a its.toArray/\xs.length<=sizeLine:=by
 rcases h with h|⟨o,its,n,hk,hc,hd,hs,hz,r⟩
 ·let#[z,its,n,r,e]:=h.ok I.aH;exact#[its,r,#[_,n,e,Z,Z,Z],z]
 apply#[its.toList,r,#[o,n,I.fR a o hk,hc,hd,by simpa using hs],?_];let e:=r.length;simp only[tY] at e;omega
theorem Inv.tuple(I:Inv X pins σ H s)(h:gB X.K H a xs):∃its:aj,Vals xs its/\IsTup s.heap a its.toArray/\xs.length<=sizeLine:=by
 rcases h with h|⟨o,its,n,hk,hc,hs,hz,r⟩
 ·let#[z,its,r,p,_]:=h.ok I.aH;exact#[its,r,p,z]
 apply#[its.toList,r,#[o,I.fR a o hk,hc,n,by simpa using hs],?_];let e:=r.length;simp only[tY] at e;omega
theorem Inv.jy(I:Inv X pins σ H s)(h:dN X.K H a xs)(h':dN X.K H a ys):xs=ys:=by
 let#[its,r,#[o,n,e,_,_,d],_]:=I.list h;let#[its',r',#[o',n',e',_,_,d'],_]:=I.list h';rw[e] at e';cases e';rw[d] at d'
 injection d' with d1 _
 have:its=its':=⇑(eI Array.toList d1)
 subst this;exact r.inj r'
theorem Inv.hZ(I:Inv X pins σ H s)(h:gB X.K H a xs)(h':gB X.K H a ys):xs=ys:=by
 let#[its,r,#[o,e,_,n,d],_]:=I.tuple h;let#[its',r',#[o',e',_,n',d'],_]:=I.tuple h';rw[e] at e';cases e';rw[d] at d'
 injection d' with d1 _
 have:its=its':=⇑(eI Array.toList d1)
 subst this;exact r.inj r'
end
abbrev Cx.g7(X:Cx)(E:Aa->Ab->Prop):Cx:={ X with xe:=E }
abbrev Cx.zJ(X:Cx):Cx:=X.g7 λ_ _=>False
theorem Cx.Ok.g7{X:Cx}(ok:X.Ok)(E:Aa->Ab->Prop):(X.g7 E).Ok:=
 #[ok.mod,ok.kind,ok.glob,ok.blt,ok.above,ok.inj,ok.has,ok.Cv,ok.hd,ok.frames,ok.IR,ok.JQ,ok.bs,ok.tS,ok.sr,ok.tD,ok.fF,ok.wb]
theorem Cx.Ok.d7{X:Cx}{E:Aa->Ab->Prop}(ok:(X.g7 E).Ok):X.Ok:=
 #[ok.mod,ok.kind,ok.glob,ok.blt,ok.above,ok.inj,ok.has,ok.Cv,ok.hd,ok.frames,ok.IR,ok.JQ,ok.bs,ok.tS,ok.sr,ok.tD,ok.fF,ok.wb]
section
variable{X:Cx}{pins:List (Addr × Obj)}{σ:St}{H:Hp}{s:Ab}{E:Aa->Ab->Prop}
theorem Inv.g7(I:Inv X pins σ H s)(E:Aa->Ab->Prop):Inv (X.g7 E) pins σ H s:=#[I.ok.g7 E,I.os,I.bare,I.base,I.loc,I.cell,I.free,I.dU,I.pin,I.aH,I.len]
theorem Inv.d7(I:Inv (X.g7 E) pins σ H s):Inv X pins σ H s:=#[I.ok.d7,I.os,I.bare,I.base,I.loc,I.cell,I.free,I.dU,I.pin,I.aH,I.len]
theorem SP.d7{D:Ends}{f:Flow}{s':Ab}(h:SP (X.g7 E) pins D f s'):SP X pins D f s':=by
 cases f with
 |next=>let#[bq,H',I,q]:=h;exact#[bq,H',I.d7,q]
 |brk=>let#[bq,H',I,q]:=h;exact#[bq,H',I.d7,q]
 |cont=>let#[bq,H',I,q]:=h;exact#[bq,H',I.d7,q]
 |ret u=>let#[v,bq,H',I,r,q]:=h;exact#[v,bq,H',I.d7,r,q]
theorem kz.zJ{st:List Stmt}{t:TS}(h:kz X.zJ st t):kz X st t:=λpins s σ H D I hw=>
 wpAny_mono (h pins s σ H D (I.g7 _) hw) (λ_ _ q=>q.d7) λ_ _ z=>False.elim z
end
section
variable{X:Cx}{st:Stmt}{rest:List Stmt}{t u:TS}{e:Expr}{te:TE}{pos:Pos}
def Dh:TS:=λD σ H=>D.nx σ H
def iy(t u:TS):TS:=λD σ H=>t { D with nx:=u D } σ H
theorem bM:kz X [] Dh:=λ_ _ σ H _ I h=>wpAny_execs_nil #[σ,H,I,h]
theorem ax(h1:PS X st t)(h2:kz X rest u):kz X (st::rest) (iy t u):=by
 intro pins s σ H D I h;apply wpAny_execs_cons (aV (h1 pins s σ H { D with nx:=u D } I h) λf s1 q=>?_);cases f with
 |next=>
  let#[bq,H',I',q]:=q;exact h2 pins s1 bq H' D I' q
 |ret v=>exact q
 |brk=>exact q
 |cont=>exact q
theorem aF(h1:PS X st t):kz X [st] t:=by
 intro pins s σ H D I h;apply wpAny_execs_cons (aV (h1 pins s σ H D I h) λf s1 q=>?_);cases f with
 |next=>exact wpAny_execs_nil q
 |ret v=>exact q
 |brk=>exact q
 |cont=>exact q
theorem Inv.quiet{pins:List (Addr × Obj)}{σ:St}{H:Hp}{s:Ab}(I:Inv X pins σ H s):interactive X.env=false:=by simp[interactive,I.ok.kind]
def xr(te:TE):TS:=λD σ H=>te σ H λ_ H1=>D.nx σ H1
theorem iq(he:PE X e te)(hs:swapsWith e none pos.line X.env=pure false:=by rfl):PS X (.Expr e pos) (xr te):=by
 intro pins s σ H D I h;exact wpAny_Expr_any (aV (he pins s σ H _ I h) λv s1 ⟨x,H1,I1,r1,q1⟩=>#[σ,H1,I1,q1]) I.quiet hs
def Lx(te:TE):TS:=λD σ H=>te σ H D.rt
theorem aZ(he:PE X e te):PS X (.Return (some e) pos) (Lx te):=by
 intro pins s σ H D I h;exact wpAny_Return_some (aV (he pins s σ H _ I h) λv s1 ⟨x,H1,I1,r1,q1⟩=>#[x,σ,H1,I1,r1,q1])
def LC(c:TT)(t u:TS):TS:=λD σ H=>c σ H λb H1=>if b=true then t D σ H1 else u D σ H1
theorem bL{c:Expr}{a b:List Stmt}{tc:TT}(hc:PT X c tc)(ha:kz X a t)(hb:kz X b u):PS X (.If c a b pos) (LC tc t u):=by
 intro pins s σ H D I h;apply wpAny_If (aV (hc pins s σ H _ I h) λd s1 ⟨H1,I1,q1⟩=>?_);cases d with
 |true=>exact ha pins s1 σ H1 D I1 q1
 |false=>exact hb pins s1 σ H1 D I1 q1
def qp:TS:=λ_ _ _=>False
theorem ir_:PS X st qp:=λ_ _ _ _ _ _ h=>h.elim
theorem eB{Y7:List Stmt}:kz X Y7 qp:=λ_ _ _ _ _ _ h=>h.elim
end
abbrev TG:=V->St->Hp->(St->Hp->Prop)->Prop
abbrev Bs:=ag->St->Hp->(St->Hp->Prop)->Prop
def PG(X:Cx)(target:Expr)(t:TG):Prop:=
 ∀(pins:List (Addr × Obj)) (s:Ab) (σ:St) (H:Hp) (v:V) (u:Aa) (Q:jX),Inv X pins σ H s->RelV v u->t v σ H Q->
  wpAny (model X.prog X.w) X.A (assign target X.env u) (λ_ s'=>∃bq H',Inv X pins bq H' s'/\Q bq H') X.xe s
def Iw(X:Cx)(ts:List Expr)(t:Bs):Prop:=
 ∀(pins:List (Addr × Obj)) (s:Ab) (σ:St) (H:Hp) (vs:ag) (us:aj) (Q:jX),Inv X pins σ H s->Vals vs us->t vs σ H Q->
  wpAny (model X.prog X.w) X.A (assignInOrder ((assignEach ts X.env).map (·.2)) us) (λ_ s'=>∃bq H',Inv X pins bq H' s'/\Q bq H') X.xe s
abbrev Br:=V->V->V->Hp->(Hp->Prop)->Prop
def Iu(X:Cx)(t:Br):Prop:=
 ∀(pins:List (Addr × Obj)) (s:Ab) (σ:St) (H:Hp) (o i v:V) (ov iv u:Aa) (Q:Hp->Prop),Inv X pins σ H s->RelV o ov->RelV i iv->RelV v u->t o i v H Q->
  wpAny (model X.prog X.w) X.A (setItem ov iv u) (λ_ s'=>∃H',Inv X pins σ H' s'/\Q H') X.xe s
section
variable{X:Cx}{pos:Pos}
def gN(i:Nat):TG:=λv σ H Q=>Q (σ.set i (some v)) H
theorem fM{i:Nat}{x:Str}(hN:X.N.Nodup)(hi:X.N[i]? = some x)(hx:Loc X.env.scope x)(hf:X.fn x=true∨X.env.scope.names.lookup x\.local:=by first|exact .inl Z|exact .inr Z|assumption):PG X (.Name x pos) (gN i):=by
 intro pins s σ H v u Q I r h;exact wpAny_assign_Name (U9 I hN hi hx r (λs' I'=>#[_,H,I',h]) hf)
theorem ik:type_of% PyProof.Rows.Boot.«isinstance»:=PyProof.Rows.Boot.«isinstance»
theorem Oa:type_of% PyProof.Rows.Boot.«int»:=PyProof.Rows.Boot.«int»
theorem Cj:type_of% PyProof.Rows.Boot.«str»:=PyProof.Rows.Boot.«str»
theorem Bm:type_of% PyProof.Rows.Boot.«tuple»:=PyProof.Rows.Boot.«tuple»
theorem uK:type_of% PyProof.Rows.Boot.«list»:=PyProof.Rows.Boot.«list»
theorem Kv:type_of% PyProof.Rows.Boot.«sorted»:=PyProof.Rows.Boot.«sorted»
theorem uJ:type_of% PyProof.Rows.Boot.«dict»:=PyProof.Rows.Boot.«dict»
theorem Sv(i:Nat){x:Str}(hN:X.N.Nodup:=by first|(show ([_]:List Str).Nodup;decide +kernel)|(show ([_,_]:List Str).Nodup;decide +kernel)|(show ([_,_,_]:List Str).Nodup;decide +kernel)|(show ([_,_,_,_]:List Str).Nodup;decide +kernel))(hi:X.N[i]? = some x:=by rfl)(hx:Loc X.env.scope x:=by first|exact Or.inl Z|exact Or.inr Z)(hf:X.fn x=true∨X.env.scope.names.lookup x\.local:=by first|exact .inl Z|exact .inr Z|assumption):PG X (.Name x pos) (gN i):=fM hN hi hx hf
theorem cY(i:Nat){x:Str}(hN:X.N.Nodup)(hi:X.N[i]? = some x:=by rfl)(hx:Loc X.env.scope x:=by first|exact Or.inl Z|exact Or.inr Z)(hf:X.fn x=true∨X.env.scope.names.lookup x\.local:=by first|exact .inl Z|exact .inr Z|assumption):PG X (.Name x pos) (gN i):=fM hN hi hx hf
def wa:Bs:=λvs σ H Q=>vs=[]/\Q σ H
inductive uF (t:TG) (u:Bs) (vs:ag) (σ:St) (H:Hp) (Q:jX):Prop
 |mk:∀v r,vs=v::r->(t v σ H λbq H'=>u r bq H' Q)->uF t u vs σ H Q
theorem kq:Iw X [] wa:=by
 intro pins s σ H vs us Q I r h;let#[e,h]:=h;subst e;cases r;exact assignInOrder_nil ⟨σ,H,I,h⟩
theorem dZ{e:Expr}{es:List Expr}{t:TG}{u:Bs}(h1:PG X e t)(h2:Iw X es u)
  (hs:(assignEach (e::es) X.env).map (·.2)=assign e X.env::(assignEach es X.env).map (·.2):=by rfl):Iw X (e::es) (uF t u):=by
 intro pins s σ H vs us Q I r h;let#[v,vr,e1,h]:=h;subst e1;cases r with
 |cons r rr=>
  rw[hs];apply assignInOrder_cons (aV (h1 pins s σ H _ _ _ I r h) λ_ s1 ⟨mC,H1,I1,q1⟩=>?_);exact h2 pins s1 mC H1 _ _ Q I1 rr q1
inductive iI (K:af) (n:Nat) (t:Bs) (v:V) (σ:St) (H:Hp) (Q:jX):Prop
 |mk:∀a xs,v=.ref a->gB K H a xs->xs.length=n->t xs σ H Q->iI K n t v σ H Q
theorem o9{es:List Expr}{k:Nat}{t:Bs}{n:Nat}(hc:X.calm=true)(h:Iw X es t)
  (hn:(assignEach es X.env).length=n:=by rfl) (zX:(assignEach es X.env).findIdx? (·.1)=none:=by rfl):PG X (.Tuple es k pos) (iI X.K n t):=by
 intro pins s σ H v u Q I r hw;let#[a,xs,e1,hq,hl,hw]:=hw;subst e1;cases r;let#[its,rv,ht,hz]:=I.tuple hq;apply assign_Tuple_tuple (I.ok.hd hc) ht (by simp[hn,<- hl,rv.length]) zX λh' hx=>?_;have I1:Inv X pins σ H { s with heap:=h' }:=I.kept (t':=s.toks) λb o e=>hx b o (dY (cm e)) e;exact h pins _ σ H xs _ Q I1 ⇑rv hw
def On(to ti:TE)(t:Br):TG:=λv σ H Q=>to σ H λo H1=>ti σ H1 λi H2=>t o i v H2 λH3=>Q σ H3
theorem JI{o i:Expr}{to ti:TE}{t:Br}(ho:PE X o to)(hi:PE X i ti)(hs:Iu X t)
  (ha:∀v,assign (.Subscript o i pos) X.env v=(do
   let ov <- holding [v] (eval o X.env)
   let iv <- holding [v,ov] (eval i X.env)
   standAt pos
   holding [v,ov,iv] (setItem ov iv v)
   release [v,ov,iv] []):=by intro _;rfl):PG X (.Subscript o i pos) (On to ti t):=by
 intro pins s σ H v u Q I r h;rw[ha];apply aC (wpAny_holding (aV (ho pins s σ H _ I h) λov s1 ⟨x,H1,I1,r1,q1⟩=>?_));apply aC (wpAny_holding (aV (hi pins s1 σ H1 _ I1 q1) λiv s2 ⟨y,H2,I2,r2,q2⟩=>?_));apply aC (wpAny_standAt (aC (wpAny_holding (aV (hs pins s2 σ H2 x y v ov iv u _ I2 r1 r2 r q2) λ_ s3 ⟨H3,I3,q3⟩=>?_))));exact wpAny_release #[σ,H3,I3,q3]
def qw(te:TE)(g:TG):TS:=λD σ H=>te σ H λx H1=>g x σ H1 D.nx
theorem Cp{tg e:Expr}{te:TE}{g:TG}(he:PE X e te)(hg:PG X tg g)(hs:swapsWithSole [tg] e pos.line X.env=pure false:=by rfl)(hw:swappedStores [tg] e X.env=pure none:=by rfl)
  (h1:(assignEach [tg] X.env).map (·.2)=[assign tg X.env]:=by rfl):PS X (.Assign [tg] e pos) (qw te g):=by
 intro pins s σ H D I h;apply wpAny_Assign_stores (aV (he pins s σ H _ I h) λv s1 ⟨x,H1,I1,r1,q1⟩=>?_) hs hw;rw[h1];exact aV (hg pins s1 σ H1 x v _ I1 r1 q1) λ_ s2 q=>q
theorem Cm{i:Nat}{x:Str}{e:Expr}{te:TE}{pos':Pos}(hN:X.N.Nodup)(hi:X.N[i]? = some x)(hx:Loc X.env.scope x)(he:PE X e te)(hs:swapsWith e (some (.Name x pos')) pos.line X.env=pure false:=by rfl)(hf:X.fn x=true∨X.env.scope.names.lookup x\.local:=by first|exact .inl Z|exact .inr Z|assumption) :
  PS X (.Assign [.Name x pos'] e pos) (qw te (gN i)):=by
 intro pins s σ H D I h;apply wpAny_Assign_Name (aV (he pins s σ H _ I h) λv s1 ⟨y,H1,I1,r1,q1⟩=>?_) hs;exact U9 I1 hN hi hx r1 (λs2 I2=>#[_,H1,I2,q1]) hf
theorem bx(i:Nat){x:Str}{e:Expr}{te:TE}{pos':Pos}(hN:X.N.Nodup)(he:PE X e te)(hi:X.N[i]? = some x:=by rfl)(hx:Loc X.env.scope x:=by first|exact Or.inl Z|exact Or.inr Z)(hs:swapsWith e (some (.Name x pos')) pos.line X.env=pure false:=by rfl)(hf:X.fn x=true∨X.env.scope.names.lookup x\.local:=by first|exact .inl Z|exact .inr Z|assumption):PS X (.Assign [.Name x pos'] e pos) (qw te (gN i)):=Cm hN hi hx he hs hf
end
section
variable{X:Cx}{pos:Pos}
def qh(c:TT)(tb:TS):TS:=λD σ H=>∃W:Nat->St->Hp->Prop,(∃m,W m σ H)/\∀m σ H,W m σ H->
 c σ H λb H1=>if b=true then ∃N:St->Hp->Prop,(∀bq H',N bq H'->∃m',m'<m/\W m' bq H')/\tb { D with nx:=N,ct:=N,bk:=D.nx } σ H1 else D.nx σ H1
theorem Vg{c:Expr}{body:List Stmt}{tc:TT}{tb:TS}(hp:PassesOwn (model X.prog X.w) X.A X.env X.xe)(hc:PT X c tc)(hb:kz X body tb):PS X (.While c body [] pos) (qh tc tb):=by
 intro pins s σ H D I h;let#[W,#[m0,w0],turn]:=h;apply wpAny_While (codeAny_whileLoop (λn s'=>∃bq H',Inv X pins bq H' s'/\W n bq H') ?_ m0 #[σ,H,I,w0]);rintro n s1 ⟨mC,H1,I1,w1⟩;apply wpAny_passesOwn hp (aV (hc pins s1 mC H1 _ I1 (turn n mC H1 w1)) λb s2 ⟨H2,I2,q2⟩=>?_);cases b with
 |true=>
  let#[N,hN,q2]:=q2;rw[aJ Z];apply wpAny_passesOwn hp (aV (hb pins s2 mC H2 _ I2 q2) λf s3 q3=>?_);cases f with
  |next=>
   let#[j3,H3,I3,n3]:=q3;let#[m',hm,w3]:=hN j3 H3 n3;exact#[m',hm,j3,H3,I3,w3]
  |cont=>
   let#[j3,H3,I3,n3]:=q3;let#[m',hm,w3]:=hN j3 H3 n3;exact#[m',hm,j3,H3,I3,w3]
  |brk=>exact q3
  |ret v=>exact q3
 |false=>
  rw[aE f_];exact wpAny_execs_nil #[mC,H2,I2,q2]
end
structure It where
 go:Nat->Hp->Prop
 xf:Nat->Hp->V->Hp->Prop
 stop:Nat->Hp->Prop
def dc(X:Cx)(pins:List (Addr × Obj))(H:Hp)(b:Addr):Prop:=
 H b=none/\b≠X.env.locals/\b∉X.fs/\(b∈X.ex∨X.cz.heap.objs.size<=b)/\(∀x c,X.env.cells.lookup x\c->c≠b)/\∀p∈X.pn++pins,p.1≠b
theorem Inv.jF{X:Cx}{pins:List (Addr × Obj)}{σ:St}{H H':Hp}{s:Ab}{b:Addr}(I:Inv X pins σ H s)(hb:s.heap.objs.size<=b)(hn:H' b=none):dc X pins H' b:=by
 apply#[hn,uT (iQ I.lt hb),I.Mm hb,.inr (ph I.sz hb),λx c e z=>?_,λp hp z=>?_]
 ·let#[v,q]:=I.cell x c e;exact absurd (iQ q.lt (by rw[z];exact hb)) (wW _)
 exact absurd (iQ (cm (I.pin p hp).1) (by rw[z];exact hb)) (wW _)
structure Turn (P:Ad) (w:Af) (K:af) (tg:Expr) (J:It) (fp:ai) (it:Addr) (tn:Nat->Heap->Prop):Prop where
 mem:it∈fp
 obj:∀i h,tn i h->∀b∈fp,∃o,h.get? b\o/\∀v,o.data≠.cell v
 keep:∀i h h',tn i h->(∀b∈fp,∀o,h.get? b\o->h'.get? b\o)->tn i h'
 item:∀(X:Cx),X.prog=P->X.w=w->X.K=K->X.calm=true->∀(i:Nat) (pins:List (Addr × Obj)) (s:Ab) (σ:St) (H:Hp) (E:Aa->Ab->Prop),Inv X pins σ H s->(∀b∈fp,dc X pins H b)->tn i s.heap->J.go i H->
  wpAny (model P w) X.A (pyNext (.ref it)) (λr s1=>∃u,r\u /\
   wpAny (model P w) X.A (letOwnedTupleGo tg (.ref it) u) (λ_ s2=>∃x H',Inv X pins σ H' s2/\RelV x u/\J.xf i H x H'/\tn (i+1) s2.heap/\∀b∈fp,H' b=none) E s1) E s
 done:∀(X:Cx),X.prog=P->X.w=w->X.K=K->X.calm=true->∀(i:Nat) (pins:List (Addr × Obj)) (s:Ab) (σ:St) (H:Hp) (E:Aa->Ab->Prop),Inv X pins σ H s->(∀b∈fp,dc X pins H b)->tn i s.heap->J.stop i H->
  wpAny (model P w) X.A (pyNext (.ref it)) (λr s1=>r=none/\Inv X pins σ H s1) E s
 self:∀(A:Ag) (i:Nat) (s:Ab) (Q:Aa->Ab->Prop) (E:Aa->Ab->Prop),tn i s.heap->Q (.ref it) s->wpAny (model P w) A (pyIter (.ref it)) Q E s
abbrev TI:=St->Hp->(It->Hp->Prop)->Prop
def Xs(X:Cx)(pins:List (Addr × Obj))(σ:St)(tg:Expr)(R:It->Hp->Prop)(Jn:Aa)(s2:Ab):Prop:=
 ∃(it:Addr) (fp:ai) (tn:Nat->Heap->Prop) (J:It) (H':Hp),Jn=.ref it/\Inv X pins σ H' s2/\Turn X.prog X.w X.K tg J fp it tn/\tn 0 s2.heap/\(∀b∈fp,dc X pins H' b)/\R J H'
def PI(X:Cx)(tg iter:Expr)(wi:TI):Prop:=
 ∀(pins:List (Addr × Obj)) (s:Ab) (σ:St) (H:Hp) (R:It->Hp->Prop),Inv X pins σ H s->wi σ H R->
  wpAny (model X.prog X.w) X.A (eval iter X.env) (λv s1=>wpAny (model X.prog X.w) X.A (pyIter v) (Xs X pins σ tg R) X.xe s1) X.xe s
theorem F2{M:Model}{A:Ag}{E:Aa->Ab->Prop}{s:Ab}{tg:Expr}{it:Addr}{u:Aa}{o:Obj}{n:String}{vs:Array Aa}{Q:Unit->Ab->Prop}(ho:s.heap.get? it\o)(hc:o.cls=.type n)(hd:o.data=.fields vs)
  (hn:["enumerate","zip","dict_itemiterator","dict_reverseitemiterator","odict_iterator","itertools.zip_longest","itertools.pairwise"].contains n=false) (hQ:Q () s):wpAny M A (letOwnedTupleGo tg (.ref it) u) Q E s:=by
 unfold letOwnedTupleGo
 cases tg<;>first
  |exact bA hQ
  |(cases u<;>first
    |exact bA hQ
    |(apply aC (wpAny_load ho ?_)
      rw[hc,hd];show wpAny M A (if (["enumerate","zip","dict_itemiterator","dict_reverseitemiterator","odict_iterator","itertools.zip_longest","itertools.pairwise"].contains n&&vs[0]? == some (rawInt _))=true then _ else _) Q E s;rw[aE (by intro h;rw[hn,Bool.false_and] at h;cases h)];exact bA hQ))
def Bw(K:af)(a:Addr):It:=
 ⟨λi H=>∃xs x,dN K H a xs/\xs[i]? = some x,λi H x H'=>H'=H/\∀xs,dN K H a xs->xs[i]? = some x,λi H=>∃xs,dN K H a xs/\xs.length<=i⟩
def CO(lo:Int)(n:Nat):It:=⟨λi _=>i<n,λi H x H'=>H'=H/\x=.int (lo+i),λi _=>n<=i⟩
theorem hE_{P:Ad}{w:Af}{K:af}{tg:Expr}(a it:Addr):Turn P w K tg (Bw K a) [it] it (λi h=>h.IsListIter it a i) where
 mem:=by simp
 obj:=λi h st b hb=>by
  have e:b=it:=⇑hb
  subst e;let#[o,e,c,d]:=st;exact#[o,e,λv z=>by rw[d] at z;cases z]
 keep:=λi h h' st k=>st.at λo e=>k it Z2 o e
 item:=by
  intro X hP hw hK hc i pins s σ H E I hf st hg;subst hP hw hK;let#[xs,x,hq,hx]:=hg;let#[its,rv,p,hz]:=I.list hq;let#[u,hu,ru]:=rv.get hx;let#[f0,f1,f2,f3,f4,f5]:=hf it Z2;apply wpAny_pyNext_list_item st p.isList (x:=u) ⇑hu λh' ft sb=>?_;have I1:Inv X pins σ H { s with heap:=h' }:=I.turned (t':=s.toks) (λb o hb e=>(sb.2 b hb).trans e) f0 f1 f3 f4 f5;let#[o,e,c,d]:=id ft;exact#[u,Z,F2 (s:={ s with heap:=h' }) e c d (by decide) #[x,H,I1,ru,#[Z,λys hy=>by rw[I.jy hy hq];exact hx],ft,λb hb=>(hf b hb).1]]
 done:=by
  intro X hP hw hK hc i pins s σ H E I hf st hg;subst hP hw hK;let#[xs,hq,hx]:=hg;let#[its,rv,p,hz]:=I.list hq;let#[f0,f1,f2,f3,f4,f5]:=hf it Z2;let hl:=rv.length;exact wpAny_pyNext_list_end (I.ok.hd hc) st p.isList (by simp;omega) λh' eb=>#[Z,I.turned (t':=s.toks) (λb o hb e=>eb b o hb e) f0 f1 f3 f4 f5]
 self:=λ_ _ _ _ _ st h=>wpAny_pyIter_listiter st h
theorem fP_{P:Ad}{w:Af}{K:af}{tg:Expr}(it:Addr)(lo:Int)(n:Nat):Turn P w K tg (CO lo n) [it] it (λi h=>IsRangeIter h it (lo+(i:Nat) * 1) ((n:Int) - (i:Nat)) 1) where
 mem:=by simp
 obj:=λi h st b hb=>by
  have e:b=it:=⇑hb
  subst e
  exact#[_,st,λv z=>by
   have z':Data.fields _=Data.cell v:=z;cases z']
 keep:=λi h h' st k=>k it Z2 _ st
 item:=by
  intro X hP hw hK hc i pins s σ H E I hf st hg;subst hP hw hK;let#[f0,f1,f2,f3,f4,f5]:=hf it Z2;let W:=Walks.range (prog:=X.prog) (w:=X.w) (I.ok.hd hc) it lo 1 n;apply W.item i s _ _ hg st λv h' tk hv ft kk=>?_;let#[t,rfl]:=hv;have I1:Inv X pins σ H { s with heap:=h',toks:=tk }:=I.turned (λb o hb e=>kk b o ⇑hb e) f0 f1 f3 f4 f5;apply#[_,Z,F2 (s:={ s with heap:=h',toks:=tk }) (n:="range_iterator") ft Z Z (by decide) #[.int (lo+i),H,I1,#[t,?_],#[Z,Z],ft,λb hb=>(hf b hb).1]];rw[Int.mul_one]
 done:=by
  intro X hP hw hK hc i pins s σ H E I hf st hg;subst hP hw hK;let#[f0,f1,f2,f3,f4,f5]:=hf it Z2;exact wpAny_pyNext_range_end (I.ok.hd hc) st (by have:n<=i:=hg;omega) λh' eb=>#[Z,I.turned (t':=s.toks) (λb o hb e=>eb b o hb e) f0 f1 f3 f4 f5]
 self:=λ_ _ _ _ _ st h=>wpAny_pyIter_rangeiter st h
end L2
namespace L2
open PySem PySem.Spec PyProof.Rows
section
variable{X:Cx}{tg:Expr}
inductive sM (K:af) (R:It->Hp->Prop) (x:V) (H1:Hp):Prop
 |mk:∀a,x=.ref a->(∃xs,dN K H1 a xs)->R (Bw K a) H1->sM K R x H1
def E3(K:af)(tl:TE):TI:=λσ H R=>tl σ H λx H1=>sM K R x H1
theorem dO{l:Expr}{tl:TE}(hl:PE X l tl):PI X tg l (E3 X.K tl):=by
 intro pins s σ H R I h;apply aV (hl pins s σ H _ I h) λv s1 ⟨x,H1,I1,r1,q1⟩=>?_;let#[a,e,#[xs,hq],q]:=q1;subst e;cases r1;let#[its,rv,p,hz]:=I1.list hq;apply wpAny_pyIter_list p.isList ?_;apply#[s1.heap.objs.size,[s1.heap.objs.size],_,_,H1,Z,I1.kept (t':=s1.toks) λb o e=>cc _ e,hE_ a _,#[_,eJ _ Z,Z,Z],λb hb=>?_,q];have e:b=s1.heap.objs.size:=⇑hb
 subst e;exact I1.jF (br _) (I1.aH.fresh (br _))
theorem if_{pins:List (Addr × Obj)}{σ:St}{H:Hp}{s:Ab}{R:It->Hp->Prop}{E:Aa->Ab->Prop}{lo hi:Int}{t u v:Tok}{tk:Nat}(I:Inv X pins σ H s)(h1:-(2 ^ 62)<=lo)(h2:lo<2 ^ 62)(h3:-(2 ^ 62)<=hi)(h4:hi<2 ^ 62)
  (q:R (CO lo (hi - lo).toNat) H):wpAny (model X.prog X.w) X.A (pyIter (.ref s.heap.objs.size)) (Xs X pins σ tg R) E { s with heap:=s.heap.push { cls:=.type "range",data:=.fields (List.toArray [.int lo t,.int hi u,.int 1 v]) },toks:=tk }:=by
 apply wpAny_pyIter_range (IsRange.new ..) (small_one h1 h2 h3 h4) ?_;have I1:Inv X pins σ H { s with heap:=s.heap.push { cls:=.type "range",data:=.fields (List.toArray [.int lo t,.int hi u,.int 1 v]) },toks:=tk }:=I.kept λb o e=>cc _ e
 apply#[(s.heap.push { cls:=.type "range",data:=.fields (List.toArray [.int lo t,.int hi u,.int 1 v]) }).objs.size,[(s.heap.push { cls:=.type "range",data:=.fields (List.toArray [.int lo t,.int hi u,.int 1 v]) }).objs.size],_,_,H,Z,
  I1.kept (t':=tk) λb o e=>cc _ e,fP_ _ lo (hi - lo).toNat,?_,λb hb=>?_,q]
 ·have e1:lo+((0:Nat):Int) * 1=lo:=by simp
  have e2:(((hi - lo).toNat:Nat):Int) - ((0:Nat):Int)=Builtin.Range.rangeSize lo hi 1:=by rw[rangeSize_one];split<;>omega
  show IsRangeIter _ _ (lo+((0:Nat):Int) * 1) ((((hi - lo).toNat:Nat):Int) - ((0:Nat):Int)) 1;rw[e1,e2];exact eJ _ Z
 have e:b=(s.heap.push { cls:=.type "range",data:=.fields (List.toArray [.int lo t,.int hi u,.int 1 v]) }).objs.size:=⇑hb
 subst e;exact I1.jF (br _) (I1.aH.fresh (br _))
inductive sL (R:It->Hp->Prop) (vs:ag) (H1:Hp):Prop
 |mk:∀j:Int,vs=[.int j]->-(2 ^ 62)<=j->j<2 ^ 62->R (CO 0 j.toNat) H1->sL R vs H1
def E2(ta:TA):TI:=λσ H R=>ta σ H λvs H1=>sL R vs H1
theorem Ij{a:Expr}{ta:TA}{p pos:Pos}(hg:Gl X "range")(hm:X.mg "range"=none)(ha:PA X [a] ta)(hs:starEach [a] X.env=[(false,eval a X.env)]:=by rfl):PI X tg (.Call (.Name "range" p) [a] [] pos) (E2 ta):=by
 intro pins s σ H R I h;apply Call_ (Cr I hg hm boot_range (PyProof.Rows.callWith_type1 (aV (ha pos pins s σ H _ I h) λus s1 ⟨vs,H1,I1,r1,q1⟩=>?_) hs Z));let#[j,e,q1,q2,q]:=q1;subst e;cases r1 with
 |cons r rr=>
  cases rr;let#[t,rfl]:=r;exact call_range_1 (if_ I1 Z1 Z1 q1 q2 ⇑q)
def LD(wi:TI)(g:TG)(tb:TS):TS:=λD σ H=>wi σ H λJ H1=>∃W:Nat->Nat->St->Hp->Prop,(∃m,W 0 m σ H1)/\∀i m σ H,W i m σ H->
 (J.stop i H/\D.nx σ H)∨(J.go i H/\∃N:St->Hp->Prop,(∀bq H',N bq H'->∃m',m'<m/\W (i+1) m' bq H')/\∀x H',J.xf i H x H'->g x σ H' λgC H2=>tb { D with nx:=N,ct:=N,bk:=D.nx } gC H2)
def wU(fp:ai)(h:Heap):List (Addr × Obj):=fp.filterMap λb=>(h.get? b).map λo=>(b,o)
theorem KZ{fp:ai}{h:Heap}{b:Addr}{o:Obj}(hb:b∈fp)(e:h.get? b\o):(b,o)∈wU fp h:=wZ.mpr #[b,hb,by rw[e];rfl]
theorem gj_{fp:ai}{h:Heap}{p:Addr × Obj}(hp:p∈wU fp h):p.1∈fp/\h.get? p.1\p.2:=by
 let#[b,hb,e]:=wZ.mp hp;cases q:h.get? b with
 |none=>rw[q] at e;cases e
 |some o=>
  rw[q] at e;have e':(b,o)=p:=d5 e;subst e';exact#[hb,q]
theorem Inv.pinned{pins:List (Addr × Obj)}{σ:St}{H:Hp}{s:Ab}{fp:ai}(I:Inv X pins σ H s)(hf:∀b∈fp,dc X pins H b)(ho:∀b∈fp,∃o,s.heap.get? b\o/\∀v,o.data≠.cell v):Inv X (pins++wU fp s.heap) σ H s:=
 I.nj λp hp=>(fB.mp hp).elim (λz=>I.pin p (km _ z)) λz=>by
  let#[hb,e]:=gj_ z;let#[f0,f1,f2,_]:=hf p.1 hb;let#[o,e',d]:=ho p.1 hb;rw[e] at e';cases e';exact#[e,f0,f1,f2,d]
theorem Inv.d8{pins pl:List (Addr × Obj)}{σ:St}{H:Hp}{s:Ab}(I:Inv X (pins++pl) σ H s):Inv X pins σ H s:=I.nj λp hp=>I.pin p (km _ (List.mem_append_left _ hp))
theorem eR{iter:Expr}{body:List Stmt}{wi:TI}{g:TG}{tb:TS}{pos:Pos}(hp:PassesOwn (model X.prog X.w) X.A X.env X.xe)(hc:X.calm=true)(hi:PI X tg iter wi)(hg:PG X tg g)(hb:kz X body tb)
  (hs:∀x,foldedSetIterable iter X.env x=pure x:=by intro _;rfl):PS X (.For tg iter body [] pos) (LD wi g tb):=by
 intro pins s σ H D I h;apply wpAny_For (aV (hi pins s σ H _ I h) λv s1 h1=>aV h1 λJn s2 h2=>?_) hs;let#[it,fp,tn,J,H2,e,I2,T,dB,f2,W,#[m0,w0],turn]:=h2;subst e;have zd:∀{H':Hp},(∀b∈fp,H' b=none)->∀b∈fp,dc X pins H' b:=λhn b hb=>#[hn b hb,(f2 b hb).2];apply codeAny_forLoop_any (λn s'=>∃i bq H',Inv X pins bq H' s'/\tn i s'.heap/\(∀b∈fp,H' b=none)/\W i n bq H') ?_ m0 #[0,σ,H2,I2,dB,λb hb=>(f2 b hb).1,w0];rintro n s3 ⟨i,j3,H3,I3,g_,wc,w3⟩;rcases turn i n j3 H3 w3 with⟨stop,qn⟩|⟨go,N,hN,step⟩
 ·apply wpAny_passesOwn hp (aV (T.done X Z Z Z hc i pins s3 j3 H3 X.xe I3 (zd wc) g_ stop) λr s4 ⟨hr,I4⟩=>?_);subst hr;exact wpAny_execs_nil #[j3,H3,I4,qn]
 apply wpAny_passesOwn hp (aV (T.item X Z Z Z hc i pins s3 j3 H3 X.xe I3 (zd wc) g_ go) λr s4 ⟨u,hr,h4⟩=>?_);subst hr;apply wpAny_passesOwn hp (aV h4 λ_ s5 ⟨x,H5,I5,r5,y5,gT,nR⟩=>?_);let I5':=I5.pinned (zd nR) (T.obj _ _ gT);apply wpAny_passesOwn hp (aV (hg _ s5 j3 H5 x u _ I5' r5 (step x H5 y5)) λ_ s6 ⟨Xw,H6,I6,q6⟩=>?_);apply wpAny_passesOwn hp (aV (hb _ s6 Xw H6 _ I6 q6) λf s7 q7=>?_)
 have again:∀{qb:St} {H7:Hp},Inv X (pins++wU fp s5.heap) qb H7 s7->N qb H7->∃m,m<n/\∃i bq H',Inv X pins bq H' s7/\tn i s7.heap/\(∀b∈fp,H' b=none)/\W i m bq H':=λ{qb H7} I7 n7=>by
  let#[m',hm,w7]:=hN qb H7 n7;apply#[m',hm,i+1,qb,H7,I7.d8,T.keep _ _ _ gT λb hb o e=>(I7.pin (b,o) (km _ (km _ (KZ hb e)))).1,λb hb=>?_,w7];let#[o,e,d]:=T.obj _ _ gT b hb;exact (I7.pin (b,o) (km _ (km _ (KZ hb e)))).2.1
 cases f with
 |next=>let#[qb,H7,I7,n7]:=q7;exact again I7 n7
 |cont=>let#[qb,H7,I7,n7]:=q7;exact again I7 n7
 |brk=>let#[qb,H7,I7,q7]:=q7;exact#[qb,H7,I7.d8,q7]
 |ret v=>let#[x7,qb,H7,I7,r7,q7]:=q7;exact#[x7,qb,H7,I7.d8,r7,q7]
end
theorem gQ{K:af}{a:Addr}{xs:ag}{g:TG}{tb:TS}{D:Ends}{σ:St}{H:Hp}(Pv:Nat->St->Hp->Prop)(h0:Pv 0 σ H)(hl:∀i σ H,i<=xs.length->Pv i σ H->dN K H a xs)
  (hs:∀i x σ H,xs[i]? = some x->Pv i σ H->g x σ H λgC H2=>tb { D with nx:=Pv (i+1),ct:=Pv (i+1),bk:=D.nx } gC H2) (hd:∀σ H,Pv xs.length σ H->D.nx σ H) :
  ∃W:Nat->Nat->St->Hp->Prop,(∃m,W 0 m σ H)/\∀i m σ H,W i m σ H->
   ((Bw K a).stop i H/\D.nx σ H)∨((Bw K a).go i H/\∃N:St->Hp->Prop,(∀bq H',N bq H'->∃m',m'<m/\W (i+1) m' bq H')/\∀x H',(Bw K a).xf i H x H'->g x σ H' λgC H2=>tb { D with nx:=N,ct:=N,bk:=D.nx } gC H2):=by
 apply#[λi m σ H=>m=xs.length - i/\i<=xs.length/\Pv i σ H,#[xs.length,by simp,gA _,h0],?_];rintro i m σ H ⟨rfl,hi,p⟩;let q:=hl i σ H hi p;by_cases dG:i<xs.length
 ·apply .inr #[#[xs,xs[i],q,by simp[dG]],Pv (i+1),λbq H' p'=>#[xs.length - (i+1),by omega,Z,dG,p'],λx H' y=>?_];let#[e,y]:=y;subst e;exact hs i x σ _ (y xs q) p
 have e:i=xs.length:=by omega
 subst e;exact .inl #[#[xs,q,br _],hd σ H p]
theorem Ik{lo:Int}{n:Nat}{g:TG}{tb:TS}{D:Ends}{σ:St}{H:Hp}(Pv:Nat->St->Hp->Prop)(h0:Pv 0 σ H)
  (hs:∀i σ H,i<n->Pv i σ H->g (.int (lo+i)) σ H λgC H2=>tb { D with nx:=Pv (i+1),ct:=Pv (i+1),bk:=D.nx } gC H2) (hd:∀σ H,Pv n σ H->D.nx σ H) :
  ∃W:Nat->Nat->St->Hp->Prop,(∃m,W 0 m σ H)/\∀i m σ H,W i m σ H->
   ((CO lo n).stop i H/\D.nx σ H)∨((CO lo n).go i H/\∃N:St->Hp->Prop,(∀bq H',N bq H'->∃m',m'<m/\W (i+1) m' bq H')/\∀x H',(CO lo n).xf i H x H'->g x σ H' λgC H2=>tb { D with nx:=N,ct:=N,bk:=D.nx } gC H2):=by
 apply#[λi m σ H=>m=n - i/\i<=n/\Pv i σ H,#[n,by simp,gA _,h0],?_];rintro i m σ H ⟨rfl,hi,p⟩;by_cases dG:i<n
 ·apply .inr #[dG,Pv (i+1),λbq H' p'=>#[n - (i+1),by omega,Z,dG,p'],λx H' y=>?_];let#[e,y]:=y;subst e y;exact hs i σ _ dG p
 have e:i=n:=by omega
 subst e;exact .inl #[br _,hd σ H p]
theorem iS_{c:TT}{tb:TS}{D:Ends}{σ:St}{H:Hp}(Pv:jX)(μ:St->Hp->Nat)(h0:Pv σ H)
  (hs:∀σ H,Pv σ H->c σ H λb H1=>if b=true then tb { D with nx:=λbq H'=>Pv bq H'/\μ bq H'<μ σ H,ct:=λbq H'=>Pv bq H'/\μ bq H'<μ σ H,bk:=D.nx } σ H1 else D.nx σ H1)
  (mono:∀σ H Q Q',(∀b H1,Q b H1->Q' b H1)->c σ H Q->c σ H Q'):qh c tb D σ H:=by
 apply#[λm σ H=>m=μ σ H/\Pv σ H,#[_,Z,h0],?_];rintro m σ H ⟨rfl,p⟩;apply mono σ H _ _ (λb H1 q=>?_) (hs σ H p);cases b with
 |true=>exact#[_,λbq H' ⟨p',l⟩=>#[_,l,Z,p'],q]
 |false=>exact q
end L2
namespace L2
open PySem PySem.Spec PyProof.Rows
abbrev R2:=V->V->Hp->VK->Prop
def dS(X:Cx)(f:Aa->Aa->Sem Aa)(r:R2):Prop:=
 ∀(pins:List (Addr × Obj)) (s:Ab) (σ:St) (H:Hp) (x y:V) (v u:Aa) (Q:VK),Inv X pins σ H s->RelV x v->RelV y u->r x y H Q->
  wpAny (model X.prog X.w) X.A (f v u) (EP X pins σ Q) X.xe s
def Rt(X:Cx)(f:Aa->Sem Aa)(r:V->Hp->VK->Prop):Prop:=
 ∀(pins:List (Addr × Obj)) (s:Ab) (σ:St) (H:Hp) (x:V) (v:Aa) (Q:VK),Inv X pins σ H s->RelV x v->r x H Q->
  wpAny (model X.prog X.w) X.A (f v) (EP X pins σ Q) X.xe s
def gq(X:Cx)(f:Aa)(r:ag->Hp->VK->Prop):Prop:=
 ∀(pins:List (Addr × Obj)) (s:Ab) (σ:St) (H:Hp) (xs:ag) (us:aj) (Q:VK),Inv X pins σ H s->Vals xs us->r xs H Q->
  wpAny (model X.prog X.w) X.A (call f us) (EP X pins σ Q) X.xe s
def xm(r:R2)(ta tb:TE):TE:=λσ H Q=>ta σ H λx H1=>tb σ H1 λy H2=>r x y H2 Q
def R9(r:V->Hp->VK->Prop)(ta:TE):TE:=λσ H Q=>ta σ H λx H1=>r x H1 Q
inductive rI (C:Int->Int->Prop) (g:Int->Int->V) (x:V) (y:V) (H:Hp) (Q:VK):Prop
 |mk:∀i j,x=.int i->y=.int j->C i j->Q (g i j) H->rI C g x y H Q
inductive vD (g:Int->Int->V) (x:V) (y:V) (H:Hp) (Q:VK):Prop
 |mk:∀i j,x=.int i->y=.int j->Q (g i j) H->vD g x y H Q
inductive rU (g:Int->V) (x:V) (H:Hp) (Q:VK):Prop
 |mk:∀i,x=.int i->Q (g i) H->rU g x H Q
section
variable{X:Cx}{a b c:Expr}{ta tb tc:TE}{pos:Pos}
theorem Bh(ha:PE X a ta)(hb:PE X b tb){pins:List (Addr × Obj)}{s:Ab}{σ:St}{H:Hp}{R:V->V->Hp->Prop}(I:Inv X pins σ H s)
  (h:ta σ H λx H1=>tb σ H1 λy H2=>R x y H2) {Q:Aa->Ab->Prop} {f:Aa->Aa->Sem Aa}
  (hf:∀v u s2 x y H2,Inv X pins σ H2 s2->RelV x v->RelV y u->R x y H2->wpAny (model X.prog X.w) X.A (f v u) Q X.xe s2) :
  wpAny (model X.prog X.w) X.A (eval a X.env) (λv aU=>wpAny (model X.prog X.w) X.A (eval b X.env) (λu g9=>wpAny (model X.prog X.w) X.A (f v u) Q X.xe g9) X.xe aU) X.xe s:=by
 apply aV (ha pins s σ H _ I h) λv s1 ⟨x,H1,I1,r1,q1⟩=>?_;apply aV (hb pins s1 σ H1 _ I1 q1) λu s2 ⟨y,H2,I2,r2,q2⟩=>?_;exact hf v u s2 x y H2 I2 r1 r2 q2
theorem bI{op:Operator}{r:R2}(ho:dS X (binaryOp op) r)(ha:PE X a ta)(hb:PE X b tb):PE X (.BinOp a op b pos) (xm r ta tb):=by
 intro pins s σ H Q I h;exact wpAny_BinOp (Bh ha hb I h λv u s2 x y H2 I2 rx ry q=>ho pins s2 σ H2 x y v u Q I2 rx ry q)
theorem AX{op:UnaryOp}{r:V->Hp->VK->Prop}(ho:Rt X (unaryOp op) r)(ha:PE X a ta):PE X (.UnaryOp op a pos) (R9 r ta):=by
 intro pins s σ H Q I h;exact UnaryOp_ (aV (ha pins s σ H _ I h) λv s1 ⟨x,H1,I1,r1,q1⟩=>ho pins s1 σ H1 x v Q I1 r1 q1)
theorem Jd{f:Aa->Aa->Sem Aa}{C:Int->Int->Prop}{g:Int->Int->Int}
  (rule:∀(i j:Int) (t u:Tok) (s:Ab) (Q:Aa->Ab->Prop) (E:Aa->Ab->Prop),C i j->Q (.int (g i j) s.toks) { s with toks:=s.toks+1 }->wpAny (model X.prog X.w) X.A (f (.int i t) (.int j u)) Q E s) :
  dS X f (rI C λi j=>.int (g i j)):=by
 intro pins s σ H x y v u Q I rx ry h;let#[i,j,rfl,rfl,hc,q]:=h;let#[t,rfl]:=rx;let#[t',rfl]:=ry;exact rule i j t t' s _ _ hc #[.int (g i j),H,I.tok _,#[_,Z],q]
theorem Ep{f:Aa->Aa->Sem Aa}{g:Int->Int->Int}
  (rule:∀(i j:Int) (t u:Tok) (s:Ab) (Q:Aa->Ab->Prop) (E:Aa->Ab->Prop),Q (.int (g i j) s.toks) { s with toks:=s.toks+1 }->wpAny (model X.prog X.w) X.A (f (.int i t) (.int j u)) Q E s) :
  dS X f (vD λi j=>.int (g i j)):=by
 intro pins s σ H x y v u Q I rx ry h;let#[i,j,rfl,rfl,q]:=h;let#[t,rfl]:=rx;let#[t',rfl]:=ry;exact rule i j t t' s _ _ #[.int (g i j),H,I.tok _,#[_,Z],q]
theorem vF{f:Aa->Aa->Sem Aa}{g:Int->Int->Bool}
  (rule:∀(i j:Int) (t u:Tok) (s:Ab) (Q:Aa->Ab->Prop) (E:Aa->Ab->Prop),Q (.bool (g i j)) s->wpAny (model X.prog X.w) X.A (f (.int i t) (.int j u)) Q E s) :
  dS X f (vD λi j=>.bl (g i j)):=by
 intro pins s σ H x y v u Q I rx ry h;let#[i,j,rfl,rfl,q]:=h;let#[t,rfl]:=rx;let#[t',rfl]:=ry;exact rule i j t t' s _ _ #[.bl (g i j),H,I,Z,q]
def RA(i j:Int):Prop:=0<j/\j<1073741824
def IC(i j:Int):Prop:=0<=j/\j<=1000000/\i.natAbs<2 ^ 64
def By(i j:Int):Prop:=(-(2 ^ 64)<i/\i<2 ^ 64)∨(-(2 ^ 64)<j/\j<2 ^ 64)
theorem By.ok{i j:Int}(h:By i j):IntMulOk i j:=by
 rcases h with⟨h1,h2⟩|⟨h1,h2⟩
 ·exact .of_left (intBits_le_64 h1 h2)
 exact .of_right (intBits_le_64 h1 h2)
theorem g5:dS X (binaryOp .Add) (vD λi j=>.int (i+j)):=Ep λ_ _ _ _ _ _ _ q=>add_int q
theorem Hb:dS X (binaryOp .Sub) (vD λi j=>.int (i - j)):=Ep λ_ _ _ _ _ _ _ q=>sub_int q
theorem pW:dS X (binaryOp .Mult) (rI By λi j=>.int (i * j)):=Jd λ_ _ _ _ _ _ _ hc q=>mul_int q hc.ok
theorem yL:dS X (binaryOp .FloorDiv) (rI RA λi j=>.int (i / j)):=Jd λi j _ _ _ _ _ hc q=>by
 have h1:(0:Int)<j:=hc.1;have h2:j<1073741824:=hc.2;exact floordiv_int Z1 (by rw[Int.fdiv_eq_ediv_of_nonneg i Z1];exact q) (.inl (PyProof.noPylong_small Z1))
theorem uM:dS X (binaryOp .Mod) (rI (λ_ j=>0<j) λi j=>.int (i % j)):=Jd λi j _ _ _ _ _ hc q=>by
 have h1:(0:Int)<j:=hc;exact mod_int' Z1 (by rw[Int.fmod_eq_emod_of_nonneg i Z1];exact q)
theorem JV:dS X (binaryOp .Pow) (rI IC λi j=>.int (i ^ j.toNat)):=Jd λ_ _ _ _ _ _ _ hc q=>pow_int_small hc.1 hc.2.1 hc.2.2 q
theorem Yo{f:Aa->Sem Aa}{g:Int->Int}
  (rule:∀(i:Int) (t:Tok) (s:Ab) (Q:Aa->Ab->Prop) (E:Aa->Ab->Prop),Q (.int (g i) s.toks) { s with toks:=s.toks+1 }->wpAny (model X.prog X.w) X.A (f (.int i t)) Q E s) :
  Rt X f (rU λi=>.int (g i)):=by
 intro pins s σ H x v Q I rx h;let#[i,rfl,q]:=h;let#[t,rfl]:=rx;exact rule i t s _ _ #[.int (g i),H,I.tok _,#[_,Z],q]
theorem A9:Rt X (unaryOp .USub) (rU λi=>.int (-i)):=Yo λ_ _ _ _ _ q=>neg_int q
end
def Dy:V->V->Bool
 |.non,.non=>true | .non,.int _=>true | .int _,.non=>true | .non,.bl _=>true | .bl _,.non=>true | .non,.str _=>true | .str _,.non=>true
 |.int _,.int _=>true | .bl _,.bl _=>true | .str _,.str _=>true | .byt _,.byt _=>true
 |.int _,.str _=>true | .str _,.int _=>true | .bl _,.str _=>true | .str _,.bl _=>true
 |_,_=>false
def ZF:R2:=λx y H Q=>Dy x y=true/\Q (.bl (decide (x=y))) H
def ZE:R2:=λx y H Q=>Dy x y=true/\Q (.bl (!decide (x=y))) H
theorem Ud{i j:Int}:decide (V.int i=V.int j)=(i == j):=by
 rw[Bool.eq_iff_iff];simp
theorem Tr{i j:Bool}:decide (V.bl i=V.bl j)=(i == j):=by
 rw[Bool.eq_iff_iff];simp
theorem UQ{i j:Str}:decide (V.str i=V.str j)=(i == j):=by
 rw[Bool.eq_iff_iff];simp
theorem T6{i j:Array UInt8}:decide (V.byt i=V.byt j)=(i.toList == j.toList):=by
 rw[Bool.eq_iff_iff];cases i;cases j;simp
section
variable{X:Cx}{a b c:Expr}{ta tb tc:TE}{pos:Pos}
theorem eY{pins:List (Addr × Obj)}{σ:St}{H:Hp}{s:Ab}{Q:VK}{k k':Bool}(I:Inv X pins σ H s)(q:Q (.bl k) H)(e:k=k'):EP X pins σ Q (.bool k') s:=by
 subst e;exact#[.bl k,H,I,Z,q]
theorem l_:dS X (compareOp .Eq) ZF:=by
 intro pins s σ H x y v u Q I rx ry h;let#[hs,q]:=h;cases x with
 |non=>
  cases rx;cases y with
  |non=>cases ry;exact PySem.EqNone.eq_none_none (eY I q Z2)
  |bl j=>cases ry;exact PySem.EqNone.eq_none_bool (eY I q Z2)
  |int j=>let#[t',rfl]:=ry;exact PySem.EqNone.eq_none_int (eY I q Z2)
  |str j=>let#[t',rfl]:=ry;exact PySem.EqNone.eq_none_str (eY I q Z2)
  |_=>exact absurd (show false=true from hs) f_
 |bl i=>
  cases rx;cases y with
  |non=>cases ry;exact PySem.EqNone.eq_bool_none (eY I q Z2)
  |bl j=>cases ry;exact eq_bool (eY I q Tr)
  |str j=>let#[t',rfl]:=ry;exact PySem.EqMixed.eq_bool_str (eY I q Z2)
  |_=>exact absurd (show false=true from hs) f_
 |int i=>
  let#[t,rfl]:=rx;cases y with
  |non=>cases ry;exact PySem.EqNone.eq_int_none (eY I q Z2)
  |int j=>let#[t',rfl]:=ry;exact eq_int (eY I q Ud)
  |str j=>let#[t',rfl]:=ry;exact PySem.EqMixed.eq_int_str (eY I q Z2)
  |_=>exact absurd (show false=true from hs) f_
 |str i=>
  let#[t,rfl]:=rx;cases y with
  |non=>cases ry;exact PySem.EqNone.eq_str_none (eY I q Z2)
  |bl j=>cases ry;exact PySem.EqMixed.eq_str_bool (eY I q Z2)
  |int j=>let#[t',rfl]:=ry;exact PySem.EqMixed.eq_str_int (eY I q Z2)
  |str j=>let#[t',rfl]:=ry;exact eq_str (eY I q UQ)
  |_=>exact absurd (show false=true from hs) f_
 |byt i=>
  let#[t,rfl]:=rx;cases y with
  |byt j=>let#[t',rfl]:=ry;exact PySem.W.eq_bytes (eY I q T6)
  |_=>exact absurd (show false=true from hs) f_
 |_=>cases y<;>exact absurd (show false=true from hs) f_
theorem tJ:dS X (compareOp .NotEq) ZE:=by
 intro pins s σ H x y v u Q I rx ry h;let#[hs,q]:=h;cases x with
 |non=>
  cases rx;cases y with
  |non=>cases ry;exact PySem.EqNone.ne_none_none (eY I q Z2)
  |bl j=>cases ry;exact PySem.EqNone.ne_none_bool (eY I q Z2)
  |int j=>let#[t',rfl]:=ry;exact PySem.EqNone.ne_none_int (eY I q Z2)
  |str j=>let#[t',rfl]:=ry;exact PySem.EqNone.ne_none_str (eY I q Z2)
  |_=>exact absurd (show false=true from hs) f_
 |bl i=>
  cases rx;cases y with
  |non=>cases ry;exact PySem.EqNone.ne_bool_none (eY I q Z2)
  |bl j=>cases ry;exact ne_bool (eY I q (eI not Tr))
  |str j=>let#[t',rfl]:=ry;exact PySem.EqMixed.ne_bool_str (eY I q Z2)
  |_=>exact absurd (show false=true from hs) f_
 |int i=>
  let#[t,rfl]:=rx;cases y with
  |non=>cases ry;exact PySem.EqNone.ne_int_none (eY I q Z2)
  |int j=>let#[t',rfl]:=ry;exact ne_int (eY I q (eI not Ud))
  |str j=>let#[t',rfl]:=ry;exact PySem.EqMixed.ne_int_str (eY I q Z2)
  |_=>exact absurd (show false=true from hs) f_
 |str i=>
  let#[t,rfl]:=rx;cases y with
  |non=>cases ry;exact PySem.EqNone.ne_str_none (eY I q Z2)
  |bl j=>cases ry;exact PySem.EqMixed.ne_str_bool (eY I q Z2)
  |int j=>let#[t',rfl]:=ry;exact PySem.EqMixed.ne_str_int (eY I q Z2)
  |str j=>let#[t',rfl]:=ry;exact ne_str (eY I q (eI not UQ))
  |_=>exact absurd (show false=true from hs) f_
 |byt i=>
  let#[t,rfl]:=rx;cases y with
  |byt j=>let#[t',rfl]:=ry;exact PySem.W.ne_bytes (eY I q (eI not T6))
  |_=>exact absurd (show false=true from hs) f_
 |_=>cases y<;>exact absurd (show false=true from hs) f_
theorem l8_:dS X (compareOp .Lt) (vD λi j=>.bl (decide (i<j))):=vF λ_ _ _ _ _ _ _ q=>lt_int q
theorem o7:dS X (compareOp .LtE) (vD λi j=>.bl (decide (i<=j))):=vF λ_ _ _ _ _ _ _ q=>le_int q
theorem AK:dS X (compareOp .Gt) (vD λi j=>.bl (decide (j<i))):=vF λ_ _ _ _ _ _ _ q=>gt_int q
theorem MP:dS X (compareOp .GtE) (vD λi j=>.bl (decide (j<=i))):=vF λ_ _ _ _ _ _ _ q=>ge_int q
inductive Wp (x:V) (y:V) (H:Hp) (Q:VK):Prop
 |mk:∀i j,x=.str i->y=.str j->Q (.bl (decide (i.cps.toList<j.cps.toList))) H->Wp x y H Q
theorem gv_:dS X (compareOp .Lt) Wp:=by
 intro pins s σ H x y v u Q I rx ry h;let#[i,j,rfl,rfl,q]:=h;let#[t,rfl]:=rx;let#[t',rfl]:=ry;exact lt_str (eY I q rfl)
theorem ky_:dS X (compareOp .Is) (λx y H Q=>y=.non/\Q (.bl (decide (x=.non))) H):=by
 intro pins s σ H x y v u Q I rx ry h;let#[rfl,q]:=h;cases ry;apply is_none_gen (eY I q ?_)
 cases x<;>first
  |(cases rx;rfl)
  |(let#[t,rfl]:=rx;rfl)
theorem sk(b:Expr){op:CmpOp}(h:op≠.In:=by decide)(h2:op≠.NotIn:=by decide):behindInMarks op b=false:=by
 have e1:(op == CmpOp.In)=false:=by cases op<;>first|rfl|exact absurd rfl h
 have e2:(op == CmpOp.NotIn)=false:=by cases op<;>first|rfl|exact absurd rfl h2
 cases b<;>simp[behindInMarks,e1,e2]
theorem oi{op:CmpOp}{r:R2}(ho:dS X (compareOp op) r)(ha:PE X a ta)(hb:PE X b tb)(hm:behindInMarks op b=false:=by exact sk _):PE X (.Compare a [op] [b] pos) (xm r ta tb):=by
 intro pins s σ H Q I h;exact wpAny_Compare1 (Bh ha hb I h λv u s2 x y H2 I2 rx ry q=>ho pins s2 σ H2 x y v u Q I2 rx ry q) hm
inductive qk (Q:Bool->Hp->Prop) (x:V) (H':Hp):Prop
 |mk:∀k,x=.bl k->Q k H'->qk Q x H'
def xj(t:TE):TT:=λσ H Q=>t σ H λx H'=>qk Q x H'
theorem dm{op:CmpOp}{r:R2}(ho:dS X (compareOp op) r)(ha:PE X a ta)(hb:PE X b tb)(hm:behindInMarks op b=false:=by exact sk _):PT X (.Compare a [op] [b] pos) (xj (xm r ta tb)):=by
 intro pins s σ H Q I h
 apply wpAny_isTrue_Compare1 (aV (ha pins s σ H _ I h) λv s1 ⟨x,H1,I1,r1,q1⟩=>aV (hb pins s1 σ H1 _ I1 q1) λu s2 ⟨y,H2,I2,r2,q2⟩=>
  aV (ho pins s2 σ H2 x y v u _ I2 r1 r2 q2) λc s3 ⟨z,H3,I3,r3,k,e,q3⟩=>?_) hm
 subst e;cases r3;exact tH #[H3,I3,q3]
inductive mI (r':R2) (tc:TE) (σ:St) (Q:VK) (y:V) (z:V) (H3:Hp):Prop
 |mk:∀k,z=.bl k->(if k=true then tc σ H3 λw' H4=>r' y w' H4 Q else Q (.bl false) H3)->mI r' tc σ Q y z H3
def qv(r r':R2)(ta tb tc:TE):TE:=λσ H Q=>ta σ H λx H1=>tb σ H1 λy H2=>r x y H2 λz H3=>mI r' tc σ Q y z H3
theorem Pz{op zI:CmpOp}{r r':R2}(ho:dS X (compareOp op) r)(jB:dS X (compareOp zI) r')(ha:PE X a ta)(hb:PE X b tb)(hc:PE X c tc)
  (hm:lastMarks [op,zI] [b,c]=false:=by with_unfolding_all rfl):PE X (.Compare a [op,zI] [b,c] pos) (qv r r' ta tb tc):=by
 intro pins s σ H Q I h
 apply Compare_chain (aV (ha pins s σ H _ I h) λv s1 ⟨x,H1,I1,r1,q1⟩=>chain_link (aV (hb pins s1 σ H1 _ I1 q1) λu s2 ⟨y,H2,I2,r2,q2⟩=>
  aV (ho pins s2 σ H2 x y v u _ I2 r1 r2 q2) λd s3 ⟨z,H3,I3,r3,k,e,q3⟩=>?_)) hm
 subst e;cases r3;apply tH ?_;cases k with
 |false=>exact ite_ff #[.bl false,H3,I3,Z,q3]
 |true=>exact ite_tt (chain_last (aV (hc pins s3 σ H3 _ I3 q3) λw' s4 ⟨z',H4,I4,r4,q4⟩=>jB pins s4 σ H4 y z' u w' Q I4 r2 r4 q4))
theorem Vk{op zI:CmpOp}{r r':R2}(ho:dS X (compareOp op) r)(jB:dS X (compareOp zI) r')(ha:PE X a ta)(hb:PE X b tb)(hc:PE X c tc)
  (hm:lastMarks [op,zI] [b,c]=false:=by with_unfolding_all rfl):PT X (.Compare a [op,zI] [b,c] pos) (xj (qv r r' ta tb tc)):=by
 intro pins s σ H Q I h
 apply isTrue_chain (aV (ha pins s σ H _ I h) λv s1 ⟨x,H1,I1,r1,q1⟩=>test_link (aV (hb pins s1 σ H1 _ I1 q1) λu s2 ⟨y,H2,I2,r2,q2⟩=>
  aV (ho pins s2 σ H2 x y v u _ I2 r1 r2 q2) λd s3 ⟨z,H3,I3,r3,k,e,q3⟩=>?_)) hm
 subst e;cases r3;apply tH ?_;cases k with
 |false=>
  let#[k',e',q']:=q3;cases e';exact ite_ff #[H3,I3,q']
 |true=>
  apply ite_tt (test_last (aV (hc pins s3 σ H3 _ I3 q3) λw' s4 ⟨z',H4,I4,r4,q4⟩=>aV (jB pins s4 σ H4 y z' u w' _ I4 r2 r4 q4) λd' s5 ⟨z2,H5,I5,r5,k2,e2,q5⟩=>?_));subst e2;cases r5;exact tH #[H5,I5,q5]
theorem fP:(sizeLine:Nat)<2 ^ 63:=by rw[b_];decide
inductive WZ (x:V) (y:V) (H:Hp) (Q:VK):Prop
 |mk:∀i j,x=.str i->y=.str j->i.length+j.length<=sizeLine->Q (.str (i++j)) H->WZ x y H Q
theorem Qk:dS X (binaryOp .Add) WZ:=by
 intro pins s σ H x y v u Q I rx ry h;let#[i,j,rfl,rfl,hz,q]:=h;let#[t,rfl]:=rx;let#[t',rfl]:=ry;exact add_str (λt' tk=>⟨.str (i++j),H,I.tok _,⟨_,rfl⟩,q⟩) hz
theorem vals1{x:V}{us:aj}(r:Vals [x] us):∃u,us=[u]/\RelV x u:=by
 cases r with
 |cons r1 r2=>cases r2;exact#[_,Z,r1]
theorem vals2{x y:V}{us:aj}(r:Vals [x,y] us):∃u w',us=[u,w']/\RelV x u/\RelV y w':=by
 cases r with
 |cons r1 r2=>
  cases r2 with
  |cons r3 r4=>cases r4;exact#[_,_,Z,r1,r3]
inductive Xd (xs:ag) (H:Hp) (Q:VK):Prop
 |mk:∀i j,xs=[.int i,.int j]->Q (.int (if j > i then j else i)) H->Xd xs H Q
theorem hn_(hc:X.calm=true):gq X (.builtin "max") Xd:=by
 intro pins s σ H xs us Q I r h;let#[i,j,rfl,q]:=h;let#[u,w',rfl,#[t,rfl],#[t',rfl]]:=vals2 r;apply max_two_ints (I.ok.hd hc) λh' tk k=>#[_,H,I.kept k,?_,q];by_cases hj:j > i
 ·rw[aJ hj,aJ hj];exact#[_,Z]
 rw[aE hj,aE hj];exact#[_,Z]
theorem hS_:gq X (.type "int") (λxs H Q=>(∃i,xs=[.int i]/\Q (.int i) H)∨∃k,xs=[.bl k]/\Q (.int (if k then 1 else 0)) H):=by
 intro pins s σ H xs us Q I r h;rcases h with⟨i,rfl,q⟩|⟨k,rfl,q⟩
 ·let#[u,rfl,t,rfl]:=vals1 r;exact call_int_int #[.int i,H,I,#[_,Z],q]
 let#[u,rfl,r1]:=vals1 r;cases r1;exact call_int_bool #[.int (if k then 1 else 0),H,I.tok _,#[_,Z],q]
end
end L2
namespace L2
open PySem PySem.Spec PyProof.Rows
structure mq (h:Heap) (x dx C:Addr) (mA:Str->Option Aa):Prop where
 obj:h.get? x\PySem.W.instObj C dx
 ns:h.Ns1 dx mA
 ne:dx≠x
theorem hy_{h:Heap}{dx:Addr}{mA:Str->Option Aa}(n:h.Ns1 dx mA):∃od,h.get? dx\od/\∀name,PySem.W.lookIn name od\mA name:=by
 let#[o,es,ep,ho,hd,hk,_,hm]:=n;apply#[o,ho,λname=>?_];let e:=hm name;unfold nsFind findBy at e;rw[<- Array.find?_toList] at e;unfold PySem.W.lookIn;rw[hd];dsimp only;split
 ·rename_i y q
  rw[q] at e;exact eI some e
 rename_i q
 rw[q] at e
 have a:es.toList.any (·.refKey)=false:=by
  rw[List.any_eq_false];intro y hy;let#[z,t,Np]:=hk y (Array.mem_toList_iff.mp hy);simp[DictEntry.refKey,Np]
 have a':¬es.toList.any (·.refKey)=true:=by rw[a];exact f_
 rw[aE a'];exact eI some e
theorem mq.look{h:Heap}{x dx C:Addr}{mA:Str->Option Aa}(I:mq h x dx C mA):∃od,PySem.W.InstAt h x (PySem.W.instObj C dx) C (some od)/\∀name,PySem.W.lookIn name od\mA name:=
 let #[od,ho,hl]:=hy_ I.ns
 #[od,#[I.obj,Z,Z,ho],hl]
section
variable{prog:Ad}{w:Af}{A:Ag}{E:Aa->Ab->Prop}{s:Ab}{K:af}{x dx C f:Addr}{mA:Str->Option Aa}{name:Str}{v:Aa}
theorem js_{expr:Bool}{Q:Aa->Ab->Prop}(X:K.In s.heap)(I:mq s.heap x dx C mA)(hg:PySem.W.plainGet K C name=true)(hh:PySem.W.hasDictIn K C=true)
  (ha:PySem.W.findIn K (.ref C) name\none) (hv:mA name\v) (MW:PySem.W.handedIn v=true) (h:Q v { s with toks:=s.toks+1 }) :
  wpAny (model prog w) A (getAttr (.ref x) name expr) Q E s:=by
 let#[od,J,hl]:=I.look;exact PySem.W.get_value X J (PySem.W.plainGet_of hg).1 (PySem.W.findObj_own hh ha Z (by rw[hl,hv])) MW h
theorem j2_{pl:Sem Bool}{Q:Aa × aj->Ab->Prop}(X:K.In s.heap)(I:mq s.heap x dx C mA)(hg:PySem.W.plainGet K C name=true)
  (hf:PySem.W.findIn K (.ref C) name\some (.ref f)) (ht:PySem.W.isFn K (.ref f)=true) (hv:mA name=none) (h:Q (.ref f,[.ref x]) s) :
  wpAny (model prog w) A (getMethod (.ref x) name pl) Q E s:=by
 let#[od,J,hl]:=I.look;exact PySem.W.method_fn X J (PySem.W.plainGet_of hg).1 (PySem.W.plainGet_of hg).2 hf (beq_iff_eq.mp ht) (by show (PySem.W.lookIn name od).map (·.isSome)=some false;rw[hl,hv];rfl) h
theorem kg_{ns:ae}{Q:Unit->Ab->Prop}(X:K.In s.heap)(I:mq s.heap x dx C mA)
  (hs:PySem.W.findIn K (.ref C) "__setattr__"\some (.builtin "object.__setattr__")) (hp:PySem.W.plainOver K C=true) (ht:PySem.W.takerIn K C name\none) (hh:PySem.W.hasDictIn K C=true)
  (hw:PySem.Within mA ns) (hsz:ns.length<=sizeLine)
  (h:∀h',mq h' x dx C (λy=>if y=name then some v else mA y)->Heap.SameBut dx s.heap h'->Q () { s with heap:=h',toks:=s.toks+2 }) :
  wpAny (model prog w) A (setAttr (.ref x) name v) Q E s:=by
 let#[od,J,hl]:=I.look;apply PySem.W.set_plain X J hs (PySem.W.osa_open (s:={ s with toks:=s.toks+1 }) (r:=none) X J hp ht λb=>?_);let#[cd,hc,jE]:=PySem.W.any_some hh;have hx:s.heap.get? x=some #[.ref C,some dx,.plain,#[]]:=I.obj;apply aC (bA (aC (aC (wpAny_loadPart hx (aC (PySem.W.Looks.here (s:={ s with toks:=s.toks+1 }) (PySem.W.looks_clsIn X hc) ?_))))));rw[jE];apply bA (a:=some dx) (aC (bA (aC ?_)));apply wpAny_nsSet1 (s:={ s with toks:=s.toks+1 }) I.ns λh' yc zY=>?_;let#[oD,esD,epD,hoD,hdD,hcD]:=yc.count (PySem.Within.cons name v hw);apply aC (wpAny_lookBehind hoD (by rw[hdD];exact pastItsLine_dict (ph hcD (by rw[iO];omega))) ?_);exact bA (h _ #[(zY.2 _ (Ne.symm I.ne)).trans I.obj,yc,I.ne] zY)
theorem in_{R:Result->Ab->Prop}{vs:aj}{kw:List (Str × Aa)}(X:K.In s.heap)(hm:PySem.W.makesIn K C=true)
  (hi:PySem.W.findIn K (.ref C) "__init__"\some (.ref f)) (hf:PySem.W.typeIn K (.ref f)\.type "function")
  (h:codeAny (model prog w) (A.under (.builtin "type.__call__" #[.ref C::vs,kw])) (.call (.ref f) #[.ref (s.heap.objs.size+1)::vs,kw]) (PySem.W.InitBack (s.heap.objs.size+1) R)
   { s with heap:=(s.heap.push PySem.W.emptyDict).push (PySem.W.instObj C s.heap.objs.size) }) :
  codeAny (model prog w) A (.call (.ref C) #[vs,kw]) R s:=by
 let#[hh,g,d,t,os]:=s;exact PySem.W.make_core (PySem.W.makes_of X hm) (PySem.W.looks_findIn X hi) (λself=>PySem.W.bind_fn X self hf) (.inl Z) h
end
def aB(f:Str)(v:V):List (Str × V)->List (Str × V)
 |[]=>[(f,v)]
 |(g,x)::r=>if g=f then (g,v)::r else (g,x)::aB f v r
theorem eK(f g:Str)(v:V):∀fs:List (Str × V),(aB f v fs).lookup g=if g=f then some v else fs.lookup g
 |[]=>by
  show List.lookup g [(f,v)]=_;by_cases h:g=f
  ·have hb:(g == f)=true:=beq_iff_eq.mpr h;simp only[List.lookup,hb,aJ h]
  ·have hb:(g == f)=false:=beq_eq_false_iff_ne.mpr h;simp only[List.lookup,hb,aE h]
 |(k,x)::r=>by
  let ih:=eK f g v r;rw[show aB f v ((k,x)::r)=(if k=f then (k,v)::r else (k,x)::aB f v r) from Z];by_cases hk:k=f
  ·rw[aJ hk];by_cases h:g=k
   ·have hb:(g == k)=true:=beq_iff_eq.mpr h;simp only[List.lookup,hb,aJ (h.trans hk)]
   have hb:(g == k)=false:=beq_eq_false_iff_ne.mpr h;simp only[List.lookup,hb,aE (λe:g=f=>h (e.trans hk.symm))]
  rw[aE hk];by_cases h:g=k
  ·have hb:(g == k)=true:=beq_iff_eq.mpr h;simp only[List.lookup,hb,aE (λe:g=f=>hk (h.symm.trans e))]
  have hb:(g == k)=false:=beq_eq_false_iff_ne.mpr h;simp only[List.lookup,hb];exact ih
theorem QU(f:Str)(v:V):∀fs:List (Str × V),f∈(aB f v fs).map (·.1)/\∀g,g∈fs.map (·.1)->g∈(aB f v fs).map (·.1)
 |[]=>#[by simp[aB],λg h=>by simp at h]
 |(k,x)::r=>by
  let#[i1,i2]:=QU f v r;rw[show aB f v ((k,x)::r)=(if k=f then (k,v)::r else (k,x)::aB f v r) from Z];by_cases hk:k=f
  ·rw[aJ hk];subst hk;exact#[by simp,λg h=>by simpa using h]
  rw[aE hk];apply#[?_,λg h=>?_]
  ·rw[fi];exact eA _ i1
  rw[fi] at h ⊢;rcases cq.mp h with e|e
  ·exact cq.mpr (.inl e)
  exact eA _ (i2 g e)
theorem WY(f:Str)(v:V):∀fs:List (Str × V),(aB f v fs).length<=fs.length+1
 |[]=>by simp[aB]
 |(k,x)::r=>by
  let ih:=WY f v r;rw[show aB f v ((k,x)::r)=(if k=f then (k,v)::r else (k,x)::aB f v r) from Z];by_cases hk:k=f
  ·rw[aJ hk,iO,iO];omega
  rw[aE hk,iO,iO];omega
theorem eC.some_of{v:V}{o:Option Aa}(r:eC (some v) o):∃u,o\u/\RelV v u:=by
 cases o with
 |none=>exact (show False from r).elim
 |some u=>exact#[u,Z,r]
theorem eC.none_of{o:Option Aa}(r:eC none o):o=none:=by
 cases o with
 |none=>rfl
 |some u=>exact (show False from r).elim
theorem hk_{v:V}{u:Aa}(r:RelV v u):PySem.W.handedIn u=true:=by
 cases v with
 |non=>cases (show u=Value.none from r);rfl
 |bl b=>cases (show u=Value.bool b from r);rfl
 |int i=>let#[t,e]:=(show ∃t,u=Value.int i t from r);cases e;rfl
 |str x=>let#[t,e]:=(show ∃t,u=Value.str x t from r);cases e;rfl
 |byt b=>let#[t,e]:=(show ∃t,u=Value.bytes b t from r);cases e;rfl
 |flt b=>let#[t,e]:=(show ∃t,u=Value.float b t from r);cases e;rfl
 |ref a=>cases (show u=Value.ref a from r);rfl
 |ty n=>cases (show u=Value.type n from r);rfl
section
variable{P:Ad}{w:Af}{H H':Hp}{h h':Heap}{a C dx:Addr}{fs fs':List (Str × V)}
theorem Kp(aH:eD P w H h)(e:H a\.ins C dx fs):∃mA,mq h a dx C mA/\(∀f,eC (fs.lookup f) (mA f))/\PySem.Within mA (fs.map (·.1))/\fs.length<=1000/\H dx\.own a:=by
 let#[d,z,ne,ob,mA,n,r,q]:=(show eM P w H h a (.ins C dx fs) from aH a _ e);exact#[mA,#[ob,n,ne],r,q,z,d]
end
structure mB (K:af) (C:Addr):Prop where
 pg:PySem.W.plainGet K C Str.empty=true
 hd:PySem.W.hasDictIn K C=true
 po:PySem.W.plainOver K C=true
 sa:PySem.W.findIn K (.ref C) "__setattr__"\some (.builtin "object.__setattr__")
theorem mB.get{K:af}{C:Addr}(c:mB K C)(f:Str):PySem.W.plainGet K C f=true:=c.pg
def j7(K:af)(C:Addr)(f:Str):Prop:=PySem.W.findIn K (.ref C) f=some none
theorem j7.Dc{K:af}{C:Addr}{f:Str}(n:j7 K C f):PySem.W.takerIn K C f\none:=by
 unfold PySem.W.takerIn;rw[show PySem.W.findIn K (.ref C) f\none from n];rfl
structure Con (K:af) (C:Addr) (f:Str) (v:V) (u:Aa):Prop where
 at_:PySem.W.findIn K (.ref C) f\some u
 rel:RelV v u
 get:PySem.W.specialIn K u "__get__"\none
 cp:PySem.W.copiedNames.contains f=false
structure Meth (K:af) (C:Addr) (m:Str) (f:Addr):Prop where
 at_:PySem.W.findIn K (.ref C) m\some (.ref f)
 fn:PySem.W.isFn K (.ref f)=true
 kp:PySem.W.keepIn K (.ref f)=true
section
variable{X:Cx}{pins:List (Addr × Obj)}{σ:St}{H:Hp}{s:Ab}{a C dx:Addr}{fs:List (Str × V)}{f:Str}{v:V}{A:Ag}{E:Aa->Ab->Prop}
theorem fN_{b:Bool}{Q:Aa->Ab->Prop}(I:Inv X pins σ H s)(e:H a\.ins C dx fs)(c:mB X.K C)(n:j7 X.K C f)(l:fs.lookup f\v)
  (h:∀u s',Inv X pins σ H s'->RelV v u->Q u s'):wpAny (model X.prog X.w) A (getAttr (.ref a) f b) Q E s:=by
 let#[mA,O,r,_,_,_]:=Kp I.aH e;let#[u,hu,ru]:=eC.some_of (v:=v) (o:=mA f) (by rw[<- l];exact r f);exact js_ I.fR O (c.get f) c.hd n hu (hk_ ru) (h u _ (I.tok _) ru)
theorem Wl{m:Str}{g:Addr}{pl:Sem Bool}{Q:Aa × aj->Ab->Prop}(I:Inv X pins σ H s)(e:H a\.ins C dx fs)(c:mB X.K C)(k:Meth X.K C m g)(l:fs.lookup m=none)
  (h:Q (.ref g,[.ref a]) s):wpAny (model X.prog X.w) A (getMethod (.ref a) m pl) Q E s:=by
 let#[mA,O,r,_,_,_]:=Kp I.aH e;have hn:mA m=none:=eC.none_of (by rw[<- l];exact r m);exact j2_ I.fR O (c.get m) k.at_ k.fn hn h
theorem g2_{y:V}{u:Aa}{Q:Unit->Ab->Prop}(I:Inv X pins σ H s)(e:H a\.ins C dx fs)(c:mB X.K C)(n:j7 X.K C f)(hl:fs.length<1000)(ry:RelV y u)
  (h:∀s',Inv X pins σ (upd H a (.ins C dx (aB f y fs))) s'->Q () s'):wpAny (model X.prog X.w) A (setAttr (.ref a) f u) Q E s:=by
 let#[mA,O,r,wi,_,ho]:=Kp I.aH e;have hz:(fs.map (·.1)).length<=sizeLine:=by rw[ay,b_];omega
 apply kg_ I.fR O c.sa c.po n.Dc c.hd wi hz λh' O' sb=>h _ ?_;have hd:∃o,h'.get? dx\o:=let #[o,_,_,e',_]:=O'.ns;#[o,e'];apply I.write (x:=a) (e:=dx) (by rw[e];exact True.intro) (.inr ho) (λb q hb z=>(sb.2 b hb).trans z) hd ?_;apply#[by rw[az O.ne];exact ho,?_,O.ne,O'.obj,_,O'.ns,λg=>?_,λg hg=>?_]
 ·have:=WY f y fs;omega
 ·show eC ((aB f y fs).lookup g) (if g=f then some u else mA g);rw[eK];by_cases q:g=f
  ·rw[aJ q,aJ q];exact ry
  rw[aE q,aE q];exact r g
 by_cases q:g=f
 ·rw[q];exact (QU f y fs).1
 apply (QU f y fs).2 g (wi g λz=>hg ?_);show (if g=f then some u else mA g)=none;rw[aE q];exact z
theorem Inv.made(I:Inv X pins σ H s):Inv X pins σ (upd (upd H s.heap.objs.size (.own (s.heap.objs.size+1))) (s.heap.objs.size+1) (.ins C s.heap.objs.size []))
  { s with heap:=(s.heap.push PySem.W.emptyDict).push (PySem.W.instObj C s.heap.objs.size) }:=by
 have e1:(s.heap.push PySem.W.emptyDict).get? s.heap.objs.size\PySem.W.emptyDict:=eJ s.heap Z
 have e2:((s.heap.push PySem.W.emptyDict).push (PySem.W.instObj C s.heap.objs.size)).get? (s.heap.objs.size+1)\PySem.W.instObj C s.heap.objs.size:=by
  have:=eJ (s.heap.push PySem.W.emptyDict) (o:=PySem.W.instObj C s.heap.objs.size) Z;rwa [Heap.size_push] at this
 have e3:(s.heap.push PySem.W.emptyDict).Ns s.heap.objs.size (λ_=>none):=#[PySem.W.emptyDict,#[],_,e1,Z,(λe he=>absurd he Z2),λ_=>rfl];let I1:=I.laid (a:=s.heap.objs.size) (o:=.own (s.heap.objs.size+1)) (h':=s.heap.push PySem.W.emptyDict) (t':=s.toks) (λb u q=>cc _ q) (br _) #[_,e1];apply I1.laid (a:=s.heap.objs.size+1) (o:=.ins C s.heap.objs.size []) (t':=s.toks) (λb u q=>cc _ q) (Nat.le_of_eq (Heap.size_push _ _)) ?_;have ne:s.heap.objs.size≠s.heap.objs.size+1:=dY (Nat.lt_succ_self _);apply#[by rw[az ne,ao],gA _,ne,e2,λ_=>none,(Heap.Ns1.of_empty e3).at λo q=>cc _ q,λ_=>True.intro,λy hy=>absurd Z hy]
theorem jX_{prog:Ad}{w:Af}{env:Env}{e:Expr}{f:Str}{pos:Pos}{s:Ab}{Q:Aa->Ab->Prop}(hb:attributeBase e f env (eval e env)=eval e env)
  (h:wpAny (model prog w) A (eval e env) (λo aU=>wpAny (model prog w) A (getAttr o f true) Q E aU) E s):wpAny (model prog w) A (eval (.Attribute e f pos) env) Q E s:=
 Attribute_any_ h (by rw[arm_eval_Attribute,hb])
end
inductive xq (K:af) (f:Str) (Q:VK) (x:V) (H1:Hp):Prop
 |mk:∀a C dx fs v,x=.ref a->H1 a\.ins C dx fs->mB K C->j7 K C f->fs.lookup f\v->Q v H1->xq K f Q x H1
def LF(K:af)(ta:TE)(f:Str):TE:=λσ H Q=>ta σ H λx H1=>xq K f Q x H1
inductive xD (K:af) (f:Str) (D:Ends) (σ:St) (y:V) (x:V) (H2:Hp):Prop
 |mk:∀a C dx fs,x=.ref a->H2 a\.ins C dx fs->mB K C->j7 K C f->fs.length<1000->D.nx σ (upd H2 a (.ins C dx (aB f y fs)))->xD K f D σ y x H2
def LY(K:af)(ta tv:TE)(f:Str):TS:=λD σ H=>tv σ H λy H1=>ta σ H1 λx H2=>xD K f D σ y x H2
section
variable{X:Cx}{o e value:Expr}{f:Str}{pos pos' Lr:Pos}{ta tv:TE}
theorem dA(he:PE X e ta)(hb:attributeBase e f X.env (eval e X.env)=eval e X.env):PE X (.Attribute e f pos) (LF X.K ta f):=by
 intro pins s σ H Q I h;apply jX_ hb (aV (he pins s σ H _ I h) λu s1 ⟨x,H1,I1,rx,a,C,dx,fs,v,ex,ea,c,n,l,q⟩=>?_);subst ex;obtain rfl:u=Value.ref a:=rx;exact fN_ I1 ea c n l λu' s2 I2 ru=>#[v,H1,I2,ru,q]
theorem uO(ha:PE X o ta)(hv:PE X value tv)(hs:swapsWith value (some (.Attribute o f pos')) pos.line X.env=pure false):PS X (.Assign [.Attribute o f pos'] value pos) (LY X.K ta tv f):=by
 intro pins s σ H D I h;apply plainObj_wpAny_Assign_Attribute (aV (hv pins s σ H _ I h) λu s1 ⟨y,H1,I1,ry,q⟩=>aV (ha pins s1 σ H1 _ I1 q) λov s2 ⟨x,H2,I2,rx,a,C,dx,fs,ex,ea,c,n,l,q2⟩=>?_) hs;subst ex;obtain rfl:ov=Value.ref a:=rx;exact g2_ I2 ea c n l ry λs3 I3=>#[σ,_,I3,q2]
end
section
variable{X:Cx}{pins:List (Addr × Obj)}{σ:St}{H:Hp}{s:Ab}{A:Ag}{E:Aa->Ab->Prop}{Q:Aa->Ab->Prop}{c:Aa}{b:Bool}
inductive dE (K:af) (H:Hp):V->Aa->Prop where
 |non:dE K H .non (.type "NoneType")
 |bl (x:Bool):dE K H (.bl x) (.type "bool")
 |int (i:Int):dE K H (.int i) (.type "int")
 |str (x:Str):dE K H (.str x) (.type "str")
 |flt (x:UInt64):dE K H (.flt x) (.type "float")
 |lst {a:Addr} {xs:ag} (e:H a\.lst xs):dE K H (.ref a) (.type "list")
 |frz {a:Addr} {o:Obj} {xs:ag} (e:H a\.frz o (.lst xs)):dE K H (.ref a) (.type "list")
 |tup {a:Addr} {xs:ag} (e:H a\.tup xs):dE K H (.ref a) (.type "tuple")
 |dK {a:Addr} {kvs:List (Key × V)} (e:H a\.dK kvs):dE K H (.ref a) (.type "dict")
 |dT {a:Addr} {kvs:List (aA × V)} (e:H a\.dT kvs):dE K H (.ref a) (.type "dict")
 |ins {a C dx:Addr} {fs:List (Str × V)} (e:H a\.ins C dx fs) (cl:mB K C) (ha:PySem.W.findIn K (.ref C) "__class__"\some (.builtin "object.__class__"))
   (hn:PySem.W.specialIn K (.builtin "object.__class__") "__get__"\some (.builtin "getset_descriptor.__get__")) (Jq:PySem.W.takesIn K (.builtin "object.__class__")\true)
   (hm:PySem.W.mroIn K C (.type "object")\true):dE K H (.ref a) (.ref C)
theorem VN{x:V}{u t:Aa}(I:Inv X pins σ H s)(rx:RelV x u)(ty:dE X.K H x t)(e:PySem.W.kitOne X.K t c\b)(h:∀tk,Q (.bool b) { s with toks:=tk }) :
  wpAny (model X.prog X.w) A (call (.builtin "isinstance") [u,c]) Q E s:=by
 cases ty with
 |non=>cases (show u=Value.none from rx);exact tG PySem.W.kitx_none I.fR True.intro e nofun h
 |bl y=>cases (show u=Value.bool y from rx);exact tG PySem.W.kitx_bool I.fR True.intro e nofun h
 |int i=>let#[t,q]:=(show ∃t,u=Value.int i t from rx);cases q;exact tG PySem.W.kitx_int I.fR True.intro e nofun h
 |str y=>let#[t,q]:=(show ∃t,u=Value.str y t from rx);cases q;exact tG PySem.W.kitx_str I.fR True.intro e nofun h
 |flt y=>let#[t,q]:=(show ∃t,u=Value.float y t from rx);cases q;exact tG PySem.W.kitx_float I.fR True.intro e nofun h
 |@lst a xs ea=>
  cases (show u=Value.ref a from rx);let#[_,_,n,_,h1]:=(show eM X.prog X.w H s.heap a (.lst xs) from I.aH a _ ea);exact tG PySem.W.kitx_list I.fR #[_,h1,Z] e nofun h
 |@frz a ob xs ea=>
  cases (show u=Value.ref a from rx);let#[_,_,_,n,_,h1]:=(show eM X.prog X.w H s.heap a (.frz ob (.lst xs)) from I.aH a _ ea);exact tG PySem.W.kitx_list I.fR #[_,h1,Z] e nofun h
 |@tup a xs ea=>
  cases (show u=Value.ref a from rx);let#[_,_,_,p,_]:=(show eM X.prog X.w H s.heap a (.tup xs) from I.aH a _ ea);let#[o,h1,h2,_]:=p;exact tG PySem.W.kitx_tuple I.fR #[o,h1,h2] e nofun h
 |@dK a kvs ea=>
  cases (show u=Value.ref a from rx);let#[_,_,vs,_,p]:=(show eM X.prog X.w H s.heap a (.dK kvs) from I.aH a _ ea);let#[o,es,ep,h1,h2,_]:=p;exact tG PySem.W.kitx_dict I.fR #[o,h1,h2.1] e nofun h
 |@dT a kvs ea=>
  cases (show u=Value.ref a from rx);let#[_,_,xs,_,o,es,ep,h1,h2,_]:=(show eM X.prog X.w H s.heap a (.dT kvs) from I.aH a _ ea);exact tG PySem.W.kitx_dict I.fR #[o,h1,h2.1] e nofun h
 |@ins a C dx fs ea cl ha hn Jq hm=>
  cases (show u=Value.ref a from rx);let#[mA,O,_]:=Kp I.aH ea;let#[od,J,_]:=O.look;exact tG (PySem.W.kitx_own (cl.get _) cl.hd ha hn Jq hm) I.fR J e nofun h
end
end L2
namespace L2
open PySem PySem.Spec PyProof.Rows
structure ba (k:Nat) (A:Ag):Prop where
 hd:A.handled=none
 dp:A.depth+3 * k+5<recursionLimit
 un:A.units+16 * k+200<cLine
theorem ba.mono{j k:Nat}{A:Ag}(r:ba k A)(h:j<=k):ba j A:=#[r.hd,by have:=r.dp;omega,by have:=r.un;omega]
theorem ba.deeper{k:Nat}{A:Ag}(r:ba (k+1) A)(env:Env):ba k (A.deeper env):=
 #[r.hd,by have:=r.dp;show A.depth+1+3 * k+5<_;omega,by have:=r.un;show A.units+3+16 * k+200<_;omega]
theorem ba.in1{k:Nat}{A:Ag}(r:ba (k+1) A):ba k A.in1:=
 #[r.hd,by have:=r.dp;show A.depth+3 * k+5<_;omega,by have:=r.un;show A.units+1+16 * k+200<_;omega]
theorem fL_{A:Ag}{C:Addr}{us:aj}{kw:List (Str × Aa)}:(A.under (.builtin "type.__call__" #[.ref C::us,kw])).depth=A.depth+1:=by
 first|rfl|simp[Around.under,Code.weight,Code.isCreation,Code.isGuard,Code.isCaller,Code.frames,Code.isFrame,guardIds]
theorem fZ_{A:Ag}{C:Addr}{us:aj}{kw:List (Str × Aa)}:(A.under (.builtin "type.__call__" #[.ref C::us,kw])).units=A.units+1:=by
 first|rfl|simp[Around.under,Code.cUnits,Code.frames,Code.isFrame]
theorem ba.make{k:Nat}{A:Ag}(r:ba (k+1) A)(C:Addr)(us:aj)(kw:List (Str × Aa)):ba k (A.under (.builtin "type.__call__" #[.ref C::us,kw])):=
 #[r.hd,by have:=r.dp;rw[fL_];omega,by have:=r.un;rw[fZ_];omega]
theorem ba.depth{k:Nat}{A:Ag}(r:ba k A):A.depth<recursionLimit:=by have:=r.dp;omega
theorem ba.units{k:Nat}{A:Ag}(r:ba k A):A.units+64<cLine:=by have:=r.un;omega
def gi:TA:=λ_ H Q=>Q [] H
def pN(ta:TE)(tr:TA):TA:=λσ H Q=>ta σ H λx H1=>tr σ H1 λxs H2=>Q (x::xs) H2
section
variable{X:Cx}{e:Expr}{es:List Expr}{te:TE}{t:TA}{pos:Pos}
theorem aK:PA X [] gi:=λ_ _ _ _ H Q I h=>Calls.spliced_nil #[[],H,I,.nil,h]
theorem eE(ha:PE X e te)(hr:PA X es t)(hs:starEach (e::es) X.env=(false,eval e X.env)::starEach es X.env:=by rfl):PA X (e::es) (pN te t):=by
 intro pos pins s σ H Q I h;rw[hs];show wpAny _ _ (spliced ((false,eval e X.env)::backTo pos (starEach es X.env))) _ _ s;apply Calls.spliced_cons (aV (ha pins s σ H _ I h) λu s1 ⟨x,H1,I1,r1,q1⟩=>?_);exact aV (hr pos pins s1 σ H1 _ I1 q1) λus s2 ⟨xs,H2,I2,r2,q2⟩=>#[x::xs,H2,I2,.cons r1 r2,q2]
def oN(t:TA):TE:=λσ H Q=>t σ H λxs H1=>xs.length<=sizeLine/\∀p,H1 p=none->Q (.ref p) (upd H1 p (.tup xs))
def qr(t:TA):TE:=λσ H Q=>t σ H λxs H1=>xs.length<=sizeLine/\∀p,H1 p=none->Q (.ref p) (upd H1 p (.lst xs))
theorem bC{x1}(h:PA X es t):PE X (.Tuple es x1 pos) (oN t):=by
 intro pins s σ H Q I hq;apply wpAny_Tuple_spliced (aV (h pos pins s σ H _ I hq) λus s1 ⟨xs,H1,I1,r,z,q⟩=>#[by rw[<- r.length];exact z,?_]);have hf:H1 s1.heap.objs.size=none:=I1.aH.fresh (br _);apply#[.ref s1.heap.objs.size,upd H1 s1.heap.objs.size (.tup xs),I1.laid (t':=s1.toks) (λb u e=>cc _ e) (br _) ?_,Z,q _ hf];exact#[z,us,r,#[_,eJ _ Z,Z,_,Z],_,eJ _ Z,Z]
theorem bX(h:PA X es t):PE X (.List es pos) (qr t):=by
 intro pins s σ H Q I hq;apply wpAny_List_spliced (aV (h pos pins s σ H _ I hq) λus s1 ⟨xs,H1,I1,r,z,q⟩=>#[by rw[<- r.length];exact z,?_]);have hf:H1 s1.heap.objs.size=none:=I1.aH.fresh (br _);apply#[.ref s1.heap.objs.size,upd H1 s1.heap.objs.size (.lst xs),I1.laid (t':=s1.toks) (λb u e=>cc _ e) (br _) ?_,Z,q _ hf];exact#[z,us,0,r,eJ _ Z]
end
abbrev Sp:=ag->Hp->VK->XK->Prop
abbrev j2:=List Env->Hp->Ab->XK->Aa->Ab->Prop
structure hY (P:Ad) (w:Af) (K:af) (mg:Str->Option Aa) (base:Heap) (A:Ag) (outer:List Env) (s:Ab) (H:Hp):Prop where
 frames:A.frames\outer
 mod:Mod K mg base
 bs:∀b o,base.get? b\o->s.heap.get? b\o/\H b=none
 tS:base.objs.size<=s.heap.objs.size
 fF:s.heap.FunFrames base outer
 wb:∀b∈gM outer,H b=none
 aH:eD P w H s.heap
 bare:AllBare s.gens
def CE(outer:List Env)(P:Ad)(w:Af)(H:Hp)(s:Ab)(Q:VK)(u:Aa)(s':Ab):Prop:=
 ∃v H',s'.os=s.os/\AllBare s'.gens/\Un (gM outer) [] H H' s.heap s'.heap/\eD P w H' s'.heap/\RelV v u/\Q v H'
def CR(CX:j2)(outer:List Env)(P:Ad)(w:Af)(H:Hp)(s:Ab)(Q:VK)(E:XK)(r:Result)(s':Ab):Prop:=
 match r with
 |.ok (.ret u)=>CE outer P w H s Q u s'
 |.ok _=>False
 |.error e=>CX outer H s E e s'
structure ak (P:Ad) (w:Af) (K:af) (mg:Str->Option Aa) (base:Heap) (CX:j2) (k:Nat) (f:Addr) (fd:Ae) (ps:ae) (sp:Sp):Prop where
 len:∀vs H Q E,sp vs H Q E->vs.length=ps.length
 run:∀(A:Ag) (outer:List Env) (s:Ab) (H:Hp) (args:Args) (us:aj) (vs:ag) (Q:VK) (E:XK),ba k A->hY P w K mg base A outer s H->BindsTo s fd args (ps.zip us)->Vals vs us->sp vs H Q E->
  codeAny (model P w) A (.call (.ref f) args) (CR CX outer P w H s Q E) s
theorem ak.mono{P:Ad}{w:Af}{K:af}{mg:Str->Option Aa}{base:Heap}{CX:j2}{j k:Nat}{f:Addr}{fd:Ae}{ps:ae}{sp:Sp}(F:ak P w K mg base CX j f fd ps sp)(h:j<=k) :
  ak P w K mg base CX k f fd ps sp:=#[F.len,λA outer s H args us vs Q E hr=>F.run A outer s H args us vs Q E (hr.mono h)]
theorem hY.make{P:Ad}{w:Af}{K:af}{mg:Str->Option Aa}{base:Heap}{A:Ag}{outer:List Env}{s:Ab}{H:Hp}(e:hY P w K mg base A outer s H)(C:Addr)(us:aj)(kw:List (Str × Aa)) :
  hY P w K mg base (A.under (.builtin "type.__call__" #[.ref C::us,kw])) outer s H:=#[by first|exact e.frames|(simpa [Around.under,Code.envs,Code.isFrame,pushEnvs] using e.frames),e.mod,e.bs,e.tS,e.fF,e.wb,e.aH,e.bare]
section
variable{X:Cx}{pins:List (Addr × Obj)}{σ:St}{H:Hp}{s s':Ab}
theorem Inv.AQ(I:Inv X pins σ H s):hY X.prog X.w X.K X.mg X.base X.A X.stack s H:=
 #[I.ok.frames,I.ok.mod,I.bs,ph I.ok.tS I.sz,I.stack,I.iA,I.aH,I.bare]
theorem Inv.after{Q:VK}{u:Aa}(I:Inv X pins σ H s)(h:CE X.stack X.prog X.w H s Q u s'):EP X pins σ Q u s':=by
 let#[v,H',os,bare,un,aH,r,q]:=h;let#[hh,g,d,t,ZW]:=s';obtain rfl:ZW=s.os:=os;exact#[v,H',I.call (h':=hh) (g':=g) (d':=d) (t':=t) (ch:=[]) un aH bare (λb z=>absurd z Z2),r,q]
end
def xv(sp:Sp)(gn:ag)(E:XK)(t:TA):TE:=λσ H Q=>t σ H λvs H1=>sp (vs++gn) H1 Q E
inductive qq (C:Addr) (m:Str) (sp:Sp) (gn:ag) (E:XK) (t:TA) (σ:St) (Q:VK) (x:V) (H1:Hp):Prop
 |mk:∀a dx fs,x=.ref a->H1 a\.ins C dx fs->fs.lookup m=none->(t σ H1 λvs H2=>sp (x::(vs++gn)) H2 Q E)->qq C m sp gn E t σ Q x H1
def mG(C:Addr)(m:Str)(sp:Sp)(gn:ag)(E:XK)(ta:TE)(t:TA):TE:=λσ H Q=>ta σ H λx H1=>qq C m sp gn E t σ Q x H1
def xn(C:Addr)(sp:Sp)(gn:ag)(E:XK)(t:TA):TE:=λσ H Q=>t σ H λvs H1=>∀x dx,H1 x=none->H1 dx=none->dx≠x->
 sp (.ref x::(vs++gn)) (upd (upd H1 dx (.own x)) x (.ins C dx [])) (λv H2=>v=.non/\Q (.ref x) H2) E
def pP(K:af)(fd:Ae)(ps:ae)(ds:aj):Prop:=
 ∀(s:Ab) (us:aj),K.In s.heap->(us++ds).length=ps.length->BindsTo s fd #[us,[]] (ps.zip (us++ds))
theorem pP.all{K:af}{fd:Ae}{ps:ae}(h:∀us:aj,us.length=ps.length->bindArgs fd #[us,[]]=pure (ps.zip us)):pP K fd ps []:=λs us _ hl=>by
 rw[yP] at hl ⊢;exact .of_eq (h us hl)
def wD(CX:j2)(X:Cx)(E:XK):Prop:=∀(pins:List (Addr × Obj)) (σ:St) (H:Hp) (s:Ab) (e:Aa) (s':Ab),Inv X pins σ H s->CX X.stack H s E e s'->X.xe e s'
section
variable{X:Cx}{CX:j2}{k:Nat}{f C:Addr}{fd:Ae}{ps:ae}{sp:Sp}{gn:ag}{ds:aj}{E:XK}{x m:Str}{p pos apos:Pos}{e o:Expr}{es:List Expr}{ta:TE}{t:TA}
theorem Nu{pins:List (Addr × Obj)}{σ:St}{H:Hp}{s:Ab}{Q:VK}{us:aj}{vs:ag}(F:ak X.prog X.w X.K X.mg X.base CX k f fd ps sp)(hr:ba k X.A)(hb:pP X.K fd ps ds)(hd:Vals gn ds)(hx:wD CX X E)
  (I:Inv X pins σ H s) (r:Vals vs us) (h:sp (vs++gn) H Q E):wpAny (model X.prog X.w) X.A (call (.ref f) us) (EP X pins σ Q) X.xe s:=by
 have r2:Vals (vs++gn) (us++ds):=r.append hd;have hl:(us++ds).length=ps.length:=by rw[<- r2.length];exact F.len _ _ _ _ h
 apply wpAny_call (codeAny_mono (F.run X.A X.stack s H #[us,[]] (us++ds) (vs++gn) Q E hr I.AQ (hb s us I.fR hl) r2 h) λr s' hq=>?_);cases r with
 |error e=>exact hx pins σ H s e s' I hq
 |ok fl=>
  cases fl with
  |ret u=>exact I.after hq
  |next=>exact False.elim hq
  |brk=>exact False.elim hq
  |cont=>exact False.elim hq
theorem jT_(F:ak X.prog X.w X.K X.mg X.base CX k f fd ps sp)(hr:ba k X.A)(hg:Gl X x)(hm:X.mg x\.ref f)(hk:PySem.W.keepIn X.K (.ref f)=true)(hb:pP X.K fd ps ds)(hd:Vals gn ds)(hx:wD CX X E)
  (ha:PA X (e::es) t) (sW:(x == ("__debug__":Str))=false:=by decide) (he:starEach (e::es) X.env=(false,eval e X.env)::starEach es X.env:=by rfl) (iY:(backTo pos (starEach es X.env)).any (·.1)=false:=by rfl) :
  PE X (.Call (.Name x p) (e::es) [] pos) (xv sp gn E t):=by
 intro pins s σ H Q I h;apply wpAny_Call_Name_kw (OZ I hg hm ?_ sW);apply PySem.W.callWith_K (h₀:=X.base) I.ok.mod.EO hk (aV (ha pos pins s σ H _ I h) λus s1 ⟨vs,H1,I1,r,q⟩=>#[I1.fR,?_]) he iY;exact Nu F hr hb hd hx I1 r q
theorem ko_{pl:Sem Bool}(he:PE X o ta)(c:mB X.K C)(hm:Meth X.K C m f)(F:ak X.prog X.w X.K X.mg X.base CX k f fd ps sp)(hr:ba k X.A)(hb:pP X.K fd ps ds)(hd:Vals gn ds)(hx:wD CX X E)(ha:PA X (e::es) t)
  (zX:starEach (e::es) X.env=(false,eval e X.env)::starEach es X.env:=by rfl) (iY:(backTo pos (starEach es X.env)).any (·.1)=false:=by rfl)
  (ht:eval (.Call (.Attribute o m apos) (e::es) [] pos) X.env=(do
   let ov <- eval o X.env
   standAt apos.atName
   let (f,first) <- holding [ov] (getMethod ov m pl)
   callWith pos f first (backTo pos (starEach (e::es) X.env)) (backToKw pos (keywordEach [] X.env))):=by rfl) :
  PE X (.Call (.Attribute o m apos) (e::es) [] pos) (mG C m sp gn E ta t):=by
 intro pins s σ H Q I h;apply PySem.W.methodCall_KW (pl:=pl) (aV (he pins s σ H _ I h) λu s1 ⟨x,H1,I1,rx,a,dx,fs,ex,ea,l,q⟩=>?_) ht;subst ex;obtain rfl:u=Value.ref a:=rx;apply Wl I1 ea c hm l ?_;apply PySem.W.callWith_K (first:=[.ref a]) (h₀:=X.base) I.ok.mod.EO hm.kp (aV (ha pos pins s1 σ H1 _ I1 q) λus s2 ⟨vs,H2,I2,r,q2⟩=>#[I2.fR,?_]) zX iY;exact Nu (us:=.ref a::us) (vs:=.ref a::vs) F hr hb hd hx I2 (.cons Z r) q2
theorem iI_{pl:Sem Bool}(he:PE X o ta)(c:mB X.K C)(hm:Meth X.K C m f)(F:ak X.prog X.w X.K X.mg X.base CX k f fd ps sp)(hr:ba k X.A)(hb:pP X.K fd ps ds)(hd:Vals gn ds)(hx:wD CX X E)
  (ht:eval (.Call (.Attribute o m apos) [] [] pos) X.env=(do
   let ov <- eval o X.env
   standAt apos.atName
   let (f,first) <- holding [ov] (getMethod ov m pl)
   callWith pos f first (backTo pos (starEach [] X.env)) (backToKw pos (keywordEach [] X.env))):=by rfl) :
  PE X (.Call (.Attribute o m apos) [] [] pos) (mG C m sp gn E ta gi):=by
 intro pins s σ H Q I h;apply PySem.W.methodCall_KW (pl:=pl) (aV (he pins s σ H _ I h) λu s1 ⟨x,H1,I1,rx,a,dx,fs,ex,ea,l,q⟩=>?_) ht;subst ex;obtain rfl:u=Value.ref a:=rx;apply Wl I1 ea c hm l ?_;exact PySem.W.callWith_K0 (first:=[.ref a]) I1.fR hm.kp (Nu (us:=[.ref a]) (vs:=[.ref a]) F hr hb hd hx I1 (.cons Z .nil) q)
structure Mk (K:af) (C f:Addr):Prop where
 makes:PySem.W.makesIn K C=true
 init:PySem.W.findIn K (.ref C) "__init__"\some (.ref f)
 fn:PySem.W.isFn K (.ref f)=true
 kp:PySem.W.keepIn K (.ref C)=true
theorem iq_{pins:List (Addr × Obj)}{σ:St}{H:Hp}{s:Ab}{Q:VK}{us:aj}{vs:ag}(M:Mk X.K C f)(F:ak X.prog X.w X.K X.mg X.base CX k f fd ps sp)(hr:ba (k+1) X.A)(hb:pP X.K fd ps ds)(hd:Vals gn ds)
  (hx:wD CX X E) (I:Inv X pins σ H s) (r:Vals vs us)
  (h:∀x dx,H x=none->H dx=none->dx≠x->sp (.ref x::(vs++gn)) (upd (upd H dx (.own x)) x (.ins C dx [])) (λv H2=>v=.non/\Q (.ref x) H2) E) :
  wpAny (model X.prog X.w) X.A (call (.ref C) us) (EP X pins σ Q) X.xe s:=by
 let hq:=h (s.heap.objs.size+1) s.heap.objs.size (I.aH.fresh (Nat.le_succ _)) (I.aH.fresh (br _)) (dY (Nat.lt_succ_self _));let I2:=Inv.made (C:=C) I;have r2:Vals (V.ref (s.heap.objs.size+1)::(vs++gn)) (Value.ref (s.heap.objs.size+1)::(us++ds)):=.cons Z (r.append hd)
 have hl:(Value.ref (s.heap.objs.size+1)::us++ds).length=ps.length:=by
  let e:=r2.length;rw[F.len _ _ _ _ hq] at e;exact e.symm
 apply wpAny_call (in_ (f:=f) I.fR M.makes M.init (beq_iff_eq.mp M.fn) (codeAny_mono (F.run _ X.stack _ _ #[Value.ref (s.heap.objs.size+1)::us,[]] (Value.ref (s.heap.objs.size+1)::(us++ds)) _ _ E (hr.make C us [])
  (I2.AQ.make C us []) (hb _ (Value.ref (s.heap.objs.size+1)::us) I2.fR hl) r2 hq) λr s' hq'=>?_))
 cases r with
 |error e=>exact hx pins σ _ _ e s' I2 hq'
 |ok fl=>
  cases fl with
  |ret u=>
   let#[v,H',I3,rv,ev,q3]:=I2.after hq';subst ev;exact#[rv,#[V.ref (s.heap.objs.size+1),H',I3,Z,q3]]
  |next=>exact False.elim hq'
  |brk=>exact False.elim hq'
  |cont=>exact False.elim hq'
theorem kk_(M:Mk X.K C f)(F:ak X.prog X.w X.K X.mg X.base CX k f fd ps sp)(hr:ba (k+1) X.A)(hg:Gl X x)(hm:X.mg x\.ref C)(hb:pP X.K fd ps ds)(hd:Vals gn ds)(hx:wD CX X E)
  (ha:PA X (e::es) t) (sW:(x == ("__debug__":Str))=false:=by decide) (he:starEach (e::es) X.env=(false,eval e X.env)::starEach es X.env:=by rfl) (iY:(backTo pos (starEach es X.env)).any (·.1)=false:=by rfl) :
  PE X (.Call (.Name x p) (e::es) [] pos) (xn C sp gn E t):=by
 intro pins s σ H Q I h;apply wpAny_Call_Name_kw (OZ I hg hm ?_ sW);apply PySem.W.callWith_K (h₀:=X.base) I.ok.mod.EO M.kp (aV (ha pos pins s σ H _ I h) λus s1 ⟨vs,H1,I1,r,q⟩=>#[I1.fR,?_]) he iY;exact iq_ M F hr hb hd hx I1 r q
end
def PK(X:Cx)(EN:List Keyword)(t:TA):Prop:=
 ∀(pos:Pos) (pins:List (Addr × Obj)) (s:Ab) (σ:St) (H:Hp) (Q:ag->Hp->Prop),Inv X pins σ H s->t σ H Q->wpAny (model X.prog X.w) X.A (evalAll ((backToKw pos (keywordEach EN X.env)).map (·.2))) (AP X pins σ Q) X.xe s
section
variable{X:Cx}{CX:j2}{k:Nat}{f C:Addr}{fd:Ae}{ps ks:ae}{sp:Sp}{E:XK}{x m:Str}{p pos apos MK:Pos}{e o:Expr}{es:List Expr}{EN:List Keyword}{te ta:TE}{t tk:TA}{nm:Option Str}
theorem Tf:PK X [] gi:=λ_ _ _ _ H Q I h=>wpAny_evalAll_nil #[[],H,I,.nil,h]
theorem UM(ha:PE X e te)(hr:PK X EN t):PK X (#[nm,e,MK]::EN) (pN te t):=by
 intro pos pins s σ H Q I h;show wpAny _ _ (evalAll ((do let v <- eval e X.env;standAt pos;pure v)::(backToKw pos (keywordEach EN X.env)).map (·.2))) _ _ s;apply wpAny_evalAll_cons (aC (aV (ha pins s σ H _ I h) λu s1 ⟨x,H1,I1,r1,q1⟩=>aC (wpAny_standAt (bA ?_))));exact aV (hr pos pins s1 σ H1 _ I1 q1) λus s2 ⟨xs,H2,I2,r2,q2⟩=>#[x::xs,H2,I2,.cons r1 r2,q2]
structure Rx (K:af) (fd:Ae) (ps ks:ae) (g:aj->aj->aj) (gV:ag->ag->ag):Prop where
 to:∀(s:Ab) (us ws:aj),K.In s.heap->(g us ws).length=ps.length->BindsTo s fd #[us,ks.zip ws] (ps.zip (g us ws))
 rel:∀{vs:ag} {us:aj} {zs:ag} {ws:aj},Vals vs us->Vals zs ws->Vals (gV vs zs) (g us ws)
variable{g:aj->aj->aj}{gV:ag->ag->ag}
end
structure bw (N P:ae) (sc:Scope):Prop where
 kind:sc.kind=.function
 co:sc.isCoroutine=false
 gen:sc.isGenerator=false
 nd:N.Nodup
 pre:N.take P.length=P
 par:∀x∈P,sc.names.lookup x\.local∨sc.names.lookup x\.cell
 zK:∀y∈sc.names,y.2≠.free
theorem VX{kindOf:Str->Option NameKind}{x:Str}:∀{binds:List (Str × Aa)} {m:Str->Option Aa},(∀v,(x,v)∉binds)->bindL kindOf binds m x=m x
 |[],_,_=>rfl
 |(n,v)::r,m,h=>by
  unfold bindL;rw[VX λw hw=>h w (eA _ hw)];split
  ·have:x≠n:=by rintro rfl;exact h v eP
   simp[this]
  rfl
theorem Wa{kindOf:Str->Option NameKind}{x:Str}:∀{binds:List (Str × Aa)} {m:Str->Option Aa},(∀v,(x,v)∉binds)->bindC kindOf binds m x=m x
 |[],_,_=>rfl
 |(n,v)::r,m,h=>by
  unfold bindC;rw[Wa λw hw=>h w (eA _ hw)];split
  ·rfl
  have:x≠n:=by rintro rfl;exact h v eP
  simp[this]
theorem WG{kindOf:Str->Option NameKind}{x:Str}{v:Aa}:∀{P:ae} {vs:aj} {i:Nat} {m:Str->Option Aa},P.Nodup->P[i]? = some x->vs[i]? = some v->kindOf x\.local->
  bindL kindOf (P.zip vs) m x\v
 |[],_,_,_,_,h,_,_=>by simp at h
 |_::_,[],_,_,_,_,h,_=>by simp at h
 |p::P,w::vs,0,m,nd,h1,h2,hk=>by
  simp at h1 h2;subst h1;subst h2;show bindL kindOf ((p,w)::P.zip vs) m p=_;unfold bindL;rw[VX λv hv=>(p7.mp nd).1 (List.of_mem_zip hv).1,aJ hk];simp
 |p::P,w::vs,i+1,m,nd,h1,h2,hk=>by
  show bindL kindOf ((p,w)::P.zip vs) m x=_;unfold bindL;exact WG (i:=i) (p7.mp nd).2 ⇑h1 ⇑h2 hk
theorem V_{kindOf:Str->Option NameKind}{x:Str}{v:Aa}:∀{P:ae} {vs:aj} {i:Nat} {m:Str->Option Aa},P.Nodup->P[i]? = some x->vs[i]? = some v->kindOf x≠some .local->
  bindC kindOf (P.zip vs) m x\v
 |[],_,_,_,_,h,_,_=>by simp at h
 |_::_,[],_,_,_,_,h,_=>by simp at h
 |p::P,w::vs,0,m,nd,h1,h2,hk=>by
  simp at h1 h2;subst h1;subst h2;show bindC kindOf ((p,w)::P.zip vs) m p=_;unfold bindC;rw[Wa λv hv=>(p7.mp nd).1 (List.of_mem_zip hv).1,aE hk];simp
 |p::P,w::vs,i+1,m,nd,h1,h2,hk=>by
  show bindC kindOf ((p,w)::P.zip vs) m x=_;unfold bindC;exact V_ (i:=i) (p7.mp nd).2 ⇑h1 ⇑h2 hk
def start(N:ae)(vs:ag):St:=vs.map some++List.replicate (N.length - vs.length) none
def jH(CX:j2)(P:Ad)(w:Af)(K:af)(mg:Str->Option Aa)(base:Heap)(N:ae)(qual:Str)(scope:Scope)(f:Addr)(cd:Aa)(A:Ag)(outer:List Env)(s:Ab)(H:Hp)(E:XK):Cx where
 prog:=P
 w:=w
 K:=K
 mg:=mg
 base:=base
 A:=A.deeper (envOfC qual scope s.heap.objs.size f cd)
 N:=N
 cz:=s
 iT:=H
 env:=envOfC qual scope s.heap.objs.size f cd
 outer:=outer
 stack:=envOfC qual scope s.heap.objs.size f cd::outer
 ex:=[]
 calm:=true
 fn:=λ_=>true
 pn:=[]
 xe:=λe s'=>wpAny (model P w) (A.deeper (envOfC qual scope s.heap.objs.size f cd)) (leaving (envOfC qual scope s.heap.objs.size f cd) e) (λ_ pG=>CX outer H s E e pG) (λe' pG=>CX outer H s E e' pG) s'
theorem Vf{sc:Scope}{n:Nat}{x:Str}(h:sc.names.lookup x\.cell):∃c,(cellsFrom n sc.names []).lookup x\c:=by
 let q:=PySem.W.cellsFrom_some sc.names n [] (.inl h);exact Bq.mp q
theorem hC_{CX:j2}{P:Ad}{w:Af}{K:af}{mg:Str->Option Aa}{base:Heap}{N ps:ae}{qual:Str}{scope:Scope}{f:Addr}{cd:Aa}{A:Ag}{outer:List Env}{s s1:Ab}{H:Hp}{E:XK}{us:aj}{vs:ag}
  (S:bw N ps scope) (hd:A.handled=none) (e0:hY P w K mg base A outer s H) (hl:vs.length=ps.length) (r:Vals vs us)
  (x:InCallC s s.heap.objs.size (bindL (envOfC qual scope s.heap.objs.size f cd).kindOf (ps.zip us) λ_=>none) (cellsFrom (s.heap.objs.size+1) scope.names []) (bindC (envOfC qual scope s.heap.objs.size f cd).kindOf (ps.zip us) λ_=>none) s1) :
  Inv (jH CX P w K mg base N qual scope f cd A outer s H E) [] (start N vs) H s1:=by
 have iY:ps.length<=N.length:=by have:=eI List.length S.pre;rw[dP] at this;omega
 let#[h1,tk,rfl,hk]:=x.done;have vI:∀b:Addr,b∉(jH CX P w K mg base N qual scope f cd A outer s H E).ex:=λb z=>absurd (show b∈([]:ai) from z) Z2
 apply#[#[e0.mod,S.kind,Z,Z,br _,λy z c h1 h2=>?_,λy hy=>?_,λy c _ h=>?_,λ_=>hd,Around.frames_deeper e0.frames,.inr #[Z,Z],λb z=>absurd z (vI b),e0.bs,e0.tS,λb _ _=>vI b,λb z=>absurd z (vI b),e0.fF,e0.wb],
  rfl,e0.bare,Un.kept hk,#[_,x.toInCall.ns,λi y v h1 h2 h3=>?_],λy c h=>#[_,x.cell y c h],e0.aH.fresh (br _),λy c h=>?_,λp hp=>absurd (show p∈([]:List (Addr × Obj)) from hp) Z2,e0.aH.kept hk,?_]
 ·exact name_of_addr x.apart (pd h1) (pd h2)
 ·have hy:scope.names.lookup y\.cell∨scope.names.lookup y\.free:=hy;rcases hy with hy|hy
  ·exact Vf hy
  exact absurd Z (S.zK _ (pd hy))
 ·exact Nat.le_of_lt (x.above y c (pd h))
 ·have hi:i<vs.length:=by
   unfold start at h2;by_cases hi:i<vs.length
   ·exact hi
   rw[xa ⇑hi] at h2;rw[List.getElem?_replicate] at h2;split at h2<;>cases h2
  have ha:vs[i]? = some v:=by
   unfold start at h2;rw[yT ⇑hi,dQ] at h2;cases e:vs[i]? with
   |none=>rw[e] at h2;cases h2
   |some a=>rw[e] at h2;cases h2;rfl
  let#[u,hu,rv]:=r.get ha
  have hp:ps[i]? = some y:=by
   rw[<- S.pre,List.getElem?_take_of_lt Z1];exact h1
  have Jj:ps.Nodup:=by rw[<- S.pre];exact S.nd.sublist (List.take_sublist _ _)
  apply#[u,rv,?_];rcases S.par y (dC hp) with k|k
  ·exact .inl #[k,WG Jj hp hu k]
  let#[c,e]:=Vf (n:=s.heap.objs.size+1) k;apply .inr #[.inl k,c,e,?_];let q:=x.cell y c e;rw[V_ Jj hp hu (by show scope.names.lookup y≠_;rw[k];decide)] at q;exact q
 ·exact e0.aH.fresh (Nat.le_of_lt (x.above y c (pd h)))
 unfold start;show _=N.length;rw[dW,ay,uS];omega
theorem SY{CX:j2}{P:Ad}{w:Af}{K:af}{mg:Str->Option Aa}{base:Heap}{k:Nat}{f:Addr}{name qual:Str}{params:Arguments}{body:List Stmt}{scope:Scope}{dV kV doc pm aM ct oc:Aa}{an od:Option Addr}
  {js:Array (Option Aa)} {N ps:ae} {sp:Sp} (lk:K.lookup f=some #[oc,od,.func (PySem.W.fnOf name qual params body scope dV kV doc pm an aM ct),js]) (gK:PySem.W.codeIn K aM qual=true) (S:bw N ps scope)
  (len:∀vs H Q E,sp vs H Q E->vs.length=ps.length)
  (fE:∀(A:Ag) (outer:List Env) (s:Ab) (H:Hp) (vs:ag) (Q:VK) (E:XK),ba k (A.deeper (envOfC qual scope s.heap.objs.size f aM))->sp vs H Q E->
   ∃t,kz (jH CX P w K mg base N qual scope f aM A outer s H E) body t/\t { nx:=λ_ H'=>Q .non H',rt:=Q } (start N vs) H) :
  ak P w K mg base CX (k+1) f (PySem.W.fnOf name qual params body scope dV kV doc pm an aM ct) ps sp:=by
 apply#[len,λA outer s H args us vs Q E hr e0 hb r j4=>?_];let hl:=len _ _ _ _ j4;have KX:K.In s.heap:=e0.mod.EO.keeps λb o e=>(e0.bs b o e).1;have lim:s.heap.NoLimit:=e0.mod.nolimit.keeps λb o e=>(e0.bs b o e).1
 have FF:∀y∈ps.zip us,scope.names.lookup y.1\.local∨(scope.names.lookup y.1\.cell/\((cellsFrom (s.heap.objs.size+1) scope.names []).lookup y.1).isSome=true):=λ⟨n,v⟩ hy=>by
  rcases S.par n (List.of_mem_zip hy).1 with q|q
  ·exact .inl q
  exact .inr #[q,PySem.W.cellsFrom_some _ _ _ (.inl q)]
 apply codeAny_call_function hr.depth (KX _ _ lk) Z S.co S.gen Z (PySem.W.codeRec_of KX gK) (hb _ _ _ _ ?_);apply wpAny_newFunctionEnv_cells S.kind FF λenv he s1 x=>?_;subst he;apply#[lim.keeps x.toInCall.keep,codeAny_func ?_];let#[t,ht,hq]:=fE A outer s H vs Q E (hr.deeper _) j4;have I:Inv (jH CX P w K mg base N qual scope f aM A outer s H E) [] (start N vs) H s1:=hC_ S hr.hd e0 hl r x;apply wpAny_mono (ht [] s1 (start N vs) H _ I hq) (λfl s' hs=>?_) λe s' hs=>hs
 have fin:∀{bq:St} {H':Hp} {v:V} {u:Aa},Inv (jH CX P w K mg base N qual scope f aM A outer s H E) [] bq H' s'->RelV v u->Q v H'->CE outer P w H s Q u s':=
  λ{bq H' v u} J rv q=>#[v,H',J.os,J.bare,J.base,J.aH,rv,q]
 cases fl with
 |ret u=>
  let#[v,bq,H',J,rv,q]:=hs;exact fin J rv q
 |next=>
  let#[bq,H',J,q]:=hs;exact fin (v:=V.non) (u:=Value.none) J Z q
 |brk=>
  let#[_,_,_,q]:=hs;exact False.elim q
 |cont=>
  let#[_,_,_,q]:=hs;exact False.elim q
end L2
local macro_rules|`(!$f:ident $a*)=>if [`bg,`gR,`bo,`ak,`iu].contains f.getId then let i:=Lean.mkIdent;`($f $(i `P) $(i `w) $(i `K) $(i `mg) $(i `base) $a*)else Lean.Macro.throwUnsupported
namespace L2
open PySem PySem.Spec PyProof.Rows
section
variable{X:Cx}{x:Str}{p pos:Pos}{e:Expr}{es:List Expr}{t:TA}{id T:String}{r:ag->Hp->VK->Prop}
def R_(r:ag->Hp->VK->Prop)(t:TA):TE:=λσ H Q=>t σ H λvs H1=>r vs H1 Q
theorem cu(hc:gq X (.builtin id) r)(hg:Gl X x)(hm:X.mg x=none)(hv:bootBuiltins x\.builtin id)(ha:PA X (e::es) t)(hn:x≠"__name__":=by decide)(sW:(x == ("__debug__":Str))=false:=by decide)
  (he:starEach (e::es) X.env=(false,eval e X.env)::starEach es X.env:=by rfl) (iY:(backTo pos (starEach es X.env)).any (·.1)=false:=by rfl):PE X (.Call (.Name x p) (e::es) [] pos) (R_ r t):=by
 intro pins s σ H Q I h;apply wpAny_Call_Name_kw (Cr I hg hm hv ?_ hn sW);exact PyProof.Rows.callWith_builtin1 (aV (ha pos pins s σ H _ I h) λus s1 ⟨vs,H1,I1,r1,q1⟩=>hc pins s1 σ H1 vs us Q I1 r1 q1) he iY
theorem iP(hc:gq X (.type T) r)(hg:Gl X x)(hm:X.mg x=none)(hv:bootBuiltins x\.type T)(ha:PA X (e::es) t)(hn:x≠"__name__":=by decide)(sW:(x == ("__debug__":Str))=false:=by decide)
  (he:starEach (e::es) X.env=(false,eval e X.env)::starEach es X.env:=by rfl) (iY:(backTo pos (starEach es X.env)).any (·.1)=false:=by rfl):PE X (.Call (.Name x p) (e::es) [] pos) (R_ r t):=by
 intro pins s σ H Q I h;apply wpAny_Call_Name_kw (Cr I hg hm hv ?_ hn sW);exact PyProof.Rows.callWith_type1 (aV (ha pos pins s σ H _ I h) λus s1 ⟨vs,H1,I1,r1,q1⟩=>hc pins s1 σ H1 vs us Q I1 r1 q1) he iY
end
end L2
namespace HT
open PySem PyProof.Rows
section
open PySem.SeqAt
open PySem.AutoSeq1 (wpAny_loadPart')
open PySem.MeetsSeq PySem.MeetsSeq2 PySem.MeetsSeq3
end
section
variable{prog:Ad}{w:Af}{A:Ag}{E:Aa->Ab->Prop}{s:Ab}
def jn(n d:Nat):Option Int->Nat
 |none=>d
 |some v=>if v<0 then (v+(n:Int)).toNat else min v.toNat n
theorem gF(n d:Nat):jn n d none=d:=rfl
theorem iD(n d k:Nat):jn n d (some (k:Int))=min k n:=by
 show (if (k:Int)<0 then ((k:Int)+(n:Int)).toNat else min (k:Int).toNat n)=min k n;rw[aE Z1,ow]
end
end HT
namespace L2
open PySem PySem.Spec PyProof.Rows
abbrev TO:=St->Hp->(Option Int->Hp->Prop)->Prop
def PO(X:Cx)(e:Option Expr)(t:TO):Prop:=
 ∀(pins:List (Addr × Obj)) (s:Ab) (σ:St) (H:Hp) (Q:Option Int->Hp->Prop),Inv X pins σ H s->t σ H Q->
  wpAny (model X.prog X.w) X.A (evalPart e X.env) (λu s'=>∃o H',Inv X pins σ H' s'/\IsPart u o/\Q o H') X.xe s
def ve:TO:=λ_ H Q=>Q none H
inductive qm (Q:Option Int->Hp->Prop) (x:V) (H1:Hp):Prop
 |mk:∀i,x=.int i->Q (some i) H1->qm Q x H1
def Df(t:TE):TO:=λσ H Q=>t σ H λx H1=>qm Q x H1
section
variable{X:Cx}{e:Expr}{te:TE}{lo hi:Option Expr}{tl th:TO}{pos p2:Pos}
theorem wL:PO X none ve:=by
 intro pins s σ H Q I h;rw[evalPart_none];exact bA #[none,H,I,.none,h]
theorem wK(h:PE X e te):PO X (some e) (Df te):=by
 intro pins s σ H Q I hw;rw[evalPart_some];apply aV (h pins s σ H _ I hw) λu s1 ⟨x,H1,I1,r1,q1⟩=>?_;let#[i,rfl,q]:=q1;let#[t,rfl]:=r1;exact#[some i,H1,I1,.int i t,q]
def Xq(X:Cx)(r:V->Option Int->Option Int->Hp->VK->Prop):Prop:=
 ∀(pins:List (Addr × Obj)) (s:Ab) (σ:St) (H:Hp) (x:V) (v vl vu:Aa) (lo hi:Option Int) (sl:Addr) (Q:VK),Inv X pins σ H s->RelV x v->s.heap.IsSliceOf sl vl vu .none->IsPart vl lo->IsPart vu hi->r x lo hi H Q->
  ∃T id,typeLookup (.type T) "__getitem__"=pure (some (.builtin id))/\s.TypeIs v T/\wpAny (model X.prog X.w) X.A (getItem v (.ref sl)) (EP X pins σ Q) X.xe s
def Y4(r:V->Option Int->Option Int->Hp->VK->Prop)(te:TE)(tl th:TO):TE:=λσ H Q=>te σ H λx H1=>tl σ H1 λl H2=>th σ H2 λu H3=>r x l u H3 Q
theorem wN{r:V->Option Int->Option Int->Hp->VK->Prop}(hr:Xq X r)(he:PE X e te)(hl:PO X lo tl)(hu:PO X hi th):PE X (.Subscript e (.Slice lo hi none p2) pos) (Y4 r te tl th):=by
 intro pins s σ H Q I h;apply Subscript_ (aV (he pins s σ H _ I h) λv s1 ⟨x,H1,I1,r1,q1⟩=>?_);apply wpAny_Slice (aV (hl pins s1 σ H1 _ I1 q1) λvl s2 ⟨l,H2,I2,pl,q2⟩=>aV (hu pins s2 σ H2 _ I2 q2) λvu s3 ⟨u,H3,I3,pu,q3⟩=>?_);rw[evalPart_none];apply bA ?_;have I4:Inv X pins σ H3 { s3 with heap:=s3.heap.push { cls:=.type "slice",data:=.fields (List.toArray [vl,vu,.none]) } }:=I3.kept (t':=s3.toks) λb ob q=>cc _ q;let#[T,id,hT,ht,hg]:=hr pins { s3 with heap:=s3.heap.push { cls:=.type "slice",data:=.fields (List.toArray [vl,vu,.none]) } } σ H3 x v vl vu l u s3.heap.objs.size Q I4 r1 (Heap.IsSliceOf.new ..) pl pu q3;show wpAny (model X.prog X.w) X.A (subscriptTail e (.Slice lo hi none p2) v (.ref s3.heap.objs.size)) (EP X pins σ Q) X.xe { s3 with heap:=s3.heap.push { cls:=.type "slice",data:=.fields (List.toArray [vl,vu,.none]) } };exact tail_any (ops:=[.ref s3.heap.objs.size,v]) ht hT hg (by with_unfolding_all rfl)
def bZ(xs:ag)(lo hi:Option Int):ag:=(xs.drop (HT.jn xs.length 0 lo)).take (HT.jn xs.length xs.length hi - HT.jn xs.length 0 lo)
theorem WQ(xs:ag)(lo hi:Option Int):(bZ xs lo hi).length<=xs.length:=by
 unfold bZ;rw[dP,wX];omega
end
end L2
namespace L2
open PySem PySem.Spec PyProof.Rows
def uv(n:Nat)(i:Int):Option Nat:=if 0<=i then (if i<n then some i.toNat else none) else if -(n:Int)<=i then some (i+n).toNat else none
def eO{α:Type}(xs:List α)(i:Int):Option α:=(uv xs.length i).bind λj=>xs[j]?
theorem UV{n:Nat}{i:Int}{j:Nat}(h:uv n i\j):seqIndex? i n\j/\j<n/\-(n:Int)<=i/\i<n:=by
 unfold uv at h;by_cases h0:0<=i
 ·rw[aJ h0] at h;by_cases h1:i<n
  ·rw[aJ h1] at h;have e:i.toNat=j:=d5 h;exact#[by rw[seqIndex_of h0 h1,e],by omega,by omega,h1]
  rw[aE h1] at h;cases h
 rw[aE h0] at h;by_cases h1:-(n:Int)<=i
 ·rw[aJ h1] at h;have e:(i+n).toNat=j:=d5 h;exact#[by rw[seqIndex_neg Z1 h1,e],by omega,h1,by omega]
 rw[aE h1] at h;cases h
theorem OX{α:Type}{xs:List α}{i:Int}{v:α}(h:eO xs i\v):∃j,seqIndex? i xs.length\j/\xs[j]? = some v/\j<xs.length/\-(xs.length:Int)<=i/\i<xs.length:=by
 unfold eO at h;cases e:uv xs.length i with
 |none=>rw[e] at h;cases h
 |some j=>
  rw[e] at h;let#[h1,h2,h3,h4]:=UV e;exact#[j,h1,h,h2,h3,h4]
theorem gc{α:Type}{xs:List α}{j:Nat}{v:α}(h:xs[j]? = some v):eO xs (j:Int)\v:=by
 have hj:j<xs.length:=(cw.mp h).1
 have e:uv xs.length (j:Int)\j:=by
  unfold uv;rw[aJ Z1,aJ Z1];simp
 unfold eO;rw[e];exact h
def xb(b:Expr):Prop:=∀o i,subscripted b false o i=operate [o,i] (getItem o i)
def CN(X:Cx)(r:R2):Prop:=
 ∀(value slice:Expr) (pins:List (Addr × Obj)) (s:Ab) (σ:St) (H:Hp) (x y:V) (v u:Aa) (Q:VK),Inv X pins σ H s->RelV x v->RelV y u->r x y H Q->
  subscripted slice false v u=operate [v,u] (getItem v u)->wpAny (model X.prog X.w) X.A (subscriptTail value slice v u) (EP X pins σ Q) X.xe s
def MtR(X:Cx)(id:String)(r:V->ag->Hp->VK->Prop):Prop:=
 ∀(pins:List (Addr × Obj)) (s:Ab) (σ:St) (H:Hp) (x:V) (xs:ag) (v:Aa) (us:aj) (Q:VK),Inv X pins σ H s->RelV x v->Vals xs us->r x xs H Q->
  wpAny (model X.prog X.w) X.A (call (.builtin id) (v::us)) (EP X pins σ Q) X.xe s
section
variable{X:Cx}{a b:Expr}{ta tb:TE}{pos:Pos}
theorem bE{r:R2}(hr:CN X r)(ha:PE X a ta)(hb:PE X b tb)(hs:xb b:=by exact λ_ _=>rfl):PE X (.Subscript a b pos) (xm r ta tb):=by
 intro pins s σ H Q I h;exact Subscript_ (Bh ha hb I h λv u s2 x y H2 I2 rx ry q=>hr a b pins s2 σ H2 x y v u Q I2 rx ry q (hs _ _))
inductive vC (K:af) (x:V) (y:V) (H:Hp) (Q:VK):Prop
 |mk:∀p xs i v,x=.ref p->y=.int i->dN K H p xs->eO xs i\v->Q v H->vC K x y H Q
inductive lM (K:af) (x:V) (y:V) (H:Hp) (Q:VK):Prop
 |mk:∀p xs i v,x=.ref p->y=.int i->gB K H p xs->eO xs i\v->Q v H->lM K x y H Q
inductive Ek (x:V) (y:V) (H:Hp) (Q:VK):Prop
 |mk:∀z i c,x=.str z->y=.int i->z.length<=sizeLine->eO z.cps.toList i\c->Q (.str ⟨(List.toArray [c])⟩) H->Ek x y H Q
theorem fA:CN X (vC X.K):=by
 intro value slice pins s σ H x y v u Q I rx ry h hs;let#[p,xs,i,z,rfl,rfl,hq,he,q]:=h;cases rx;let#[t,rfl]:=ry;let#[its,r,pl,hz]:=I.list hq;let#[j,h1,h2,h3,h4,h5]:=OX he;let#[w,ew,jq]:=r.get h2;let hl:=r.length;let hn:=fP;have fin:EP X pins σ Q w s:=⟨z,H,I,jq,q⟩;by_cases h0:0<=i
 ·have hj:i.toNat=j:=by
   rw[seqIndex_of h0 h5] at h1;exact d5 h1
  exact item_listR pl.isList h0 Z1 (by rw[hj];simpa using ew) fin hs
 have hj:(i+(its.toArray.size:Int)).toNat=j:=by
  rw[seqIndex_neg Z1 h4] at h1;rw[cX,<- hl];exact d5 h1
 exact subscriptTail_builtinR (x:=w) pl.isList.typeIs slot_list_getitem.lookup
  (wpAny_getItem_list_neg (Q:=λr s'=>r=w/\EP X pins σ Q r s') pl.isList Z1 (by rw[cX]<;>omega) Z1 (by rw[hj];simpa using ew) ⟨rfl,fin⟩) hs
theorem dh:CN X (lM X.K):=by
 intro value slice pins s σ H x y v u Q I rx ry h hs;let#[p,xs,i,z,rfl,rfl,hq,he,q]:=h;cases rx;let#[t,rfl]:=ry;let#[its,r,pl,hz]:=I.tuple hq;let#[j,h1,h2,h3,h4,h5]:=OX he;let#[w,ew,jq]:=r.get h2;let hl:=r.length;let hn:=fP;have fin:EP X pins σ Q w s:=⟨z,H,I,jq,q⟩
 exact subscriptTail_builtinR (x:=w) pl.typeIs slot_tuple_getitem.lookup
  (getItem_tuple (j:=j) (Q:=λr s'=>r=w/\EP X pins σ Q r s') pl Z1 Z1 (by rw[cX,<- hl];exact h1) ⇑ew ⟨rfl,fin⟩) hs
theorem N_:CN X Ek:=by
 intro value slice pins s σ H x y v u Q I rx ry h hs;let#[z,i,c,rfl,rfl,hz,he,q]:=h;let#[t,rfl]:=rx;let#[t',rfl]:=ry;let#[j,h1,h2,h3,h4,h5]:=OX he;have hl:z.cps.toList.length=z.length:=by simp[Str.length]
 rw[hl] at h1 h4 h5;let hn:=fP
 exact tail_any (typeIs_str s z t) slot_str_getitem.lookup (getItem_str (c:=c) (by
  have e1:decide (i < -(2 ^ 63:Int))=false:=dM Z1;have e2:decide (i ≥ 2 ^ 63)=false:=dM Z1;rw[e1,e2,Bool.or_false]) (by rw[h1];simpa using h2) ⟨.str ⟨(List.toArray [c])⟩,H,I.tok _,⟨_,rfl⟩,q⟩) hs
theorem g6_(its:aj)(n j:Nat)(u:Aa):Obj.mapSeq (·.setIfInBounds j u) { cls:=.type "list",data:=.seq its.toArray n }={ cls:=.type "list",data:=.seq (its.set j u).toArray n }:=by
 simp[Obj.mapSeq]
theorem Inv.lst{pins:List (Addr × Obj)}{σ:St}{H:Hp}{s:Ab}{p:Addr}{xs:ag}(I:Inv X pins σ H s)(h:H p\.lst xs) :
  ∃(its:aj) (n:Nat),Vals xs its/\s.heap.get? p=some { cls:=.type "list",data:=.seq its.toArray n }/\xs.length<=sizeLine:=by
 let#[z,its,n,r,e]:=I.aH p _ h;exact⟨its,n,r,e,z⟩
theorem Inv.zO{pins:List (Addr × Obj)}{σ:St}{H:Hp}{s:Ab}{p:Addr}{xs ys:ag}{its its':aj}{n n':Nat}{f:Obj->Obj}(I:Inv X pins σ H s)(h:H p\.lst xs)
  (ho:s.heap.get? p=some { cls:=.type "list",data:=.seq its.toArray n }) (hf:f { cls:=.type "list",data:=.seq its.toArray n }={ cls:=.type "list",data:=.seq its'.toArray n' }) (r:Vals ys its') (hz:ys.length<=sizeLine) (t:Nat) :
  Inv X pins σ (upd H p (.lst ys)) { s with heap:=s.heap.update p f,toks:=t }:=by
 have e:(s.heap.update p f).get? p=some { cls:=.type "list",data:=.seq its'.toArray n' }:=by
  rw[Heap.get?_update_self f ho (by rw[hf]<;>rfl),hf]
 apply I.write (x:=p) (e:=p) (by rw[h];trivial) (.inl rfl) (λb u hb q=>(l8 _ _ (Ne.symm hb)).trans q) ⟨_,e⟩ ?_;exact⟨hz,its',n',r,e⟩
inductive xH (o:V) (i:V) (v:V) (H:Hp) (Q:Hp->Prop):Prop
 |mk:∀p xs k j,o=.ref p->i=.int k->H p\.lst xs->uv xs.length k\j->Q (upd H p (.lst (xs.set j v)))->xH o i v H Q
theorem KN:Iu X xH:=by
 intro pins s σ H o i v ov iv u Q I ro ri rv h;let#[p,xs,k,j,rfl,rfl,hp,hj,q]:=h;cases ro;let#[t,rfl]:=ri;let#[its,n,r,ho,hz]:=I.lst hp;let#[h1,h2,h3,h4]:=UV hj;let hl:=r.length;let hn:=fP
 have I':Inv X pins σ (upd H p (.lst (xs.set j v))) { s with heap:=s.heap.update p (Obj.mapSeq (·.setIfInBounds j u)) }:=
  I.zO hp ho (g6_ its n j u) (r.set rv j) (by rw[List.length_set];exact hz) s.toks
 by_cases h0:0<=k
 ·have hk:k.toNat=j:=by
   rw[seqIndex_of h0 h4] at h1;exact d5 h1
  exact PySem.W.ki_setAt ho h0 Z1 (by rw[cX,<- hl];exact h4) (by rw[hk];exact⟨_,I',q⟩)
 have hk:(k+(its.toArray.size:Int)).toNat=j:=by
  rw[seqIndex_neg Z1 h3] at h1;rw[cX,<- hl];exact d5 h1
 exact PySem.W.ki_setBack ho Z1 (by rw[cX,<- hl];exact h3) Z1 (by rw[hk];exact⟨_,I',q⟩)
theorem ek_(lo hi:Option Int)(n:Nat):(sliceBounds lo hi none n).1=((HT.jn n 0 lo:Nat):Int)/\(sliceBounds lo hi none n).2.1=((HT.jn n n hi:Nat):Int)/\(sliceBounds lo hi none n).2.2=1:=by
 apply⟨?_,?_,rfl⟩
 ·cases lo with
  |none=>simp[sliceBounds,HT.jn]
  |some i=>
   simp only[sliceBounds,HT.jn,Option.getD_none,show (1:Int) > 0 by decide,if_true];by_cases h:i<0
   ·simp only[h,if_true]<;>omega
   simp only[h,if_false]<;>omega
 cases hi with
 |none=>simp[sliceBounds,HT.jn]
 |some i=>
  simp only[sliceBounds,HT.jn,Option.getD_none,show (1:Int) > 0 by decide,if_true];by_cases h:i<0
  ·simp only[h,if_true]<;>omega
  simp only[h,if_false]<;>omega
theorem dq_(its:aj)(lo hi:Option Int):slicePick its.toArray lo hi none=((its.drop (HT.jn its.length 0 lo)).take (HT.jn its.length its.length hi - HT.jn its.length 0 lo)).toArray:=by
 let#[h1,h2,h3]:=ek_ lo hi its.toArray.size;unfold slicePick;rw[h1,h2,h3];simp only[sliceRange_one,pick_run,cX]<;>rfl
inductive Eg (K:af) (x:V) (lo:Option Int) (hi:Option Int) (H:Hp) (Q:VK):Prop
 |mk:∀a xs,x=.ref a->dN K H a xs->(∀p,H p=none->Q (.ref p) (upd H p (.lst (bZ xs lo hi))))->Eg K x lo hi H Q
theorem wR:Xq X (Eg X.K):=by
 intro pins s σ H x v vl vu lo hi sl Q I rx hs pl pu h;let#[a,xs,rfl,hx,q]:=h;cases rx;let#[its,r,ht,hz]:=I.list hx;let hlen:=r.length;apply⟨"list",_,slot_list_getitem.lookup,ht.isList.typeIs,?_⟩;apply wpAny_getItem_list_slice ht.isList hs pl pu .none Z2 ?_ (by rw[cX]<;>omega)
 rw[dq_,<- hlen];apply⟨.ref s.heap.objs.size,_,I.laid (t':=s.toks) (o:=.lst (bZ xs lo hi)) (λb ob q=>cc _ q) (br _) ?_,rfl,q _ (I.aH.fresh (br _))⟩;exact⟨ph (WQ xs lo hi) hz,_,0,(r.drop (HT.jn xs.length 0 lo)).take (HT.jn xs.length xs.length hi - HT.jn xs.length 0 lo),eJ _ rfl⟩
def tO:V->Bool
 |.non=>true
 |.bl _=>true
 |.int _=>true
 |.str _=>true
 |_=>false
def nU:V->V->Bool
 |.non,.non=>true
 |.bl a,.bl b=>a == b
 |.bl a,.int b=>(if a then 1 else 0) == b
 |.int a,.bl b=>a == (if b then 1 else 0)
 |.int a,.int b=>a == b
 |.str a,.str b=>a == b
 |_,_=>false
theorem JL{A:Ag}{s:Ab}{y x:V}{u v:Aa}(ry:RelV y u)(rx:RelV x v)(fy:tO y=true)(fx:tO x=true):SeqAt.EqAt A s u v (nU y x):=by
 cases y with
 |non=>
  cases ry;cases x with
  |non=>cases rx;exact SeqAt.EqAt.same _
  |bl b=>cases rx;exact SeqAt.EqAt.none_bool b
  |int b=>let#[t,rfl]:=rx;exact SeqAt.EqAt.none_int b t
  |str b=>let#[t,rfl]:=rx;exact SeqAt.EqAt.none_str b t
  |_=>exact absurd (show false=true from fx) f_
 |bl a=>
  cases ry;cases x with
  |non=>cases rx;exact SeqAt.EqAt.bool_none a
  |bl b=>cases rx;exact SeqAt.EqAt.bool_bool a b
  |int b=>let#[t,rfl]:=rx;exact SeqAt.EqAt.bool_int a b t
  |str b=>let#[t,rfl]:=rx;exact SeqAt.EqAt.bool_str a b t
  |_=>exact absurd (show false=true from fx) f_
 |int a=>
  let#[t',rfl]:=ry;cases x with
  |non=>cases rx;exact SeqAt.EqAt.int_none a t'
  |bl b=>cases rx;exact SeqAt.EqAt.int_bool a t' b
  |int b=>let#[t,rfl]:=rx;exact SeqAt.EqAt.int_int a t' b t
  |str b=>let#[t,rfl]:=rx;exact SeqAt.EqAt.int_str a t' b t
  |_=>exact absurd (show false=true from fx) f_
 |str a=>
  let#[t',rfl]:=ry;cases x with
  |non=>cases rx;exact SeqAt.EqAt.str_none a t'
  |bl b=>cases rx;exact SeqAt.EqAt.str_bool a t' b
  |int b=>let#[t,rfl]:=rx;exact SeqAt.EqAt.str_int a t' b t
  |str b=>let#[t,rfl]:=rx;exact SeqAt.EqAt.str_str a t' b t
  |_=>exact absurd (show false=true from fx) f_
 |_=>exact absurd (show false=true from fy) f_
def wg(x:V)(u:Aa):Bool:=match u with
 |.none=>nU .non x
 |.bool b=>nU (.bl b) x
 |.int i _=>nU (.int i) x
 |.str z _=>nU (.str z) x
 |_=>false
theorem To{x y:V}{u:Aa}(r:RelV y u)(f:tO y=true):wg x u=nU y x:=by
 cases y with
 |non=>cases r;rfl
 |bl b=>cases r;rfl
 |int i=>let#[t,rfl]:=r;rfl
 |str z=>let#[t,rfl]:=r;rfl
 |_=>exact absurd (show false=true from f) f_
theorem O8{x:V}:∀{xs:ag} {us:aj},Vals xs us->xs.all tO=true->us.any (wg x)=xs.any λy=>nU y x
 |_,_,.nil,_=>rfl
 |y::xs,u::us,.cons r t,f=>by
  rw[List.all_cons,Bool.and_eq_true] at f;rw[List.any_cons,List.any_cons,To r f.1,O8 t f.2]
theorem Pp{A:Ag}{s:Ab}{x:V}{v:Aa}(rx:RelV x v)(fx:tO x=true):∀{xs:ag} {us:aj},Vals xs us->xs.all tO=true->∀u∈us,SeqAt.EqAt A s u v (wg x u)
 |_,_,.nil,_=>λu hu=>by cases hu
 |y::xs,u::us,.cons r t,f=>λu' hu=>by
  rw[List.all_cons,Bool.and_eq_true] at f;rcases cq.mp hu with rfl|hu
  ·rw[To r f.1];exact JL r rx f.1 fx
  exact Pp rx fx t f.2 u' hu
def EX(x:V)(xs:ag):Bool:=xs.any λy=>nU y x
inductive Ja (K:af) (neg:Bool) (x:V) (y:V) (H:Hp) (Q:VK):Prop
 |mk:∀p xs,y=.ref p->(dN K H p xs∨gB K H p xs)->tO x=true->xs.all tO=true->Q (.bl (if neg then !EX x xs else EX x xs)) H->Ja K neg x y H Q
theorem Vz:dS X (compareOp .In) (Ja X.K false):=by
 intro pins s σ H x y v u Q I rx ry h;let#[p,xs,rfl,hq,fx,fs,q]:=h;cases ry;rcases hq with hq|hq
 ·let#[its,r,pl,hz]:=I.list hq;apply SeqAt.in_listAt (wg x) pl.isList (λw hw=>Pp rx fx r fs w ⇑hw) ⟨.bl _,H,I,rfl,?_⟩;rw[show its.toArray.any (wg x)=its.any (wg x) by simp,O8 r fs];exact q
 let#[its,r,pl,hz]:=I.tuple hq;apply SeqAt.in_tupleAt (wg x) pl (λw hw=>Pp rx fx r fs w ⇑hw) ⟨.bl _,H,I,rfl,?_⟩;rw[show its.toArray.any (wg x)=its.any (wg x) by simp,O8 r fs];exact q
inductive Rh (K:af) (xs:ag) (H:Hp) (Q:VK):Prop
 |mk:∀p ys,xs=[.ref p]->(dN K H p ys∨gB K H p ys)->Q (.int ys.length) H->Rh K xs H Q
theorem gZ:gq X (.builtin "len") (Rh X.K):=by
 intro pins s σ H xs us Q I r h;let#[p,ys,rfl,hq,q]:=h;let#[u,rfl,rx]:=vals1 r;cases rx;let hn:=fP;rcases hq with hq|hq
 ·let#[its,r',pl,hz]:=I.list hq;let hlen:=r'.length;exact Calls.call_len_list pl.isList (by simp only[cX]<;>omega) ⟨.int ys.length,H,I.tok _,⟨s.toks+1,by rw[cX,hlen]⟩,q⟩
 let#[its,r',pl,hz]:=I.tuple hq;let hlen:=r'.length;exact len_tuple pl (by simp only[cX]<;>omega) ⟨.int ys.length,H,I.tok _,⟨s.toks+1,by rw[cX,hlen]⟩,q⟩
inductive Xi (xs:ag) (H:Hp) (Q:VK):Prop
 |mk:∀z,xs=[.str z]->z.length<=sizeLine->Q (.int z.length) H->Xi xs H Q
theorem e5_:gq X (.builtin "len") Xi:=by
 intro pins s σ H xs us Q I r h;let#[z,rfl,hz,q]:=h;let#[u,rfl,t,rfl]:=vals1 r;let hn:=fP;exact len_str Z1 ⟨.int z.length,H,I.tok _,⟨_,rfl⟩,q⟩
inductive WX (K:af) (xs:ag) (H:Hp) (Q:VK):Prop
 |mk:∀p ys,xs=[.ref p]->(dN K H p ys∨gB K H p ys)->(∀l,H l=none->Q (.ref l) (upd H l (.lst ys)))->WX K xs H Q
theorem Rf:gq X (.type "list") (WX X.K):=by
 intro pins s σ H xs us Q I r h;let#[p,ys,rfl,hq,q]:=h;let#[u,rfl,rx]:=vals1 r;cases rx
 have fin:∀(its:aj),Vals ys its->ys.length<=sizeLine->∀(h':Heap) (c':Nat),(∀b o',s.heap.get? b\o'->h'.get? b\o')->
   h'.get? s.heap.objs.size=some { cls:=.type "list",dict:=none,data:=.seq its.toArray c',slots:=#[] }->EP X pins σ Q (.ref s.heap.objs.size) { s with heap:=h' }:=λits r' hz h' c' kp e=>
  #[.ref s.heap.objs.size,_,I.laid (t':=s.toks) kp (br _) (show eM X.prog X.w _ h' _ (.lst ys) from #[hz,its,c',r',e]),Z,q _ (I.aH.fresh (br _))]
 rcases hq with hq|hq
 ·let#[its,r',pl,hz]:=I.list hq;let hlen:=r'.length;let#[o,ho,hc,n,hd]:=pl.isList;exact call_list_seq p (.inl Z) ho hc hd (λh' c' kp e=>fin its r' hz h' c' kp e) (by simp only[cX]<;>omega)
 let#[its,r',pl,hz]:=I.tuple hq;let hlen:=r'.length;let#[o,ho,hc,n,hd]:=pl;exact call_list_seq p (.inr Z) ho hc hd (λh' c' kp e=>fin its r' hz h' c' kp e) (by simp only[cX]<;>omega)
inductive Ri (K:af) (xs:ag) (H:Hp) (Q:VK):Prop
 |mk:∀p ys,xs=[.ref p]->((dN K H p ys/\∀l,H l=none->Q (.ref l) (upd H l (.tup ys)))∨(gB K H p ys/\Q (.ref p) H))->Ri K xs H Q
theorem dt_:gq X (.type "tuple") (Ri X.K):=by
 intro pins s σ H xs us Q I r h;let#[p,ys,rfl,h]:=h;let#[u,rfl,rx]:=vals1 r;cases rx;rcases h with⟨hq,q⟩|⟨hq,q⟩
 ·let#[its,r',pl,hz]:=I.list hq;let hlen:=r'.length;apply call_tuple_list pl.isList (λh' kp=>?_) (by simp only[cX]<;>omega)
  have I1:Inv X pins σ H { s with heap:=h' }:=I.kept (t':=s.toks) kp
  have I2:Inv X pins σ (upd H h'.objs.size (.tup ys)) { s with heap:=h'.push { cls:=.type "tuple",data:=.seq its.toArray } }:=
   I1.laid (t':=s.toks) (λb o e=>cc _ e) (br _) (show eM X.prog X.w _ _ _ (.tup ys) from ⟨hz,its,r',IsTup.new _ _,_,eJ _ rfl,rfl⟩)
  exact⟨.ref h'.objs.size,_,I2,rfl,q _ (I1.aH.fresh (br _))⟩
 let#[its,r',pl,hz]:=I.tuple hq;exact call_tuple_same pl ⟨.ref p,H,I,rfl,q⟩
def R0(K:af)(T:String)(x:V)(H:Hp):Prop:=match x with
 |.str _=>T="str"
 |.int _=>T="int"
 |.ref p=>(T="list"/\∃xs,dN K H p xs)∨(T="tuple"/\∃o,K.lookup p\o/\o.cls=.type "tuple"/\o.dict=none) ∨
   (T="dict"/\((∃kvs,H p\.dK kvs)∨∃kvs,H p\.dT kvs))∨(T="set"/\∃S n,H p\.set S n)
 |_=>False
theorem kv_{pins:List (Addr × Obj)}{σ:St}{H:Hp}{s:Ab}{T:String}{x:V}{v:Aa}(I:Inv X pins σ H s)(r:RelV x v)(ty:R0 X.K T x H) :
  s.TypeIs v T/\∀a,v=.ref a->∃ob,s.heap.get? a\ob/\ob.dict=none:=by
 cases x with
 |str z=>
  let#[t,rfl]:=r;cases (show T="str" from ty);exact#[typeIs_str s z t,λ_ e=>nomatch e]
 |int i=>
  let#[t,rfl]:=r;cases (show T="int" from ty);exact#[typeIs_int s i t,λ_ e=>nomatch e]
 |ref p=>
  cases r;rcases ty with⟨rfl,xs,hq⟩|⟨rfl,o,hk,hc,hd⟩|⟨rfl,hk⟩|⟨rfl,S,n,hk⟩
  ·let#[its,_,pl,_]:=I.list hq;apply#[pl.isList.typeIs,λa e=>?_];cases e;let#[o,n,e,c,hd,_]:=pl;exact#[o,e,hd]
  ·apply#[#[o,I.fR p o hk,hc],λa e=>?_];cases e;exact#[o,I.fR _ o hk,hd]
  ·have z:∃o,s.heap.get? p\o/\o.ExactDict:=by
    rcases hk with⟨kvs,hk⟩|⟨kvs,hk⟩
    ·let#[_,_,_,_,o,_,_,e,ex,_]:=I.aH p _ hk;exact#[o,e,ex]
    let#[_,_,_,_,o,_,_,e,ex,_]:=I.aH p _ hk;exact#[o,e,ex]
   let#[o,e,ex]:=z;apply#[#[o,e,ex.1],λa e2=>?_];cases e2;exact#[o,e,ex.2.1]
  ·let#[o,_,_,_,e,ex,_]:=I.aH p _ hk;apply#[#[o,e,ex.1],λa e2=>?_];cases e2;exact#[o,e,ex.2.1]
 |_=>exact False.elim ty
def Sb(K:af)(T:String)(r:V->ag->Hp->VK->Prop)(to:TE)(t:TA):TE:=λσ H Q=>to σ H λx H1=>R0 K T x H1/\t σ H1 λxs H2=>r x xs H2 Q
variable{o e:Expr}{es:List Expr}{to:TE}{t:TA}{name:Str}{apos cn:Pos}{T id:String}{r:V->ag->Hp->VK->Prop}
theorem iJ(pa:PlainAttrs T)(slot:Slot T name id)(hty:typeOf (.builtin id)=pure (.type "method_descriptor"))(hm:MtR X id r)(ho:PE X o to)(ha:PA X (e::es) t)
  (gL:attributeBase o name X.env (eval o X.env)=eval o X.env:=by rfl)
  (ND:((backTo cn (starEach (e::es) X.env)).all (λx=>!x.1)&&(backToKw cn (keywordEach [] X.env)).all (λx=>x.1.isSome)
   && decide ((e::es).length+([]:List Keyword).length+(if ([]:List Keyword).isEmpty then 0 else 1)<30))=true:=by rfl)
  (jC:(apos.endLine == cn.line)=true:=by rfl) (hs:starEach (e::es) X.env=(false,eval e X.env)::starEach es X.env:=by rfl) (z_:(backTo cn (starEach es X.env)).any (·.1)=false:=by rfl) :
  PE X (.Call (.Attribute o name apos) (e::es) [] cn) (Sb X.K T r to t):=by
 intro pins s σ H Q I h;apply wpAny_Call_method_late gL ND jC Z (aV (ho pins s σ H _ I h) λv s1 ⟨x,H1,I1,r1,ty,q1⟩=>?_);let#[h1,h2]:=kv_ I1 r1 ty;apply#[T,id,pa,slot,hty,h1,h2,?_];let hA:=ha cn pins s1 σ H1 _ I1 q1;rw[hs] at hA ⊢;apply Calls.callWith_builtin (by show (false || (backTo cn (starEach es X.env)).any (·.1))=false;rw[z_]<;>rfl) (Calls.evalArgs_plain ?_)
 exact aV hA λus s2 ⟨vs,H2,I2,r2,q2⟩=>hm pins s2 σ H2 x vs v us Q I2 r1 r2 q2
end
end L2
namespace L2
open PySem PySem.Spec PyProof.Rows
def Rw(X:Cx)(id:String)(r:V->ag->Hp->VK->Prop):Prop:=
 ∀(pins:List (Addr × Obj)) (s:Ab) (σ:St) (H:Hp) (x:V) (xs:ag) (v:Aa) (us:aj) (Q:VK),Inv X pins σ H s->RelV x v->Vals xs us->r x xs H Q->
  wpAny (model X.prog X.w) X.A (call (.builtin id) (v::us)) (EP X pins σ Q) X.xe s
theorem Vals.one:∀{x:V} {us:aj},Vals [x] us->∃u,us=[u]/\RelV x u
 |_,_,.cons r .nil=>#[_,Z,r]
theorem Vals.two:∀{x y:V} {us:aj},Vals [x,y] us->∃u v,us=[u,v]/\RelV x u/\RelV y v
 |_,_,_,.cons r (.cons q .nil)=>#[_,_,Z,r,q]
theorem Vals.rep{xs:ag}{us:aj}(h:Vals xs us):∀k:Nat,Vals (List.replicate k xs).flatten (List.replicate k us).flatten
 |0=>.nil
 |k+1=>by
  rw[List.replicate_succ,List.replicate_succ,List.flatten_cons,List.flatten_cons];exact Vals.append h (Vals.rep h k)
theorem Wz(its:aj):∀(k:Nat) (acc:aj),
  List.foldl (λx1 x2=>x1++x2) acc.toArray (List.replicate k its.toArray)=(acc++(List.replicate k its).flatten).toArray
 |0,acc=>by simp
 |k+1,acc=>by
  have e:acc.toArray++its.toArray=(acc++its).toArray:=by simp
  have e2:(acc++its)++(List.replicate k its).flatten=acc++(List.replicate (k+1) its).flatten:=by
   rw[List.replicate_succ,List.flatten_cons,List.append_assoc]
  rw[<- e2,<- Wz its k (acc++its),<- e,List.replicate_succ,List.foldl_cons]
section
variable{X:Cx}{pins:List (Addr × Obj)}{σ:St}{H:Hp}{s:Ab}{l b:Addr}{xs ys zs:ag}
theorem Inv.zP{its its':aj}{n:Nat}{f:Array Aa->Array Aa}{t':Nat}(I:Inv X pins σ H s)(hH:H l\.lst xs)
  (e:s.heap.get? l=some { cls:=.type "list",data:=.seq its.toArray n }) (hf:f its.toArray=its'.toArray) (hv:Vals ys its') (hz:ys.length<=sizeLine) :
  Inv X pins σ (upd H l (.lst ys)) { s with heap:=s.heap.update l (Obj.mapSeq f),toks:=t' }:=by
 let q:=PySem.IsL.update e f;rw[hf] at q;apply I.write (x:=l) (e:=l) (by rw[hH];exact trivial) (.inl Z) (λb' u hb hu=>(l8 s.heap (Obj.mapSeq f) (Ne.symm hb)).trans hu) #[_,q] ?_;exact#[hz,its',_,hv,q]
theorem Inv.vL{its:aj}{t':Nat}(I:Inv X pins σ H s)(hv:Vals ys its)(hz:ys.length<=sizeLine) :
  Inv X pins σ (upd H s.heap.objs.size (.lst ys)) { s with heap:=s.heap.push { cls:=.type "list",data:=.seq its.toArray },toks:=t' }:=
 I.laid (λ_ _ q=>cc _ q) (br _) #[hz,its,0,hv,eJ _ Z]
theorem Inv.fresh(I:Inv X pins σ H s):H s.heap.objs.size=none:=I.aH.fresh (br _)
theorem Inv.jw(I:Inv X pins σ H s)(hH:H l\.lst xs):xs.length<=sizeLine/\∃(its:aj) (n:Nat),Vals xs its/\xs.length=its.length/\s.heap.get? l=some { cls:=.type "list",data:=.seq its.toArray n }:=by
 let#[z,its,n,r,e]:=I.aH l _ hH;exact#[z,its,n,r,r.length,e]
theorem V1{n:Nat}(h:n<=sizeLine):Builtin.List.listTooLong n=false:=by
 unfold Builtin.List.listTooLong;exact dM Z1
end
section
variable{X:Cx}
inductive OC (x:V) (vs:ag) (H:Hp) (Q:VK):Prop
 |mk:∀l xs y,x=.ref l->vs=[y]->H l\.lst xs->xs.length<sizeLine->Q .non (upd H l (.lst (xs++[y])))->OC x vs H Q
theorem p0:Rw X "list.append" OC:=by
 intro pins s σ H x vs v us Q I rx rv h;let#[l,xs,y,rfl,rfl,hH,hz,q]:=h;cases rx;let#[u,rfl,ru]:=rv.one;let#[z,its,n,r,hl,e]:=I.jw hH;apply call_meets F.slot_list_append ⟨_,e,rfl⟩ F.entry_list_append (F.args_list_append_2 _ _) (PySem.list_append l its.toArray n u (by rw[cX];omega)) ⟨e,?_⟩;apply⟨.non,_,I.zP (its':=its++[u]) hH e Z2 (r.append (.cons ru .nil)) ?_,rfl,q⟩;rw[dW,yS];omega
inductive m_ (x:V) (vs:ag) (H:Hp) (Q:VK):Prop
 |mk:∀l b xs zs,x=.ref l->vs=[.ref b]->H l\.lst xs->H b\.lst zs->xs.length+zs.length<=sizeLine->Q .non (upd H l (.lst (xs++zs)))->m_ x vs H Q
theorem CC:Rw X "list.extend" m_:=by
 intro pins s σ H x vs v us Q I rx rv h;let#[l,b,xs,zs,rfl,rfl,hH,hB,hz,q]:=h;cases rx;let#[u,rfl,ru]:=rv.one;cases ru;let#[z,its,n,r,hl,e]:=I.jw hH;let#[z2,iF,n2,r2,j5,e2]:=I.jw hB;have hsz:its.toArray.size+iF.toArray.size<=sizeLine:=by rw[cX,cX];omega
 have sR:¬(!its.toArray.isEmpty&&Builtin.List.listTooLong (its.toArray.size+iF.toArray.size))=true:=by
  rw[V1 hsz,tV];exact f_
 apply call_meets F.slot_list_extend ⟨_,e,rfl⟩ F.entry_list_extend (F.args_list_extend_2 _ _)
  (AutoSeq1.list_extend_list_list_0 l its.toArray n b iF.toArray n2 sR (by rw[cX];omega) Z1) ⟨e,e2,?_⟩
 apply⟨.non,_,I.zP (its':=its++iF) hH e Z2 (r.append r2) ?_,rfl,q⟩;rw[dW];omega
inductive oQ (x:V) (y:V) (H:Hp) (Q:VK):Prop
 |mk:∀l b xs zs,x=.ref l->y=.ref b->H l\.lst xs->H b\.lst zs->xs.length+zs.length<=sizeLine->(∀p,H p=none->Q (.ref p) (upd H p (.lst (xs++zs))))->oQ x y H Q
theorem pV:dS X (binaryOp .Add) oQ:=by
 intro pins s σ H x y v u Q I rx ry h;let#[l,b,xs,zs,rfl,rfl,hH,hB,hz,q]:=h;cases rx;cases ry;let#[z,its,n,r,hl,e]:=I.jw hH;let#[z2,iF,n2,r2,j5,e2]:=I.jw hB;apply PySem.P.add_list e e2 ?_ (by rw[cX,cX];omega);have ea:its.toArray++iF.toArray=(its++iF).toArray:=by simp
 rw[ea];exact⟨.ref _,_,I.vL (t':=s.toks) (r.append r2) (by rw[dW];omega),rfl,q _ I.fresh⟩
inductive Eh (x:V) (y:V) (H:Hp) (Q:VK):Prop
 |mk:∀l k xs,x=.ref l->y=.int k->H l\.lst xs->-(2 ^ 63)<=k->k<2 ^ 63->xs.length * k.toNat<=sizeLine->(∀p,H p=none->Q (.ref p) (upd H p (.lst (List.replicate k.toNat xs).flatten)))->Eh x y H Q
theorem len_rep{α:Type}(xs:List α)(k:Nat):(List.replicate k xs).flatten.length=k * xs.length:=by
 induction k with
 |zero=>simp
 |succ k ih=>rw[List.replicate_succ,List.flatten_cons,dW,ih,Nat.succ_mul,Nat.add_comm]
theorem NY:dS X (binaryOp .Mult) Eh:=by
 intro pins s σ H x y v u Q I rx ry h;let#[l,k,xs,rfl,rfl,hH,h1,h2,hz,q]:=h;cases rx;let#[t,rfl]:=ry;let#[z,its,n,r,hl,e]:=I.jw hH;have hlen:its.toArray.size * k.toNat<=sizeLine:=by rw[cX,<- hl];exact hz
 have NR:¬its.toArray.size * k.toNat > (2 ^ 63 - 1) / 8:=by
  have:(sizeLine:Nat)<=(2 ^ 63 - 1) / 8:=by decide
  omega
 have NC:¬(!Builtin.List.listFitsIndex k)=true:=by
  rw[fitsIndex_both h1 h2];exact f_
 have sR:¬Builtin.List.listTooLong (its.toArray.size * k.toNat)=true:=by
  rw[V1 hlen];exact f_
 have lS:List.foldl (λx1 x2=>x1++x2) #[] (List.replicate (if its.toArray.isEmpty=true then 0 else k.toNat) its.toArray)=(List.replicate k.toNat its).flatten.toArray:=by
  have f0:∀m:Nat,List.foldl (λx1 x2=>x1++x2) #[] (List.replicate m its.toArray)=(List.replicate m its).flatten.toArray:=λm=>by
   have:=Wz its m [];rw[List.nil_append] at this;exact this
  rw[f0];cases its with
  |nil=>simp
  |cons a r'=>rw[aE Z2]
 apply wpAny_binaryOp_repeat_ref (T:="list") (U:="int") (by decide) #[_,e,Z] (λs'=>typeIs_int s' k t) noFill_list_mul F.fills_int_mul F.slot_int_rmul repeat_list F.slot_int_index.lookup
  (call_meets F.slot_int_rmul (typeIs_int s k t) F.entry_int_rmul (F.args_int_rmul_2 _ _) (int___rmul___int_list k t l its.toArray n)
   #[e,Z,#[_,e,Z],call_meets F.slot_list_mul #[_,e,Z] F.entry_list_mul (F.args_list_mul_2 _ _) (AutoListH.list___mul___list_int_3 l its.toArray n k t NC NR sR) #[e,?_]])
 rw[lS];exact#[.ref _,_,I.vL (t':=s.toks) (r.rep k.toNat) (by rw[len_rep,Nat.mul_comm];exact hz),Z,q _ I.fresh]
end
section
variable{prog:Ad}{w:Af}{A:Ag}{E:Aa->Ab->Prop}{s:Ab}
end
section
variable{X:Cx}
end
end L2
namespace L2
open PySem PySem.Spec PyProof.Rows
section
variable{κ:Type}[DecidableEq κ]
def bH(kvs:List (κ × V))(k:κ):aI:=(kvs.find? λkv=>decide (kv.1=k)).map (·.2)
def putK(kvs:List (κ × V))(k:κ)(v:V):List (κ × V):=
 if (kvs.any λkv=>decide (kv.1=k))=true then kvs.map (λkv=>if kv.1=k then (kv.1,v) else kv) else kvs++[(k,v)]
theorem Be{p:κ × V}{r:List (κ × V)}{k:κ}(e:p.1=k):bH (p::r) k\p.2:=by simp[bH,List.find?_cons,e]
theorem Bg{p:κ × V}{r:List (κ × V)}{k:κ}(e:¬p.1=k):bH (p::r) k=bH r k:=by simp[bH,List.find?_cons,e]
theorem HY(k:κ):∀kvs:List (κ × V),(kvs.any λkv=>decide (kv.1=k))=(bH kvs k).isSome
 |[]=>rfl
 |p::r=>by
  rw[List.any_cons];by_cases e:p.1=k
  ·simp only[Be e,cb e,Bool.true_or,Option.isSome_some]
  rw[Bg e,dM e,Bool.false_or];exact HY k r
theorem Q8(kvs:List (κ × V))(k:κ)(v:V):(putK kvs k v).length<=kvs.length+1:=by
 unfold putK;split
 ·rw[ay];omega
 rw[dW,iO,p6];omega
theorem CJ{kvs:List (κ × V)}{k:κ}(v:V)(h:bH kvs k=none):putK kvs k v=kvs++[(k,v)]:=by
 unfold putK;rw[HY,h];exact aE (by decide)
theorem eC.dJ{o:aI}{u:Option Aa}(r:eC o u):o.isSome=u.isSome:=by
 cases o with
 |none=>cases u with
  |none=>rfl
  |some _=>exact (show False from r).elim
 |some _=>cases u with
  |none=>exact (show False from r).elim
  |some _=>rfl
theorem KV.val{kvs:List (κ × V)}{vs:List (κ × Aa)}(r:KV kvs vs)(k:κ):eC (bH kvs k) (valueAt vs k):=by
 unfold KV at r
 induction r with
 |nil=>exact True.intro
 |@cons p q ps qs h t ih=>
  let#[h1,h2]:=h;by_cases e:p.1=k
  ·have e':q.1=k:=h1.symm.trans e;have b:valueAt (q::qs) k\q.2:=by simp[valueAt,List.find?_cons,e']
   rw[Be e,b];exact h2
  have e':¬q.1=k:=λz=>e (h1.trans z);have b:valueAt (q::qs) k=valueAt qs k:=by simp[valueAt,List.find?_cons,e']
  rw[Bg e,b];exact ih
theorem KV.any{kvs:List (κ × V)}{vs:List (κ × Aa)}(r:KV kvs vs)(k:κ):(kvs.any λkv=>decide (kv.1=k))=vs.any λkv=>decide (kv.1=k):=by
 unfold KV at r
 induction r with
 |nil=>rfl
 |cons h t ih=>rw[List.any_cons,List.any_cons,ih,h.1]
theorem KV.zE{kvs:List (κ × V)}{vs:List (κ × Aa)}(r:KV kvs vs)(k:κ){y:V}{u:Aa}(ry:RelV y u) :
  KV (kvs.map λkv=>if kv.1=k then (kv.1,y) else kv) (vs.map λkv=>if kv.1=k then (kv.1,u) else kv):=by
 unfold KV at r ⊢
 induction r with
 |nil=>exact .nil
 |@cons p q ps qs h t ih=>
  rw[fi,fi];apply .cons ?_ ih;let#[h1,h2]:=h;by_cases e:p.1=k
  ·rw[aJ e,aJ (h1.symm.trans e)];exact#[h1,ry]
  rw[aE e,aE (λz=>e (h1.trans z))];exact#[h1,h2]
theorem KV.put{kvs:List (κ × V)}{vs:List (κ × Aa)}(r:KV kvs vs)(k:κ){y:V}{u:Aa}(ry:RelV y u):KV (putK kvs k y) (stored vs k u):=by
 unfold putK stored;rw[r.any k];by_cases e:(vs.any λkv=>decide (kv.1=k))=true
 ·rw[aJ e,aJ e];exact r.zE k ry
 rw[aE e,aE e];exact Paired.snoc r #[Z,ry]
theorem KV.keys{kvs:List (κ × V)}{vs:List (κ × Aa)}(r:KV kvs vs):kvs.map (·.1)=vs.map (·.1):=by
 unfold KV at r
 induction r with
 |nil=>rfl
 |cons h t ih=>rw[fi,fi,ih,h.1]
theorem KV.length{kvs:List (κ × V)}{vs:List (κ × Aa)}(r:KV kvs vs):kvs.length=vs.length:=bP r
end
theorem wo{P:Ad}{w:Af}{k:Key}{u:Aa}(r:RelV (kV k) u):(eZ P w).is k u=true:=by
 cases k with
 |inl i=>let#[t,e]:=(show ∃t,u=Value.int i t from r);subst e;exact ev_ P w i t
 |inr x=>let#[t,e]:=(show ∃t,u=Value.str x t from r);subst e;exact Rc P w x t
theorem VM{P:Ad}{w:Af}:∀{ks:aA} {us:aj},Vals (ks.map kV) us->ItemsAre (eZ P w) ks us
 |[],_,r=>by rw[List.map_nil] at r;cases r;exact .nil
 |k::ks,_,r=>by
  rw[fi] at r;cases r with
  |cons h t=>exact .cons (wo h) (VM t)
abbrev KT(H:Hp):List (aA × V)->List (aA × Addr × Aa)->Prop:=Paired λp q=>p.1=q.1/\H q.2.1\.tup (p.1.map kV)/\RelV p.2 q.2.2
theorem KT.val{H:Hp}{kvs:List (aA × V)}{xs:List (aA × Addr × Aa)}(r:KT H kvs xs)(k:aA):eC (bH kvs k) ((atKey xs k).map (·.2)):=by
 induction r with
 |nil=>exact True.intro
 |@cons p q ps qs h t ih=>
  let#[h1,_,h2]:=h;by_cases e:p.1=k
  ·have e':q.1=k:=h1.symm.trans e;have b:atKey (q::qs) k\q.2:=by simp[atKey,List.find?_cons,e']
   rw[Be e,b];exact h2
  have e':¬q.1=k:=λz=>e (h1.trans z);have b:atKey (q::qs) k=atKey qs k:=by simp[atKey,List.find?_cons,e']
  rw[Bg e,b];exact ih
theorem KT.zE{H:Hp}{kvs:List (aA × V)}{xs:List (aA × Addr × Aa)}(r:KT H kvs xs)(k:aA){y:V}{u:Aa}(ry:RelV y u) :
  KT H (kvs.map λkv=>if kv.1=k then (kv.1,y) else kv) (xs.map (putAt k u)):=by
 induction r with
 |nil=>exact .nil
 |@cons p q ps qs h t ih=>
  rw[fi,fi];apply .cons ?_ ih;let#[h1,h2,h3]:=h;unfold putAt;by_cases e:p.1=k
  ·rw[aJ e,aJ (h1.symm.trans e)];exact#[h1,h2,ry]
  rw[aE e,aE (λz=>e (h1.trans z))];exact#[h1,h2,h3]
theorem KT.put{H:Hp}{kvs:List (aA × V)}{xs:List (aA × Addr × Aa)}(r:KT H kvs xs)(k:aA){b:Addr}{y:V}{u:Aa}(hb:H b\.tup (k.map kV))(ry:RelV y u) :
  KT H (putK kvs k y) (storedH xs k b u):=by
 have e:(kvs.any λkv=>decide (kv.1=k))=(atKey xs k).isSome:=by
  rw[HY,(r.val k).dJ,Option.isSome_map]
 unfold putK storedH;rw[e];by_cases q:(atKey xs k).isSome=true
 ·rw[aJ q,aJ q];exact r.zE k ry
 rw[aE q,aE q];exact Paired.snoc r #[Z,hb,ry]
theorem KT.keeps{H H':Hp}{kvs:List (aA × V)}{xs:List (aA × Addr × Aa)}(r:KT H kvs xs)(ht:∀b ys,H b\.tup ys->H' b\.tup ys):KT H' kvs xs:=
 Paired.bQ r λ_ _ z=>#[z.1,ht _ _ z.2.1,z.2.2]
section
variable{P:Ad}{w:Af}{H:Hp}{h:Heap}{a:Addr}
theorem SX{u:HO}(ok:eD P w H h)(e:Rd H a u):eM P w H h a u:=e.ok ok
theorem oa{kvs:List (Key × V)}(ok:eD P w H h)(e:Rd H a (.dK kvs)):kvs.length<=sizeLine/\(a == sysModules)=false/\∃vs,KV kvs vs/\h.DictOf (eZ P w) a vs:=
 show eM P w H h a (.dK kvs) from SX ok e
theorem AM{kvs:List (Key × V)}(ok:eD P w H h)(e:H a\.dK kvs):kvs.length<=sizeLine/\(a == sysModules)=false/\∃vs,KV kvs vs/\h.DictOf (eZ P w) a vs:=oa ok (.inl e)
theorem GY{ks:aA}(ok:eD P w H h)(e:H a\.tup (ks.map kV)):(tupleKind (eZ P w)).is h ks a:=by
 let#[_,its,r,#[o,h1,h2,n,h3],_]:=(show eM P w H h a (.tup (ks.map kV)) from ok a _ e);exact#[o,its.toArray,n,h1,h2,h3,by simpa using VM r]
theorem Cd{kvs:List (aA × V)}(ok:eD P w H h)(e:Rd H a (.dT kvs)):kvs.length<=sizeLine/\(a == sysModules)=false /\
  ∃xs,KT H kvs xs/\h.DictOfH (tupleKind (eZ P w)) a xs:=by
 let#[z,y,xs,r,o,es,ep,h1,h2,h3,h4,h5]:=(show eM P w H h a (.dT kvs) from SX ok e);apply#[z,y,xs,r,o,es,ep,h1,h2,h3,h4,λx hx=>?_,h5]
 have all:∀{l:List (aA × V)} {m:List (aA × Addr × Aa)},KT H l m->∀x∈m,(tupleKind (eZ P w)).is h x.1 x.2.1:=by
  intro l m q
  induction q with
  |nil=>intro x hx;exact nomatch hx
  |@cons p q ps qs hq t ih=>
   intro x hx;rcases cq.mp hx with e|hx
   ·subst e;exact GY ok (by rw[<- hq.1];exact hq.2.1)
   exact ih x hx
 exact all r x hx
theorem lb_{kvs:List (aA × V)}(ok:eD P w H h)(e:H a\.dT kvs):kvs.length<=sizeLine/\(a == sysModules)=false /\
  ∃xs,KT H kvs xs/\h.DictOfH (tupleKind (eZ P w)) a xs:=Cd ok (.inl e)
end
def fV(H:Hp)(a:Addr)(y:V)(r:aI):Prop:=
 (∃kvs k,Rd H a (.dK kvs)/\y=kV k/\r=bH kvs k)∨∃kvs k b,Rd H a (.dT kvs)/\y=.ref b/\H b\.tup (k.map kV)/\r=bH kvs k
def pB(H:Hp)(a:Addr)(y v:V)(H':Hp):Prop:=
 (∃kvs k,H a\.dK kvs/\y=kV k/\kvs.length<sizeLine/\H'=upd H a (.dK (putK kvs k v))) ∨
 ∃kvs k b,H a\.dT kvs/\y=.ref b/\H b\.tup (k.map kV)/\kvs.length<sizeLine/\H'=upd H a (.dT (putK kvs k v))
theorem fV.k{H:Hp}{a:Addr}{kvs:List (Key × V)}{k:Key}(e:H a\.dK kvs):fV H a (kV k) (bH kvs k):=.inl #[kvs,k,.inl e,Z,Z]
theorem fV.t{H:Hp}{a b:Addr}{kvs:List (aA × V)}{k:aA}(e:H a\.dT kvs)(eb:H b\.tup (k.map kV)):fV H a (.ref b) (bH kvs k):=.inr #[kvs,k,b,.inl e,Z,eb,Z]
theorem pB.k{H:Hp}{a:Addr}{kvs:List (Key × V)}{k:Key}{v:V}(e:H a\.dK kvs)(hl:kvs.length<sizeLine):pB H a (kV k) v (upd H a (.dK (putK kvs k v))):=.inl #[kvs,k,e,Z,hl,Z]
theorem pB.t{H:Hp}{a b:Addr}{kvs:List (aA × V)}{k:aA}{v:V}(e:H a\.dT kvs)(eb:H b\.tup (k.map kV))(hl:kvs.length<sizeLine) :
  pB H a (.ref b) v (upd H a (.dT (putK kvs k v))):=.inr #[kvs,k,b,e,Z,eb,hl,Z]
section
variable{X:Cx}{pins:List (Addr × Obj)}{σ:St}{H:Hp}{s:Ab}{a:Addr}{y v:V}{u r:Aa}{o:aI}{A:Ag}{E:Aa->Ab->Prop}
theorem Inv.big(I:Inv X pins σ H s):sysModules<s.heap.objs.size:=by
 have h:mainGlobals<s.heap.objs.size:=(I.mod.glob.keeps I.bk).lt;exact Nat.lt_trans (by decide) h
theorem gl_{Q:Aa->Ab->Prop}(hu:A.units+1<cLine)(I:Inv X pins σ H s)(g:fV H a y (some v))(ry:RelV y u)(h:∀w' s',Inv X pins σ H s'->RelV v w'->Q w' s') :
  wpAny (model X.prog X.w) A (getItem (.ref a) u) Q E s:=by
 rcases g with⟨kvs,k,e,ey,l⟩|⟨kvs,k,b,e,ey,eb,l⟩
 ·subst ey;let#[z,hd,vs,rel,dd]:=oa I.aH e;let#[w',hw,jq]:=eC.some_of (v:=v) (o:=valueAt vs k) (by rw[l];exact rel.val k);exact wpAny_getItem_of (wo ry) dd.mapOf hw (h w' _ (I.tok _) jq)
 subst ey;cases (show u=Value.ref b from ry);let#[z,hd,xs,rel,dd]:=Cd I.aH e;let#[w',hw,jq]:=eC.some_of (v:=v) (o:=(atKey xs k).map (·.2)) (by rw[l];exact rel.val k);let#[p,hp,iZ]:=Option.map_eq_some_iff.mp hw;apply wpAny_getItem_heap (tupleKind_room_in1 hu) (GY I.aH eb) dd hp ?_;rw[iZ];exact h w' _ (I.tok _) jq
theorem PL{Q:Aa->Ab->Prop}(hu:A.units+1<cLine)(I:Inv X pins σ H s)(g:fV H a y o)(ry:RelV y u)(h:∀s',Inv X pins σ H s'->Q (.bool o.isSome) s') :
  wpAny (model X.prog X.w) A (compareOp .In u (.ref a)) Q E s:=by
 rcases g with⟨kvs,k,e,ey,l⟩|⟨kvs,k,b,e,ey,eb,l⟩
 ·subst ey;let#[z,hd,vs,rel,dd]:=oa I.aH e;apply wpAny_in_of (wo ry) hd dd.mapOf ?_;rw[<- (rel.val k).dJ,<- l];exact h _ (I.tok _)
 subst ey;cases (show u=Value.ref b from ry);let#[z,hd,xs,rel,dd]:=Cd I.aH e;apply wpAny_in_heap (tupleKind_room_in1 hu) (GY I.aH eb) hd dd ?_;let q:=(rel.val k).dJ;rw[Option.isSome_map] at q;rw[<- q,<- l];exact h _ (I.tok _)
theorem jO_{Q:Aa->Ab->Prop}(hu:A.units+1<cLine)(I:Inv X pins σ H s)(g:fV H a y o)(ry:RelV y u)(h:∀s',Inv X pins σ H s'->Q (.bool (!o.isSome)) s') :
  wpAny (model X.prog X.w) A (compareOp .NotIn u (.ref a)) Q E s:=by
 rcases g with⟨kvs,k,e,ey,l⟩|⟨kvs,k,b,e,ey,eb,l⟩
 ·subst ey;let#[z,hd,vs,rel,dd]:=oa I.aH e;apply wpAny_notIn_of (wo ry) hd dd.mapOf ?_;rw[<- (rel.val k).dJ,<- l];exact h _ (I.tok _)
 subst ey;cases (show u=Value.ref b from ry);let#[z,hd,xs,rel,dd]:=Cd I.aH e;apply wpAny_notIn_heap (tupleKind_room_in1 hu) (GY I.aH eb) hd dd ?_;let q:=(rel.val k).dJ;rw[Option.isSome_map] at q;rw[<- q,<- l];exact h _ (I.tok _)
theorem OY{h':Heap}{t':Nat}{ob:HO}(I:Inv X pins σ H s)(mu:Iy (H a))(hs:Heap.SameBut a s.heap h')(he:∃q,h'.get? a\q)(new:eM X.prog X.w (upd H a ob) h' a ob) :
  Inv X pins σ (upd H a ob) { s with heap:=h',toks:=t' }:=
 I.write (x:=a) (e:=a) mu (.inl Z) (λb q hb z=>(hs.2 b hb).trans z) he new
theorem JK{P:Ad}{w:Af}{H':Hp}{h':Heap}{kvs:List (Key × V)}{vs:List (Key × Aa)}(z:kvs.length<=sizeLine)(hd:(a == sysModules)=false)(rel:KV kvs vs)(dd:h'.DictOf (eZ P w) a vs) :
  eM P w H' h' a (.dK kvs):=#[z,hd,vs,rel,dd]
theorem ge_{H':Hp}{Q:Unit->Ab->Prop}(hu:A.units+1<cLine)(I:Inv X pins σ H s)(g:pB H a y v H')(ry:RelV y u)(rv:RelV v r)(h:∀s',Inv X pins σ H' s'->Q () s') :
  wpAny (model X.prog X.w) A (setItem (.ref a) u r) Q E s:=by
 rcases g with⟨kvs,k,e,ey,l,eH⟩|⟨kvs,k,b,e,ey,eb,l,eH⟩
 ·subst ey eH;let#[z,hd,vs,rel,dd]:=AM I.aH e;have hz:vs.length<=sizeLine:=by rw[<- rel.length];exact z
  have hl:(putK kvs k v).length<=sizeLine:=by have:=Q8 kvs k v;omega
  apply wpAny_setItem_pairs (hsz:=hz) (wo ry) dd λh' wx hs=>h _ ?_;have he:∃q,h'.get? a\q:=let #[q,_,_,hq,_]:=wx;#[q,hq];exact OY I (by rw[e];exact True.intro) hs he (JK hl hd (rel.put k rv) wx)
 subst ey eH;cases (show u=Value.ref b from ry);let#[z,hd,xs,rel,dd]:=lb_ I.aH e;have hz:xs.length<=sizeLine:=by rw[<- bP rel];exact z
 have hl:(putK kvs k v).length<=sizeLine:=by have:=Q8 kvs k v;omega
 apply wpAny_setItem_heap (hsz:=hz) (tupleKind_room_in1 hu) (GY I.aH eb) dd λh' wx hs=>h _ ?_;let#[q,es,ep,hq,h2,h3,h4,_,h5]:=wx;apply OY I (by rw[e];exact True.intro) hs #[q,hq] #[hl,hd,_,(rel.put k eb rv).keeps λc ys ec=>?_,q,es,ep,hq,h2,h3,h4,h5];rw[az (cy ec e nofun)];exact ec
end
section
variable{X:Cx}{pins:List (Addr × Obj)}{σ:St}{H:Hp}{s:Ab}{a:Addr}{kvs:List (Key × V)}{k:Key}{u:Aa}{A:Ag}{E:Aa->Ab->Prop}
theorem la_{Q:Aa->Ab->Prop}(I:Inv X pins σ H s)(e:Rd H a (.dK kvs))(h:∀t s',Inv X pins σ H s'->Q (.int kvs.length t) s'):wpAny (model X.prog X.w) A (call (.builtin "len") [.ref a]) Q E s:=by
 let#[z,hd,vs,rel,dd]:=oa I.aH e;apply call_len_dict hd dd (by rw[<- rel.length];rw[b_] at z;omega) ?_;rw[<- rel.length];exact h _ _ (I.tok _)
end
def Bu(i:Expr):Prop:=∀ov iv,subscripted i false ov iv=operate [ov,iv] (getItem ov iv)
theorem Uv{prog:Ad}{w:Af}{A:Ag}{E:Aa->Ab->Prop}{s:Ab}{env:Env}{value slice:Expr}{pos:Pos}{T id:String}{Q:Aa->Ab->Prop}
  (hl:typeLookup (.type T) "__getitem__"=pure (some (.builtin id))) (hs:Bu slice)
  (h:wpAny (model prog w) A (eval value env) (λo aU=>wpAny (model prog w) A (eval slice env) (λi g9=>g9.TypeIs o T/\wpAny (model prog w) A (getItem o i) Q E g9) E aU) E s) :
  wpAny (model prog w) A (eval (.Subscript value slice pos) env) Q E s:=by
 apply Subscript_ (wpAny_mono h (λo aU bY=>wpAny_mono bY (λi g9 zW=>?_) λ_ _ x=>x) λ_ _ x=>x);let#[hT,zW]:=zW;unfold subscriptTail;apply aC ?_;rw[getitemInPython_of_ne hT.not_modules];apply aC (wpAny_specialOf hT hl ?_)
 have fin:wpAny (model prog w) A (subscripted slice false o i) (λr Dq=>wpAny (model prog w) A (letTemporaryGo value o r >>= λ_=>pure r) Q E Dq) E g9:=by
  rw[hs o i];exact wpAny_operating (wpAny_mono zW (λr Dq MT=>aC (wpAny_letTemporaryGo (bA MT))) λ_ _ x=>x)
 first
  |exact bA (aC fin)
  |exact aC (bA (aC fin))
  |exact aC fin
theorem eG_{X:Cx}{pins:List (Addr × Obj)}{σ:St}{H:Hp}{s:Ab}{a:Addr}{y:V}{o:aI}(I:Inv X pins σ H s)(g:fV H a y o):s.TypeIs (.ref a) "dict":=by
 rcases g with⟨kvs,k,e,_,_⟩|⟨kvs,k,b,e,_,_,_⟩
 ·let#[_,_,vs,_,dd]:=oa I.aH e;exact dd.typeIs
 let#[_,_,xs,_,dd]:=Cd I.aH e;exact dd.typeIs
inductive qu (Q:VK) (x:V) (y:V) (H2:Hp):Prop
 |mk:∀a v,x=.ref a->fV H2 a y (some v)->Q v H2->qu Q x y H2
def Dm(td ty:TE):TE:=λσ H Q=>td σ H λx H1=>ty σ H1 λy H2=>qu Q x y H2
inductive xt (Q:VK) (y:V) (x:V) (H2:Hp):Prop
 |mk:∀a o,x=.ref a->fV H2 a y o->Q (.bl o.isSome) H2->xt Q y x H2
def LG(ty td:TE):TE:=λσ H Q=>ty σ H λy H1=>td σ H1 λx H2=>xt Q y x H2
inductive V4 (Q:VK) (y:V) (x:V) (H2:Hp):Prop
 |mk:∀a o,x=.ref a->fV H2 a y o->Q (.bl (!o.isSome)) H2->V4 Q y x H2
def vf(ty td:TE):TE:=λσ H Q=>ty σ H λy H1=>td σ H1 λx H2=>V4 Q y x H2
inductive rP (D:Ends) (σ:St) (v:V) (x:V) (y:V) (H3:Hp):Prop
 |mk:∀a H4,x=.ref a->pB H3 a y v H4->D.nx σ H4->rP D σ v x y H3
def Dz(td ty tv:TE):TS:=λD σ H=>tv σ H λv H1=>td σ H1 λx H2=>ty σ H2 λy H3=>rP D σ v x y H3
section
variable{X:Cx}{o i e value:Expr}{pos pos' Lr:Pos}{td ty tv:TE}
theorem ko(hu:X.A.units+1<cLine)(ho:PE X o td)(hi:PE X i ty)(hs:Bu i:=by exact λ_ _=>rfl):PE X (.Subscript o i pos) (Dm td ty):=by
 intro pins s σ H Q I h;apply Uv PySem.F.slot_dict_getitem.lookup hs (aV (ho pins s σ H _ I h) λu s1 ⟨x,H1,I1,rx,q1⟩=>aV (hi pins s1 σ H1 _ I1 q1) λiv s2 ⟨y,H2,I2,ry,a,v,ex,g,q2⟩=>?_);subst ex;obtain rfl:u=Value.ref a:=rx;exact#[eG_ I2 g,gl_ hu I2 g ry λw' s3 I3 jq=>#[v,H2,I3,jq,q2]]
theorem Ck(hu:X.A.units+1<cLine)(hi:PE X i ty)(ho:PE X o td):PC X .In i o (LG ty td):=by
 intro pins s σ H Q I h;apply aV (hi pins s σ H _ I h) λiv s1 ⟨y,H1,I1,ry,q1⟩=>aV (ho pins s1 σ H1 _ I1 q1) λu s2 ⟨x,H2,I2,rx,a,ov,ex,g,q2⟩=>?_;subst ex;obtain rfl:u=Value.ref a:=rx;exact PL hu I2 g ry λs3 I3=>#[.bl ov.isSome,H2,I3,Z,q2]
theorem VH(hu:X.A.units+1<cLine)(hi:PE X i ty)(ho:PE X o td):PC X .NotIn i o (vf ty td):=by
 intro pins s σ H Q I h;apply aV (hi pins s σ H _ I h) λiv s1 ⟨y,H1,I1,ry,q1⟩=>aV (ho pins s1 σ H1 _ I1 q1) λu s2 ⟨x,H2,I2,rx,a,ov,ex,g,q2⟩=>?_;subst ex;obtain rfl:u=Value.ref a:=rx;exact jO_ hu I2 g ry λs3 I3=>#[.bl (!ov.isSome),H2,I3,Z,q2]
theorem wM(hu:X.A.units+1<cLine)(ho:PE X o td)(hi:PE X i ty)(hv:PE X value tv)(hs:swapsWith value (some (.Subscript o i pos')) pos.line X.env=pure false) :
  PS X (.Assign [.Subscript o i pos'] value pos) (Dz td ty tv):=by
 intro pins s σ H D I h;apply wpAny_Assign_Subscript (aV (hv pins s σ H _ I h) λr s1 ⟨v,H1,I1,rv,q1⟩=>aV (ho pins s1 σ H1 _ I1 q1) λu s2 ⟨x,H2,I2,rx,q2⟩=>aV (hi pins s2 σ H2 _ I2 q2) λiv s3 ⟨y,H3,I3,ry,a,H4,ex,g,q3⟩=>?_) hs;subst ex;obtain rfl:u=Value.ref a:=rx;exact ge_ hu I3 g ry rv λs4 I4=>#[σ,H4,I4,q3]
end
theorem Vn{P:Ad}{w:Af}{H:Hp}(h:Heap)(hb:sysModules<h.objs.size):eM P w H (h.push { cls:=.type "dict",data:=.dict #[] }) h.objs.size (.dK []):=
 #[gA _,beq_eq_false_iff_ne.mpr (Ne.symm (dY hb)),[],.nil,Heap.DictOf.new h]
theorem iU_{P:Ad}{w:Af}{H:Hp}(h:Heap)(hb:sysModules<h.objs.size):eM P w H (h.push { cls:=.type "dict",data:=.dict #[] }) h.objs.size (.dT []):=
 #[gA _,beq_eq_false_iff_ne.mpr (Ne.symm (dY hb)),[],.nil,_,#[],0,eJ _ Z,#[Z,Z,Z],Z,Z,List.nodup_nil]
def zc:TE:=λ_ H Q=>∀p,H p=none->Q (.ref p) (upd H p (.dK []))
def y_:TE:=λ_ H Q=>∀p,H p=none->Q (.ref p) (upd H p (.dT []))
section
variable{X:Cx}{pos:Pos}
theorem Bf:PE X (.Dict [] [] pos) zc:=λpins s σ H Q I h=>
 wpAny_Dict_empty #[.ref s.heap.objs.size,_,I.laid (a:=s.heap.objs.size) (o:=.dK []) (t':=s.toks) (λ_ _ q=>cc _ q) (br _) (Vn s.heap I.big),Z,h _ (I.aH.fresh (br _))]
theorem ic_:PE X (.Dict [] [] pos) y_:=λpins s σ H Q I h=>
 wpAny_Dict_empty #[.ref s.heap.objs.size,_,I.laid (a:=s.heap.objs.size) (o:=.dT []) (t':=s.toks) (λ_ _ q=>cc _ q) (br _) (iU_ s.heap I.big),Z,h _ (I.aH.fresh (br _))]
end
def kC:List (TE × TE)->St->Hp->(List (V × V)->Hp->Prop)->Prop
 |[],_,H,Q=>Q [] H
 |(tk,tv)::r,σ,H,Q=>tk σ H λx H1=>tv σ H1 λy H2=>kC r σ H2 λps H3=>Q ((x,y)::ps) H3
abbrev VV:List (V × V)->List (Aa × Aa)->Prop:=Paired λp q=>RelV p.1 q.1/\RelV p.2 q.2
def K6(X:Cx)(pos:Pos)(keys:List (Option Expr))(values:List Expr)(uY:List (TE × TE)):Prop:=
 ∀(pins:List (Addr × Obj)) (s:Ab) (σ:St) (H:Hp) (Q:List (V × V)->Hp->Prop),Inv X pins σ H s->kC uY σ H Q->
  wpAny (model X.prog X.w) X.A (evalPairs (pairTrees keys values X.env pos)) (λvs s'=>∃ps H',Inv X pins σ H' s'/\VV ps vs/\Q ps H') X.xe s
theorem Um{X:Cx}{pos:Pos}:K6 X pos [] [] []:=λpins s σ H Q I h=>pairTrees_nil_walk #[[],H,I,.nil,h]
theorem Vm{X:Cx}{pos:Pos}{k v:Expr}{ks:List (Option Expr)}{vs:List Expr}{tk tv:TE}{uY:List (TE × TE)}(hk:PE X k tk)(hv:PE X v tv)(hr:K6 X pos ks vs uY) :
  K6 X pos (some k::ks) (v::vs) ((tk,tv)::uY):=λpins s σ H Q I h=>
 pairTrees_cons_walk (aV (hk pins s σ H _ I h) λu s1 ⟨x,H1,I1,rx,q1⟩=>aV (hv pins s1 σ H1 _ I1 q1) λw2 s2 ⟨y,H2,I2,ry,q2⟩=>
  aV (hr pins s2 σ H2 _ I2 q2) λws s3 ⟨ps,H3,I3,rel,q3⟩=>#[(x,y)::ps,H3,I3,.cons #[rx,ry] rel,q3])
def oh(kvs more:List (Key × V)):List (Key × V):=more.foldl (λacc kv=>putK acc kv.1 kv.2) kvs
theorem KV.merge:∀{more:List (Key × V)} {rs:List (Key × Aa)} {kvs:List (Key × V)} {vs:List (Key × Aa)},KV more rs->KV kvs vs->KV (oh kvs more) (merged vs rs):=by
 intro more rs kvs vs r;unfold KV at r
 induction r generalizing kvs vs with
 |nil=>intro q;exact q
 |@cons p q ps qs h t ih=>
  intro r0
  have e:KV (putK kvs p.1 p.2) (stored vs q.1 q.2):=by
   have:=r0.put p.1 h.2;rw[<- h.1];exact this
  exact ih e
theorem Rj:∀(more kvs:List (Key × V)),(oh kvs more).length<=kvs.length+more.length
 |[],kvs=>by show kvs.length<=kvs.length+0;omega
 |p::r,kvs=>by
  let h1:=Rj r (putK kvs p.1 p.2);let h2:=Q8 kvs p.1 p.2;show (oh (putK kvs p.1 p.2) r).length<=_;rw[iO];omega
theorem Ww{P:Ad}{w:Af}:∀{kvs:List (Key × V)} {ws:List (Aa × Aa)},VV (kvs.map λkv=>(kV kv.1,kv.2)) ws->∃rs,Carries (eZ P w) ws rs/\KV kvs rs
 |[],_,r=>by rw[List.map_nil] at r;cases r;exact#[[],True.intro,.nil]
 |p::kvs,_,r=>by
  rw[fi] at r;cases r with
  |@cons a b as bs h t=>
   let#[rs,c,q]:=Ww (P:=P) (w:=w) t;let#[b1,b2]:=b;exact#[(p.1,b2)::rs,#[wo h.1,Z,c],.cons #[Z,h.2] q]
def Dk(uY:List (TE × TE)):TE:=λσ H Q=>∀p,H p=none->kC uY σ (upd H p (.dK [])) λps H2=>H2 p\.dK []/\∃kvs:List (Key × V),ps=kvs.map (λkv=>(kV kv.1,kv.2))/\kvs.length<=15/\Q (.ref p) (upd H2 p (.dK (oh [] kvs)))
theorem UP{X:Cx}{pos:Pos}{keys:List (Option Expr)}{values:List Expr}{uY:List (TE × TE)}(h:K6 X pos keys values uY)(sZ:keys.all (·.isSome)=true)(hl:keys.length=values.length)(h0:keys≠[])
  (h15:keys.length<=15):PE X (.Dict keys values pos) (Dk uY):=by
 intro pins s σ H Q I q;let hn:=I.aH.fresh (br s.heap.objs.size);let I1:=I.laid (a:=s.heap.objs.size) (o:=.dK []) (h':=s.heap.push { cls:=.type "dict",data:=.dict #[] }) (t':=s.toks) (λ_ _ q=>cc _ q) (br _) (Vn s.heap I.big);apply wpAny_Dict_walk (knd:=eZ X.prog X.w) sZ hl h0 h15 (aV (h pins _ σ _ _ I1 (q _ hn)) λws s2 ⟨ps,H2,I2,rel,e,kvs,ep,lk,q2⟩=>?_);subst ep;let#[rs,c,rk]:=Ww (P:=X.prog) (w:=X.w) rel;let#[z,hd,vs0,r0,dd]:=AM I2.aH e;cases r0;apply#[rs,c,dd,λh' wx hs=>#[.ref s.heap.objs.size,_,?_,Z,q2]]
 have hz:(oh [] kvs).length<=sizeLine:=by
  let h1:=Rj kvs [];rw[p6] at h1;rw[b_];omega
 have he:∃q,h'.get? s.heap.objs.size\q:=let #[q,_,_,hq,_]:=wx;#[q,hq];exact OY I2 (by rw[e];exact True.intro) hs he (JK hz hd (rk.merge .nil) wx)
structure M1 (X:Cx) (o:Expr) (m:Str) (apos:Pos) (e:Expr) (cn:Pos):Prop where
 base:attributeBase o m X.env (eval o X.env)=eval o X.env
 few:((backTo cn (starEach [e] X.env)).all (λx=>!x.1)&&(backToKw cn (keywordEach [] X.env)).all (λx=>x.1.isSome)
  && decide (([e]:List Expr).length+([]:List Keyword).length+(if ([]:List Keyword).isEmpty then 0 else 1)<30))=true
 line:(apos.endLine == cn.line)=true
 trees:backTo cn (starEach [e] X.env)=[(false,eval e X.env)]
structure M2 (X:Cx) (o:Expr) (m:Str) (apos:Pos) (e f:Expr) (cn:Pos):Prop where
 base:attributeBase o m X.env (eval o X.env)=eval o X.env
 few:((backTo cn (starEach [e,f] X.env)).all (λx=>!x.1)&&(backToKw cn (keywordEach [] X.env)).all (λx=>x.1.isSome)
  && decide (([e,f]:List Expr).length+([]:List Keyword).length+(if ([]:List Keyword).isEmpty then 0 else 1)<30))=true
 line:(apos.endLine == cn.line)=true
 trees:backTo cn (starEach [e,f] X.env)=[(false,eval e X.env),(false,eval f X.env)]
def IsD(H:Hp)(a:Addr):Prop:=(∃kvs,Rd H a (.dK kvs))∨∃kvs,Rd H a (.dT kvs)
theorem Tc{X:Cx}{pins:List (Addr × Obj)}{σ:St}{H:Hp}{s:Ab}{a:Addr}(I:Inv X pins σ H s)(d:IsD H a) :
  s.TypeIs (.ref a) "dict"/\(∀b,Value.ref a=.ref b->∃ob,s.heap.get? b\ob/\ob.dict=none)/\(a == sysModules)=false:=by
 rcases d with⟨kvs,e⟩|⟨kvs,e⟩
 ·let#[_,hd,vs,_,dd]:=oa I.aH e;apply#[dd.typeIs,λb q=>?_,hd];cases q;let#[ob,_,_,h1,h2,_]:=dd;exact#[ob,h1,h2.2.1]
 let#[_,hd,xs,_,dd]:=Cd I.aH e;apply#[dd.typeIs,λb q=>?_,hd];cases q;let#[ob,_,_,h1,h2,_]:=dd;exact#[ob,h1,h2.2.1]
section
variable{X:Cx}{pins:List (Addr × Obj)}{σ:St}{H:Hp}{s:Ab}{a:Addr}{y d:V}{u r:Aa}{o:aI}{A:Ag}{E:Aa->Ab->Prop}
end
section
variable{X:Cx}{o e f:Expr}{apos cn:Pos}{td ty tx:TE}
end
section
variable{X:Cx}{pins:List (Addr × Obj)}{σ:St}{H:Hp}{s:Ab}{a:Addr}{kvs:List (Key × V)}{A:Ag}{E:Aa->Ab->Prop}
theorem i6_{Q:Aa->Ab->Prop}(I:Inv X pins σ H s)(e:Rd H a (.dK kvs))(h:∀p s',H p=none->Inv X pins σ (upd H p (.dK kvs)) s'->Q (.ref p) s'):wpAny (model X.prog X.w) A (call (.type "dict") [.ref a]) Q E s:=by
 let#[z,hd,vs,rel,dd]:=oa I.aH e;apply kt_call_dict hd dd (by rw[<- rel.length];exact z) λh' wx hs=>?_;apply h _ _ (I.aH.fresh (br _)) (I.laid (a:=s.heap.objs.size) (o:=.dK kvs) (t':=s.toks) (λb q hq=>?_) (br _) (JK z (beq_eq_false_iff_ne.mpr (Ne.symm (dY I.big))) rel wx));exact (hs.2 b (dY (cm hq))).trans (cc _ hq)
end
section
variable{X:Cx}{pins:List (Addr × Obj)}{σ:St}{H:Hp}{s:Ab}{a:Addr}{y:V}{u:Aa}{A:Ag}{E:Aa->Ab->Prop}
end
end L2
namespace Xv
open PySem PySem.W PySem.Calls PyProof.Rows
theorem cI_{P:Params}{h:Heap}:∀(ns:List Int) (vs:aj),WellAll P h vs (ns.map WData.int)->IntsAre vs ns:=by
 intro ns
 induction ns with
 |nil=>
  intro vs w;rw[List.map_nil] at w;cases w;exact .nil
 |cons n ns ih=>
  intro vs w;rw[fi] at w;cases w with
  |cons a b=>
   cases a;exact .cons _ _ (ih _ b)
theorem h6_{l:OpenLaw}{n:Nat}(hn:l.most\n){P:Params}{h:Heap}{args:List WData}{vals:aj}
  (vP:l.row.toRowW.claim.pre args=true) (MV:WellAll P h vals args) :
  ∃a vs ns,vals=[Value.ref a]/\args=[WData.list (ns.map WData.int)]/\h.get? a=some { cls:=.type "list",data:=.seq vs.toArray }/\IntsAre vs ns/\ns.length<=n:=by
 have hsh:WShape.hasAll [] args [.list .int]=true:=(pre_splitW vP).1;have hc:l.pre.holds [] { args:=args }=true:=(pre_splitW vP).2;let#[d,r,rfl,h1,h2]:=hasAllW_cons hsh;obtain rfl:=hasAllW_nil h2;let#[xs,rfl,h3]:=hasW_list h1;let#[ns,rfl]:=items_int h3
 have hlen:ns.length<=n:=by
  unfold OpenLaw.pre at hc
  have h4:(WTm.not (.lt (.lit (.int (n:Int))) (.len (.arg 0)))).holds [] { args:=[.list (ns.map .int)] }=true:=by
   let h4:=(holds_andW hc).1;rw[hn] at h4;exact h4
  let h5:=condW_of h4 (w_not (w_lt w_lit (w_len_list (w_arg Z))));rw[ay] at h5;apply Nat.le_of_not_lt λq=>?_;have q':(n:Int)<((ns.length:Nat):Int):=by omega
  first
   |(rw[cb q'] at h5;exact absurd h5 (by decide))
   |(simp at h5;omega)
 cases MV with
 |cons w1 w2=>
  cases w2;cases w1 with
  |list ho sZ=>exact#[_,_,ns,Z,Z,ho,cI_ ns _ sZ,hlen]
theorem gc_(l:OpenLaw)(args:List WData):l.row.toRowW.claim.post args (.bool true) args=true:=
 postW_of (r:=l.row.toRowW) (X:=(true == true))
  (show WShape.has [] (.bool true) .bool=true by first|rfl|decide|simp[WShape.has,WShape.arms,WShape.armsAll])
  (show (WTm.eq .res (.lit (.bool true))).value [] { args:=args,res:=some (.bool true),after:=args }=some (.bool (true == true)) from w_eq_bool (w_res Z) w_lit) Z
theorem jO{l:OpenLaw}{n:Nat}{q:Ad}{loose:ae}{XP:(Str->Option Aa)->Heap->Prop}{YP:Af->Heap->Prop}{d:DefRec}
  (hn:l.most\n) (sV:d.params.defaults=[])
  (call:∀(w:Af) (cz aU:Ab) (mg mb:Str->Option Aa) (fa:Addr) (o:Obj) (pm cd doc:Aa) (a:Addr) (vs:aj) (ns:List Int),
   Ground q loose [] XP w cz mg mb aU.heap->YP w aU.heap->
   aU.heap.get? fa\o->o.data=.func (docDef d.name d.params d.body d.scope pm cd doc)->aU.heap.CodeRec cd d.name->mg d.name\.ref fa->
   aU.heap.get? a=some { cls:=.type "list",data:=.seq vs.toArray }->IntsAre vs ns->ns.length<=n->aU.gens=#[]->
   codeAny (model l.prog w) callerA (.call (.ref fa) #[[.ref a],[]]) (λr s'=>r=.ok (.ret (.bool true))/\OldK aU.heap s'.heap/\s'.os=aU.os/\AllBare s'.gens) aU) :
  WalkO q loose XP YP l.row.toRowW d [] (λf vs=>PySem.call f vs):=by
 intro w cz aU mg mb G Y fa o pm cd doc dV kV ho hd gK hD hmg hg args vals as vP hlay hrd MV hlo;obtain rfl:dV=.none:=Dflts.none hD sV;obtain rfl:kV=.none:=Dflts.noKw hD;let#[a,vs,ns,rfl,rfl,Ah,hints,hlen]:=h6_ hn vP MV;apply enter_call (codeAny_mono (call w cz aU mg mb fa o pm cd doc a vs ns G Y ho (fd_plain hd) gK hmg Ah hints hlen hg) λr s' hq=>?_);let#[rfl,h2,h3,h4]:=hq;exact#[.inl #[.bool true,.bool true,[],Z,λ_=>rfl,.bool true,gc_ l _,λ_=>#[List.Pairwise.nil,λ_ hm=>(nomatch hm)]],h2,h3,h4]
section
variable{prog:Ad}{w:Af}{A:Ag}{E:Aa->Ab->Prop}{s:Ab}{K:Frag}
end
end Xv
namespace L2
open PySem PySem.Spec PyProof.Rows
theorem We:∀{vs:aj} {ns:List Int},IntsAre vs ns->Vals (ns.map V.int) vs
 |_,_,.nil=>.nil
 |_,_,.cons n t h=>.cons #[t,Z] (We h)
end L2
namespace L2
open PySem PySem.Spec PyProof.Rows
end L2
namespace L2
open PySem PySem.Spec PyProof.Rows
def i9(s:Stmt)(j:Nat):Stmt:=match s with
 |.ClassDef _ _ _ body _ _ _ _ _ _ _=>body.getD j (.Pass #[0,0,0,0])
 |_=>.Pass #[0,0,0,0]
def i8(s:Stmt):Arguments:=match s with
 |.FunctionDef _ a _ _ _ _ _ _ _ _=>a
 |_=>{ posonlyargs:=[],args:=[],vararg:=none,kwonlyargs:=[],kw_defaults:=[],kwarg:=none,defaults:=[] }
def gW(s:Stmt):List Stmt:=match s with
 |.FunctionDef _ _ b _ _ _ _ _ _ _=>b
 |_=>[]
def aY(s:Stmt):Scope:=match s with
 |.FunctionDef _ _ _ _ _ _ sc _ _ _=>sc
 |_=>{ kind:=.function,names:=[],isGenerator:=false,isCoroutine:=false }
abbrev a9:j2:=λ_ _ _ _ _ _=>False
abbrev E0:XK:=λ_ _ _=>False
theorem nu{X:Cx}:wD a9 X E0:=λ_ _ _ _ _ _ _ h=>h.elim
structure bh (K:af) (x qual:Str) (st:Stmt) (f:Addr) (fd:Ae):Prop where
 ex:∃(oc:Aa) (od:Option Addr) (kV doc pm:Aa) (an:Option Addr) (aM ct:Aa) (js:Array (Option Aa)),
  fd=PySem.W.fnOf x qual (i8 st) (gW st) (aY st) .none kV doc pm an aM ct/\K.lookup f=some #[oc,od,.func fd,js]/\PySem.W.codeIn K aM qual=true
 kp:PySem.W.keepIn K (.ref f)=true
section v
theorem bh.ok{x qual:Str}{st:Stmt}{f:Addr}{fd:Ae}{N ps:ae}{k:Nat}{sp:Sp}(F:bh K x qual st f fd)(S:bw N ps (aY st))(len:∀vs H Q E,sp vs H Q E->vs.length=ps.length)
  (fE:∀(aM:Aa) (A:Ag) (outer:List Env) (s:Ab) (H:Hp) (vs:ag) (Q:VK) (E:XK),ba k (A.deeper (envOfC qual (aY st) s.heap.objs.size f aM))->sp vs H Q E->
   ∃t,kz (jH a9 P w K mg base N qual (aY st) f aM A outer s H E).zJ (gW st) t/\t { nx:=λ_ H'=>Q .non H',rt:=Q } (start N vs) H):!ak a9 (k+1) f fd ps sp:=by
 let#[oc,od,kV,doc,pm,an,aM,ct,js,rfl,lk,gK]:=F.ex;apply SY lk gK S len λA outer s H vs Q E hr j4=>?_;let#[t,h,q]:=fE aM A outer s H vs Q E hr j4;exact#[t,h.zJ,q]
theorem bh.bG{x qual:Str}{st:Stmt}{f:Addr}{fd:Ae}{N ps:ae}{k:Nat}{sp:Sp}(F:bh K x qual st f fd)(S:bw N ps (aY st)) (fE:∀(aM:Aa) (A:Ag) (outer:List Env) (s:Ab) (H:Hp) (vs:ag) (Q:VK) (E:XK),ba k (A.deeper (envOfC qual (aY st) s.heap.objs.size f aM))->sp vs H Q E->
   ∃t,kz (jH a9 P w K mg base N qual (aY st) f aM A outer s H E).zJ (gW st) t/\t { nx:=λ_ H'=>Q .non H',rt:=Q } (start N vs) H) (len:∀vs H Q E,sp vs H Q E->vs.length=ps.length:=by intro vs H Q E h;first|(cases h;subst_vars;rfl)|(let#[rfl,_]:=h;rfl)|(let#[_,rfl,_]:=h;rfl)|(let#[_,_,rfl,_]:=h;rfl)|(let#[_,_,_,rfl,_]:=h;rfl)|(let#[_,_,_,_,rfl,_]:=h;rfl)|(let#[_,_,_,_,_,_,_,_,_,rfl,_]:=h;rfl)):!ak a9 (k+1) f fd ps sp:=F.ok S len fE
theorem bh.binds{x qual:Str}{st:Stmt}{f:Addr}{fd:Ae}{ps:ae}(F:bh K x qual st f fd)
  (h:∀(kV doc pm:Aa) (an:Option Addr) (aM ct:Aa) (us:aj),us.length=ps.length->bindArgs (PySem.W.fnOf x qual (i8 st) (gW st) (aY st) .none kV doc pm an aM ct) #[us,[]]=pure (ps.zip us)):pP K fd ps []:=by
 let#[oc,od,kV,doc,pm,an,aM,ct,js,rfl,lk,gK]:=F.ex;exact .all (h kV doc pm an aM ct)
theorem Ot{x qual:Str}{st:Stmt}{f:Addr}{oc:Aa}{od an:Option Addr}{js:Array (Option Aa)}{kV doc pm aM ct:Aa}(l:K.lookup f=some #[oc,od,.func (PySem.W.fnOf x qual (i8 st) (gW st) (aY st) .none kV doc pm an aM ct),js])
  (c:PySem.W.codeIn K aM qual=true) (k:PySem.W.keepIn K (.ref f)=true):bh K x qual st f (PySem.W.fnOf x qual (i8 st) (gW st) (aY st) .none kV doc pm an aM ct):=#[#[oc,od,kV,doc,pm,an,aM,ct,js,Z,l,c],k]
end
theorem fZ{A:Ag}{k:Nat}(hr:ba k A):A.units+1<cLine:=Nat.lt_of_le_of_lt (Nat.add_le_add_left (by decide:1<=64) _) hr.units
section
variable{X:Cx}
theorem pv(i:Nat){x:Str}{pos:Pos}(hN:X.N[i]? = some x:=by rfl)(hv:Rr X.env.scope x:=by first|exact Or.inl Z|exact Or.inr (Or.inl Z)|exact Or.inr (Or.inr Z))(hd:(x == ("__debug__":Str))=false:=by decide)
  (gK:(x == ("__classdict__":Str))=false:=by decide):PE X (.Name x pos) (g8 i):=kL_ hN hv hd gK
inductive Wx (xs:ag) (H:Hp) (Q:VK):Prop
 |mk:∀a kvs,xs=[V.ref a]->H a\.dK kvs->Q (.int kvs.length) H->Wx xs H Q
theorem hx_:gq X (.builtin "len") Wx:=by
 intro pins s σ H xs us Q I r h;let#[a,kvs,rfl,ha,q]:=h;let#[u,rfl,ru]:=vals1 r;cases ru;exact la_ I (.inl ha) λt s' I'=>#[.int kvs.length,H,I',#[t,Z],q]
end
theorem aO{A B:Prop}(h:B):if false=true then A else B:=by
 rw[aE f_];exact h
theorem bO{A B:Prop}(h:A):if true=true then A else B:=by
 rw[aJ Z];exact h
theorem a_{c A B:Prop}[Decidable c](h1:c->A)(h2:¬c->B):if c then A else B:=by
 by_cases h:c
 ·rw[aJ h];exact h1 h
 rw[aE h];exact h2 h
theorem sI{c A B:Prop}[Decidable c](hc:c)(h:B):if (!decide c)=true then A else B:=by
 rw[cb hc];exact aO h
def aa(H H':Hp):Prop:=∀b o,H b\o->H' b\o
theorem aa.refl(H:Hp):aa H H:=λ_ _ h=>h
theorem aa.trans{H H1 H2:Hp}(a:aa H H1)(b:aa H1 H2):aa H H2:=λc o h=>b c o (a c o h)
theorem aa.free{H H':Hp}(e:aa H H'){l:Addr}(h:H' l=Option.none):H l=Option.none:=by
 cases q:H l with
 |none=>rfl
 |some o=>
  rw[e l o q] at h;cases h
section
variable{κ:Type}[DecidableEq κ]
theorem kj_{kvs:List (κ × V)}{k:κ}{v:V}(h:bH kvs k\v):k∈kvs.map (·.1):=by
 have q:(kvs.any λkv=>decide (kv.1=k))=true:=by
  rw[HY,h]
  all_goals rfl
 let#[p,hp,e]:=List.any_eq_true.mp q;exact bN.mpr #[p,hp,wF e]
theorem UE:∀{l:List κ} {k:κ},l.Nodup->¬k∈l->(l++[k]).Nodup
 |[],k,_,_=>by simp
 |a::r,k,h,hk=>by
  let#[h1,h2]:=p7.mp h;show (a::(r++[k])).Nodup;apply p7.mpr #[λm=>?_,UE h2 λm=>hk (cq.mpr (Or.inr m))];rcases fB.mp m with q|q
  ·exact h1 q
  exact hk (cq.mpr (Or.inl (wY.mp q).symm))
end
end L2
local macro_rules|`(%[$x,*|$_])=>do return (<-x.getElems.foldrM (λe (a:Lean.Term)=>if e.raw.isNatLit?.isSome then`(L2.eE (L2.pv $e) $a)else`(L2.eE $e $a)) (<-`(L2.aK)))
namespace L2
open PySem PySem.Spec PyProof.Rows
def iM(env:Env):List (Str × NameKind)->List (Str × Addr)->List (Str × Addr)
 |[],cs=>cs
 |(n,k)::r,cs=>iM env r (if k == .free then (n,(env.cells.lookup n).getD 0)::cs else cs)
theorem Rk{env:Env}(f:Str × NameKind->List (Str × Addr)->Sem (ForInStep (List (Str × Addr))))
  (hf:∀n k cs,f (n,k) cs=if (k == .free)=true then (do let a <- cellOf env n;pure (.yield ((n,a)::cs))) else pure (.yield cs)) :
  ∀(names:List (Str × NameKind)) (cs:List (Str × Addr)),(∀x∈names,x.2=.free->∃c,env.cells.lookup x.1\c)->forIn names cs f=(pure (iM env names cs):Sem _)
 |[],cs,_=>by rw[List.forIn_nil];rfl
 |(n,k)::r,cs,h=>by
  rw[List.forIn_cons,hf];have hr:∀x∈r,x.2=.free->∃c,env.cells.lookup x.1\c:=λx hx=>h x (eA _ hx);unfold iM;by_cases hk:(k == NameKind.free)=true
  ·let#[c,hc]:=h (n,k) eP ⇑hk;have hc:env.cells.lookup n\c:=hc;rw[aJ hk,aJ hk];have e:cellOf env n=pure c:=by unfold cellOf;rw[hc]
   rw[e];simp only[pure_bind];rw[Rk f hf r _ hr,hc];rfl
  rw[aE hk,aE hk];simp only[pure_bind];exact Rk f hf r _ hr
theorem WW{scope:Scope}{env:Env}(h:∀x∈scope.names,x.2=.free->∃c,env.cells.lookup x.1\c):closureFor scope env=pure (iM env scope.names []):=by
 simp only[closureFor];rw[Rk (env:=env) _ (λn k cs=>by by_cases hk:(k == NameKind.free)=true<;>simp[hk]) scope.names [] h]
 simp only[pure_bind]
theorem WL{env:Env}:∀{names:List (Str × NameKind)} {cs:List (Str × Addr)} {x:Str} {c:Addr},(x,c)∈iM env names cs->(x,c)∈cs∨((x,NameKind.free)∈names/\c=(env.cells.lookup x).getD 0)
 |[],cs,x,c,h=>.inl h
 |(n,k)::r,cs,x,c,h=>by
  unfold iM at h;rcases WL h with h|⟨h,e⟩
  ·by_cases hk:(k == NameKind.free)=true
   ·rw[aJ hk] at h;rcases cq.mp h with q|q
    ·cases q;have:k=.free:=⇑hk
     subst this;exact .inr #[eP,Z]
    exact .inl q
   rw[aE hk] at h;exact .inl h
  exact .inr #[eA _ h,e]
theorem Qp{env:Env}:∀{names:List (Str × NameKind)} {cs:List (Str × Addr)} {x:Str},(x,NameKind.free)∈names∨(∃c,(x,c)∈cs)->∃c,(x,c)∈iM env names cs
 |[],cs,x,h=>by
  rcases h with h|h
  ·cases h
  ·exact h
 |(n,k)::r,cs,x,h=>by
  unfold iM;apply Qp ?_;rcases h with h|⟨c,h⟩
  ·rcases cq.mp h with e|h
   ·cases e;exact .inr #[(env.cells.lookup n).getD 0,by rw[aJ (by decide)];exact eP]
   exact .inl h
  apply .inr #[c,?_];split
  ·exact eA _ h
  exact h
theorem Ra:∀(names:List (Str × NameKind)) (n:Nat) (acc cl:List (Str × Addr)),cellsFrom n names (acc++cl)=cellsFrom n names acc++cl
 |[],_,_,_=>rfl
 |(x,k)::r,n,acc,cl=>by
  unfold cellsFrom;split
  ·exact Ra r (n+1) ((x,n)::acc) cl
  exact Ra r n acc cl
theorem Q_:∀{names:List (Str × NameKind)} {n:Nat} {acc:List (Str × Addr)} {x:Str} {c:Addr},(x,c)∈cellsFrom n names acc->(x,c)∈acc∨(x,NameKind.cell)∈names
 |[],_,_,_,_,h=>.inl h
 |(y,k)::r,n,acc,x,c,h=>by
  unfold cellsFrom at h;by_cases hk:(k == NameKind.cell)=true
  ·rw[aJ hk] at h;rcases Q_ h with h|h
   ·rcases cq.mp h with e|h
    ·cases e;have:k=.cell:=⇑hk
     subst this;exact .inr eP
    exact .inl h
   exact .inr (eA _ h)
  rw[aE hk] at h;rcases Q_ h with h|h
  ·exact .inl h
  exact .inr (eA _ h)
theorem Q9{α:Type}:∀{l:List (Str × α)} {x:Str} {c:α},(x,c)∈l->∃c',l.lookup x\c'
 |(k,v)::r,x,c,h=>by
  rw[tW];cases hb:x == k with
  |true=>exact#[v,Z]
  |false=>
   rcases cq.mp h with e|h
   ·cases e;simp at hb
   exact Q9 h
def jJ(scope:Scope)(C:Addr)(env:Env):Env:=
 { scope:=relabel scope env,locals:=C,globals:=env.globals,cells:=cellsFrom (C+1) scope.names (iM env scope.names []),qual:=env.qual,func:=none,code:=env.code,frame:=env.frame,builtins:=env.builtins }
theorem W2{M:Model}{A:Ag}{E:Aa->Ab->Prop}{s:Ab}{scope:Scope}{cl:List (Str × Addr)}{env:Env}{Q:Env->Ab->Prop}
  (h:Q { scope:=scope,locals:=s.heap.objs.size,globals:=env.globals,cells:=cellsFrom (s.heap.objs.size+1) scope.names cl,qual:=env.qual,func:=none,code:=env.code,frame:=env.frame,builtins:=env.builtins }
   { s with heap:=pushCells (s.heap.push { cls:=.type "dict",data:=.dict #[] }) scope.names }) :
  wpAny M A (newFunctionEnv scope env.globals cl [] env.qual none .none (some env)) Q E s:=by
 simp only[newFunctionEnv,Option.isSome_some,if_true];apply aC (wpAny_alloc ?_);apply aC (wpAny_layCells _ (λname kind cells=>by cases hkc:kind == NameKind.cell<;>simp[hkc]) _ _ _ _ ?_)
 rw[show ({ s with heap:=s.heap.push { cls:=.type "dict",data:=.dict #[] } }:Ab).heap.objs.size=s.heap.objs.size+1 from Heap.size_push ..];rw[List.forIn_nil];exact aC (bA (bA h))
def Kd(PN:ae)(ps:Scope)(N:ae)(own:Nat)(fr:List Nat)(scope:Scope):Bool:=
 decide (scope.kind=.function)&&decide N.Nodup&&decide (own+fr.length=N.length)
 && (scope.names.all λy=>decide (scope.names.lookup y.1\y.2))
 && (scope.names.all λy=>if y.2=.free then decide (ps.names.lookup y.1\.cell) || decide (ps.names.lookup y.1\.free) else true)
 && ((fr.map λj=>PN[j]?) == (N.drop own).map some)
 && ((N.drop own).all λx=>decide (scope.names.lookup x\.free))
structure mz (PN:ae) (ps:Scope) (N:ae) (own:Nat) (fr:List Nat) (scope:Scope):Prop where
 kind:scope.kind=.function
 nd:N.Nodup
 len:own+fr.length=N.length
 look:∀y∈scope.names,scope.names.lookup y.1\y.2
 par:∀y∈scope.names,y.2=.free->ps.names.lookup y.1\.cell∨ps.names.lookup y.1\.free
 gM:(fr.map λj=>PN[j]?)=(N.drop own).map some
 frk:∀x∈N.drop own,scope.names.lookup x\.free
theorem mz.of{PN:ae}{ps:Scope}{N:ae}{own:Nat}{fr:List Nat}{scope:Scope}(h:Kd PN ps N own fr scope=true):mz PN ps N own fr scope:=by
 unfold Kd at h;simp only[Bool.and_eq_true,decide_eq_true_eq,List.all_eq_true,beq_iff_eq] at h;let#[#[#[#[#[#[h1,h2],h3],h4],h5],h6],h7]:=h;apply#[h1,h2,h3,h4,λy hy e=>?_,h6,h7];let q:=h5 y hy;rw[aJ e] at q;simpa using q
def Bk(own:Nat)(fr:List Nat)(σ:St):St:=List.replicate own none++fr.map λj=>(σ[j]?).join
def gU(X:Cx)(N:ae)(scope:Scope)(fp:ai)(s:Ab)(H:Hp):Cx where
 prog:=X.prog
 w:=X.w
 K:=X.K
 mg:=X.mg
 base:=X.base
 A:=X.A
 N:=N
 cz:=s
 iT:=H
 env:=jJ scope s.heap.objs.size X.env
 outer:=X.stack
 stack:=X.stack
 ex:=fp
 fn:=λx=>decide (scope.names.lookup x\.local) || decide (scope.names.lookup x\.cell)
 calm:=X.calm
 pn:=[]
 xe:=λ_ _=>False
theorem WT{ps:Scope}{env:Env}(he:env.scope=ps){x:Str}:∀{names:List (Str × NameKind)} {k:NameKind},names.lookup x\k->
  (names.map λ(n,k)=>if (k == NameKind.free&&env.scope.kind == .function&&env.kindOf n == some .cell) then (n,NameKind.cell) else (n,k)).lookup x =
   some (if (k == NameKind.free&&env.scope.kind == .function&&env.kindOf x == some .cell) then .cell else k)
 |(n,k')::r,k,h=>by
  rw[tW] at h;rw[fi];cases hb:x == n with
  |true=>
   rw[hb] at h;cases h;have e:x=n:=⇑hb
   subst e;dsimp only;split<;>simp[tW]
  |false=>
   rw[hb] at h;let ih:=WT he (env:=env) h;dsimp only;split<;>(rw[tW,hb];exact ih)
theorem Qh{env:Env}{x:Str}:∀{names:List (Str × NameKind)} {k:NameKind},(names.map λ(n,k)=>if (k == NameKind.free&&env.scope.kind == .function&&env.kindOf n == some .cell) then (n,NameKind.cell) else (n,k)).lookup x\k->∃k',names.lookup x\k'/\(k'=k∨(k'=.free/\k=.cell))
 |(n,k')::r,k,h=>by
  rw[fi] at h;rw[tW];dsimp only at h;cases hb:x == n with
  |true=>
   apply#[k',Z,?_];by_cases hc:(k' == NameKind.free&&env.scope.kind == .function&&env.kindOf n == some .cell)=true
   ·rw[aJ hc,tW,hb] at h;cases h;simp only[Bool.and_eq_true,beq_iff_eq] at hc;exact .inr #[hc.1.1,Z]
   ·rw[aE hc,tW,hb] at h;cases h;exact .inl Z
  |false=>
   have h':(r.map λ(n,k)=>if (k == NameKind.free&&env.scope.kind == .function&&env.kindOf n == some .cell) then (n,NameKind.cell) else (n,k)).lookup x\k:=by
    split at h<;>(rw[tW,hb] at h;exact h)
   exact Qh h'
theorem dF_{α:Type}{x:Str}{c:α}:∀{l r:List (Str × α)},(l++r).lookup x\c->(x,c)∈l∨(x,c)∈r:=λh=>fB.mp (pd h)
section
variable{X:Cx}{pins:List (Addr × Obj)}{σ:St}{H:Hp}{s:Ab}{N:ae}{own:Nat}{fr:List Nat}{scope:Scope}{fp:ai}
theorem V5(I:Inv X pins σ H s)(S:mz X.N X.env.scope N own fr scope){x:Str}{c:Addr}(h:(x,c)∈iM X.env scope.names []):X.env.cells.lookup x\c/\(x,NameKind.free)∈scope.names:=by
 rcases WL h with h|⟨h,e⟩
 ·cases h
 let#[c',hc]:=I.ok.has x (S.par _ h Z);apply#[?_,h];rw[e,hc];rfl
theorem Inv.block(I:Inv X pins σ H s)(S:mz X.N X.env.scope N own fr scope)(Jz:∀b∈fp,dc X pins H b)(hfo:∀b∈fp,∃o,s.heap.get? b\o) :
  Inv (gU X N scope fp s H) [] (Bk own fr σ) H { s with heap:=pushCells (s.heap.push { cls:=.type "dict",data:=.dict #[] }) scope.names }:=by
 have kept:∀b o,s.heap.get? b\o->(pushCells (s.heap.push { cls:=.type "dict",data:=.dict #[] }) scope.names).get? b\o:=λb o e=>pushCells_keeps _ _ b o (cc _ e);let Ku:=cellsFrom_ok scope.names (s.heap.push { cls:=.type "dict",data:=.dict #[] }) (s.heap.objs.size+1) [] #[λ_ _ hm=>(nomatch hm),List.Pairwise.nil] (by rw[Heap.size_push];exact br _);rw[Heap.size_push] at Ku;have ecs:cellsFrom (s.heap.objs.size+1) scope.names (iM X.env scope.names [])=cellsFrom (s.heap.objs.size+1) scope.names []++iM X.env scope.names []:=Ra _ _ [] _
 have gI:∀{x c},(cellsFrom (s.heap.objs.size+1) scope.names (iM X.env scope.names [])).lookup x\c->((x,c)∈cellsFrom (s.heap.objs.size+1) scope.names []/\(x,NameKind.cell)∈scope.names/\s.heap.objs.size+1<=c)∨(X.env.cells.lookup x\c/\(x,NameKind.free)∈scope.names):=λ{x c} h=>by
  rw[ecs] at h;rcases dF_ h with h|h
  ·apply .inl #[h,?_,(Ku.empty _ _ h).2];rcases Q_ h with q|q
   ·cases q
   exact q
  exact .inr (V5 I S h)
 have Er:∀{x c},X.env.cells.lookup x\c->c<s.heap.objs.size:=λ{x c} h=>by
  let#[v,hv]:=I.cell x c h;exact hv.lt
 have hb:∀b∈fp,b<s.heap.objs.size:=λb hb=>let #[o,e]:=hfo b hb;cm e
 apply#[#[I.ok.mod,S.kind,I.ok.glob,I.ok.blt,br _,λx y c h1 h2=>?_,λx hx=>?_,λx c hf h=>?_,I.ok.hd,I.ok.frames,.inl Z,λb yl=>#[dY (hb b yl),λx c h=>?_],I.bs,?_,λb o e yl=>?_,λb yl hs=>?_,I.stack,I.iA],
  rfl,I.bare,Un.kept kept,#[_,(Heap.Ns.new s.heap (.type "dict")).keeps (pushCells_keeps _ _),λi x v h1 h2 h3=>?_],λx c h=>?_,I.aH.fresh (br _),λx c h=>?_,λp hp=>absurd (show p∈([]:List (Addr × Obj)) from hp) Z2,I.aH.kept kept,?_]
 ·-- inj
  rcases gI h1 with⟨m1,k1,l1⟩|⟨m1,k1⟩<;>rcases gI h2 with⟨m2,k2,l2⟩|⟨m2,k2⟩
  ·exact name_of_addr Ku.apart m1 m2
  ·exact absurd (Er m2) (Nat.not_lt.mpr (Nat.le_of_succ_le l1))
  ·exact absurd (Er m1) (Nat.not_lt.mpr (Nat.le_of_succ_le l2))
  exact I.ok.inj x y c m1 m2
 ·-- has
  have key:(x,NameKind.cell)∈scope.names∨(x,NameKind.free)∈scope.names:=by
   rcases hx with hx|hx
   ·let#[k',e,q]:=Qh (env:=X.env) (show _\NameKind.cell from hx);let m:=pd e;rcases q with q|⟨q,_⟩
    ·exact .inl (q▸m)
    exact .inr (q▸m)
   let#[k',e,q]:=Qh (env:=X.env) (show _\NameKind.free from hx);let m:=pd e;rcases q with q|⟨_,q⟩
   ·exact .inr (q▸m)
   cases q
  show ∃c,(cellsFrom (s.heap.objs.size+1) scope.names (iM X.env scope.names [])).lookup x\c
  have:((cellsFrom (s.heap.objs.size+1) scope.names (iM X.env scope.names [])).lookup x).isSome=true:=by
   apply PySem.W.cellsFrom_some _ _ _ ?_;rcases key with q|q
   ·exact .inl (S.look _ q)
   let#[c,m]:=Qp (env:=X.env) (names:=scope.names) (cs:=[]) (x:=x) (.inl q);let#[c',e]:=Q9 m;exact .inr (by rw[e];rfl)
  exact Bq.mp this
 ·-- Cv
  rcases gI h with⟨_,_,l⟩|⟨_,k⟩
  ·exact Nat.le_of_succ_le l
  let e:=S.look _ k;have hf:(decide (scope.names.lookup x\.local) || decide (scope.names.lookup x\.cell))=true:=hf;rw[show scope.names.lookup x\.free from e] at hf;exact absurd hf (by decide)
 ·rcases gI h with⟨_,_,l⟩|⟨q,_⟩
  ·exact uT (iQ (hb b yl) (Nat.le_of_succ_le l))
  exact (Jz b yl).2.2.2.2.1 x c q
 ·exact ph I.ok.tS I.sz
 ·rcases (Jz b yl).2.2.2.1 with q|q
  ·exact I.ok.sr b o e q
  exact absurd (iQ (cm e) I.ok.tS) Z1
 ·rcases cq.mp (I.iz b hs) with q|q
  ·exact (Jz b yl).2.1 q
  exact (Jz b yl).2.2.1 q
 ·-- names
  have hi:own<=i:=by
   apply Nat.le_of_not_lt λdG=>?_;unfold Bk at h2;rw[yT (by rw[uS];exact dG),List.getElem?_replicate,aJ dG] at h2;cases h2
  have i6:(fr.map λj=>(σ[j]?).join)[i - own]? = some (some v):=by
   unfold Bk at h2;rw[xa (by rw[uS];exact hi),uS] at h2;exact h2
  have h1:N[i]? = some x:=h1;have hx:(N.drop own)[i - own]? = some x:=by rw[List.getElem?_drop,show own+(i - own)=i by omega];exact h1
  rw[dQ] at i6;cases ej:fr[i - own]? with
  |none=>rw[ej] at i6;cases i6
  |some j=>
   rw[ej] at i6;have i6:(σ[j]?).join\v:=d5 i6
   have vN:σ[j]? = some (some v):=by
    cases q:σ[j]? with
    |none=>rw[q] at i6;cases i6
    |some o=>rw[q] at i6;exact eI some i6
   have hN:X.N[j]? = some x:=by
    let q:=eI (λl=>l[i - own]?) S.gM;simp only[dQ,ej,hx,Option.map_some] at q;exact d5 q
   let kf:=S.frk x (dC hx);let mf:=pd kf;let#[m,hm,hv]:=I.loc;let pk:=S.par _ mf Z;let#[u,ru,lk]:=hv j x v hN vN (pk.elim (λq=>.inr (.inl q)) λq=>.inr (.inr q));apply#[u,ru,?_];have Su:X.env.kindOf x\.cell∨X.env.kindOf x\.free:=pk;rcases lk with⟨k,_⟩|⟨_,c,hc,nK⟩
   ·rw[k] at Su;rcases Su with q|q<;>cases q
   let#[c',m1]:=Qp (env:=X.env) (names:=scope.names) (cs:=[]) (x:=x) (.inl mf);let e1:=(V5 I S m1).1;rw[hc] at e1;cases e1;apply .inr #[?_,c,?_,nK.keeps kept]
   ·let q:=WT (env:=X.env) Z kf;show (relabel scope X.env).names.lookup x\.cell∨(relabel scope X.env).names.lookup x\.free;unfold relabel;rw[q];split
    ·exact .inl Z
    exact .inr Z
   let#[c2,e2]:=Bq.mp (PySem.W.cellsFrom_some (x:=x) scope.names (s.heap.objs.size+1) (iM X.env scope.names []) (.inr (by let#[c',e]:=Q9 m1;rw[e];rfl)));show (cellsFrom (s.heap.objs.size+1) scope.names (iM X.env scope.names [])).lookup x\c;rcases gI e2 with⟨_,q,_⟩|⟨q,_⟩
   ·have:=S.look _ q;rw[show scope.names.lookup x\.free from kf] at this;cases this
   rw[hc] at q;cases q;exact e2
 ·-- cells
  rcases gI h with⟨q,_,_⟩|⟨q,_⟩
  ·exact#[_,(Ku.empty _ _ q).1]
  let#[v,hv]:=I.cell x c q;exact#[v,hv.keeps kept]
 ·rcases gI h with⟨q,_,l⟩|⟨q,_⟩
  ·exact I.aH.fresh Z1
  exact I.dU x c q
 show (Bk own fr σ).length=N.length;unfold Bk;rw[dW,uS,ay];exact S.len
end
def Ir(X:Cx)(ifs:List Expr)(t:TT):Prop:=
 ∀(pins:List (Addr × Obj)) (s:Ab) (σ:St) (H:Hp) (Q:Bool->Hp->Prop),Inv X pins σ H s->t σ H Q->
  wpAny (model X.prog X.w) X.A (forIn ifs true λc r=>if r=true then do let ok <- isTrue c X.env (eval c X.env);pure (ForInStep.yield ok) else pure (ForInStep.yield r)) (TP X pins σ Q) X.xe s
def vd:TT:=λ_ H Q=>Q true H
theorem d6{σ:St}{H:Hp}{A B:Hp->Prop}(h:A H):vd σ H λb H4=>if b=true then A H4 else B H4:=by
 unfold vd;exact bO h
theorem jb{X:Cx}:Ir X [] vd:=λ_ _ _ H _ I h=>wpAny_tests_nil #[H,I,h]
theorem UK{X:Cx}{c:Expr}{t:TT}(h:PT X c t):Ir X [c] t:=λpins s σ H Q I q=>wpAny_tests_one (h pins s σ H Q I q)
def Cg(J:It)(g:TG)(tc:TT)(te:TE)(oK:St)(D:Addr)(H1:Hp)(Q:VK):Prop:=∃W:Nat->Nat->St->Hp->Prop,
 (∃m,W 0 m oK (upd H1 D (.lst [])))/\∀i m bq H',W i m bq H'->(J.stop i H'/\Q (.ref D) H') ∨
  (J.go i H'/\∃Nx:St->Hp->Prop,(∀gC H2,Nx gC H2->∃m',m'<m/\W (i+1) m' gC H2) /\
   ∀x H2,J.xf i H' x H2->g x bq H2 λj3 H3=>tc j3 H3 λb H4=>if b=true then te j3 H4 λy H5=>∃out,H5 D\.lst out/\out.length<sizeLine/\Nx j3 (upd H5 D (.lst (out++[y]))) else Nx j3 H4)
def xu(wi:TI)(own:Nat)(fr:List Nat)(g:TG)(tc:TT)(te:TE):TE:=λσ H Q=>wi σ H λJ H1=>∀D,H1 D=none->Cg J g tc te (Bk own fr σ) D H1 Q
section
variable{X:Cx}{tg iter elt:Expr}{ifs:List Expr}{scope:Scope}{pos:Pos}{wi:TI}{g:TG}{tc:TT}{te:TE}{N:ae}
theorem UN{R:Result->Ab->Prop}{own:Nat}{fr:List Nat}{pins:List (Addr × Obj)}{σ:St}{H1:Hp}{s2:Ab}{it:Addr}{fp:ai}{tn:Nat->Heap->Prop}{J:It}{D:Addr}{Q:VK}
  (S:mz X.N X.env.scope N own fr scope) (hc:X.calm=true) (hg:∀fp s H,PG (gU X N scope fp s H) tg g) (ht:∀fp s H,Ir (gU X N scope fp s H) ifs tc) (he:∀fp s H,PE (gU X N scope fp s H) elt te)
  (I3:Inv X pins σ (upd H1 D (.lst [])) s2) (T:Turn X.prog X.w X.K tg J fp it tn) (st:tn 0 s2.heap) (f2:∀b∈fp,dc X pins (upd H1 D (.lst [])) b)
  (k:Cg J g tc te (Bk own fr σ) D H1 Q)
  (hR:∀H' s',Inv X pins σ H' s'->(∃m,s'.heap.Ns s2.heap.objs.size m)->H' s2.heap.objs.size=none->Q (.ref D) H'->R (.ok .next) s') :
  codeAny (model X.prog X.w) X.A (.compStart (.ListComp elt [#[tg,iter,ifs,0]] scope pos) 0 (.ref it) (.ref D) (jJ scope s2.heap.objs.size X.env)) R
   { s2 with heap:=pushCells (s2.heap.push { cls:=.type "dict",data:=.dict #[] }) scope.names }:=by
 let#[W,#[m0,w0],turn]:=k;let I4:=I3.block (N:=N) S f2 (λb hb=>let #[o,e,_]:=T.obj _ _ st b hb;#[o,e]);have kept:∀b o,s2.heap.get? b\o->(pushCells (s2.heap.push { cls:=.type "dict",data:=.dict #[] }) scope.names).get? b\o:=λb o e=>pushCells_keeps _ _ b o (cc _ e);have fq:tn 0 (pushCells (s2.heap.push { cls:=.type "dict",data:=.dict #[] }) scope.names):=T.keep _ _ _ st λb hb o e=>kept b o e
 have fx:∀{H':Hp},(∀b∈fp,H' b=none)->∀b∈fp,dc (gU X N scope fp s2 (upd H1 D (.lst []))) [] H' b:=λhn b hb=>
  #[hn b hb,(I4.ok.JQ b hb).1,I4.ok.tD b hb,.inl hb,(I4.ok.JQ b hb).2,λp hp=>absurd (show p∈([]:List (Addr × Obj)) from hp) Z2]
 have loop:codeAny (model X.prog X.w) X.A (.compLoop (.ListComp elt [#[tg,iter,ifs,0]] scope pos) 0 (.ref it) (.ref D) (jJ scope s2.heap.objs.size X.env)) R
   { s2 with heap:=pushCells (s2.heap.push { cls:=.type "dict",data:=.dict #[] }) scope.names }:=by
  apply codeAny_loop Z (λn s'=>∃i bq H',Inv (gU X N scope fp s2 (upd H1 D (.lst []))) [] bq H' s'/\tn i s'.heap/\(∀b∈fp,H' b=none)/\W i n bq H') (λn s' hI=>?_) m0 #[0,_,_,I4,fq,λb hb=>(f2 b hb).1,w0];let#[i,bq,H',I5,gT,nR,w5]:=hI;show wpAny _ X.A ((compTurn (.ListComp elt [#[tg,iter,ifs,0]] scope pos) 0 (.ref it) (.ref D) (jJ scope s2.heap.objs.size X.env)).onRaise (λx=>do noteFrame x (jJ scope s2.heap.objs.size X.env);theTreesLotGoes x)) _ _ s';apply wpAny_noted (wpAny_mono (E:=λ_ _=>False) ?_ (λ_ _ q=>q) λ_ _ q=>q.elim);rw[compTurn_list];apply aC (wpAny_standAt (aC ?_));rcases turn i n bq H' w5 with⟨stop,q⟩|⟨go,Nx,hN,step⟩
  ·apply aV (T.done (gU X N scope fp s2 (upd H1 D (.lst []))) Z Z Z hc i [] s' bq H' _ I5 (fx nR) gT stop) λr s6 ⟨hr,I6⟩=>?_;subst hr;apply bA (hR H' s6 (I3.yF I6.os I6.base I6.aH I6.bare λb hb=>?_) ?_ I6.free q)
   ·exact#[(f2 b hb).2.2.2.1,(f2 b hb).2.1,(f2 b hb).2.2.2.2.1,(f2 b hb).2.2.2.2.2]
   let#[m,hm,_]:=I6.loc;exact#[m,hm]
  apply aV (T.item (gU X N scope fp s2 (upd H1 D (.lst []))) Z Z Z hc i [] s' bq H' _ I5 (fx nR) gT go) λr s6 ⟨u,hr,h6⟩=>?_;subst hr;apply aC (aV h6 λ_ s7 ⟨x,H7,I7,r7,y7,mJ,fr7⟩=>?_);let I7':=I7.pinned (fx fr7) (T.obj _ _ mJ)
  have back:∀{ui:St} {H8:Hp} {s8:Ab},Inv (gU X N scope fp s2 (upd H1 D (.lst []))) ([]++wU fp s7.heap) ui H8 s8->Nx ui H8->∃m,m<n/\∃i bq H',Inv (gU X N scope fp s2 (upd H1 D (.lst []))) [] bq H' s8/\tn i s8.heap/\(∀b∈fp,H' b=none)/\W i m bq H':=λ{ui H8 s8} I8 n8=>by
   let#[m',hm,w8]:=hN ui H8 n8;apply#[m',hm,i+1,ui,H8,I8.d8,T.keep _ _ _ mJ λb hb o e=>(I8.pin (b,o) (km _ (km _ (KZ hb e)))).1,λb hb=>?_,w8];let#[o,e,d]:=T.obj _ _ mJ b hb;exact (I8.pin (b,o) (km _ (km _ (KZ hb e)))).2.1
  apply aC (aV (hg fp s2 (upd H1 D (.lst [])) _ s7 bq H7 x u _ I7' r7 (step x H7 y7)) λ_ s8 ⟨ui,H8,I8,q8⟩=>?_);apply aC (aV (ht fp s2 (upd H1 D (.lst [])) _ s8 ui H8 _ I8 q8) λb s9 ⟨H9,I9,q9⟩=>?_);cases b with
  |false=>
   simp only[yQ,if_false] at q9 ⊢;exact bA #[Z,back I9 q9]
  |true=>
   simp only[if_true] at q9 ⊢;apply aC (aC (aV (he fp s2 (upd H1 D (.lst [])) _ s9 ui H9 _ I9 q9) λy DB ⟨yv,CT,I10,ZH,out,hD,hz,ZM⟩=>?_));apply aC (aV (p0 (X:=gU X N scope fp s2 (upd H1 D (.lst []))) _ DB ui CT (.ref D) [yv] (.ref D) [y] (λ_ H'=>Nx ui H') I10 Z (.cons ZH .nil) #[D,out,yv,Z,Z,hD,hz,ZM]) λ_ xF ⟨_,H11,I11,_,ZL⟩=>?_);exact bA (bA #[Z,back I11 ZL])
 exact codeAny_compStart_list loop (T.self _ 0 _ _ _ fq loop)
theorem md(N:ae)(own:Nat)(fr:List Nat)(hi:PI X tg iter wi)(hg:∀fp s H,PG (gU X N scope fp s H) tg g)(ht:∀fp s H,Ir (gU X N scope fp s H) ifs tc)(he:∀fp s H,PE (gU X N scope fp s H) elt te)
  (S:Kd X.N X.env.scope N own fr scope=true:=by kernel_rfl) (hc:X.calm=true:=by rfl) (hs:∀x,foldedSetIterable iter X.env x=pure x:=by intro _;rfl) :
  PE X (.ListComp elt [#[tg,iter,ifs,0]] scope pos) (xu wi own fr g tc te):=by
 intro pins s σ H Q I h;let S':=mz.of S;rw[eval_ListComp];have sX:closureFor scope X.env=pure (iM X.env scope.names []):=WW λx hx e=>I.ok.has x.1 (S'.par x hx e);apply wpAny_comprehension_free (use:=none) Z hs sX S'.kind (λx hx e=>by rw[S'.look x hx,e]) (aV (hi pins s σ H _ I h) λv s1 h1=>aV h1 λJn s2 h2=>?_);let#[it,fp,tn,J,H1,rfl,I2,T,dB,f2,k]:=h2;apply uB (W2 ?_);have hD:H1 s2.heap.objs.size=none:=I2.fresh;let I3:=I2.vL (ys:=[]) (its:=[]) (t':=s2.toks) .nil (gA _);have kept:∀b o,s2.heap.get? b\o->(s2.heap.push { cls:=.type "list",data:=.seq ([]:aj).toArray }).get? b\o:=λb o e=>cc _ e;apply UN (own:=own) (fr:=fr) (Q:=Q) S' hc hg ht he I3 T (T.keep _ _ _ dB λb hb o e=>kept b o e) (λb hb=>?_) (k _ hD) ?_
 ·apply#[?_,(f2 b hb).2];let#[o,e,_]:=T.obj _ _ dB b hb;rw[az (dY (cm e))];exact (f2 b hb).1
 rintro H' s' I' ⟨m,hm⟩ hn q;apply#[m,hm,λh' pL=>#[.ref s2.heap.objs.size,H',?_,Z,q]]
 exact I'.turned (t':=s'.toks) (λb o hb e=>pL.extBut b o hb e) hn (uT I3.lt) (.inr I3.sz) (λx c NP e=>by
  let#[v,hv]:=I3.cell x c NP
  exact absurd hv.lt (by rw[e];exact wW _)) λp hp e=>by
   have:=(I3.pin p hp).1;rw[e] at this;exact absurd (cm this) (wW _)
def Do(i:Nat)(te:TE):TS:=λD σ H=>te σ H λx H1=>D.nx (σ.set i (some x)) H1
theorem Hn{i:Nat}{x:Str}{px:Pos}(N:ae)(own:Nat)(fr:List Nat)(hN:X.N.Nodup)(hi':X.N[i]? = some x)(hx:Loc X.env.scope x)
  (hi:PI X tg iter wi) (hg:∀fp s H,PG (gU X N scope fp s H) tg g) (ht:∀fp s H,Ir (gU X N scope fp s H) ifs tc) (he:∀fp s H,PE (gU X N scope fp s H) elt te) {pos':Pos}
  (S:Kd X.N X.env.scope N own fr scope=true:=by kernel_rfl) (hc:X.calm=true:=by rfl) (hs:∀x,foldedSetIterable iter X.env x=pure x:=by intro _;rfl)
  (hf:X.fn x=true∨X.env.scope.names.lookup x\.local:=by first|exact .inl Z|exact .inr Z|assumption)
  (hsw:swapsWith (.ListComp elt [#[tg,iter,ifs,0]] scope pos) (some (.Name x px)) pos'.line X.env=pure true:=by rfl) :
  PS X (.Assign [.Name x px] (.ListComp elt [#[tg,iter,ifs,0]] scope pos) pos') (Do i (xu wi own fr g tc te)):=by
 intro pins s σ H E I h;let S':=mz.of S;rw[exec_Assign_Name_used _ _ _ _ hsw];apply aC (wpAny_standAt (aC ?_));show wpAny _ X.A (do let _ <- comprehension (.ListComp elt [#[tg,iter,ifs,0]] scope pos) scope X.env _ (newList []) false (eval iter X.env) (some (assign (.Name x px) X.env))) _ _ s;have sX:closureFor scope X.env=pure (iM X.env scope.names []):=WW λx hx e=>I.ok.has x.1 (S'.par x hx e)
 apply aC (wpAny_mono (wpAny_comprehension_free (use:=some (assign (.Name x px) X.env)) (Q:=λ_ s'=>SP X pins E .next s') Z hs sX S'.kind (λx hx e=>by rw[S'.look x hx,e]) (aV (hi pins s σ H _ I h) λv s1 h1=>aV h1 λJn s2 h2=>?_))
  (λ_ s' hq=>bA (bA hq)) λ_ _ e=>e)
 let#[it,fp,tn,J,H1,rfl,I2,T,dB,f2,k]:=h2;apply uB (W2 ?_);have hD:H1 s2.heap.objs.size=none:=I2.fresh;let I3:=I2.vL (ys:=[]) (its:=[]) (t':=s2.toks) .nil (gA _);have kept:∀b o,s2.heap.get? b\o->(s2.heap.push { cls:=.type "list",data:=.seq ([]:aj).toArray }).get? b\o:=λb o e=>cc _ e;apply UN (own:=own) (fr:=fr) (Q:=λx H1=>E.nx (σ.set i (some x)) H1) S' hc hg ht he I3 T (T.keep _ _ _ dB λb hb o e=>kept b o e) (λb hb=>?_) (k _ hD) ?_
 ·apply#[?_,(f2 b hb).2];let#[o,e,_]:=T.obj _ _ dB b hb;rw[az (dY (cm e))];exact (f2 b hb).1
 rintro H' s' I' ⟨m,hm⟩ hn q
 have uA:∀y c,X.env.cells.lookup y\c->c≠(s2.heap.push { cls:=.type "list",data:=.seq ([]:aj).toArray }).objs.size:=λy c NP e=>by
  let#[v,hv]:=I3.cell y c NP;exact absurd hv.lt (by rw[e];exact wW _)
 show wpAny _ X.A (assign (.Name x px) X.env (.ref s2.heap.objs.size)) _ _ s';apply wpAny_assign_Name (VF (v:=V.ref s2.heap.objs.size) I' hN hi' hx Z (λpG I'' ⟨a,zY,ha⟩=>?_) hf)
 have hCa:(s2.heap.push { cls:=.type "list",data:=.seq ([]:aj).toArray }).objs.size≠a:=by
  rcases ha with e|e
  ·rw[e];exact uT I3.lt
  exact (uA x a e).symm
 apply#[m,hm.sameBut zY hCa,λh' pL=>#[_,H',?_,q]]
 exact I''.turned (t':=pG.toks) (λb o hb e=>pL.extBut b o hb e) hn (uT I3.lt) (.inr I3.sz) uA λp hp e=>by
   have:=(I3.pin p hp).1;rw[e] at this;exact absurd (cm this) (wW _)
end
def CU(g:TG)(own:Nat)(fv:List aI)(dec:V->Hp->List aI->Prop):Prop:=
 ∀(x:V) (o:List aI) (H:Hp) (k:jX) (o3:List aI),o.length=own->dec x H o3->k (o3++fv) H->g x (o++fv) H k
theorem eL{fv:List aI}:CU (gN 0) 1 fv (λx _ o3=>o3=[some x]):=λx o H k o3 hl e h=>by
 subst e
 match o,hl with
 |[a],_=>exact h
inductive GX (K:af) (x:V) (H:Hp) (o3:List aI):Prop
 |mk:∀p u v,x=.ref p->gB K H p [u,v]->o3=[some u,some v]->GX K x H o3
inductive GW (K:af) (x:V) (H:Hp) (o3:List aI):Prop
 |mk:∀p u v w,x=.ref p->gB K H p [u,v,w]->o3=[some u,some v,some w]->GW K x H o3
theorem F3{K:af}{fv:List aI}:CU (iI K 2 (uF (gN 0) (uF (gN 1) wa))) 2 fv (GX K):=λx o H k o3 hl e h=>by
 let#[p,u,v,rfl,hp,rfl]:=e
 match o,hl with
 |[a,b],_=>exact#[p,[u,v],Z,hp,Z,u,[v],Z,v,[],Z,Z,h]
theorem N7{K:af}{fv:List aI}:CU (iI K 3 (uF (gN 0) (uF (gN 1) (uF (gN 2) wa)))) 3 fv (GW K):=λx o H k o3 hl e h=>by
 let#[p,u,v,w,rfl,hp,rfl]:=e
 match o,hl with
 |[a,b,c],_=>exact#[p,[u,v,w],Z,hp,Z,u,[v,w],Z,v,[w],Z,w,[],Z,Z,h]
theorem Kf{J:It}{g:TG}{tc:TT}{te:TE}{own:Nat}{fv:List aI}{dec:V->Hp->List aI->Prop}{D:Addr}{H:Hp}{Q:VK}{oK:St}(vN:oK=List.replicate own none++fv)(G:CU g own fv dec)(n:Nat)(Pv:Nat->ag->Hp->Prop)
  (h0:Pv 0 [] (upd H D (.lst []))) (Fe:∀out H',Pv n out H'->J.stop n H'/\Q (.ref D) H')
  (FN:∀i out H',i<n->Pv i out H'->J.go i H'/\∀x H2,J.xf i H' x H2->∃o3,dec x H2 o3/\o3.length=own/\∀Nx:Hp->Prop,(∀lN H2,Pv (i+1) lN H2->Nx H2)->
   tc (o3++fv) H2 λb H4=>if b=true then te (o3++fv) H4 λy H5=>∃fO,H5 D\.lst fO/\fO.length<sizeLine/\Nx (upd H5 D (.lst (fO++[y]))) else Nx H4) :
  Cg J g tc te oK D H Q:=by
 subst vN;apply#[λi m bq H'=>m=n - i/\i<=n/\(∃o:List aI,bq=o++fv/\o.length=own)/\∃out,Pv i out H',#[n,by simp,gA _,#[_,Z,uS],_,h0],?_];rintro i m bq H' ⟨rfl,hi,⟨o,rfl,ho⟩,out,p⟩;by_cases dG:i<n
 ·let#[go,k]:=FN i out H' dG p;apply .inr #[go,λgC H2=>(∃o:List aI,gC=o++fv/\o.length=own)/\∃out,Pv (i+1) out H2,λgC H2 q=>#[n - (i+1),by omega,Z,dG,q],λx H2 y=>?_];let#[o3,d,l3,q]:=k x H2 y;exact G x o H2 _ o3 ho d (q (λH2=>(∃o:List aI,o3++fv=o++fv/\o.length=own)/\∃out,Pv (i+1) out H2) λlN H2 z=>#[#[o3,Z,l3],lN,z])
 have e:i=n:=by omega
 subst e;exact .inl (Fe out H' p)
theorem ku{K:af}{a:Addr}{xs:ag}{g:TG}{tc:TT}{te:TE}{own:Nat}{fv:List aI}{dec:V->Hp->List aI->Prop}{D:Addr}{H:Hp}{Q:VK}{oK:St}(vN:oK=List.replicate own none++fv)(G:CU g own fv dec)(Pv:Nat->ag->Hp->Prop)
  (h0:Pv 0 [] (upd H D (.lst []))) (hl:∀i out H',i<=xs.length->Pv i out H'->dN K H' a xs) (hd:∀out H',Pv xs.length out H'->Q (.ref D) H')
  (FN:∀i x out H',xs[i]? = some x->Pv i out H'->∃o3,dec x H' o3/\o3.length=own/\∀Nx:Hp->Prop,(∀lN H2,Pv (i+1) lN H2->Nx H2)->
   tc (o3++fv) H' λb H4=>if b=true then te (o3++fv) H4 λy H5=>∃fO,H5 D\.lst fO/\fO.length<sizeLine/\Nx (upd H5 D (.lst (fO++[y]))) else Nx H4) :
  Cg (Bw K a) g tc te oK D H Q:=by
 apply Kf vN G xs.length Pv h0 (λout H' p=>#[#[xs,hl _ _ _ (br _) p,br _],hd out H' p]) λi out H' hi p=>?_;let q:=hl i out H' (Nat.le_of_lt hi) p;apply#[#[xs,xs[i],q,by simp[hi]],λx H2 y=>?_];let#[e,y]:=y;subst e;exact FN i x out _ (y xs q) p
end L2
namespace mr
open PySem PySem.W PyProof.Rows
def Ok{α:Type}(f:Nat->Nat->Bool)(n:Nat):KasT α->(α->Prop)->Prop
 |.ret a,Q=>Q a
 |.ask i j k,Q=>i<n/\j<n/\Ok f n (k (f i j)) Q
theorem Ok.bind{α β:Type}{f:Nat->Nat->Bool}{n:Nat}{g:α->KasT β}{Q:β->Prop}:∀{t:KasT α} {R:α->Prop},Ok f n t R->(∀a,R a->Ok f n (g a) Q)->Ok f n (t.bind g) Q
 |.ret a,R,h,k=>k a h
 |.ask i j t,R,h,k=>#[h.1,h.2.1,Ok.bind h.2.2 k]
theorem Ok.imp{α:Type}{f:Nat->Nat->Bool}{n:Nat}{Q R:α->Prop}(k:∀a,Q a->R a):∀{t:KasT α},Ok f n t Q->Ok f n t R
 |.ret a,h=>k a h
 |.ask i j t,h=>#[h.1,h.2.1,Ok.imp k h.2.2]
theorem Ok.wp{α:Type}{f:Nat->Nat->Bool}{n:Nat}{cmp:Nat->Nat->(Bool->Ab->Prop)->Ab->Prop}{s:Ab}(hc:∀i j C,i<n->j<n->C (f i j) s->cmp i j C s){Q:α->Prop}{G:α->Ab->Prop}(k:∀a,Q a->G a s) :
  ∀{t:KasT α},Ok f n t Q->t.kasWp cmp G s
 |.ret a,h=>k a h
 |.ask i j t,h=>hc i j _ h.1 h.2.1 (Ok.wp hc k h.2.2)
structure Ord (f:Nat->Nat->Bool):Prop where
 e_:∀i,f i i=false
 trans:∀{i j k},f j i=false->f k j=false->f k i=false
 II:∀{i j},f i j=true->f j i=false
section
variable{f:Nat->Nat->Bool}(O:Ord f){N:Nat}
abbrev at'(p:Array Nat)(i:Nat):Nat:=p.getD i 0
def Up(f:Nat->Nat->Bool)(p:Array Nat)(k:Nat):Prop:=∀i j,i<=j->j<k->f (at' p j) (at' p i)=false
def Down(f:Nat->Nat->Bool)(p:Array Nat)(k:Nat):Prop:=∀i j,i<=j->j<k->f (at' p i) (at' p j)=false
def pA(f:Nat->Nat->Bool)(p:Array Nat)(lo k:Nat):Prop:=∀i,lo<=i->i<k->f (at' p i) (at' p (k - 1))=false/\f (at' p (k - 1)) (at' p i)=false
def Good(N:Nat)(p:Array Nat):Prop:=p.Perm (List.range N).toArray
theorem Good.size{p:Array Nat}(h:Good N p):p.size=N:=by
 have:=h.size_eq;simpa using this
theorem Good.lt{p:Array Nat}(h:Good N p)(hN:0<N)(i:Nat):at' p i<N:=by
 unfold at';by_cases hi:i<p.size
 ·have e:p.getD i 0=p[i]:=by simp[Array.getD,hi]
  rw[e];have m:p[i]∈(List.range N).toArray:=h.mem_iff.mp (Array.getElem_mem hi);simpa using m
 have e:p.getD i 0=0:=by simp[Array.getD,hi]
 rw[e];exact hN
theorem Good.rev{p:Array Nat}(h:Good N p)(i j:Nat):Good N (kas_rev p i j):=(mirror_perm _ _ _ _).trans h
theorem Good.bub{p:Array Nat}(h:Good N p)(i j:Nat):Good N (bubble p i j):=(bubble_perm _ _ _).trans h
theorem HL{p q:Array Nat}{i j:Nat}(h:p[i]? = q[j]?):at' p i=at' q j:=by
 unfold at';rw[Array.getD_eq_getD_getElem?,Array.getD_eq_getD_getElem?,h]
theorem A8{p:Array Nat}{i j:Nat}(hj:j<=p.size)(k:Nat):at' (kas_rev p i j) k=if i<=k/\k<j then at' p (i+j - 1 - k) else at' p k:=by
 let e:=getElem?_mirror_all (i:=i) hj k;unfold kas_rev;split
 ·rename_i c
  rw[aJ c] at e;exact HL e
 rename_i c
 rw[aE c] at e;exact HL e
theorem Td{p:Array Nat}{k l:Nat}(hk:k<p.size)(hl:l<=k)(i:Nat):at' (bubble p k (k - l)) i=if i=l then at' p k else if l<i/\i<=k then at' p (i - 1) else at' p i:=by
 let e:=getElem?_bubble hk (k - l) Z1 i;rw[show k - (k - l)=l by omega] at e;by_cases c:i=l
 ·rw[aJ c] at e ⊢;exact HL e
 rw[aE c] at e ⊢;split
 ·rename_i d
  rw[aJ d] at e;exact HL e
 rename_i d
 rw[aE d] at e;exact HL e
include O
theorem Up.more{p:Array Nat}{n:Nat}(h:Up f p n)(h1:1<=n)(c:f (at' p n) (at' p (n - 1))=false):Up f p (n+1):=λi j nJ hj=>by
 by_cases e:j<n
 ·exact h i j nJ e
 have e:j=n:=by omega
 subst e;by_cases e2:i=j
 ·subst e2;exact O.e_ _
 exact O.trans (h i (j - 1) Z1 Z1) c
theorem Down.more{p:Array Nat}{n:Nat}(h:Down f p n)(h1:1<=n)(c:f (at' p (n - 1)) (at' p n)=false):Down f p (n+1):=λi j nJ hj=>by
 by_cases e:j<n
 ·exact h i j nJ e
 have e:j=n:=by omega
 subst e;by_cases e2:i=j
 ·subst e2;exact O.e_ _
 exact O.trans c (h i (j - 1) Z1 Z1)
theorem Ol{p:Array Nat}(g:Good N p)(hN:0<N):∀(m n:Nat),1<=n->Up f p n->Ok f N (kas_asc p m n) λr=>n<=r/\r<=n+m/\Up f p r/\(r<n+m->f (at' p r) (at' p (r - 1))=true)
 |0,n,_,h=>#[br _,br _,h,λq=>absurd q Z1]
 |m+1,n,h1,h=>by
  apply#[g.lt hN _,g.lt hN _,?_];dsimp only;by_cases c:f (at' p n) (at' p (n - 1))=true
  ·rw[aJ c];exact#[br _,by omega,h,λ_=>c]
  rw[aE c];apply (Ol g hN m (n+1) Z1 (h.more O h1 ⇑c)).imp λr ⟨a,b,u,z⟩=>#[by omega,by omega,u,λq=>z Z1]
theorem pA.rev{p:Array Nat}{lo k:Nat}(h:pA f p lo k)(hk:k<=p.size)(i:Nat):f (at' (kas_rev p lo k) i) (at' p i)=false/\f (at' p i) (at' (kas_rev p lo k) i)=false:=by
 rw[A8 hk];split
 ·rename_i c
  let#[a1,a2]:=h i c.1 c.2;let#[b1,b2]:=h (lo+k - 1 - i) Z1 Z1;exact#[O.trans a2 b1,O.trans b2 a1]
 exact#[O.e_ _,O.e_ _]
theorem Down.rev{p:Array Nat}{lo k n:Nat}(h:Down f p n)(l:pA f p lo k)(hk:k<=p.size):Down f (kas_rev p lo k) n:=λi j nJ hj=>by
 let#[a1,_]:=l.rev O hk i;let#[_,b2]:=l.rev O hk j;exact O.trans (O.trans b2 (h i j nJ hj)) a1
theorem Kk(hN:0<N):∀(m:Nat) (p:Array Nat) (n q:Nat),Good N p->1<=n->q+1<=n->n+m<=N->Down f p n->pA f p (n - (q+1)) n->
  Ok f N (kas_desc m p n q) λr=>Good N r.1/\n<=r.2.1/\r.2.1<=n+m/\Down f r.1 r.2.1/\r.2.2+1<=r.2.1/\pA f r.1 (r.2.1 - (r.2.2+1)) r.2.1
 |0,p,n,q,g,h1,hq,hn,d,l=>#[g,br _,br _,d,hq,l]
 |m+1,p,n,q,g,h1,hq,hn,d,l=>by
  apply#[g.lt hN _,g.lt hN _,?_];dsimp only;by_cases c:f (at' p n) (at' p (n - 1))=true
  ·rw[aJ c];have d2:Down f p (n+1):=d.more O h1 (O.II c)
   have one:∀p':Array Nat,pA f p' (n+1 - (0+1)) (n+1):=λp' i h2 h3=>by
    have e:i=n+1 - 1:=by omega
    subst e;exact#[O.e_ _,O.e_ _]
   by_cases TL:q > 0
   ·rw[aJ TL];have hk:n<=p.size:=by rw[g.size];omega
    exact (Kk hN m _ (n+1) 0 (g.rev _ _) Z1 Z1 Z1 (d2.rev O l hk) (one _)).imp λr ⟨a,b,b2,z⟩=>#[a,by omega,by omega,z]
   rw[aE TL];exact (Kk hN m _ (n+1) 0 g Z1 Z1 Z1 d2 (one _)).imp λr ⟨a,b,b2,z⟩=>#[a,by omega,by omega,z]
  rw[aE c];apply#[g.lt hN _,g.lt hN _,?_];dsimp only;have c:f (at' p n) (at' p (n - 1))=false:=⇑c
  by_cases e:f (at' p (n - 1)) (at' p n)=true
  ·rw[aJ e];exact#[g,br _,by show n<=n+(m+1);omega,d,hq,l]
  rw[aE e];have e:f (at' p (n - 1)) (at' p n)=false:=⇑e
  apply (Kk hN m p (n+1) (q+1) g Z1 Z1 Z1 (d.more O h1 e) λi h2 h3=>?_).imp λr ⟨a,b,b2,z⟩=>#[a,by omega,by omega,z];show f (at' p i) (at' p n)=false/\f (at' p n) (at' p i)=false;by_cases ei:i=n
  ·subst ei;exact#[O.e_ _,O.e_ _]
  let#[a1,a2]:=l i Z1 Z1;exact#[O.trans e a1,O.trans a2 c]
def Pa(f:Nat->Nat->Bool)(N c_:Nat)(r:Nat × Array Nat):Prop:=Good N r.2/\1<=r.1/\r.1<=c_/\Up f r.2 r.1
theorem UU(hN:0<N){p:Array Nat}{n c_:Nat}(g:Good N p)(h1:1<=n)(hn:n<=c_)(hr:c_<=N)(d:Down f p n):Ok f N (kas_tail3 n c_ p) (Pa f N c_):=by
 unfold kas_tail3
 have u:Up f (kas_rev p 0 n) n:=λi j nJ hj=>by
  rw[A8 (by rw[g.size];omega),A8 (by rw[g.size];omega),aJ Z1,aJ Z1];exact d _ _ Z1 Z1
 exact (Ol O (g.rev _ _) hN (c_ - n) n h1 u).bind λm ⟨a,b,u,_⟩=>#[g.rev _ _,by show 1<=m;omega,by show m<=c_;omega,u]
theorem W6(hN:0<N){p:Array Nat}{n c_:Nat}(g:Good N p)(hn:n+1<=c_)(hr:c_<=N)(d:Down f p (n+1)):Ok f N (kas_descPart n c_ p) (Pa f N c_):=by
 unfold kas_descPart;apply (Kk O hN (c_ - (n+1)) p (n+1) 0 g Z1 Z1 Z1 d λi h2 h3=>?_).bind λr ⟨g',a,b,d',hq,l⟩=>?_
 ·have e:i=n+1 - 1:=by omega
  subst e;exact#[O.e_ _,O.e_ _]
 split
 ·exact UU O hN (g'.rev _ _) Z1 Z1 hr (d'.rev O l (by rw[g'.size];omega))
 exact UU O hN g' Z1 Z1 hr d'
theorem iH_(hN:0<N){p:Array Nat}{c_:Nat}(g:Good N p)(h1:1<=c_)(hr:c_<=N):Ok f N (kas_count c_ p) (Pa f N c_):=by
 unfold kas_count;apply (Ol O g hN (c_ - 1) 1 (br _) λi j nJ hj=>?_).bind λn ⟨a,b,u,st⟩=>?_
 ·have e:i=j:=by omega
  subst e;exact O.e_ _
 by_cases e:(n == c_)=true
 ·rw[aJ e];exact#[g,a,by show n<=c_;omega,u]
 rw[aE e];have e:n≠c_:=⇑e
 let c:=st Z1;by_cases h2:n > 1
 ·rw[aJ h2];apply#[g.lt hN _,g.lt hN _,?_];dsimp only;by_cases c2:f (at' p 0) (at' p (n - 1))=true
  ·rw[aJ c2];exact#[g,a,by show n<=c_;omega,u]
  rw[aE c2];have c2:f (at' p 0) (at' p (n - 1))=false:=⇑c2
  apply W6 O hN (g.rev _ _) Z1 hr λi j nJ hj=>?_;by_cases ej:j<n
  ·rw[A8 (by rw[g.size];omega),A8 (by rw[g.size];omega),aJ Z1,aJ Z1];exact u _ _ Z1 Z1
  have ej:j=n:=by omega
  subst ej;by_cases ei:i=j
  ·subst ei;exact O.e_ _
  rw[A8 (by rw[g.size];omega),A8 (by rw[g.size];omega),aJ Z1,aE Z1];exact O.trans (O.trans (O.II c) c2) (u 0 _ Z1 Z1)
 rw[aE h2];have e1:n=1:=by omega
 subst e1;apply W6 O hN g Z1 hr λi j nJ hj=>?_;by_cases ei:i=j
 ·subst ei;exact O.e_ _
 have q1:i=0:=by omega
 have q2:j=1:=by omega
 subst q1;subst q2;exact O.II c
theorem P3(hN:0<N){p:Array Nat}{k:Nat}(g:Good N p)(u:Up f p k):∀(m l r:Nat),r - l<=m->l<=r->r<=k->(∀i,i<l->f (at' p k) (at' p i)=false)->(∀i,r<=i->i<k->f (at' p k) (at' p i)=true)->
  Ok f N (kas_place p k m l r) λx=>x<=k/\(∀i,i<x->f (at' p k) (at' p i)=false)/\∀i,x<=i->i<k->f (at' p k) (at' p i)=true
 |0,l,r,hm,hl,hr,h1,h2=>by
  have e:l=r:=by omega
  subst e;exact#[hr,h1,h2]
 |m+1,l,r,hm,hl,hr,h1,h2=>by
  unfold kas_place;by_cases e:l ≥ r
  ·rw[aJ e];have e:l=r:=by omega
   subst e;exact#[hr,h1,h2]
  rw[aE e];apply#[g.lt hN _,g.lt hN _,?_];dsimp only;by_cases c:f (at' p k) (at' p ((l+r) / 2))=true
  ·rw[aJ c];apply P3 hN g u m l _ Z1 Z1 Z1 h1 λi h3 h4=>?_;by_cases ei:f (at' p k) (at' p i)=true
   ·exact ei
   have ei:f (at' p k) (at' p i)=false:=⇑ei
   have:=O.trans (u _ i h3 h4) ei;rw[c] at this;cases this
  rw[aE c];have c:f (at' p k) (at' p ((l+r) / 2))=false:=⇑c
  exact P3 hN g u m _ r Z1 Z1 hr (λi h3=>O.trans (u i _ Z1 Z1) c) h2
theorem Th(hN:0<N):∀(m:Nat) (p:Array Nat) (k:Nat),Good N p->k+m=N->Up f p k->Ok f N (kas_bin m p k) λr=>Good N r/\Up f r N
 |0,p,k,g,e,u=>by
  have e:k=N:=by omega
  subst e;exact#[g,u]
 |m+1,p,k,g,e,u=>by
  unfold kas_bin;apply (P3 O hN g u k 0 k Z1 Z1 (br _) (λi h=>absurd h Z1) λi h1 h2=>absurd h2 Z1).bind λl ⟨hl,h1,h2⟩=>?_;have hk:k<p.size:=by rw[g.size];omega
  apply Th hN m _ (k+1) (g.bub _ _) Z1 λi j nJ hj=>?_;rw[Td hk hl,Td hk hl];by_cases ej:j=l
  ·rw[aJ ej];by_cases ei:i=l
   ·rw[aJ ei];exact O.e_ _
   rw[aE ei,aE Z1];exact h1 i Z1
  rw[aE ej];by_cases VI:l<j/\j<=k
  ·rw[aJ VI];by_cases ei:i=l
   ·rw[aJ ei];exact O.II (h2 (j - 1) Z1 Z1)
   rw[aE ei];by_cases VL:l<i/\i<=k
   ·rw[aJ VL];exact u _ _ Z1 Z1
   rw[aE VL];exact u _ _ Z1 Z1
  rw[aE VI];rw[aE (show ¬i=l by omega),aE (show ¬(l<i/\i<=k) by omega)];exact u _ _ Z1 Z1
theorem TC(hN:0<N):Ok f N (kas_sort N) λp=>Good N p/\Up f p N:=by
 unfold kas_sort;apply (iH_ O hN (p:=(List.range N).toArray) (Array.Perm.refl _) hN (br _)).bind λr ⟨g,h1,h2,u⟩=>?_;split
 ·rename_i c
  rw[show max r.1 1=r.1 by omega];exact Th O hN _ _ _ g Z1 u
 rename_i c
 have e:r.1=N:=by omega
 exact#[g,e▸u]
end
end mr
namespace mr
open PySem PySem.W PyProof.Rows
section
variable{prog:Ad}{w:Af}{A:Ag}{E:Aa->Ab->Prop}{s:Ab}
def xc(prog:Ad)(w:Af)(A:Ag)(f:Nat->Nat->Bool)(vs:aj)(s:Ab):Prop:=
 ∃κ,(∀Q:SortKind->Ab->Prop,Q κ s->wpAny (model prog w) A (keyKind' vs.toArray) Q (λ_ _=>False) s)/\∀i j C,i<vs.length->j<vs.length->C (f i j) s->kas_ask prog w A κ vs i j C s
def HV(a:Addr)(h h':Heap):Prop:=∀b o,b≠a->h.get? b\o->h'.get? b\o
def me(p:Array Nat)(vs:aj):aj:=p.toList.map λi=>vs.getD i Value.none
theorem W3(vs:aj):me (List.range vs.length).toArray vs=vs:=by
 unfold me;apply List.ext_getElem? ?_;intro i;simp only[dQ];by_cases h:i<vs.length
 ·simp[h]
 simp[Nat.le_of_not_lt h]
theorem iJ_{a:Addr}{vs:aj}{n:Nat}{f:Nat->Nat->Bool}{P:Fin->Ab->Prop}(O:Ord f)(ho:s.heap.get? a\seqObj "list" vs.toArray n)(bU:vs.length<64)
  (Aw:2<=vs.length->∀h',HV a s.heap h'->xc prog w A f vs { s with heap:=h' })
  (h:∀(p:Array Nat) (h':Heap) (e:Nat),Good vs.length p->Up f p vs.length->h'.get? a\seqObj "list" (me p vs).toArray e->HV a s.heap h'->P (.done (.ret .none)) { s with heap:=h' }) :
  wpAny (model prog w) A (Builtin.«list.sort» #[[.ref a],[]]) P E s:=by
 have haz:a<s.heap.objs.size:=cm ho;obtain⟨e1,BS⟩:∃e1,(s.heap.update a (Obj.mapSeq λ_=>(#[]:Array Aa))).get? a\seqObj "list" #[] e1:=#[_,get?_update_seq ho (λ_=>#[])]
 have MJ:vs.length<=sizeLine:=by
  have:=b_;omega
 rw[list_sort_plain];apply aC (listItems_at ho Z (aC (listUpdate_at ho Z (aC (seqEpoch_at BS Z (aC (wpAny_newTuple (aC (wpAny_newList (wpAny_holding ?_) (gA _))) MJ)))) ⇑MJ (gA _))))
 have keep:∀g:Array Aa->Array Aa,HV a s.heap ((((s.heap.update a (Obj.mapSeq λ_=>(#[]:Array Aa))).push (seqObj "tuple" vs.toArray 0)).push (seqObj "list" #[] 0)).update a (Obj.mapSeq g)):=λg b o hb e=>by
  apply (l8 _ _ (Ne.symm hb)).trans (cc _ (cc _ ?_));exact (l8 _ _ (Ne.symm hb)).trans e
 have EV:HV a s.heap (((s.heap.update a (Obj.mapSeq λ_=>(#[]:Array Aa))).push (seqObj "tuple" vs.toArray 0)).push (seqObj "list" #[] 0)):=λb o hb e=>
  cc _ (cc _ ((l8 _ _ (Ne.symm hb)).trans e))
 have BR:(((s.heap.update a (Obj.mapSeq λ_=>(#[]:Array Aa))).push (seqObj "tuple" vs.toArray 0)).push (seqObj "list" #[] 0)).get? a\seqObj "list" #[] e1:=cc _ (cc _ BS);show wpAny (model prog w) A _ P E { s with heap:=((s.heap.update a (Obj.mapSeq λ_=>(#[]:Array Aa))).push (seqObj "tuple" vs.toArray 0)).push (seqObj "list" #[] 0) };dsimp only;by_cases h2:vs.toArray.size<2
 ·rw[aJ h2,aJ h2];apply aC (bA ?_);rw[StateT.run_pure]
  have wj:((vs.toArray.zip vs.toArray).map λx:Keyed=>x.2)=(me (List.range vs.length).toArray vs).toArray:=by
   rw[W3];apply Array.ext' ?_;simp[List.map_snd_zip]
  apply aC (bA (aC (seqEpoch_at BR Z (aC (listUpdate_at BR Z ?_ (gA _) ?_)))))
  ·simp only[bne_self_eq_false,yQ,if_false];apply bA (h (List.range vs.length).toArray _ _ (Array.Perm.refl _) (λi j nJ hj=>?_) ((get?_update_seq BR _).trans (eI (λz=>some (seqObj "list" z _)) wj)) (keep _))
   have e:i=j:=by
    simp only[cX] at h2;omega
   subst e;exact O.e_ _
  have e:((vs.toArray.zip vs.toArray).map λx:Keyed=>x.2).size<=sizeLine+1:=by
   simp only[Array.size_map,Array.size_zip,cX];omega
  exact e
 rw[aE h2,aE h2]
 have i6:2<=vs.length:=by
  simp only[cX] at h2;omega
 let#[κ,hk,hc]:=Aw i6 _ EV;apply aC (wpAny_mono (hk (λk s'=>k=κ/\s'=_) #[Z,Z]) (λk s' FE=>?_) λ_ _ x=>x.elim);let#[rfl,rfl]:=FE
 apply aC (wpAny_mono (kat_run (ks:=vs) (vs:=vs) (G:=λp s'=>s'={ s with heap:=((s.heap.update a (Obj.mapSeq λ_=>(#[]:Array Aa))).push (seqObj "tuple" vs.toArray 0)).push (seqObj "list" #[] 0) }/\Good vs.length p/\Up f p vs.length)
  (Q:=λft s'=>∃p:Array Nat,arrOf ft=p.map (kas_item (vs.toArray.zip vs.toArray))/\failedOf ft=none/\s'={ s with heap:=((s.heap.update a (Obj.mapSeq λ_=>(#[]:Array Aa))).push (seqObj "tuple" vs.toArray 0)).push (seqObj "list" #[] 0) }/\Good vs.length p/\Up f p vs.length)
  rfl i6 bU (λp ft s' _ q1 q2 q3=>#[p,q1,q2,q3]) (Ok.wp hc (λp q=>#[Z,q]) (TC O Z1))) ?_ λ_ _ x=>x)
 rintro⟨⟨⟩,ft⟩ s' ⟨p,NS,hf,pL,g,u⟩;have pL:s'={ s with heap:=((s.heap.update a (Obj.mapSeq λ_=>(#[]:Array Aa))).push (seqObj "tuple" vs.toArray 0)).push (seqObj "list" #[] 0) }:=pL;subst pL
 have wj:((arrOf ft).map λx:Keyed=>x.2)=(me p vs).toArray:=by
  rw[NS];apply Array.ext' ?_;unfold me;simp only[Array.map_map,Array.toList_map,List.toList_toArray];apply uR λi _=>?_;show (kas_item (vs.toArray.zip vs.toArray) i).2=_;unfold kas_item;by_cases hi:i<vs.length
  ·simp[Array.getD,hi]
  simp[Array.getD,hi,Nat.le_of_not_lt hi]
 have esz:((arrOf ft).map λx:Keyed=>x.2).size=vs.length:=by
  rw[wj];unfold me;simp only[cX,ay,tY];exact g.size
 apply aC (seqEpoch_at BR Z (aC (listUpdate_at BR Z ?_ (gA _) (by rw[esz];omega))));rw[hf];simp only[bne_self_eq_false,yQ,if_false];exact bA (h p _ _ g u ((get?_update_seq BR _).trans (eI (λz=>some (seqObj "list" z _)) wj)) (keep _))
theorem Wq{x:Aa}{f:Nat->Nat->Bool}{Q:Aa->Ab->Prop}(O:Ord f)
  (lW:wpAny (model prog w) A.in1 (collect x) (λvs s1=>vs.length<64/\(2<=vs.length->∀h':Heap,(∀b o,s1.heap.get? b\o->h'.get? b\o)->xc prog w A.in1.in1 f vs { s1 with heap:=h' }) /\
   ∀(p:Array Nat) (h':Heap) (e:Nat),Good vs.length p->Up f p vs.length->h'.get? s1.heap.objs.size\seqObj "list" (me p vs).toArray e->(∀b o,s1.heap.get? b\o->h'.get? b\o)->Q (.ref s1.heap.objs.size) { s1 with heap:=h' }) E s) :
  wpAny (model prog w) A (call (.builtin "sorted") [x]) Q E s:=by
 apply Calls.call_function_entry kind_sorted plain_sorted entry_sorted (args_sorted1 _) ?_;unfold Builtin.«sorted»;apply aC (m:=checkCount "sorted" 1 1 _) (bA (aC (wpAny_mono lW (λvs s1 q=>?_) λ_ _ z=>z)));let#[bU,Aw,hQ]:=q;apply aC (wpAny_newList ?_ (by have:=b_;omega));have hn:(s1.heap.push (seqObj "list" vs.toArray 0)).get? s1.heap.objs.size\seqObj "list" vs.toArray 0:=eJ _ Z
 have old:∀h',HV s1.heap.objs.size (s1.heap.push (seqObj "list" vs.toArray 0)) h'->∀b o,s1.heap.get? b\o->h'.get? b\o:=λh' k b o e=>
  k b o (dY (cm e)) (cc _ e)
 apply aC (wpAny_holding (wpAny_call_entry slot_list_sort #[_,hn,Z] entry_list_sort (iJ_ O hn bU (λh2 h' k=>Aw h2 h' (old h' k)) λp h' e g u q k=>#[_,Z,?_]) (args_list_sort _)));exact bA #[_,Z,hQ p h' e g u q (old h' k)]
end
end mr
namespace L2
open PySem PySem.Spec PyProof.Rows PySem.W mr
def iX:Key->Key->Bool
 |.inl i,.inl j=>decide (i<j)
 |.inl _,.inr _=>true
 |.inr _,.inl _=>false
 |.inr x,.inr y=>decide (x.cps.toList<y.cps.toList)
def bK:aA->aA->Bool
 |[],[]=>false
 |[],_::_=>true
 |_::_,[]=>false
 |a::r,b::q=>if a=b then bK r q else iX a b
theorem UY:∀a:Key,iX a a=false
 |.inl i=>by simp[iX]
 |.inr x=>by simp[iX,List.lt_irrefl]
theorem VU:∀{a b:Key},iX a b=true->iX b a=false
 |.inl i,.inl j,h=>by
  simp only[iX,decide_eq_true_eq,decide_eq_false_iff_not] at *;omega
 |.inl _,.inr _,_=>rfl
 |.inr _,.inl _,h=>by cases h
 |.inr x,.inr y,h=>by
  simp only[iX,decide_eq_true_eq,decide_eq_false_iff_not] at *;exact λq=>List.lt_irrefl _ (List.lt_trans h q)
theorem UF:∀{a b:Key},iX a b=false->iX b a=false->a=b
 |.inl i,.inl j,h,h2=>by
  simp only[iX,decide_eq_false_iff_not] at *;rw[show i=j by omega]
 |.inl _,.inr _,h,_=>by cases h
 |.inr _,.inl _,_,h=>by cases h
 |.inr x,.inr y,h,h2=>by
  simp only[iX,decide_eq_false_iff_not] at *;rw[ext_toList (List.le_antisymm (List.not_lt.mp h2) (List.not_lt.mp h))]
theorem hR_:∀{a b c:Key},iX a b=true->iX b c=true->iX a c=true
 |.inl i,.inl j,.inl k,h,h2=>by
  simp only[iX,decide_eq_true_eq] at *;omega
 |.inl _,.inl _,.inr _,_,_=>rfl
 |.inl _,.inr _,.inr _,_,_=>rfl
 |.inl _,.inr _,.inl _,_,h=>by cases h
 |.inr _,.inl _,_,h,_=>by cases h
 |.inr _,.inr _,.inl _,_,h=>by cases h
 |.inr x,.inr y,.inr z,h,h2=>by
  simp only[iX,decide_eq_true_eq] at *;exact List.lt_trans h h2
theorem P0:∀a:aA,bK a a=false
 |[]=>rfl
 |a::r=>by
  unfold bK;rw[aJ Z];exact P0 r
theorem Qj:∀{a b:aA},bK a b=true->bK b a=false
 |[],[],h=>by cases h
 |[],_::_,_=>rfl
 |_::_,[],h=>by cases h
 |a::r,b::q,h=>by
  unfold bK at h ⊢;by_cases e:a=b
  ·rw[aJ e] at h;rw[aJ e.symm];exact Qj h
  rw[aE e] at h;rw[aE (Ne.symm e)];exact VU h
theorem PR:∀{a b:aA},bK a b=false->bK b a=false->a=b
 |[],[],_,_=>rfl
 |[],_::_,h,_=>by cases h
 |_::_,[],_,h=>by cases h
 |a::r,b::q,h,h2=>by
  unfold bK at h h2;by_cases e:a=b
  ·rw[aJ e] at h;rw[aJ e.symm] at h2;rw[e,PR h h2]
  rw[aE e] at h;rw[aE (Ne.symm e)] at h2;exact absurd (UF h h2) e
theorem WS:∀{a b c:aA},bK a b=true->bK b c=true->bK a c=true
 |[],_,[],h,h2=>by
  rename_i b
  cases b with
  |nil=>cases h
  |cons _ _=>cases h2
 |[],_,_::_,_,_=>rfl
 |_::_,[],_,h,_=>by cases h
 |_::_,_::_,[],_,h=>by cases h
 |a::r,b::q,c::t,h,h2=>by
  unfold bK at h h2 ⊢;by_cases e:a=b
  ·subst e;rw[aJ Z] at h;by_cases e2:a=c
   ·rw[aJ e2] at h2 ⊢;exact WS h h2
   rw[aE e2] at h2 ⊢;exact h2
  rw[aE e] at h;by_cases e2:b=c
  ·subst e2;rw[aE e];exact h
  rw[aE e2] at h2;let h3:=hR_ h h2;rw[aE (λq=>by rw[q,UY] at h3;cases h3)];exact h3
theorem Wv{a b c:aA}(h:bK b a=false)(h2:bK c b=false):bK c a=false:=by
 cases e:bK c a with
 |false=>rfl
 |true=>
  by_cases e1:bK a b=true
  ·have:=WS e e1;rw[h2] at this;cases this
  have e1:bK a b=false:=⇑e1
  have:=PR e1 h;subst this;rw[h2] at e;cases e
def yV(ks:List aA):Prop:=ks.Pairwise λa b=>bK b a=false
theorem Qm:∀{a b:List aA},a.Perm b->yV a->yV b->a=b
 |[],b,p,_,_=>by
  have:=p.length_eq;cases b with
  |nil=>rfl
  |cons _ _=>cases this
 |x::r,[],p,_,_=>by
  have:=p.length_eq;cases this
 |x::r,y::q,p,h1,h2=>by
  let#[a1,a2]:=List.pairwise_cons.mp h1;let#[b1,b2]:=List.pairwise_cons.mp h2
  have e:x=y:=by
   rcases cq.mp (p.mem_iff.mp eP) with m|m
   ·exact m
   rcases cq.mp (p.mem_iff.mpr eP) with m2|m2
   ·exact m2.symm
   exact PR (b1 _ m) (a1 _ m2)
  subst e;rw[Qm ((List.perm_cons _).mp p) a2 b2]
def aX(ks:List aA):List aA:=ks.mergeSort λa b=>!bK b a
theorem mj(ks:List aA):(aX ks).Perm ks:=List.mergeSort_perm _ _
theorem Wt(ks:List aA):yV (aX ks):=by
 have:=List.pairwise_mergeSort (le:=λa b=>!bK b a) (λa b c h1 h2=>by
  simp only[Bool.not_eq_true'] at *;exact Wv h1 h2) (λa b=>by
  simp only[Bool.or_eq_true,Bool.not_eq_true'];by_cases e:bK b a=true
  ·exact .inr (Qj e)
  exact .inl ⇑e) ks
 exact this.imp λh=>by simpa using h
theorem QO{ks sF:List aA}(p:sF.Perm ks)(h:yV sF):sF=aX ks:=Qm (p.trans (mj ks).symm) h (Wt ks)
theorem Ie{α:Type}{p:Array Nat}{n:Nat}(g:Good n p)(F:Nat->α):(p.toList.map F).Perm ((List.range n).map F):=by
 have e:p.toList.Perm (List.range n):=by
  have:=Array.perm_iff_toList_perm.mp g;simpa using this
 exact e.map F
theorem O2{p:Array Nat}{ks:List aA}{f:Nat->Nat->Bool}(hf:∀i j,i<ks.length->j<ks.length->f i j=bK (ks.getD i []) (ks.getD j []))(g:Good ks.length p)(u:Up f p ks.length):yV (p.toList.map λi=>ks.getD i []):=by
 unfold yV;rw[tX,List.pairwise_iff_getElem];intro i j hi hj nJ;let hs:=g.size;rw[tY] at hi hj;have hj':j<ks.length:=by omega
 let q:=u i j (Nat.le_of_lt nJ) hj';have hN:0<ks.length:=by omega
 rw[hf _ _ (g.lt hN _) (g.lt hN _)] at q;have e1:at' p i=p.toList[i]:=by simp[at',Array.getD,hi]
 have e2:at' p j=p.toList[j]:=by simp[at',Array.getD,hj]
 rw[e1,e2] at q;exact q
theorem Pk(ks:List aA):Ord λi j=>bK (ks.getD i []) (ks.getD j []):=#[λ_=>P0 _,λh h2=>Wv h h2,λh=>Qj h]
theorem Ip{α:Type}(d:α)(l:List α):((List.range l.length).map λi=>l.getD i d)=l:=by
 apply List.ext_getElem? ?_;intro i;simp only[dQ];by_cases h:i<l.length
 ·simp[h]
 simp[Nat.le_of_not_lt h]
theorem Pw{ys:ag}{vs:aj}(r:Vals ys vs){p:Array Nat}(g:Good vs.length p):Vals (p.toList.map λi=>ys.getD i .non) (me p vs):=by
 unfold me
 have key:∀l:List Nat,(∀i∈l,i<vs.length)->Vals (l.map λi=>ys.getD i .non) (l.map λi=>vs.getD i Value.none):=λl=>by
  induction l with
  |nil=>exact λ_=>.nil
  |cons i l ih=>
   intro h;apply .cons ?_ (ih λj hj=>h j (eA _ hj));let hi:=h i eP;have hy:i<ys.length:=by rw[r.length];exact hi
   let#[u,hu,ru]:=r.get (cg hy);have e1:ys.getD i .non=ys[i]:=by simp[hy]
   have e2:vs.getD i Value.none=u:=by simp[hu]
   show RelV (ys.getD i .non) (vs.getD i Value.none);rw[e1,e2];exact ru
 apply key p.toList λi hi=>?_;have m:i∈(List.range vs.length).toArray:=g.mem_iff.mp ⇑hi;simpa using m
theorem UO:∀{ss:ae} {vs:aj},Vals (ss.map V.str) vs->StrsAre vs ss
 |[],_,.nil=>.nil
 |x::r,_,.cons h t=>by
  let#[tk,rfl]:=h;exact .cons x tk (UO t)
def ma(ss:ae):ae:=(aX (ss.map λx=>[Sum.inr x])).map λk=>match k with
 |[.inr x]=>x
 |_=>⟨#[]⟩
def cE(x:Str):aA:=[Sum.inr x]
theorem gK_{prog:Ad}{w:Af}{A:Ag}{s:Ab}{ss:ae}{vs:aj}(r:StrsAre vs ss)(h2:2<=vs.length):xc prog w A (λi j=>bK ((ss.map cE).getD i []) ((ss.map cE).getD j [])) vs s:=by
 apply#[oneType',λQ q=>?_,λi j C hi hj hC=>?_]
 ·match vs,h2 with
  |v₁::Yg::t,_=>
   rw[keyKind_strs r];exact bA q
 unfold kas_ask;rw[keyLt'_oneType]
 have look:∀k,k<vs.length->∃x t,vs.getD k Value.none=.str x t/\(ss.map cE).getD k []=[Sum.inr x]:=λk hk=>by
  let e:=r.strs;let#[x,t,q]:=r.all vs[k] (ml hk);apply#[x,t,by simp[hk,q],?_]
  have T5:k<ss.length:=by
   rw[<- e,ay];exact hk
  have e2:ss[k]=x:=by
   have e3:(vs.map strOf)[k]? = ss[k]?:=by rw[e]
   rw[dQ,cg hk,cg T5,q] at e3;exact (d5 e3).symm
  simp[T5,e2,cE]
 let#[x,t,e1,e2]:=look i hi;let#[y,u,e3,e4]:=look j hj;rw[e1,e3];dsimp only at hC;rw[e2,e4] at hC;apply oneLt_str ?_;unfold bK at hC;by_cases e:x=y
 ·subst e;rw[aJ Z] at hC;have:decide (x.cps.toList<x.cps.toList)=false:=by simp[List.lt_irrefl]
  rw[this];exact hC
 rw[aE (λq=>e (gO q))] at hC;exact hC
def xV:Key->Bool
 |.inl _=>false
 |.inr _=>true
theorem hU_{prog:Ad}{w:Af}{A:Ag}{E:Aa->Ab->Prop}{s:Ab}{c:Bool}{a b:Key}{p q:Aa}{Q:Bool->Ab->Prop}(ra:RelV (kV a) p)(rb:RelV (kV b) q)(hk:xV a=xV b)(h:Q (iX a b) s) :
  wpAny (model prog w) A (oneLt' c p q) Q E s:=by
 cases a with
 |inl i=>
  cases b with
  |inr y=>cases hk
  |inl j=>
   let#[t,rfl]:=ra;let#[u,rfl]:=rb;cases c with
   |true=>exact oneLt_int h
   |false=>exact kat_one _ _ (lt_int (show PySem.W.BoolBack Q (.bool _) s from h))
 |inr x=>
  cases b with
  |inl j=>cases hk
  |inr y=>
   let#[t,rfl]:=ra;let#[u,rfl]:=rb;cases c with
   |true=>exact oneLt_str h
   |false=>exact kat_one _ _ (PyProof.Rows.lt_str (show PySem.W.BoolBack Q (.bool _) s from h))
theorem Uw{a b:Key}(hk:xV a=xV b):nU (kV a) (kV b)=decide (a=b):=by
 cases a with
 |inl i=>
  cases b with
  |inr y=>cases hk
  |inl j=>
   show (i == j)=_;by_cases e:i=j
   ·subst e;simp
   ·rw[dM (λq=>e (Sum.inl.inj q))];simpa using e
 |inr x=>
  cases b with
  |inl j=>cases hk
  |inr y=>
   show (x == y)=_;by_cases e:x=y
   ·subst e;simp
   rw[dM (λq=>e (gO q))];simpa using e
theorem U4(a:Key):tO (kV a)=true:=by cases a<;>rfl
theorem WO{prog:Ad}{w:Af}{A:Ag}{s:Ab}{Q:Bool->Ab->Prop}:∀{k1 k2:aA} {us vs:aj} (i:Nat),Vals (k1.map kV) us->Vals (k2.map kV) vs->k1.map xV=k2.map xV->Q (bK k1 k2) s->KatLex prog w A true false Q (us.zip vs) i s
 |[],[],_,_,i,.nil,.nil,_,h=>h
 |[],_::_,_,_,_,_,_,h,_=>by cases h
 |_::_,[],_,_,_,_,_,h,_=>by cases h
 |a::k1,b::k2,u::us,v::vs,i,.cons ra r1,.cons rb r2,hk,h=>by
  let#[e1,e2]:=List.cons.inj hk;apply kat_cons ?_;apply JL ra rb (U4 a) (U4 b) prog w _ _ ?_;rw[Uw e1];unfold bK at h;by_cases e:a=b
  ·rw[aJ e] at h;rw[cb e];exact kat_yes (WO (i+1) r1 r2 e2 h)
  rw[aE e] at h;rw[dM e];exact kat_no (hU_ ra rb e1 h)
def bF(K:af)(H:Hp):ag->List aA->Prop:=Paired λy k=>∃a,y=V.ref a/\H a\.tup (k.map kV)
def AU(ks:List aA)(sh:List Bool):Prop:=sh≠[]/\∀k∈ks,k.map xV=sh
theorem VJ{X:Cx}{pins:List (Addr × Obj)}{σ:St}{H:Hp}{s s':Ab}{A:Ag}{ys:ag}{ks:List aA}{sh:List Bool}{vs:aj}(I:Inv X pins σ H s)(r:Vals ys vs)(t:bF X.K H ys ks)(al:AU ks sh)(h2:2<=vs.length)
  (kp:∀b o,s.heap.get? b\o->s'.heap.get? b\o):xc X.prog X.w A (λi j=>bK (ks.getD i []) (ks.getD j [])) vs s':=by
 have look:∀k,k<vs.length->∃a its,vs.getD k Value.none=.ref a/\Vals ((ks.getD k []).map kV) its/\IsTup s'.heap a its.toArray/\ks.getD k []∈ks:=λk hk=>by
  have hy:k<ys.length:=by rw[r.length];exact hk
  have ye:k<ks.length:=by rw[<- bP t];exact hy
  let#[u,hu,ru]:=r.get (cg hy)
  have gen:∀{ys:ag} {ks:List aA} (k:Nat) (hy:k<ys.length) (ye:k<ks.length),bF X.K H ys ks->∃a,ys[k]=V.ref a/\H a\.tup (ks[k].map kV):=λ{ys ks} k hy ye t=>by
   induction t generalizing k with
   |nil=>exact absurd hy Z2
   |cons h t ih=>
    cases k with
    |zero=>exact h
    |succ k=>exact ih k ⇑hy ⇑ye
  let#[a,e,sq]:=gen k hy ye t;let#[its,ri,ti,_]:=I.tuple (gB.of sq);rw[e] at ru;cases ru;have e2:ks.getD k []=ks[k]:=by simp[ye]
  apply#[a,its,by simp[hu],by rw[e2];exact ri,ti.keeps kp,?_];rw[e2];exact ml ye
 let#[sP,FX]:=al
 obtain⟨c,Dv,rfl⟩:∃c Dv,sh=c::Dv:=by
  cases sh with
  |nil=>exact absurd Z sP
  |cons c Dv=>exact#[c,Dv,Z]
 apply#[tuples' true,λQ q=>?_,λi j C hi hj hC=>?_]
 ·have AH:∀l:aj,(∀v∈l,∃(a:Addr) (its:aj) (k:aA),v=.ref a/\Vals (k.map kV) its/\IsTup s'.heap a its.toArray/\k.map xV=c::Dv)->∃fs,KatTups s'.heap l fs/\fs.length=l.length/\∀v∈fs,Looks (model X.prog X.w) s'.heap (typeOf v) (.type (if c then "str" else "int")):=λl=>by
   induction l with
   |nil=>exact λ_=>#[[],.nil,Z,λ_ h=>nomatch h]
   |cons v l ih=>
    intro h;let#[fs,h1,h2,h3]:=ih λv hv=>h v (eA _ hv);let#[a,its,k,rfl,rv,#[o,ho,hc,n,hd],hk]:=h v eP
    match k,its,rv,hk with
    |k0::k,u::its,.cons r0 _,hk=>
     apply#[u::fs,.cons ho hc hd Z2 h1,by simp[h2],λv hv=>?_];rcases cq.mp hv with e|hv
     ·subst e;let e0:=(List.cons.inj hk).1;cases k0 with
      |inl i=>
       let#[t,rfl]:=r0;rw[<- e0];exact .now
      |inr x=>
       let#[t,rfl]:=r0;rw[<- e0];exact .now
     exact h3 v hv
  let#[fs,h1,h3,h4]:=AH vs λv hv=>by
   let#[k,hk,rfl]:=mm hv;let#[a,its,e,rv,ti,m]:=look k hk;apply#[a,its,_,?_,rv,ti,FX _ m];rw[<- e];simp[hk]
  apply kat_kind h1 Z1 h4 (by cases c<;>decide) ?_
  have e:((Value.type (if c then "str" else "int")) != Value.type "tuple")=true:=by cases c<;>decide
  rw[e];exact q
 unfold kas_ask;let#[a,its,e1,r1,#[o,ho,_,n,hd],m1]:=look i hi;let#[b,iF,e2,r2,#[o2,Ai,_,n2,hd2],m2]:=look j hj;rw[e1,e2];apply kat_lt ho hd Ai hd2 ?_;let l1:=r1.length;let l2:=r2.length;let l3:=eI List.length ((FX _ m1).trans (FX _ m2).symm);simp only[ay] at l1 l2 l3;rw[show decide (its.toArray.size<iF.toArray.size)=false by simp;omega];exact WO 0 r1 r2 ((FX _ m1).trans (FX _ m2).symm) hC
end L2
namespace mw
open PySem PySem.W PyProof.Rows
section
variable{prog:Ad}{w:Af}{A:Ag}{E:Aa->Ab->Prop}{s:Ab}
def Raw(h:Heap)(d:Addr)(es:Array DictEntry)(ep:Nat):Prop:=∃o,h.get? d\o/\o.ExactDict/\o.data=.dict es ep
theorem Raw.dX{h h':Heap}{d:Addr}{es:Array DictEntry}{ep:Nat}(x:Raw h d es ep)(k:∀o,h.get? d\o->h'.get? d\o):Raw h' d es ep:=let #[o,e,r]:=x;#[o,k o e,r]
theorem Raw.ty{d:Addr}{es:Array DictEntry}{ep:Nat}(x:Raw s.heap d es ep):s.TypeIs (.ref d) "dict":=let #[o,e,c,_]:=x;#[o,e,c.1]
theorem ig_{d:Addr}{es:Array DictEntry}{ep:Nat}{Q:Aa->Ab->Prop}(hd:(d == sysModules)=false)(x:Raw s.heap d es ep)
  (q:Q (.ref s.heap.objs.size) { s with heap:=s.heap.push { cls:=.type "dict_keyiterator",data:=.fields (List.toArray [.ref d,.int 0 0,.int es.size 0,.int ep 0]) } }) :
  wpAny (model prog w) A (pyIter (.ref d)) Q E s:=by
 let#[o,ho,hc,vX]:=id x;apply wpAny_pyIter_slot x.ty F.slot_dict_iter (wpAny_call_entry F.slot_dict_iter x.ty F.entry_dict_iter ?_ (F.args_dict_iter_1 _));unfold Builtin.«dict.__iter__» Builtin.Dict.dictSlotNone;apply aC (aC (wpAny_notOrdered_dict x.ty (show wpAny _ _ (pure (Value.ref d)) _ _ s from bA (show wpAny _ _ (Builtin.Dict.showsAll d >>= _) _ _ s from ?_))));unfold Builtin.Dict.showsAll;rw[aE (by rw[hd];decide)];apply aC (bA (aC (wpAny_dictEntries ho vX (aC (wpAny_dictEpoch ho vX (aC (uB (bA #[_,Z,"dict_keyiterator",_,#[_,eJ _ Z,Z],F.slot_dict_keyiterator_next.lookup,?_]))))))));exact q
theorem ib_{it d:Addr}{i ep:Nat}{es:Array DictEntry}{Q:Option Aa->Ab->Prop}(hit:s.heap.IsKeyIter it d i es.size ep)(x:Raw s.heap d es ep)(hi:i<es.size)
  (q:∀h',h'.IsKeyIter it d (i+1) es.size ep->Heap.SameBut it s.heap h'->Q (some es[i].key) { s with heap:=h' }):wpAny (model prog w) A (pyNext (.ref it)) Q E s:=by
 let#[o,ho,hc,hd]:=id hit;let#[od,Fk,gK,As]:=id x;unfold pyNext;apply aC (wpAny_attempt (wpAny_callSpecial?_slot (name:=Str.ofString "__next__") hit.typeIs F.slot_dict_keyiterator_next (wpAny_call_entry F.slot_dict_keyiterator_next hit.typeIs F.entry_dict_keyiterator_next ?_ (F.args_dict_keyiterator_next_1 _))));apply aC (bA (aC (aC ?_)))
 first|refine aC (wpAny_typeNameOfWhole_keyiter hit.typeIs (bA (aC (wpAny_fieldsOf ho hd ?_))))|refine aC (wpAny_typeNameOf_keyiter hit.typeIs (bA (aC (wpAny_fieldsOf ho hd ?_))))
 simp only[show Builtin.Dict_items.ownsTuple "dict_keyiterator"=false by decide,yQ,if_false];apply (show wpAny _ _ (if (Value.ref d == Value.none)=true then _ else _) _ _ s from ?_);rw[aE (λz=>by cases z)];apply aC (bA (aC (wpAny_dictEntries Fk As ?_)));rw[aE Z2];apply aC (bA (aC (wpAny_dictEpoch Fk As ?_)));rw[aE Z2];apply bA ?_;simp only[show ¬((i:Int)<0) from by omega,if_false,ow,Array.getElem?_eq_getElem hi];apply aC ?_
 first|refine aC (wpAny_typeNameOfWhole_keyiter hit.typeIs (bA (aC (wpAny_isOneOf_keyiter hit.typeIs ?_))))|refine aC (wpAny_typeNameOf_keyiter hit.typeIs (bA (aC (wpAny_isOneOf_keyiter hit.typeIs ?_))))
 apply (show wpAny _ _ (setField (.ref it) 1 (rawInt ((i:Int)+1)) >>= _) _ _ s from aC (wpAny_setField ho hd Z2 ?_))
 have turned:(s.heap.update it (Obj.mapFields (·.setIfInBounds 1 (rawInt ((i:Int)+1))))).IsKeyIter it d (i+1) es.size ep:=
  #[_,Heap.get?_update_self _ ho (Obj.isFreed_of_fields (Obj.data_mapFields hd _)),(Obj.cls_mapFields ..).trans hc,by rw[Obj.data_mapFields hd];simp[rawInt]]
 apply aC (wpAny_holding (aC (wpAny_isOneOf_keyiter (s:={ s with heap:=s.heap.update it (Obj.mapFields (·.setIfInBounds 1 (rawInt ((i:Int)+1)))) }) turned.typeIs ?_)));exact (show wpAny _ _ (pure es[i].key) _ _ _ from bA (bA #[_,Z,bA (q _ turned (Heap.SameBut.update ..))]))
theorem j5_{it d:Addr}{ep:Nat}{es:Array DictEntry}{Q:Option Aa->Ab->Prop}(hh:A.handled=none)(hit:s.heap.IsKeyIter it d es.size es.size ep)(x:Raw s.heap d es ep)
  (q:∀h',Heap.ExtBut it s.heap h'->Q none { s with heap:=h' }):wpAny (model prog w) A (pyNext (.ref it)) Q E s:=by
 let#[o,ho,hc,hd]:=id hit;let#[od,Fk,gK,As]:=id x;unfold pyNext;apply aC (wpAny_attempt (wpAny_callSpecial?_slot (name:=Str.ofString "__next__") hit.typeIs F.slot_dict_keyiterator_next (wpAny_call_entry F.slot_dict_keyiterator_next hit.typeIs F.entry_dict_keyiterator_next ?_ (F.args_dict_keyiterator_next_1 _))));apply aC (bA (aC (aC ?_)))
 first|refine aC (wpAny_typeNameOfWhole_keyiter hit.typeIs (bA (aC (wpAny_fieldsOf ho hd ?_))))|refine aC (wpAny_typeNameOf_keyiter hit.typeIs (bA (aC (wpAny_fieldsOf ho hd ?_))))
 simp only[show Builtin.Dict_items.ownsTuple "dict_keyiterator"=false by decide,yQ,if_false];apply (show wpAny _ _ (if (Value.ref d == Value.none)=true then _ else _) _ _ s from ?_);rw[aE (λz=>by cases z)];apply aC (bA (aC (wpAny_dictEntries Fk As ?_)));rw[aE Z2];apply aC (bA (aC (wpAny_dictEpoch Fk As ?_)));rw[aE Z2];apply bA ?_;simp only[show ¬((es.size:Int)<0) from by omega,if_false,ow,Array.getElem?_eq_none (br _)];apply aC ?_
 first|refine aC (wpAny_typeNameOfWhole_keyiter hit.typeIs (bA ?g))|refine aC (wpAny_typeNameOf_keyiter hit.typeIs (bA ?g))
 apply (show wpAny _ _ (setField (.ref it) 0 .none >>= _) _ _ s from aC (wpAny_setField ho hd Z2 (show wpAny _ _ (newExc (.type "StopIteration") [] >>= _) _ _ _ from aC ?_)));simp only[newExc,newTuple];apply aC (uB (aC (m:=firstArgMember _ _) (wpAny_of_eq (a:=Value.none) (by first|rfl|(simp only[firstArgMember];rfl)) (uB ?_ (by size_fits)))) (by size_fits));simp only[raiseNew];apply aC (wpAny_handled ?_);rw[show A.in1.handled=none from hh];apply aC (bA (wpAny_throw ?_));exact aC (wpAny_isInstance (T:="StopIteration") (b:=true) #[_,eJ _ Z,Z] isSubtype_stop (bA (q _ (((Heap.SameBut.update ..).extBut.push _).push _))))
theorem hB_(hh:A.handled=none)(I d:Addr)(sP:d≠I)(es:Array DictEntry)(ep:Nat) :
  Walks prog w A I [I,d] [I] es.size (λi v=>∃h:i<es.size,v=es[i].key) (λi h=>h.IsKeyIter I d i es.size ep/\Raw h d es ep) where
 sub:=λb hb=>by simp only[wY] at hb;simp[hb]
 frame:=λ_ _ _ st k=>#[st.1.at λo e=>k I Z2 o e,st.2.dX λo e=>k d Z2 o e]
 item:=λi s Q E hi st hQ=>ib_ st.1 st.2 hi λh' Ap pL=>hQ _ h' s.toks #[hi,Z] #[Ap,st.2.dX λo e=>pL.extBut d o sP e] λb o hb e=>pL.extBut b o (λh=>hb (by simp[h])) e
 done:=λs Q E st hQ=>j5_ hh st.1 st.2 λh' he'=>hQ h' s.toks λb o hb e=>he' b o (λh=>hb (by simp[h])) e
 self:=λ_ _ _ _ st hQ=>wpAny_pyIter_keyiter st.1 hQ
theorem jU_{d:Addr}{es:Array DictEntry}{ep:Nat}(lo:(d == sysModules)=false):KdlSrc prog w "dict" d d es.size (λi v=>∃h:i<es.size,v=es[i].key) (λh=>Raw h d es ep) where
 type:=λs x=>x.ty
 there:=λh x=>let #[o,e,_]:=x;#[cm e,cm e]
 keep:=λh h' x k=>x.dX λo e=>k d (.inl Z) o e
 notList:=by decide
 notTuple:=by decide
 hint:=λ_ _ s _ x q=>kdl_hint_dict x.ty q
 iter:=λA s hh x=>#[_,_,λE Q q=>ig_ lo x q,hB_ hh _ d (let #[o,e,_]:=x;dY (cm e)) es ep,#[#[_,eJ _ Z,Z,Z],x.dX λo e=>cc _ e]]
end
end mw
namespace mw
open PySem PySem.W PyProof.Rows
theorem d5_:typeLookup (.type "list") "keys"=pure none:=by rw[typeLookup_type,builtinLookup_eq_fast];kernel_rfl
theorem gs_{prog:Ad}{w:Af}{A:Ag}{s:Ab}{a:Addr}{xs:Array Aa}{k:Nat}{tk:Tok}{R:Result->Ab->Prop}(hx:s.heap.get? a\seqObj "list" xs k)(h:raisesAttr (.ref a) "keys" A R s) :
  codeAny (model prog w) A (.call (.builtin "list.__getattribute__") #[[.ref a,.str "keys" tk],[]]) R s:=by
 apply codeAny_call_builtin F.slot_list_getattribute.plain am_entry_list_getattribute (F.slot_list_getattribute.check _ _ _ _ _ _ _ _ #[_,hx,Z] (F.args_list_getattribute_2 _ _) ?_);exact meets_getattribute_miss_list a xs k #[] "keys" tk d5_ (by decide) (by size_fits) prog w A R s #[hx,h]
theorem zL{prog:Ad}{w:Af}{A:Ag}{E:Aa->Ab->Prop}{s:Ab}{a:Addr}{xs:Array Aa}{k:Nat}{Q:Option Aa->Ab->Prop}(hx:s.heap.get? a\seqObj "list" xs k)(hA:A.handled=none)
  (h:∀h' tk,(∀b o,s.heap.get? b\o->h'.get? b\o)->Q none { s with heap:=h',toks:=tk }):wpAny (model prog w) A (getAttr? (.ref a) "keys") Q E s:=by
 let#[hp,g,d,tk,os]:=s;have ty:∀uo,(#[hp,g,d,uo,os]:Ab).TypeIs (.ref a) "list":=λ_=>#[_,hx,Z];let f1:=sub_AttributeError;let f2:=F.slot_list_getattribute.lookup;let f3:=F.slot_list_getattribute.bind (.ref a);let f4:=am_list_getattr_none;unfold getAttr? getAttrBy? getAttrBy
 repeat (any_goals (first|assumption|exact ty _|wp_step))
 apply gs_ hx #[hA,λh' uo e BM=>?_];let#[t',u',he]:=BM.there;show wpAny _ _ (getattributeRaised _ _ _ _ _ _ _) _ _ _;unfold getattributeRaised
 repeat (any_goals (first|assumption|wp_step))
 exact h _ _ BM.keeps
end mw
namespace mw
open PySem PySem.W PyProof.Rows
theorem VO:entryFor table "dict.update.loop"\Builtin.«dict.update.loop»:=entryFor_of_tree (by kernel_rfl)
theorem KR:plainId "dict.update.loop"=true:=by decide +kernel
theorem S0(d it:Addr)(i:Int)(tk:Tok):Builtin.«dict.update.loop» #[[.ref d,.ref it,.int i tk,.none],[]]=(do
  let r <- pyNext (.ref it)
  match r with
  |none=>do Builtin.Dict.addKeywords d [];ret .none
  |some item=>do
   holding [item] (do
    let pair <- (Builtin.Dict.pairItems item).tryCatch λe=>do
     if !(<- isInstance e (.type "TypeError")) then throw e
     rule "dict.update.element-no-sequence"
     raiseError "TypeError" s!"cannot convert dictionary update sequence element #{i} to a sequence"
    match pair with
    |[k,v]=>holding [k,v] (dictSet d k v)
    |l=>do
     rule "dict.update.element-length"
     raiseError "ValueError" s!"dictionary update sequence element #{i} has length {l.length}; 2 is required")
   again (.builtin "dict.update.loop" #[[.ref d,.ref it,rawInt (i+1),.none],[]])):=by
 unfold Builtin.«dict.update.loop»;apply eI (λf=>pyNext (.ref it) >>= f) (funext λr=>?_);cases r<;>rfl
section
variable{prog:Ad}{w:Af}{K:Type}[DecidableEq K]{knd:PySem.KeyKind prog w K}{A:Ag}
def O3(knd:PySem.KeyKind prog w K)(h:Heap):aj->List (K × Aa)->Prop:=Paired λv p=>∃a key,v=.ref a/\IsTup h a (List.toArray [key,p.2])/\knd.is p.1 key=true
def gH(kvs:List (K × Aa))(ps:List (K × Aa)):List (K × Aa):=ps.foldl (λacc p=>stored acc p.1 p.2) kvs
theorem fW_(kvs:List (K × Aa))(k:K)(v:Aa):(stored kvs k v).length<=kvs.length+1:=by
 unfold stored;split
 ·simp
 simp
theorem W_{h:Heap}{b it l:Addr}{i:Nat}{ys:Array Aa}(t:IsTup h b ys)(q:h.IsListIter it l i):b≠it:=λz=>by
 let#[o,ho,hc,_]:=t;let#[o2,Ai,BZ,_]:=q;subst z;rw[ho] at Ai;cases Ai;rw[hc] at BZ;exact absurd BZ (by decide)
theorem eF_{h:Heap}{b d:Addr}{ys:Array Aa}{kvs:List (K × Aa)}(t:IsTup h b ys)(q:h.DictOf knd d kvs):b≠d:=λz=>by
 let#[o,ho,hc,_]:=t;let#[o2,es,ep,Ai,BZ,_]:=q;subst z;rw[ho] at Ai;cases Ai;let JC:=BZ.1;rw[hc] at JC;exact absurd JC (by decide)
theorem VC{h h':Heap}{d:Addr}{kvs:List (K × Aa)}(q:h.DictOf knd d kvs)(k:∀o,h.get? d\o->h'.get? d\o):h'.DictOf knd d kvs:=by
 let#[o,es,ep,ho,r]:=q;exact#[o,es,ep,k _ ho,r]
theorem ii_{it l d a:Addr}{i:Nat}{its:aj}{key x:Aa}{k:K}{kvs:List (K × Aa)}{s:Ab}{R:Result->Ab->Prop}{tk:Tok}(Ar:d≠it)(hi:its.toArray[i]? = some (.ref a))(ht:IsTup s.heap a (List.toArray [key,x]))(hk:knd.is k key=true)
  (hit:s.heap.IsListIter it l i) (hl:s.heap.IsList l its.toArray) (hd:s.heap.DictOf knd d kvs) (hz:kvs.length<=1000)
  (hR:∀h2,h2.DictOf knd d (stored kvs k x)->(∀b o,b≠d->b≠it->s.heap.get? b\o->h2.get? b\o)->h2.IsListIter it l (i+1)->codeAny (model prog w) A (.builtin "dict.update.loop" #[[.ref d,.ref it,rawInt ((i:Int)+1),.none],[]]) R { s with heap:=h2,toks:=s.toks+1 }) :
  codeAny (model prog w) A (.builtin "dict.update.loop" #[[.ref d,.ref it,.int i tk,.none],[]]) R s:=by
 apply codeAny_builtin VO ?_;rw[Around.under_plainId KR _,S0];apply aC (wpAny_pyNext_list_item hit hl hi λh1 Nr MZ=>?_);let#[ot,hot,FV,nt,hdt]:=id ht;have Fh:h1.get? a\ot:=MZ.extBut _ _ (W_ ht hit) hot;apply aC (wpAny_holding (aC (wpAny_tryCatch ?_)));unfold Builtin.Dict.pairItems;apply aC (wpAny_typeOf (T:="tuple") #[ot,Fh,FV] ?_);rw[aJ (by decide)];unfold seqItems?;apply aC (aC (wpAny_load Fh ?_));rw[hdt];apply bA (bA ?_);apply (show wpAny _ _ (holding [key,x] (dictSet d key x)) _ _ _ from wpAny_holding (wpAny_dictSet_pairs hk (VC hd λo q=>MZ.extBut _ _ Ar q) (λh2 hd2 zY=>?_) (by have:=b_;omega)));exact bA #[plainId_quiet KR _,hR h2 hd2 (λb o h3 h4 q=>zY.extBut _ _ h3 (MZ.extBut _ _ h4 q)) (Nr.extBut zY.extBut (Ne.symm Ar))]
theorem jD_{it l d:Addr}{i:Nat}{its:aj}{kvs:List (K × Aa)}{s:Ab}{R:Result->Ab->Prop}{tk:Tok}(Ar:d≠it)(hh:A.handled=none)(hi:its.toArray[i]? = none)
  (hit:s.heap.IsListIter it l i) (hl:s.heap.IsList l its.toArray) (hd:s.heap.DictOf knd d kvs)
  (hR:∀h',h'.DictOf knd d kvs->(∀b o,b≠it->s.heap.get? b\o->h'.get? b\o)->R (.ok (.ret .none)) { s with heap:=h' }) :
  codeAny (model prog w) A (.builtin "dict.update.loop" #[[.ref d,.ref it,.int i tk,.none],[]]) R s:=by
 apply codeAny_builtin VO ?_;rw[Around.under_plainId KR _,S0];apply aC (wpAny_pyNext_list_end hh hit hl hi λh' he=>?_);exact aC (m:=Builtin.Dict.addKeywords d []) (bA (bA (hR h' (VC hd λo q=>he _ _ Ar q) λb o hb q=>he b o hb q)))
theorem kB_{it l d:Addr}(hil:l≠it)(Ar:d≠it)(JA:d≠l)(hh:A.handled=none){its:aj}(rest:aj):∀(ps:List (K × Aa)) (i:Nat) (kvs:List (K × Aa)) (s:Ab) (R:Result->Ab->Prop) (tk:Tok),its.drop i=rest->O3 knd s.heap rest ps->
  s.heap.IsListIter it l i->s.heap.IsList l its.toArray->s.heap.DictOf knd d kvs->kvs.length+ps.length<=1000->
  (∀h' uo,h'.DictOf knd d (gH kvs ps)->(∀b o,b≠d->b≠it->s.heap.get? b\o->h'.get? b\o)->R (.ok (.ret .none)) { s with heap:=h',toks:=uo })->
  codeAny (model prog w) A (.builtin "dict.update.loop" #[[.ref d,.ref it,.int i tk,.none],[]]) R s:=by
 induction rest with
 |nil=>
  intro ps i kvs s R tk e hp hit hl hd hz hR;cases hp
  have hi:its.toArray[i]? = none:=by
   have:=eI List.length e;simp only[wX,p6] at this;simp;omega
  exact jD_ Ar hh hi hit hl hd λh' jE kp=>hR h' s.toks jE λb o _ hb q=>kp b o hb q
 |cons v rest ih=>
  intro ps i kvs s R tk e hp hit hl hd hz hR;cases hp with
  |@cons _ p _ ps h0 hr=>
  let#[a,key,hv,ht,hk]:=h0;let#[k,x]:=p;subst hv
  have hi:its.toArray[i]? = some (.ref a):=by
   have q:(its.drop i)[0]? = some (.ref a):=by rw[e];rfl
   rw[List.getElem?_drop] at q;simpa using q
  have e':its.drop (i+1)=rest:=by
   rw[<- List.drop_drop,e];rfl
  simp only[iO] at hz;apply ii_ Ar hi ht hk hit hl hd Z1 λh2 hd2 kp vT=>?_;have c1:((i:Int)+1)=((i+1:Nat):Int):=by omega
  rw[c1];apply ih ps (i+1) (stored kvs k x) _ R 0 e' (L2.Paired.bQ hr λv p ⟨b,ky,e1,t1,k1⟩=>#[b,ky,e1,?_,k1]) vT (hl.at λo q=>kp _ _ (Ne.symm JA) hil q) hd2 (by have:=fW_ kvs k x;omega) λh' uo jE kp'=>hR h' uo jE λb o h3 h4 q=>kp' b o h3 h4 (kp b o h3 h4 q);let#[o,ho,r]:=id t1;exact#[o,kp _ _ (eF_ t1 hd) (W_ t1 hit) ho,r]
theorem dM_{E:Aa->Ab->Prop}{s:Ab}{l:Addr}{its:aj}{n:Nat}{ps:List (K × Aa)}{Q:Aa->Ab->Prop}(hh:A.handled=none)(ho:s.heap.get? l\seqObj "list" its.toArray n)(hp:O3 knd s.heap its ps)(hz:ps.length<=1000)
  (h:∀h' uo,h'.DictOf knd s.heap.objs.size (gH [] ps)->(∀b o,s.heap.get? b\o->h'.get? b\o)->Q (.ref s.heap.objs.size) { s with heap:=h',toks:=uo }) :
  wpAny (model prog w) A (call (.type "dict") [.ref l]) Q E s:=by
 apply callType_codes (Q₁:=λobj aU=>obj=.ref s.heap.objs.size/\aU={ s with heap:=s.heap.push { cls:=.type "dict",data:=.dict #[] } }) F.kt_called_dict (F.kt_typeCall_dict_1 _) F.entry_dict_init (kt_code_dict_new _ #[Z,Z]) ?_;rintro obj aU ⟨rfl,rfl⟩;have lS:(s.heap.push { cls:=.type "dict",data:=.dict #[] }).DictOf knd s.heap.objs.size []:=Heap.DictOf.new s.heap;have fY:(s.heap.push { cls:=.type "dict",data:=.dict #[] }).get? l\seqObj "list" its.toArray n:=cc _ ho;apply#[lS.typeIs,F.args_dict_init_2 _ _,?_];unfold Builtin.«dict.__init__» Builtin.Dict.selfAndRest;apply aC (aC (wpAny_notOrdered_dict lS.typeIs ?_));apply (show wpAny _ _ (pure (s.heap.objs.size,[Value.ref l])) _ _ _ from bA ?_);apply (show wpAny _ _ (Builtin.Dict.updateFrom "dict.__init__" s.heap.objs.size (.ref l) [] .none) _ _ _ from ?_);unfold Builtin.Dict.updateFrom;apply aC (wpAny_typeOf (T:="list") #[_,fY,Z] ?_);rw[aJ (by decide)];apply aC (zL fY hh λh2 tk2 k2=>?_);simp only[Option.isNone_none,if_true];have j5:h2.get? l\seqObj "list" its.toArray n:=k2 _ _ fY;apply aC (wpAny_rule (aC (wpAny_pyIter_list #[_,j5,Z,_,Z] ?_)));apply bA #[plainId_quiet KR _,?_];have all:∀{b o},s.heap.get? b\o->(h2.push { cls:=.type "list_iterator",data:=.fields (List.toArray [.ref l,.int 0 0]) }).get? b\o:=λq=>cc _ (k2 _ _ (cc _ q))
 have hd2:h2.DictOf knd s.heap.objs.size []:=by
  let#[o,es,ep,ho,r]:=lS;exact#[o,es,ep,k2 _ _ ho,r]
 have LI:s.heap.objs.size<h2.objs.size:=by
  let#[o,es,ep,ho,r]:=hd2;exact cm ho
 have lz:l<s.heap.objs.size:=cm ho
 apply kB_ (A:=A.in1) (knd:=knd) (its:=its) (it:=h2.objs.size) (l:=l) (d:=s.heap.objs.size) (dY (Nat.lt_trans lz LI)) (dY LI) (uT lz) hh its ps 0 [] _ _ 0 Z (L2.Paired.bQ hp λv p ⟨b,ky,e1,t1,k1⟩=>#[b,ky,e1,t1.keeps λb o q=>all q,k1])
  #[_,eJ _ Z,Z,Z] #[_,cc _ j5,Z,_,Z] (by
   let#[o,es,ep,ho,r]:=hd2;exact#[o,es,ep,cc _ ho,r]) ⇑hz λh' uo jE kp=>#[Z,h h' uo jE λb o q=>?_]
 have bl:b<s.heap.objs.size:=cm q;exact kp b o (dY bl) (dY (Nat.lt_trans bl LI)) (all q)
end
end mw
theorem zl{n:Nat}(h:decide (n<=16777216)=true:=by rfl):n<=PySem.sizeLine:=by
 rw[PySem.sizeLine_eq];exact wF h
namespace L2
open PySem PySem.Spec PyProof.Rows PySem.W mr mw
theorem bF.same{K:af}{H H':Hp}{ys:ag}{ks:List aA}(t:bF K H ys ks)(e:aa H H'):bF K H' ys ks:=Paired.bQ t λy k ⟨a,z,q⟩=>#[a,z,e _ _ q]
theorem aa.new{H:Hp}{l:Addr}{o:HO}(h:H l=none):aa H (upd H l o):=λb u e=>by rw[az (bu e h)];exact e
section
variable{X:Cx}{pins:List (Addr × Obj)}{σ:St}{H H':Hp}{s:Ab}{h':Heap}{t':Nat}
theorem Inv.many(I:Inv X pins σ H s)(k:∀b o,s.heap.get? b\o->h'.get? b\o)(hold:aa H H')(lS:∀b,H b=none->b<s.heap.objs.size->H' b=none)
  (hob:∀b o,H' b\o->H b=none->∃xs its,o=.tup xs/\xs.length<=sizeLine/\Vals xs its/\IsTup h' b its.toArray/\∃o,h'.get? b\o/\o.dict=none):Inv X pins σ H' { s with heap:=h',toks:=t' }:=by
 apply I.un #[λb o q _ _ _=>k b o q,λb o q _ _ _=>#[o.slots,k b o q],λb o q n _=>lS b n (cm q),λb o q _=>#[o,k b o q],λb xs q=>hold b _ q,λb o u q=>hold b _ q,λb ps q=>#[#[],by rw[Array.append_empty];exact hold b _ q]] λb o q=>?_;cases e:H b with
 |some u=>
  let e2:=hold b u e;rw[q] at e2;cases e2;exact (I.aH b o e).dX (λc v _ z=>k c v z) (λc z=>hold c _ z) λc xs z=>hold c _ z
 |none=>
  let#[xs,its,rfl,z,r,t]:=hob b o q e;exact#[z,its,r,t]
end
section
variable{X:Cx}{pins:List (Addr × Obj)}{σ:St}{H:Hp}{s:Ab}{A:Ag}{E:Aa->Ab->Prop}
theorem ih_{p:Addr}{ys:ag}{R:aj->Ab->Prop}(I:Inv X pins σ H s)(h:dN X.K H p ys)(hz:ys.length<=100000)(q:∀vs s1,Inv X pins σ H s1->Vals ys vs->R vs s1):wpAny (model X.prog X.w) A (collect (.ref p)) R E s:=by
 let#[its,r,pl,_]:=I.list h;let hl:=r.length;apply collect_list pl.isList (q its _ ?_ r) (by have:=b_;omega);apply I.kept (t':=s.toks) λb u e=>?_;have lt:b<s.heap.objs.size:=cm e;rw[Heap.get?_update_ne _ _ _ _ (dY lt)];exact cc _ e
theorem Qo{P:Nat->Aa->Prop}{acc:Array Aa}{ys:ag}(h:ItemsOf P acc ys.length)(hp:∀(j:Nat) v,P j v->∀y,ys[j]? = some y->RelV y v):Vals ys acc.toList:=by
 have gen:∀(ys:ag) (vs:aj),ys.length=vs.length->(∀(j:Nat) y v,ys[j]? = some y->vs[j]? = some v->RelV y v)->Vals ys vs:=λys=>by
  induction ys with
  |nil=>
   intro vs hl _;cases vs with
   |nil=>exact .nil
   |cons _ _=>cases hl
  |cons y ys ih=>
   intro vs hl h;cases vs with
   |nil=>cases hl
   |cons v vs=>exact .cons (h 0 y v Z Z) (ih vs ⇑hl λj y v a b=>h (j+1) y v ⇑a ⇑b)
 apply gen ys acc.toList (by rw[tY];exact h.1.symm) λj y v a b=>hp j v (h.2 j v ?_) y a;rw[<- Array.getElem?_toList];exact b
theorem Ts{d:Addr}{kvs:List (Key × V)}(I:Inv X pins σ H s)(h:Rd H d (.dK kvs)):∃(P:Nat->Aa->Prop) (OK:Heap->Prop),KdlSrc X.prog X.w "dict" d d (kvs.map λkv=>kV kv.1).length P OK/\OK s.heap/\∀(j:Nat) v,P j v->∀y,(kvs.map λkv=>kV kv.1)[j]? = some y->RelV y v:=by
 let#[z,hd,vs,rel,dd]:=oa I.aH h;let#[ep,dat]:=dd.dictAt;let hl:=rel.length;apply#[λi v=>∃k x,vs[i]? = some (k,x)/\(eZ X.prog X.w).is k v=true,λh=>h.DictAt (eZ X.prog X.w) d vs ep,(by rw[ay,hl];exact kdl_dict (knd:=eZ X.prog X.w) (kvs:=vs) (ep:=ep) hd),dat,λj v ⟨k,x,e,hk⟩ y hy=>?_];rw[dQ] at hy;have ek:kvs.map (·.1)=vs.map (·.1):=rel.keys;have e2:(kvs.map (·.1))[j]? = (vs.map (·.1))[j]?:=by rw[ek]
 rw[dQ,dQ,e] at e2;cases e3:kvs[j]? with
 |none=>rw[e3] at e2;cases e2
 |some kv=>
  rw[e3] at e2 hy;have e4:kv.1=k:=d5 e2;have e5:kV kv.1=y:=d5 hy;rw[<- e5,e4];have hk:wu k v=true:=hk;rcases p9 hk with⟨i,t,rfl,rfl⟩|⟨x,t,rfl,rfl⟩
  ·exact#[t,Z]
  exact#[t,Z]
theorem S5{d:Addr}{kvs:List (Key × V)}{R:aj->Ab->Prop}(hh:A.handled=none)(I:Inv X pins σ H s)(h:Rd H d (.dK kvs))(q:∀vs s1,Inv X pins σ H s1->Vals (kvs.map λkv=>kV kv.1) vs->R vs s1):wpAny (model X.prog X.w) A (collect (.ref d)) R E s:=by
 let#[P,OK,S,ok,hp]:=Ts I h;apply kdu_collect S hh ok ?_ λh' tk acc k a=>q _ _ (I.kept k) (Qo a hp);rw[ay];exact (oa I.aH h).1
theorem kx_{d:Addr}{kvs:List (aA × V)}(I:Inv X pins σ H s)(h:Rd H d (.dT kvs)):∃(ys:ag) (P:Nat->Aa->Prop) (OK:Heap->Prop),bF X.K H ys (kvs.map (·.1))/\ys.length<=sizeLine/\KdlSrc X.prog X.w "dict" d d ys.length P OK/\OK s.heap/\∀(j:Nat) v,P j v->∀y,ys[j]? = some y->RelV y v:=by
 let#[z,hd,xs,rel,o,es,ep,ho,hc,vX,Aq,nd]:=h.ok I.aH
 have l1:es.size=xs.length:=by
  have:=eI List.length Aq;simpa using this
 let l2:=bP rel;apply#[xs.map λx=>V.ref x.2.1,λi v=>∃h:i<es.size,v=es[i].key,λh=>Raw h d es ep,?_,by rw[ay];omega,(by rw[ay,<- l1];exact jU_ (es:=es) (ep:=ep) hd),#[o,ho,hc,vX],λj v ⟨hj,e⟩ y hy=>?_]
 ·have gen:∀{kvs:List (aA × V)} {xs:List (aA × Addr × Aa)},KT H kvs xs->bF X.K H (xs.map λx=>V.ref x.2.1) (kvs.map (·.1)):=λ{kvs xs} r=>by
   induction r with
   |nil=>exact .nil
   |cons h _ ih=>exact .cons #[_,Z,h.2.1] ih
  exact gen rel
 rw[dQ] at hy;have hx:j<xs.length:=by omega
 rw[cg hx] at hy;have e1:V.ref xs[j].2.1=y:=d5 hy
 have e2:es[j]=entryOfKey (tupleKind (eZ X.prog X.w)) xs[j]:=by
  have e3:es.toList[j]? = (xs.map (entryOfKey (tupleKind (eZ X.prog X.w))))[j]?:=by rw[Aq]
  rw[dQ,cg hx,Array.getElem?_toList,Array.getElem?_eq_getElem hj] at e3;exact d5 e3
 rw[<- e1,e,e2];rfl
theorem kN_{d:Addr}{kvs:List (aA × V)}{R:aj->Ab->Prop}(hh:A.handled=none)(I:Inv X pins σ H s)(h:Rd H d (.dT kvs))(q:∀ys vs s1,Inv X pins σ H s1->Vals ys vs->bF X.K H ys (kvs.map (·.1))->R vs s1):wpAny (model X.prog X.w) A (collect (.ref d)) R E s:=by
 let#[ys,P,OK,t,z,S,ok,hp]:=kx_ I h;exact kdu_collect S hh ok z λh' tk acc k a=>q ys _ _ (I.kept k) (Qo a hp) t
def o_(v d:Addr):HO:=.ext λh=>h.IsItemsView v d
def Bl(v d:Addr):HO:=.ext λh=>h.IsValuesView v d
def og(K:af)(H:Hp):ag->List (Key × V)->Prop:=Paired λy p=>∃a,y=V.ref a/\H a\.tup [kV p.1,p.2]
theorem gb_{v d:Addr}{kvs:List (Key × V)}{R:aj->Ab->Prop}(hh:A.handled=none)(I:Inv X pins σ H s)(hv:H v\o_ v d)(h:Rd H d (.dK kvs))(q:∀H1 ys vs s1,Inv X pins σ H1 s1->aa H H1->Vals ys vs->og X.K H1 ys kvs->R vs s1) :
  wpAny (model X.prog X.w) A (collect (.ref v)) R E s:=by
 let#[z,hd,vs,rel,dd]:=oa I.aH h;let#[ep,dat]:=dd.dictAt;let#[iv,_,_]:=I.aH v _ hv;let hl:=rel.length;apply kdx_collect (knd:=eZ X.prog X.w) (kvs:=vs) (ep:=ep) hh iv dat Z1 λh' tk as k la G=>?_;have up:∀b,b∈as->s.heap.objs.size<b:=G.above
 have yO:∀(j:Nat) b p,as[j]? = some b->kvs[j]? = some p->∃its,Vals [kV p.1,p.2] its/\IsTup h' b its.toArray/\∃o,h'.get? b\o/\o.dict=none:=λj b p hj hp=>by
  let#[key,kk,x,e1,e2,e3]:=G.pairs j b hj
  have gen:∀{kvs:List (Key × V)} {vs:List (Key × Aa)},KV kvs vs->∀(j:Nat),vs[j]? = some (kk,x)->kvs[j]? = some p->p.1=kk/\RelV p.2 x:=λ{kvs vs} r=>by
   induction r with
   |nil=>intro j e;simp at e
   |@cons p' q _ _ h _ ih=>
    intro j e e';cases j with
    |zero=>
     have e:q=(kk,x):=⇑e
     have e':p'=p:=⇑e'
     subst e';rw[e] at h;exact h
    |succ j=>exact ih j ⇑e ⇑e'
  let#[g1,g2]:=gen rel j e1 hp;apply#[[key,x],.cons ?_ (.cons g2 .nil),#[_,e3,Z,_,Z],_,e3,Z];rw[g1];have e2:wu kk key=true:=e2;rcases p9 e2 with⟨i,t,rfl,rfl⟩|⟨x,t,rfl,rfl⟩
  ·exact#[t,Z]
  exact#[t,Z]
 have look:∀{as:ai} {kvs:List (Key × V)},as.Pairwise (· < ·)->∀(j:Nat) b p,as[j]? = some b->kvs[j]? = some p->(as.zip kvs).lookup b\p:=λ{as}=>by
  induction as with
  |nil=>intro kvs _ j b p e;simp at e
  |cons a as ih=>
   intro kvs pw j b p e e';cases kvs with
   |nil=>simp at e'
   |cons q kvs=>
    let#[p1,p2]:=List.pairwise_cons.mp pw;show ((a,q)::as.zip kvs).lookup b\p;cases j with
    |zero=>
     have e:a=b:=⇑e
     have e':q=p:=⇑e'
     subst e;subst e';rw[List.lookup_cons_self]
    |succ j=>
     have e:as[j]? = some b:=⇑e
     have e':kvs[j]? = some p:=⇑e'
     let lt:=p1 b (dC e);rw[tW,show (b == a)=false by simp only[beq_eq_false_iff_ne];exact uT lt];exact ih p2 j b p e e'
 have lk:as.length=kvs.length:=by omega
 let H1:Hp:=λb=>if b∈as then ((as.zip kvs).lookup b).map λp=>HO.tup [kV p.1,p.2] else H b
 have F1:∀(j:Nat) b p,as[j]? = some b->kvs[j]? = some p->H1 b\.tup [kV p.1,p.2]:=λj b p e e'=>by
  show (if b∈as then _ else _)=_;rw[aJ (dC e),look G.rise j b p e e'];rfl
 have nO:∀b,b∉as->H1 b=H b:=λb hb=>aE hb;have old:∀b,b<s.heap.objs.size->b∉as:=λb hb m=>absurd (up b m) Z1;apply q H1 (as.map V.ref) _ _ (I.many (t':=tk) k (λb o e=>by rw[nO b (old b (I.aH.lt e))];exact e) (λb e hb=>by rw[nO b (old b hb)];exact e) λb o e e0=>?_) (λb o e=>by rw[nO b (old b (I.aH.lt e))];exact e) ?_ ?_
 ·by_cases m:b∈as
  ·let#[j,hj]:=List.mem_iff_getElem?.mp m
   have jl:j<kvs.length:=by
    have:=(cw.mp hj).1;omega
   let e':=F1 j b kvs[j] hj (cg jl);rw[e] at e';cases e';let#[its,r,t]:=yO j b _ hj (cg jl);exact#[_,its,Z,zl,r,t]
  rw[nO b m,e0] at e;cases e
 ·have gen:∀as:ai,Vals (as.map V.ref) (as.map Value.ref):=λas=>by
   induction as with
   |nil=>exact .nil
   |cons a as ih=>exact .cons Z ih
  exact gen as
 have gen:∀(CL:ai) (fb:List (Key × V)),CL.length=fb.length->(∀(j:Nat) b p,CL[j]? = some b->fb[j]? = some p->H1 b\.tup [kV p.1,p.2])->og X.K H1 (CL.map V.ref) fb:=λCL=>by
  induction CL with
  |nil=>
   intro fb hl _;cases fb with
   |nil=>exact .nil
   |cons _ _=>cases hl
  |cons a CL ih=>
   intro fb hl h;cases fb with
   |nil=>cases hl
   |cons p fb=>exact .cons #[a,Z,h 0 a p Z Z] (ih fb ⇑hl λj b p e e'=>h (j+1) b p ⇑e ⇑e')
 exact gen as kvs lk F1
end
end L2
namespace L2
open PySem PySem.Spec PyProof.Rows PySem.W mr mw
theorem U3{a b:ae}(h:a.map cE=b.map cE):a=b:=by
 induction a generalizing b with
 |nil=>
  cases b with
  |nil=>rfl
  |cons _ _=>cases h
 |cons x a ih=>
  cases b with
  |nil=>cases h
  |cons y b=>
   let#[h1,h2]:=List.cons.inj h;have h1:[(Sum.inr x:Key)]=[Sum.inr y]:=h1;cases h1;rw[ih h2]
theorem Wn(ss:ae):(ma ss).map cE=aX (ss.map cE):=by
 have all:∀k∈aX (ss.map cE),∃x,k=cE x:=λk hk=>by
  let#[x,_,e]:=bN.mp ((mj _).mem_iff.mp hk);exact#[x,e.symm]
 have gen:∀l:List aA,(∀k∈l,∃x,k=cE x)->(l.map λk=>match k with | [.inr x]=>x|_=>(⟨#[]⟩:Str)).map cE=l:=λl=>by
  induction l with
  |nil=>exact λ_=>rfl
  |cons k l ih=>
   intro h;let#[x,rfl]:=h k eP;rw[fi,fi,ih λk hk=>h k (eA _ hk)];rfl
 exact gen _ all
theorem yM(ss:ae):(ma ss).Perm ss:=by
 have p:((ma ss).map cE).Perm (ss.map cE):=by rw[Wn];exact mj _
 have back:∀l:ae,(l.map cE).map (λk=>match k with | [.inr x]=>x|_=>(⟨#[]⟩:Str))=l:=λl=>by
  rw[ck]
  induction l with
  |nil=>rfl
  |cons x l ih=>rw[fi,ih];rfl
 let q:=p.map (λk=>match k with | [.inr x]=>x|_=>(⟨#[]⟩:Str));rwa [back,back] at q
section
variable{X:Cx}{pins:List (Addr × Obj)}{σ:St}{H:Hp}{s:Ab}
theorem e2_{u:Aa}{ss:ae}{Q:VK}(bU:ss.length<64)(lW:wpAny (model X.prog X.w) X.A.in1 (collect u) (λvs s1=>∃H1,Inv X pins σ H1 s1/\Vals (ss.map V.str) vs/\∀l,H1 l=none->Q (.ref l) (upd H1 l (.lst ((ma ss).map V.str)))) X.xe s) :
  wpAny (model X.prog X.w) X.A (call (.builtin "sorted") [u]) (EP X pins σ Q) X.xe s:=by
 apply Wq (Pk (ss.map cE)) (aV lW λvs s1 ⟨H1,I1,r,q⟩=>?_);have hl:vs.length=ss.length:=by rw[<- r.length,ay]
 apply#[by omega,λh2 h' _=>gK_ (UO r) h2,λp h' e g up hD kp=>?_];have g':Good (ss.map cE).length p:=by rw[ay,<- hl];exact g
 let asc:=O2 (ks:=ss.map cE) (λi j _ _=>rfl) g' (by rw[ay,<- hl];exact up)
 have perm:(p.toList.map λi=>(ss.map cE).getD i []).Perm (ss.map cE):=by
  have:=Ie g' λi=>(ss.map cE).getD i [];rwa [Ip] at this
 let es:=QO perm asc
 have inr:∀i∈p.toList,i<ss.length:=λi hi=>by
  have m:i∈(List.range vs.length).toArray:=g.mem_iff.mp ⇑hi;rw[hl] at m;simpa using m
 have e1:(p.toList.map λi=>ss.getD i ⟨#[]⟩)=ma ss:=by
  apply U3 ?_;rw[Wn,<- es,ck];apply uR λi hi=>?_;have:=inr i hi;simp[this]
 let rv:=Pw r g
 have e2:(p.toList.map λi=>(ss.map V.str).getD i .non)=(ma ss).map V.str:=by
  rw[<- e1,ck];apply uR λi hi=>?_;have:=inr i hi;simp[this]
 rw[e2] at rv;apply#[.ref s1.heap.objs.size,_,I1.laid (t':=s1.toks) kp (br _) (show eM X.prog X.w _ h' _ (.lst ((ma ss).map V.str)) from #[?_,me p vs,e,rv,hD]),Z,q _ (I1.aH.fresh (br _))];rw[ay,(yM ss).length_eq];have:=b_;omega
theorem ij_{K:af}{H:Hp}{ys:ag}{ks:List aA}(t:bF K H ys ks):∀l:List Nat,(∀i∈l,i<ys.length)->bF K H (l.map λi=>ys.getD i .non) (l.map λi=>ks.getD i []):=λl=>by
 induction l with
 |nil=>exact λ_=>.nil
 |cons i l ih=>
  intro h;apply .cons ?_ (ih λj hj=>h j (eA _ hj));let hi:=h i eP
  have gen:∀{ys:ag} {ks:List aA} (i:Nat),i<ys.length->bF K H ys ks->∃a,ys.getD i .non=V.ref a/\H a\.tup ((ks.getD i []).map kV):=λ{ys ks} i hy t=>by
   induction t generalizing i with
   |nil=>exact absurd hy Z2
   |cons h t ih=>
    cases i with
    |zero=>exact h
    |succ i=>exact ih i ⇑hy
  exact gen i hi t
theorem WR{u:Aa}{ks:List aA}{sh:List Bool}{Q:VK}(bU:ks.length<64)(al:AU ks sh)
  (lW:wpAny (model X.prog X.w) X.A.in1 (collect u) (λvs s1=>∃H1 ys,Inv X pins σ H1 s1/\Vals ys vs/\bF X.K H1 ys ks/\∀l zs,H1 l=none->bF X.K H1 zs (aX ks)->zs.Perm ys->Q (.ref l) (upd H1 l (.lst zs))) X.xe s) :
  wpAny (model X.prog X.w) X.A (call (.builtin "sorted") [u]) (EP X pins σ Q) X.xe s:=by
 apply Wq (Pk ks) (aV lW λvs s1 ⟨H1,ys,I1,r,t,q⟩=>?_);let l1:=r.length;let l2:=bP t;have hl:vs.length=ks.length:=by omega
 apply#[by omega,λh2 h' k=>VJ I1 r t al h2 k,λp h' e g up hD kp=>?_];have g':Good ks.length p:=by rw[<- hl];exact g
 let asc:=O2 (ks:=ks) (λi j _ _=>rfl) g' (by rw[<- hl];exact up)
 have perm:(p.toList.map λi=>ks.getD i []).Perm ks:=by
  have:=Ie g' λi=>ks.getD i [];rwa [Ip] at this
 let es:=QO perm asc
 have inr:∀i∈p.toList,i<ys.length:=λi hi=>by
  have m:i∈(List.range vs.length).toArray:=g.mem_iff.mp ⇑hi;rw[<- l1] at m;simpa using m
 let tz:=ij_ t p.toList inr;rw[es] at tz;let rv:=Pw r g
 have pz:(p.toList.map λi=>ys.getD i .non).Perm ys:=by
  have:=Ie (n:=ys.length) (by rw[l1];exact g) λi=>ys.getD i .non;rwa [Ip] at this
 apply#[.ref s1.heap.objs.size,_,I1.laid (t':=s1.toks) kp (br _) (show eM X.prog X.w _ h' _ (.lst (p.toList.map λi=>ys.getD i .non)) from #[?_,me p vs,e,rv,hD]),Z,q _ _ (I1.aH.fresh (br _)) tz pz];rw[pz.length_eq];have:=b_;omega
end
section
variable{X:Cx}
inductive mX (K:af) (xs:ag) (H:Hp) (Q:VK):Prop
 |mk:∀d kvs sh,xs=[.ref d]->H d\.dT kvs->AU (kvs.map (·.1)) sh->kvs.length<64->(∀l zs,H l=none->bF K H zs (aX (kvs.map (·.1)))->Q (.ref l) (upd H l (.lst zs)))->mX K xs H Q
theorem eI_(hc:X.calm=true):gq X (.builtin "sorted") (mX X.K):=by
 intro pins s σ H xs us Q I r h;let#[d,kvs,sh,rfl,hd,al,bU,q]:=h;let#[u,rfl,ru]:=vals1 r;cases ru;exact WR (by rw[ay];exact bU) al (kN_ (I.ok.hd hc) I (.inl hd) λys vs s1 I1 r1 t=>⟨H,ys,I1,r1,t,λl zs n t' _=>q l zs n t'⟩)
inductive mY (xs:ag) (H:Hp) (Q:VK):Prop
 |mk:∀d kvs ss,xs=[.ref d]->H d\.dK kvs->kvs.map (·.1)=ss.map Sum.inr->ss.length<64->(∀l,H l=none->Q (.ref l) (upd H l (.lst ((ma ss).map V.str))))->mY xs H Q
theorem ew_(hc:X.calm=true):gq X (.builtin "sorted") mY:=by
 intro pins s σ H xs us Q I r h;let#[d,kvs,ss,rfl,hd,ek,bU,q]:=h;let#[u,rfl,ru]:=vals1 r;cases ru;apply e2_ bU (S5 (I.ok.hd hc) I (.inl hd) λvs s1 I1 r1=>⟨H,I1,?_,q⟩)
 have e:(kvs.map λkv=>kV kv.1)=ss.map V.str:=by
  rw[show (kvs.map λkv=>kV kv.1)=(kvs.map (·.1)).map kV by rw[ck];rfl,ek,ck];rfl
 rwa [e] at r1
inductive rX (K:af) (xs:ag) (H:Hp) (Q:VK):Prop
 |mk:∀(v d:Addr) (kvs:List (Key × V)) (ks:List (Key × Key)) (sh:List Bool),xs=[.ref v]->H v\o_ v d->H d\.dK kvs->kvs=ks.map (λk:Key × Key=>(k.1,kV k.2))->AU (ks.map λk=>[k.1,k.2]) sh->ks.length<64->(∀l H1 zs,aa H H1->H1 l=none->bF K H1 zs (aX (ks.map λk=>[k.1,k.2]))->Q (.ref l) (upd H1 l (.lst zs)))->rX K xs H Q
theorem g7_(hc:X.calm=true):gq X (.builtin "sorted") (rX X.K):=by
 intro pins s σ H xs us Q I r h;let#[v,d,kvs,ks,sh,rfl,hv,hd,ek,al,bU,q]:=h;let#[u,rfl,ru]:=vals1 r;cases ru;apply WR (by rw[ay];exact bU) al (gb_ (I.ok.hd hc) I hv (.inl hd) λH1 ys vs s1 I1 sm r1 t=>⟨H1,ys,I1,r1,?_,λl zs n t' _=>q l H1 zs sm n t'⟩);subst ek
 have gen:∀(ks:List (Key × Key)) (ys:ag),og X.K H1 ys (ks.map (λk:Key × Key=>(k.1,kV k.2)))->bF X.K H1 ys (ks.map λk=>[k.1,k.2]):=λks=>by
  induction ks with
  |nil=>
   intro ys t;cases t;exact .nil
  |cons k ks ih=>
   intro ys t;cases t with
   |cons h t=>exact .cons h (ih _ t)
 exact gen ks ys t
inductive rZ (xs:ag) (H:Hp) (Q:VK):Prop
 |mk:∀d kvs,xs=[.ref d]->Rd H d (.dK kvs)->(∀l,H l=none->Q (.ref l) (upd H l (.lst (kvs.map λkv=>kV kv.1))))->rZ xs H Q
theorem Qw(hc:X.calm=true):gq X (.type "list") rZ:=by
 intro pins s σ H xs us Q I r h;let#[d,kvs,rfl,hd,q]:=h;let#[u,rfl,ru]:=vals1 r;cases ru;let#[P,OK,S,ok,hp]:=Ts I hd;let z:=(oa I.aH hd).1;apply kdl_call S (I.ok.hd hc) ok (by rw[ay];exact z) λh' tk acc c k hD a=>?_;apply#[.ref s.heap.objs.size,_,I.laid (t':=tk) k (br _) (show eM X.prog X.w _ h' _ (.lst (kvs.map λkv=>kV kv.1)) from #[by rw[ay];exact z,acc.toList,c,Qo a hp,by rw[Array.toArray_toList];exact hD]),Z,q _ I.fresh]
theorem KV.gH{κ:Type}[DecidableEq κ]:∀{more:List (κ × V)} {rs:List (κ × Aa)} {kvs:List (κ × V)} {vs:List (κ × Aa)},KV more rs->KV kvs vs->KV (more.foldl (λacc kv=>putK acc kv.1 kv.2) kvs) (mw.gH vs rs):=λ{more rs kvs vs} h=>by
 induction h generalizing kvs vs with
 |nil=>exact λh=>h
 |@cons p q _ _ h _ ih=>
  intro h2;let#[k,y]:=p;let#[k',u]:=q;let#[h1,h3]:=h;have h1:k=k':=h1;subst h1;exact ih (h2.put k h3)
inductive ni (K:af) (xs:ag) (H:Hp) (Q:VK):Prop
 |mk:∀p ys kvs,xs=[.ref p]->H p\.lst ys->og K H ys kvs->kvs.length<=1000->(∀l,H l=none->Q (.ref l) (upd H l (.dK (oh [] kvs))))->ni K xs H Q
theorem CK(hc:X.calm=true):gq X (.type "dict") (ni X.K):=by
 intro pins s σ H xs us Q I r h;let#[p,ys,kvs,rfl,hp,t,hz,q]:=h;let#[u,rfl,ru]:=vals1 r;cases ru;let#[z,its,n,rv,hl,ho]:=I.jw hp
 have gen:∀{ys:ag} {its:aj} {kvs:List (Key × V)},Vals ys its->og X.K H ys kvs->∃ps,KV kvs ps/\O3 (eZ X.prog X.w) s.heap its ps:=λ{ys its kvs} rv t=>by
  induction t generalizing its with
  |nil=>
   cases rv;exact#[[],.nil,.nil]
  |@cons y p ys kvs h t ih=>
   cases rv with
   |cons r0 rv=>
    let#[ps,h1,h2]:=ih rv;let#[a,e,sq]:=h;subst e;cases r0;let#[tv,rt,it,_]:=I.tuple (gB.of sq);let#[key,x,e2,rk,rx]:=vals2 rt;subst e2;apply#[(p.1,x)::ps,Paired.cons (show p.1=p.1/\RelV p.2 x from #[Z,rx]) h1,Paired.cons (show ∃a' EU,Value.ref a=.ref a'/\IsTup s.heap a' (List.toArray [EU,x])/\(eZ X.prog X.w).is p.1 EU=true from #[a,key,Z,it,wo rk]) h2]
 let#[ps,h1,h2]:=gen rv t;let lp:=KV.length h1;apply dM_ (knd:=eZ X.prog X.w) (I.ok.hd hc) ho h2 Z1 λh' tk hd kp=>?_;apply#[.ref s.heap.objs.size,_,I.laid (t':=tk) kp (br _) (JK ?_ (beq_eq_false_iff_ne.mpr (Ne.symm (dY I.big))) (KV.gH h1 .nil) hd),Z,q _ I.fresh];have:=Rj kvs [];have:=b_;simp only[p6] at *;show (oh [] kvs).length<=sizeLine;omega
theorem Pu:∀{bs:List Bool} {vs:aj},Vals (bs.map V.bl) vs->vs=bs.map Value.bool
 |[],_,.nil=>rfl
 |b::bs,_,.cons h t=>by
  cases h;rw[Pu t];rfl
inductive zH (K:af) (g:List Bool->Bool) (xs:ag) (H:Hp) (Q:VK):Prop
 |mk:∀p bs,xs=[.ref p]->dN K H p (bs.map V.bl)->Q (.bl (g bs)) H->zH K g xs H Q
theorem Vd(hc:X.calm=true):gq X (.builtin "all") (zH X.K λbs=>bs.all id):=by
 intro pins s σ H xs us Q I r h;let#[p,bs,rfl,hp,q]:=h;let#[u,rfl,ru]:=vals1 r;cases ru;let#[its,rv,pl,z]:=I.list hp;obtain rfl:=Pu rv;let hl:=pl.isList;have lt:p<s.heap.objs.size:=by let#[_,e,_]:=hl;exact cm e
 apply call_all_walk (wpAny_pyIter_list hl ⟨s.heap.objs.size,[s.heap.objs.size,p],[s.heap.objs.size],(bs.map Value.bool).toArray.size,_,_,λi=>(bs[i]?).getD true,rfl,Walks.list (A:=X.A.in1) (I.ok.hd hc) _ p (dY lt) _,⟨⟨_,eJ _ rfl,rfl,rfl⟩,hl.push _⟩,λi v s' Q' E' hP hQ=>?_,λh' tk hk=>?_⟩)
 ·have hP:(bs.map Value.bool).toArray[i]? = some v:=hP;simp only[List.getElem?_toArray,dQ] at hP;cases e:bs[i]? with
  |none=>rw[e] at hP;cases hP
  |some b=>
   have hQ:Q' ((bs[i]?).getD true) s':=hQ;rw[e] at hP hQ;cases hP;exact tH hQ
 have e:((List.range (bs.map Value.bool).toArray.size).all λi=>(bs[i]?).getD true)=bs.all id:=by
  rw[cX,ay];exact LSm.range_all bs
 rw[e];exact#[.bl _,H,I.kept (LSm.kept_iter hk),Z,q]
theorem iK_(hc:X.calm=true):gq X (.builtin "any") (zH X.K λbs=>bs.any id):=by
 intro pins s σ H xs us Q I r h;let#[p,bs,rfl,hp,q]:=h;let#[u,rfl,ru]:=vals1 r;cases ru;let#[its,rv,pl,z]:=I.list hp;obtain rfl:=Pu rv;let hl:=pl.isList;have lt:p<s.heap.objs.size:=by let#[_,e,_]:=hl;exact cm e
 apply call_any_walk (wpAny_pyIter_list hl #[s.heap.objs.size,[s.heap.objs.size,p],[s.heap.objs.size],(bs.map Value.bool).toArray.size,_,_,λi=>(bs[i]?).getD false,Z,Walks.list (A:=X.A.in1) (I.ok.hd hc) _ p (dY lt) _,#[#[_,eJ _ Z,Z,Z],hl.push _],λi v s' Q' E' hP hQ=>?_,λh' tk hk=>?_])
 ·have hP:(bs.map Value.bool).toArray[i]? = some v:=hP;simp only[List.getElem?_toArray,dQ] at hP;cases e:bs[i]? with
  |none=>rw[e] at hP;cases hP
  |some b=>
   have hQ:Q' ((bs[i]?).getD false) s':=hQ;rw[e] at hP hQ;cases hP;exact tH hQ
 have e:((List.range (bs.map Value.bool).toArray.size).any λi=>(bs[i]?).getD false)=bs.any id:=by
  rw[cX,ay];exact LSm.range_any bs
 rw[e];exact#[.bl _,H,I.kept (LSm.kept_iter hk),Z,q]
theorem UX:∀{ns:List Int} {vs:aj},Vals (ns.map V.int) vs->IntsAre vs ns
 |[],_,.nil=>.nil
 |n::ns,_,.cons h t=>by
  let#[tk,rfl]:=h;exact .cons _ _ (UX t)
inductive Ei (K:af) (xs:ag) (H:Hp) (Q:VK):Prop
 |mk:∀(p:Addr) (ns:List Int),xs=[.ref p]->dN K H p (ns.map V.int)->0<ns.length->(∀m,m∈ns->(∀a∈ns,a<=m)->Q (.int m) H)->Ei K xs H Q
theorem iL_(hc:X.calm=true):gq X (.builtin "max") (Ei X.K):=by
 intro pins s σ H xs us Q I r h;let#[p,ns,rfl,hp,hn,q]:=h;let#[u,rfl,ru]:=vals1 r;cases ru;let#[its,rv,pl,z]:=I.list hp;let hi:=UX rv;let#[xs,e]:=hi.allInts.items;let hl:=pl.isList;have Aj:ns=xs.toList.map (·.1):=by rw[<- hi.numsOf,<- nums_intItems,<- e]
 have hsz:0<xs.size:=by
  let h3:=hn;rw[Aj] at h3;simpa using h3
 rw[e] at hl;apply max_intList (I.ok.hd hc) hl hsz λv h' tk hv hk=>?_;let#[t,rfl]:=intItems_at hv;let#[h1,h2]:=argBest_gt (numAt xs) (xs.size - 1);apply#[.int _,H,I.kept hk,#[t,Z],q _ ?_ λa ha=>?_]
 ·rw[Aj,numAt_eq];exact getD_mem (by rw[ay,tY];omega)
 rw[Aj] at ha;let#[j,hj,rfl]:=mem_getD ha;rw[ay,tY] at hj;rw[<- numAt_eq];exact h2 j Z1
end
end L2
namespace K8
open PySem PySem.SeqAt PyProof.Rows
open AutoSeq1 (wpAny_loadPart')
open MeetsSeq MeetsSeq2 MeetsSeq3 SeqRoads2
theorem _V(l b:Addr)(xs ys:Array Aa)(n m:Nat)(dl db:Option Addr)(sl sb:Array (Option Aa))(hs:xs.size=ys.size)(e:Nat->Bool)(k:Nat) :
  ∀i:Nat,xs.size - i=k->Meets (Builtin.«list.__eq__.loop» #[[.ref l,.ref b,rawInt i,rawInt 3],[]])
   (λA R s=>(s.heap.get? l=some { cls:=.type "list",dict:=dl,data:=.seq xs n,slots:=sl }/\s.heap.get? b=some { cls:=.type "list",dict:=db,data:=.seq ys m,slots:=sb }) /\
    (∀j (h1:j<xs.size) (h2:j<ys.size),EqAt A.in1 s xs[j] ys[j] (e j))/\R (.ok (.ret (.bool (!((List.range xs.size).drop i).all e)))) s):=by
 induction k with
 |zero=>
  intro i hk prog w A R s ⟨⟨gl,gb⟩,he,h⟩;let#[hp,g,d,tk,os]:=s
  wp_walk using pT gl,pT gb
  rw[show xs[((i:Nat):Int).toNat]? = none by simp;omega,show ys[((i:Nat):Int).toNat]? = none by simp;omega];rw[show (List.range xs.size).drop i=[] by simp;omega] at h
  wp_walk using pT gl,pT gb
  apply (show R (.ok (.ret (.bool (xs.size != ys.size)))) _ from ?_);rw[show (xs.size != ys.size)=false by simp[hs]];exact h
 |succ k ih=>
  intro i hk prog w A R s ⟨⟨gl,gb⟩,he,h⟩;let#[hp,g,d,tk,os]:=s
  wp_walk using pT gl,pT gb
  have z1:i<xs.size:=by omega
  have z2:i<ys.size:=by omega
  have q1:xs[((i:Nat):Int).toNat]? = some xs[i]:=by simp[z1]
  have q2:ys[((i:Nat):Int).toNat]? = some ys[i]:=by simp[z2]
  rw[show (List.range xs.size).drop i=i::(List.range xs.size).drop (i+1) by simp[List.drop_eq_getElem_cons,z1],List.all_cons] at h;rw[q1,q2];apply aC (he i z1 z2 prog w _ _ ?_);cases c:e i with
  |true=>
   rw[c] at h
   wp_walk
   rw[show ((i:Int)+1)=((i+1:Nat):Int) by omega];apply#[plainId_quiet plain_eq_loop _,codeAny_builtin entry_eq_loop ?_];rw[Around.under_plainId plain_eq_loop _];exact ih (i+1) Z1 prog w A R _ #[#[gl,gb],he,by simpa using h]
  |false=>
   rw[c] at h
   wp_walk using pT gl,pT gb
   rw[q1,q2]
   wp_walk
   simpa using h
theorem iE_(l b:Addr)(xs ys:Array Aa)(n m:Nat)(dl db:Option Addr)(sl sb:Array (Option Aa))(hs:xs.size=ys.size)(e:Nat->Bool) :
  Meets (Builtin.«list.__ne__» #[[.ref l,.ref b],[]])
   (λA R s=>(s.heap.get? l=some { cls:=.type "list",dict:=dl,data:=.seq xs n,slots:=sl }/\s.heap.get? b=some { cls:=.type "list",dict:=db,data:=.seq ys m,slots:=sb }) /\
    (∀j (h1:j<xs.size) (h2:j<ys.size),EqAt A.in1 s xs[j] ys[j] (e j))/\R (.ok (.ret (.bool (!(List.range xs.size).all e)))) s):=by
 intro prog w A R s ⟨⟨gl,gb⟩,he,h⟩;let#[hp,g,d,tk,os]:=s;let f3:=AutoSeq1.sub_list_list;have no:¬(xs.size != ys.size)=true:=by simp[hs]
 wp_walk using pT gl,pT gb
 apply#[plainId_quiet plain_eq_loop _,codeAny_builtin entry_eq_loop ?_];rw[Around.under_plainId plain_eq_loop _];exact _V l b xs ys n m dl db sl sb hs e _ 0 Z prog w A R _ #[#[gl,gb],he,by simpa using h]
theorem iF_(l b:Addr)(xs ys:Array Aa)(n m:Nat)(dl db:Option Addr)(sl sb:Array (Option Aa))(hs:(xs.size != ys.size)=true) :
  Meets (Builtin.«list.__ne__» #[[.ref l,.ref b],[]])
   (λA R s=>(s.heap.get? l=some { cls:=.type "list",dict:=dl,data:=.seq xs n,slots:=sl }/\s.heap.get? b=some { cls:=.type "list",dict:=db,data:=.seq ys m,slots:=sb })/\R (.ok (.ret (.bool true))) s):=
 .of_wp λprog w A R s ⟨⟨gl,gb⟩,h⟩=>by
  let#[hp,g,d,tk,os]:=s;let f3:=AutoSeq1.sub_list_list
  wp_walk using pT gl,pT gb
  exact#[_,Z,h]
section
variable{prog:Ad}{w:Af}{A:Ag}{E:Aa->Ab->Prop}{s:Ab}
theorem oU{l b:Addr}{xs ys:Array Aa}{e:Nat->Bool}{Q:Aa->Ab->Prop}(hl:s.heap.IsList l xs)(hb:s.heap.IsList b ys)(hs:xs.size=ys.size)(hu:A.units<cLine)
  (he:∀j (h1:j<xs.size) (h2:j<ys.size),EqAt A.in1 s xs[j] ys[j] (e j)) (h:Q (.bool (!(List.range xs.size).all e)) s):wpAny (model prog w) A (compareOp .NotEq (.ref l) (.ref b)) Q E s:=by
 let#[#[c1,d1,t1,l1],o1,k1,n1,z1]:=id hl;let#[#[c2,d2,t2,l2],o2,k2,n2,z2]:=id hb;simp only at k1 z1 k2 z2;subst k1 z1 k2 z2;exact richCompare_meets_room (op:=.NotEq) #[_,o1,Z] #[_,o2,Z] F.slot_list_ne F.entry_list_ne (F.args_list_ne_2 _ _) (iE_ l b xs ys n1 n2 d1 d2 l1 l2 hs e) #[#[o1,o2],he,show Value.bool (!(List.range xs.size).all e)≠Value.notImplemented/\Q (.bool (!(List.range xs.size).all e)) s from #[(λx=>nomatch x),h]] hu
theorem gG{l b:Addr}{xs ys:Array Aa}{Q:Aa->Ab->Prop}(hl:s.heap.IsList l xs)(hb:s.heap.IsList b ys)(hs:(xs.size != ys.size)=true)(hu:A.units<cLine)(h:Q (.bool true) s):wpAny (model prog w) A (compareOp .NotEq (.ref l) (.ref b)) Q E s:=by
 let#[#[c1,d1,t1,l1],o1,k1,n1,z1]:=id hl;let#[#[c2,d2,t2,l2],o2,k2,n2,z2]:=id hb;simp only at k1 z1 k2 z2;subst k1 z1 k2 z2;exact richCompare_meets_room (op:=.NotEq) #[_,o1,Z] #[_,o2,Z] F.slot_list_ne F.entry_list_ne (F.args_list_ne_2 _ _) (iF_ l b xs ys n1 n2 d1 d2 l1 l2 hs) #[#[o1,o2],show Value.bool true≠Value.notImplemented/\Q (.bool true) s from #[(λx=>nomatch x),h]] hu
end
end K8
namespace L2
open PySem PySem.Spec PyProof.Rows PySem.W mr mw
abbrev Rp(D:Type):=Hp->V->D->Prop
structure qa (X:Cx) (n:Nat) {D:Type} [DecidableEq D] (R:Rp D):Prop where
 eq:∀{pins:List (Addr × Obj)} {σ:St} {H:Hp} {s:Ab} {A:Ag} {x y:V} {u v:Aa} {d e:D},Inv X pins σ H s->RelV x u->RelV y v->R H x d->R H y e->A.units+n<cLine->SeqAt.EqAt A s u v (decide (d=e))
 one:∀{pins:List (Addr × Obj)} {σ:St} {H:Hp} {s:Ab} {x:V} {d e:D},Inv X pins σ H s->R H x d->R H x e->d=e
def rS:Rp Str:=λ_ x d=>x=.str d
def r2(K:af){D1 D2:Type}(R1:Rp D1)(R2:Rp D2):Rp (D1 × D2):=λH x d=>∃a u v,x=.ref a/\gB K H a [u,v]/\R1 H u d.1/\R2 H v d.2
def rL(K:af){D:Type}(R:Rp D):Rp (List D):=λH x ds=>∃a xs,x=.ref a/\dN K H a xs/\Paired (R H) xs ds
section
variable{X:Cx}
theorem hV:qa X 0 rS where
 eq:=λ{pins σ H s A x y u v d e} I ru rv hx hy hu=>by
  have hx:x=.str d:=hx;have hy:y=.str e:=hy;subst hx;subst hy;let q:=JL (A:=A) (s:=s) ru rv Z Z
  have e2:nU (.str d) (.str e)=decide (d=e):=by
   show (d == e)=_;by_cases h:d=e
   ·subst h;simp
   simp[h]
  rwa [e2] at q
 one:=λ{pins σ H s x d e} I hx hy=>by
  have hx:x=.str d:=hx;have hy:x=.str e:=hy;rw[hx] at hy;exact V.str.inj hy
theorem KW{h:Heap}{a:Addr}{its:Array Aa}(t:IsTup h a its):h.IsTuple a its:=t
theorem Hf{n m:Nat}{D1 D2:Type}[DecidableEq D1][DecidableEq D2]{R1:Rp D1}{R2:Rp D2}(c1:qa X n R1)(c2:qa X m R2):qa X (max n m+1) (r2 X.K R1 R2) where
 one:=λ{pins σ H s x d e} I hx hy=>by
  let#[a,u,v,rfl,t,q1,q2]:=hx;let#[b,u',v',e0,t',Jc,Jb]:=hy;cases e0;let e1:=I.hZ t t';cases e1;exact Prod.ext (c1.one I q1 Jc) (c2.one I q2 Jb)
 eq:=λ{pins σ H s A x y u v d e} I ru rv hx hy hu=>by
  let BM:=hx;let hy':=hy;let#[a,x1,x2,rfl,t,q1,q2]:=hx;let#[b,y1,y2,rfl,t',Jc,Jb]:=hy;cases ru;cases rv;by_cases Uq:a=b
  ·subst Uq;let e1:=I.hZ t t';cases e1;have:d=e:=Prod.ext (c1.one I q1 Jc) (c2.one I q2 Jb);rw[cb this];exact SeqAt.EqAt.same _
  let#[its,r,it,_]:=I.tuple t;let#[its',r',it',_]:=I.tuple t';let#[u1,u2,rfl,r1,r2]:=vals2 r;let#[w1,w2,rfl,ZI,ZG]:=vals2 r'
  let key:=SeqAt.EqAt.of_refs Uq (SeqAt.RcAt.tuples (A:=A) (s:=s) (e:=λj=>if j=0 then decide (d.1=e.1) else decide (d.2=e.2)) (KW it) (KW it') Z1 λj h1 h2=>by
   match j,h1,h2 with
   |0,_,_=>exact c1.eq I r1 ZI q1 Jc (by show A.units+1+n<cLine;omega)
   |1,_,_=>exact c2.eq I r2 ZG q2 Jb (by show A.units+1+m<cLine;omega))
  have e3:((List.range (min [u1,u2].toArray.size [w1,w2].toArray.size)).all (λj=>if j=0 then decide (d.1=e.1) else decide (d.2=e.2))&&[u1,u2].toArray.size == [w1,w2].toArray.size)=decide (d=e):=by
   show (decide (d.1=e.1)&&(decide (d.2=e.2)&&true)&&true)=_;by_cases h1:d.1=e.1
   ·by_cases h2:d.2=e.2
    ·have:d=e:=Prod.ext h1 h2;simp[this]
    have:¬d=e:=λz=>h2 (by rw[z]);simp[h1,h2,this]
   have:¬d=e:=λz=>h1 (by rw[z]);simp[h1,this]
  rw[e3] at key;exact key
theorem gY{α β:Type}{F:α->β->Prop}:∀{l:List α} {m:List β},Paired F l m->∀(i:Nat) (h1:i<l.length) (h2:i<m.length),F l[i] m[i]
 |_,_,.cons h t,0,_,_=>h
 |_,_,.cons h t,i+1,h1,h2=>gY t i ⇑h1 ⇑h2
theorem Rg{D:Type}[DecidableEq D]:∀{ds es:List D},ds.length=es.length->((List.range ds.length).all λj=>decide (ds[j]? = es[j]?))=decide (ds=es):=λ{ds es} hl=>by
 by_cases h:ds=es
 ·subst h;simp
 rw[dM h]
 have:∃i,i<ds.length/\ds[i]?≠es[i]?:=by
  apply Classical.byContradiction λhn=>h ?_;apply List.ext_getElem? ?_;intro i;by_cases hi:i<ds.length
  ·exact Classical.byContradiction λq=>hn #[i,hi,q]
  rw[List.getElem?_eq_none Z1,List.getElem?_eq_none Z1]
 let#[i,hi,q]:=this;rw[List.all_eq_false];exact#[i,by simpa using hi,by simpa using q]
theorem PX{D:Type}[DecidableEq D]{n:Nat}{R:Rp D}(c:qa X n R){pins:List (Addr × Obj)}{σ:St}{H:Hp}{s:Ab}{A:Ag}(I:Inv X pins σ H s){xs ys:ag}{us vs:aj}{ds es:List D}(ru:Vals xs us)(rv:Vals ys vs)(hx:Paired (R H) xs ds)(hy:Paired (R H) ys es)(hu:A.units+n<cLine) :
  ∀j (h1:j<us.toArray.size) (h2:j<vs.toArray.size),SeqAt.EqAt A s us.toArray[j] vs.toArray[j] (decide (ds[j]? = es[j]?)):=λj h1 h2=>by
 let l1:=ru.length;let l2:=rv.length;let l3:=bP hx;let l4:=bP hy;simp only[cX] at h1 h2;let q:=c.eq (A:=A) I (gY ru j Z1 h1) (gY rv j Z1 h2) (gY hx j Z1 Z1) (gY hy j Z1 Z1) hu
 have e:decide (ds[j]? = es[j]?)=decide (ds[j]' Z1=es[j]' Z1):=by
  rw[cg Z1,cg Z1];by_cases z:ds[j]' Z1=es[j]' Z1
  ·simp[z]
  simp[z]
 rw[e];exact q
def zG{D:Type}[DecidableEq D](R:Rp D)(neg:Bool):V->V->Hp->VK->Prop:=λx y H Q=>∃d e,R H x d/\R H y e/\Q (.bl (if neg then !decide (d=e) else decide (d=e))) H
theorem Tn{n:Nat}{D:Type}[DecidableEq D]{R:Rp D}(c:qa X n R)(hu:X.A.units+n+1<cLine):dS X (compareOp .Eq) (zG (rL X.K R) false):=by
 intro pins s σ H x y v u Q I rx ry h;let#[d,e,#[a,xs,rfl,t,q],#[b,ys,rfl,t',q'],hq]:=h;cases rx;cases ry;let#[us,r,pl,_]:=I.list t;let#[vs,r',r_,_]:=I.list t';let l1:=r.length;let l2:=r'.length;let l3:=bP q;let l4:=bP q';by_cases hl:d.length=e.length
 ·apply SeqAt.eq_listAt pl.isList r_.isList (by simp only[cX];omega) Z1 (PX c I r r' q q' (A:=X.A.in1) (by show X.A.units+1+n<cLine;omega)) #[.bl _,H,I,Z,?_];rw[show us.toArray.size=d.length by simp only[cX];omega,Rg hl];exact hq
 apply SeqAt.eq_list_lengthsAt pl.isList r_.isList (by simp only[cX,bne_iff_ne];omega) Z1 #[.bl _,H,I,Z,?_];have hq:Q (.bl (decide (d=e))) H:=hq;rwa [dM (λz=>hl (by rw[z]))] at hq
theorem kJ_{n:Nat}{D:Type}[DecidableEq D]{R:Rp D}(c:qa X n R)(hu:X.A.units+n+1<cLine):dS X (compareOp .NotEq) (zG (rL X.K R) true):=by
 intro pins s σ H x y v u Q I rx ry h;let#[d,e,#[a,xs,rfl,t,q],#[b,ys,rfl,t',q'],hq]:=h;cases rx;cases ry;let#[us,r,pl,_]:=I.list t;let#[vs,r',r_,_]:=I.list t';let l1:=r.length;let l2:=r'.length;let l3:=bP q;let l4:=bP q';have hq:Q (.bl (!decide (d=e))) H:=hq;by_cases hl:d.length=e.length
 ·apply K8.oU pl.isList r_.isList (by simp only[cX];omega) Z1 (PX c I r r' q q' (A:=X.A.in1) (by show X.A.units+1+n<cLine;omega)) #[.bl _,H,I,Z,?_];rw[show us.toArray.size=d.length by simp only[cX];omega,Rg hl];exact hq
 apply K8.gG pl.isList r_.isList (by simp only[cX,bne_iff_ne];omega) Z1 #[.bl _,H,I,Z,?_];rwa [dM (λz=>hl (by rw[z]))] at hq
def zF(K:af){D:Type}[DecidableEq D](R:Rp D)(neg:Bool):V->V->Hp->VK->Prop:=λx y H Q=>∃d es,R H x d/\rL K R H y es/\Q (.bl (if neg then !decide (d∈es) else decide (d∈es))) H
theorem Tq{D:Type}[DecidableEq D]{n:Nat}{R:Rp D}(c:qa X n R){pins:List (Addr × Obj)}{σ:St}{H:Hp}{s:Ab}{A:Ag}(I:Inv X pins σ H s){x:V}{u:Aa}{d:D}(ru:RelV x u)(hx:R H x d)(hu:A.units+n<cLine):∀{ys:ag} {vs:aj} {es:List D},Vals ys vs->Paired (R H) ys es->
  ∃f:Aa->Bool,(∀w∈vs,SeqAt.EqAt A s w u (f w))/\vs.any f=decide (d∈es):=λ{ys vs es} rv hy=>by
 let f:Aa->Bool:=λw=>@decide (∃y e,RelV y w/\R H y e/\e=d) (Classical.propDecidable _)
 have sound:∀y w e,RelV y w->R H y e->f w=decide (e=d):=λy w e h1 h2=>by
  by_cases z:e=d
  ·rw[cb z];exact @cb _ (Classical.propDecidable _) #[y,e,h1,h2,z]
  rw[dM z];apply @dM _ (Classical.propDecidable _) λ⟨y',e',g1,g2,g3⟩=>z ?_;have:y'=y:=RelV.inj g1 h1;subst this;rw[<- g3];exact c.one I h2 g2
 apply#[f,?_,?_]
 ·induction rv generalizing es with
  |nil=>exact λw hw=>nomatch hw
  |cons h t ih=>
   cases hy with
   |cons g t'=>
    intro w hw;rcases cq.mp hw with rfl|hw
    ·rw[sound _ _ _ h g];exact c.eq I h ru g hx hu
    exact ih t' w hw
 induction rv generalizing es with
 |nil=>
  cases hy;simp
 |cons h t ih=>
  cases hy with
  |@cons _ e _ es g t'=>
   rw[List.any_cons,ih t',sound _ _ _ h g];by_cases z:e=d
   ·subst z;simp
   by_cases z2:d∈es
   ·simp[z2]
   have:¬d∈e::es:=λq=>by
    rcases cq.mp q with q|q
    ·exact z q.symm
    exact z2 q
   rw[dM z,dM z2,dM this];rfl
theorem NM{n:Nat}{D:Type}[DecidableEq D]{R:Rp D}(c:qa X n R)(hu:X.A.units+n+1<cLine):dS X (compareOp .In) (zF X.K R false):=by
 intro pins s σ H x y v u Q I rx ry h;let#[d,es,hx,#[a,ys,rfl,t,q],hq]:=h;cases ry;let#[us,r,pl,_]:=I.list t;let#[f,h1,h2]:=Tq c I (A:=X.A.in1) rx hx (by show X.A.units+1+n<cLine;omega) r q;apply SeqAt.in_listAt f pl.isList (λw hw=>h1 w ⇑hw) #[.bl _,H,I,Z,?_];rw[show us.toArray.any f=us.any f by simp,h2];exact hq
theorem Vx{n:Nat}{D:Type}[DecidableEq D]{R:Rp D}(c:qa X n R)(hu:X.A.units+n+1<cLine):dS X (compareOp .NotIn) (zF X.K R true):=by
 intro pins s σ H x y v u Q I rx ry h;let#[d,es,hx,#[a,ys,rfl,t,q],hq]:=h;cases ry;let#[us,r,pl,_]:=I.list t;let#[f,h1,h2]:=Tq c I (A:=X.A.in1) rx hx (by show X.A.units+1+n<cLine;omega) r q;apply SeqAt.notIn_listAt f pl.isList (λw hw=>h1 w ⇑hw) #[.bl _,H,I,Z,?_];rw[show us.toArray.any f=us.any f by simp,h2];exact hq
end
end L2
namespace L2
open PySem PySem.Spec PyProof.Rows PySem.W mr mw
section
variable{X:Cx}
inductive El (K:af) (xs:ag) (H:Hp) (Q:VK):Prop
 |mk:∀x T t b,xs=[x,.ty T]->dE K H x t->PySem.W.kitOne K t (.type T)\b->Q (.bl b) H->El K xs H Q
theorem iS:gq X (.builtin "isinstance") (El X.K):=by
 intro pins s σ H xs us Q I r h;let#[x,T,t,b,rfl,ty,e,q]:=h;let#[u,w',rfl,ru,jq]:=vals2 r;cases (show w'=Value.type T from jq);exact VN I ru ty e λtk=>#[.bl b,H,I.tok tk,Z,q]
inductive Wr (x:V) (y:V) (H:Hp) (Q:VK):Prop
 |mk:∀i j,x=.str i->y=.str j->Q (.bl (!decide (j.cps.toList<i.cps.toList))) H->Wr x y H Q
theorem WK:dS X (compareOp .LtE) Wr:=by
 intro pins s σ H x y v u Q I rx ry h;let#[i,j,rfl,rfl,q]:=h;let#[t,rfl]:=rx;let#[t',rfl]:=ry;exact PySem.P.le_str ⟨.bl _,H,I,rfl,q⟩
theorem kn_{prog:Ad}{w':Af}{A:Ag}{E:Aa->Ab->Prop}{s:Ab}(l:Addr)(its:Array Aa)(n:Nat)(k:Int)(t:Tok)(w:Aa)(h1:¬(!Builtin.List.listFitsIndex k)=true)(h2:its.size<=sizeLine){Q:Aa->Ab->Prop}
 (e:s.heap.get? l=some { cls:=.type "list",data:=.seq its n }) (f:Array Aa->Array Aa) (hf:f=λxs:Array Aa=>let k:=if k<0 then (k+((xs.size:Nat):Int)).toNat else min k.toNat xs.size;(xs.extract 0 k).push w++xs.extract k)
 (q:Q .none { s with heap:=s.heap.update l (Obj.mapSeq f) }):wpAny (model prog w') A (call (.builtin "list.insert") [.ref l,.int k t,w]) Q E s:=by
 subst hf;let hm:=@PySem.AutoListH.list_insert_list_int_val_1 l its n k t w h1 h2;have ty:s.TypeIs (.ref l) "list":=⟨_,e,rfl⟩;exact wpAny_call (codeAny_call_builtin F.slot_list_insert.plain F.entry_list_insert (F.slot_list_insert.check _ _ _ _ _ _ _ _ ty (F.args_list_insert_3 _ _ _) (hm prog w' A (wants Q E) s ⟨e,q⟩)))
inductive mZ (x:V) (vs:ag) (H:Hp) (Q:VK):Prop
 |mk:∀(l:Addr) (k:Nat) (xs:ag) (y:V),x=.ref l->vs=[.int k,y]->H l\.lst xs->k<=xs.length->xs.length<100000->Q .non (upd H l (.lst (xs.take k++y::xs.drop k)))->mZ x vs H Q
theorem gN_:Rw X "list.insert" mZ:=by
 intro pins s σ H x vs v us Q I rx rv h;let#[l,k,xs,y,rfl,rfl,hH,hk,hz,q]:=h;cases rx;let#[u,w,rfl,#[t,rfl],jq]:=rv.two;let#[z,its,n,r,hl,e]:=I.jw hH;let sz:=b_
 have fit:Builtin.List.listFitsIndex (k:Int)=true:=by
  unfold Builtin.List.listFitsIndex;rw[cb Z1,cb Z1];rfl
 apply kn_ l its.toArray n (k:Int) t w (by rw[fit];exact f_) (by rw[cX];omega) e _ rfl ?_;apply⟨.non,_,I.zP (its':=its.take k++w::its.drop k) (f:=λxs=>let k':=if (k:Int)<0 then ((k:Int)+((xs.size:Nat):Int)).toNat else min (k:Int).toNat xs.size;(xs.extract 0 k').push w++xs.extract k') hH e ?_ (Vals.append (r.take k) (.cons jq (r.drop k))) ?_,rfl,q⟩
 ·have e1:(if (k:Int)<0 then ((k:Int)+((its.toArray.size:Nat):Int)).toNat else min (k:Int).toNat its.toArray.size)=k:=by
   rw[aE Z1];simp;omega
  dsimp only;rw[e1];apply Array.ext' ?_;simp[w9]
 rw[dW,iO,dP,wX];omega
inductive qi (mk:Addr->Addr->HO) (Q:VK) (x:V) (H1:Hp):Prop
 |mk:∀d kvs,x=.ref d->H1 d\.dK kvs->(∀v,H1 v=none->Q (.ref v) (upd H1 v (mk v d)))->qi mk Q x H1
def xi(mk:Addr->Addr->HO)(td:TE):TE:=λσ H Q=>td σ H λx H1=>qi mk Q x H1
theorem US{pins:List (Addr × Obj)}{σ:St}{H:Hp}{s:Ab}{d:Addr}{cls:String}(I:Inv X pins σ H s)(φ:Heap->Prop)(hφ:φ (s.heap.push { cls:=.type cls,data:=.fields (List.toArray [.ref d]) }))(hs:∀h1 h2:Heap,φ h1->(∀o,h1.get? s.heap.objs.size\o->h2.get? s.heap.objs.size\o)->φ h2) :
  Inv X pins σ (upd H s.heap.objs.size (.ext φ)) { s with heap:=s.heap.push { cls:=.type cls,data:=.fields (List.toArray [.ref d]) } }:=
 I.laid (t':=s.toks) (λ_ _ q=>cc _ q) (br _) #[hφ,#[_,eJ _ Z],hs]
theorem HZ{o:Expr}{td:TE}{apos cn:Pos}(ho:PE X o td)(gL:attributeBase o "items" X.env (eval o X.env)=eval o X.env:=by rfl)(jC:(apos.endLine == cn.line)=true:=by rfl):PE X (.Call (.Attribute o "items" apos) [] [] cn) (xi o_ td):=by
 intro pins s σ H Q I h;apply wpAny_Call_method0_late gL jC (aV (ho pins s σ H _ I h) λv s1 ⟨x,H1,I1,r1,d,kvs,e,hd,q⟩=>?_);subst e;cases r1;let#[t1,t2,t3]:=Tc I1 (.inl #[kvs,.inl hd]);let#[_,_,vs,rel,dd]:=AM I1.aH hd;apply#["dict","dict.items",PySem.F.plainAttrs_dict,PySem.F.slot_dict_items,PySem.F.type_dict_items,t1,t2,Calls.callWith_builtin Z (PySem.evalArgs_none ?_)];apply call_meetsIn PySem.F.slot_dict_items t1 PySem.F.entry_dict_items (PySem.F.args_dict_items_1 _) (meets_dict_items (eZ X.prog X.w) d t3) #[#[vs,dd],?_];exact#[.ref _,_,US I1 _ #[_,eJ _ Z,Z,Z] λh1 h2 ⟨o,e,r⟩ k=>#[o,k o e,r],Z,q _ I1.fresh]
theorem hW_{o:Expr}{td:TE}{apos cn:Pos}(ho:PE X o td)(gL:attributeBase o "values" X.env (eval o X.env)=eval o X.env:=by rfl)(jC:(apos.endLine == cn.line)=true:=by rfl):PE X (.Call (.Attribute o "values" apos) [] [] cn) (xi Bl td):=by
 intro pins s σ H Q I h;apply wpAny_Call_method0_late gL jC (aV (ho pins s σ H _ I h) λv s1 ⟨x,H1,I1,r1,d,kvs,e,hd,q⟩=>?_);subst e;cases r1;let#[t1,t2,t3]:=Tc I1 (.inl #[kvs,.inl hd]);let#[_,_,vs,rel,dd]:=AM I1.aH hd;apply#["dict","dict.values",PySem.F.plainAttrs_dict,PySem.F.slot_dict_values,PySem.F.type_dict_values,t1,t2,Calls.callWith_builtin Z (PySem.evalArgs_none ?_)];apply call_meetsIn PySem.F.slot_dict_values t1 PySem.F.entry_dict_values (PySem.F.args_dict_values_1 _) (meets_dict_values (eZ X.prog X.w) d t3) #[#[vs,dd],?_];exact#[.ref _,_,US I1 _ #[_,eJ _ Z,Z,Z] λh1 h2 ⟨o,e,r⟩ k=>#[o,k o e,r],Z,q _ I1.fresh]
end
section
variable{X:Cx}{pins:List (Addr × Obj)}{σ:St}{H:Hp}{s:Ab}{d:Addr}{kvs:List (Key × V)}
theorem Inv.freeze(I:Inv X pins σ H s)(h:H d\.dK kvs):∃o,s.heap.get? d\o/\Inv X pins σ (upd H d (.frz o (.dK kvs))) s:=by
 let#[z,hd,vs,rel,dd]:=AM I.aH h;let#[o,es,ep,ho,r]:=id dd;have other:∀{b u},H b\u->u≠.dK kvs->upd H d (.frz o (.dK kvs)) b\u:=λ{b u} e ne=>by rw[az (cy e h ne)];exact e
 apply#[o,ho,I.un (h':=s.heap) (t':=s.toks) #[λb u q _ _ _=>q,λb u q _ _ _=>#[u.slots,q],λb u q n _=>?_,λb u q _=>#[u,q],λb xs q=>other q Z2,λb u v q=>other q Z2,λb ps q=>#[#[],by rw[Array.append_empty];exact other q Z2]] λb u q=>?_]
 ·by_cases e:b=d
  ·subst e;rw[h] at n;cases n
  rw[az e];exact n
 by_cases e:b=d
 ·subst e;rw[ao] at q;cases q;exact#[ho,z,hd,vs,rel,dd]
 rw[az e] at q;exact (I.aH b u q).dX (λc v _ z=>z) (λc z=>other z Z2) λc xs z=>other z Z2
theorem Inv.oM{o:Obj}(I:Inv X pins σ H s)(h:H d\.frz o (.dK kvs))(h0:∀o u,X.iT d≠some (.frz o u)):Inv X pins σ (upd H d (.dK kvs)) s:=by
 have other:∀{b u},H b\u->(∀o v,u≠.frz o v)->upd H d (.dK kvs) b\u:=λ{b u} e ne=>by rw[az (cy e h (ne _ _))];exact e
 have ny:∀{b},H b=none->upd H d (.dK kvs) b=none:=λ{b} e=>by
  rw[az (λz=>by subst z;rw[h] at e;cases e)];exact e
 apply#[I.ok,I.os,I.bare,#[I.base.keep,I.base.slot,λb u q n hx=>ny (I.base.free b u q n hx),I.base.there,λb xs q=>other (I.base.gD b xs q) Z2,λb u v q=>?_,λb ps q=>?_],I.loc,I.cell,ny I.free,λx c e=>ny (I.dU x c e),λp hp=>?_,λb u q=>?_,I.len]
 ·have:=I.base.fG b u v q;rw[az (λz=>by subst z;exact h0 _ _ q)];exact this
 ·let#[more,e]:=I.base.gg b ps q;exact#[more,other e Z2]
 ·let#[a1,a2,a3]:=I.pin p hp;exact#[a1,ny a2,a3]
 by_cases e:b=d
 ·subst e;rw[ao] at q;cases q;let#[ho,z,hd,vs,rel,dd]:=I.aH b _ h;exact#[z,hd,vs,rel,dd]
 rw[az e] at q;exact (I.aH b u q).dX (λc v _ z=>z) (λc z=>other z Z2) λc xs z=>other z Z2
end
def De(t:TE):TE:=λσ H Q=>∃d kvs,H d\.dK kvs/\t σ H λv H1=>∃o,H1 d\.frz o (.dK kvs)/\Q v (upd H1 d (.dK kvs))
theorem jC_{X:Cx}{e:Expr}{t:TE}(h:PE X e t):PE X e (De t):=by
 intro pins s σ H Q I q;let#[d,kvs,hd,q]:=q;apply aV (h pins s σ H _ I q) λu s' ⟨v,H1,I1,r,o,hf,q1⟩=>#[v,_,I1.oM hf (λo u z=>?_),r,q1];have:=I.base.fG _ _ _ z;rw[hd] at this;cases this
def Xt(d:Addr)(o:Obj)(kvs:List (Key × V)):It:=#[λi H=>H d\.frz o (.dK kvs)/\i<kvs.length,λi H x H'=>H'=H/\∃k,kvs[i]? = some (k,x),λi H=>H d\.frz o (.dK kvs)/\kvs.length<=i]
theorem KY{X:Cx}{pins:List (Addr × Obj)}{σ:St}{H:Hp}{s:Ab}{d:Addr}{kvs:List (Key × V)}{o:Obj}{es:Array DictEntry}{ep:Nat}(I:Inv X pins σ H s)(h:H d\.frz o (.dK kvs))(ho:o.data=.dict es ep):∃vs,KV kvs vs/\s.heap.DictAt (eZ X.prog X.w) d vs ep:=by
 let#[e,z,hd,vs,rel,o',JR,JS,e',c',d',r]:=I.aH d _ h;rw[e] at e';cases e';rw[ho] at d';cases d';exact#[vs,rel,o,es,e,c',ho,r]
theorem Ta{κ:Type}{kvs:List (κ × V)}{vs:List (κ × Aa)}(r:KV kvs vs):∀(i:Nat) {k:κ} {x:V},kvs[i]? = some (k,x)->∃u,vs[i]? = some (k,u)/\RelV x u:=by
 induction r with
 |nil=>intro i k x e;simp at e
 |@cons p q _ _ h _ ih=>
  intro i k x e;cases i with
  |zero=>
   have e:p=(k,x):=⇑e
   subst e;apply#[q.2,?_,h.2];rw[List.getElem?_cons_zero];have h1:k=q.1:=h.1;rw[h1]
  |succ i=>exact ih i ⇑e
theorem hZ_{P:Ad}{w:Af}{K:af}{tg:Expr}(d it:Addr)(o:Obj)(kvs:List (Key × V)){es:Array DictEntry}{ep:Nat}(ho:o.data=.dict es ep):Turn P w K tg (Xt d o kvs) [it] it (λi h=>h.IsValIter it d i kvs.length ep) where
 mem:=by simp
 obj:=λi h st b hb=>by
  obtain rfl:b=it:=⇑hb
  let#[o,e,c,d]:=st;exact#[o,e,λv z=>by rw[d] at z;cases z]
 keep:=λi h h' st k=>st.at λo e=>k it Z2 o e
 item:=by
  intro X hP hw hK hc i pins s σ H E I hf st hg;subst hP hw hK;let#[hd,hi]:=hg;let#[vs,rel,dat]:=KY I hd ho;obtain⟨⟨k,x⟩,hx⟩:∃p,kvs[i]? = some p:=#[kvs[i],by simp[hi]];let#[u,hu,ru]:=Ta rel i hx;let#[f0,f1,f2,f3,f4,f5]:=hf it Z2;rw[rel.length] at st;apply wpAny_pyNext_values_item st dat hu λh' ft sb=>?_;have I1:Inv X pins σ H { s with heap:=h' }:=I.turned (t':=s.toks) (λb o hb e=>(sb.2 b hb).trans e) f0 f1 f3 f4 f5;let#[o',e,c,dd]:=id ft;apply#[u,Z,F2 (s:={ s with heap:=h' }) e c dd (by decide) #[x,H,I1,ru,#[Z,k,hx],?_,λb hb=>(hf b hb).1]];show h'.IsValIter it d (i+1) kvs.length ep;rw[rel.length];exact ft
 done:=by
  intro X hP hw hK hc i pins s σ H E I hf st hg;subst hP hw hK;let#[hd,hi]:=hg;let#[vs,rel,dat]:=KY I hd ho;let#[f0,f1,f2,f3,f4,f5]:=hf it Z2;rw[rel.length] at st hi;exact wpAny_pyNext_values_end (I.ok.hd hc) st dat (by simp;omega) λh' eb=>#[Z,I.turned (t':=s.toks) (λb o hb e=>eb b o hb e) f0 f1 f3 f4 f5]
 self:=λ_ _ _ _ _ st h=>wpAny_pyIter_valiter st h
inductive sJ (R:It->Hp->Prop) (x:V) (H1:Hp):Prop
 |mk:∀v d kvs,x=.ref v->H1 v\Bl v d->H1 d\.dK kvs->(∀o,R (Xt d o kvs) (upd H1 d (.frz o (.dK kvs))))->sJ R x H1
def E1(tv:TE):TI:=λσ H R=>tv σ H λx H1=>sJ R x H1
theorem jx_{X:Cx}{tg e:Expr}{tv:TE}(he:PE X e tv):PI X tg e (E1 tv):=by
 intro pins s σ H R I h;apply aV (he pins s σ H _ I h) λu s1 ⟨x,H1,I1,r1,v,d,kvs,ex,hv,hd,q⟩=>?_;subst ex;cases r1;let#[iv,_,_]:=I1.aH v _ hv;let#[o,ho,I2]:=I1.freeze hd;let#[z,_,vs,rel,o',es,ep,jB,c',dt,r]:=AM I1.aH hd;rw[ho] at jB;cases jB;have sP:v≠d:=cy hv hd nofun;apply wpAny_pyIter_values (knd:=eZ X.prog X.w) (kvs:=vs) (ep:=ep) iv #[o,es,ho,c',dt,r] ?_;apply#[s1.heap.objs.size,[s1.heap.objs.size],_,_,_,Z,I2.kept (t':=s1.toks) λb o e=>cc _ e,hZ_ d _ o kvs dt,?_,λb hb=>?_,q o]
 ·rw[rel.length];exact#[_,eJ _ Z,Z,Z]
 obtain rfl:b=s1.heap.objs.size:=⇑hb
 exact I2.jF (br _) (I2.aH.fresh (br _))
def Ry(x:Str):It:=#[λi _=>i<x.cps.size,λi H v H'=>H'=H/\∃c,x.cps[i]? = some c/\v=.str ⟨(List.toArray [c])⟩,λi _=>x.cps.size<=i]
theorem fO_{P:Ad}{w:Af}{K:af}{tg:Expr}(it:Addr)(x:Str)(t:Tok):Turn P w K tg (Ry x) [it] it (λi h=>i<=x.cps.size/\h.IsStrIter it "str_ascii_iterator" x t i) where
 mem:=by simp
 obj:=λi h st b hb=>by
  obtain rfl:b=it:=⇑hb
  let#[o,e,c,d]:=st.2;exact#[o,e,λv z=>by rw[d] at z;cases z]
 keep:=λi h h' st k=>#[st.1,let #[o,ho,r]:=st.2;#[o,k it Z2 o ho,r]]
 item:=by
  intro X hP hw hK hc i pins s σ H E I hf st hg;subst hP hw hK;have hg:i<x.cps.size:=hg;let#[f0,f1,f2,f3,f4,f5]:=hf it Z2;apply wpAny_pyNext_ascii_item st.2 (c:=x.cps[i]) (by simp[hg]) λh' ft sb=>?_;have I1:Inv X pins σ H { s with heap:=h',toks:=s.toks+1 }:=I.turned (t':=s.toks+1) (λb o hb e=>(sb.2 b hb).trans e) f0 f1 f3 f4 f5;let#[o',e,c,dd]:=id ft;exact#[_,Z,F2 (s:={ s with heap:=h',toks:=s.toks+1 }) e c dd (by decide) #[.str ⟨(List.toArray [x.cps[i]])⟩,H,I1,#[_,Z],#[Z,_,by simp[hg],Z],#[hg,ft],λb hb=>(hf b hb).1]]
 done:=by
  intro X hP hw hK hc i pins s σ H E I hf st hg;subst hP hw hK;have hg:x.cps.size<=i:=hg;let#[f0,f1,f2,f3,f4,f5]:=hf it Z2;exact wpAny_pyNext_ascii_end (I.ok.hd hc) st.2 (by simp[hg]) λh' eb=>#[Z,I.turned (t':=s.toks) (λb o hb e=>eb b o hb e) f0 f1 f3 f4 f5]
 self:=λ_ _ _ _ _ st h=>wpAny_pyIter_striter_ascii st.2 h
theorem hJ_{P:Ad}{w:Af}{K:af}{tg:Expr}(it:Addr)(x:Str)(t:Tok):Turn P w K tg (Ry x) [it] it (λi h=>i<=x.cps.size/\h.IsStrIter it "str_iterator" x t i) where
 mem:=by simp
 obj:=λi h st b hb=>by
  obtain rfl:b=it:=⇑hb
  let#[o,e,c,d]:=st.2;exact#[o,e,λv z=>by rw[d] at z;cases z]
 keep:=λi h h' st k=>#[st.1,let #[o,ho,r]:=st.2;#[o,k it Z2 o ho,r]]
 item:=by
  intro X hP hw hK hc i pins s σ H E I hf st hg;subst hP hw hK;have hg:i<x.cps.size:=hg;let#[f0,f1,f2,f3,f4,f5]:=hf it Z2;apply wpAny_pyNext_wide_item st.2 (c:=x.cps[i]) (by simp[hg]) λh' ft sb=>?_;have I1:Inv X pins σ H { s with heap:=h',toks:=s.toks+1 }:=I.turned (t':=s.toks+1) (λb o hb e=>(sb.2 b hb).trans e) f0 f1 f3 f4 f5;let#[o',e,c,dd]:=id ft;exact#[_,Z,F2 (s:={ s with heap:=h',toks:=s.toks+1 }) e c dd (by decide) #[.str ⟨(List.toArray [x.cps[i]])⟩,H,I1,#[_,Z],#[Z,_,by simp[hg],Z],#[hg,ft],λb hb=>(hf b hb).1]]
 done:=by
  intro X hP hw hK hc i pins s σ H E I hf st hg;subst hP hw hK;have hg:x.cps.size<=i:=hg;let#[f0,f1,f2,f3,f4,f5]:=hf it Z2;exact wpAny_pyNext_wide_end (I.ok.hd hc) st.2 (by simp[hg]) λh' eb=>#[Z,I.turned (t':=s.toks) (λb o hb e=>eb b o hb e) f0 f1 f3 f4 f5]
 self:=λ_ _ _ _ _ st h=>wpAny_pyIter_striter_wide st.2 h
inductive xW (R:It->Hp->Prop) (v:V) (H1:Hp):Prop
 |mk:∀x,v=.str x->R (Ry x) H1->xW R v H1
def MS(tl:TE):TI:=λσ H R=>tl σ H λv H1=>xW R v H1
theorem kH_{X:Cx}{tg l:Expr}{tl:TE}(hl:PE X l tl):PI X tg l (MS tl):=by
 intro pins s σ H R I h;apply aV (hl pins s σ H _ I h) λv s1 ⟨y,H1,I1,r1,x,e,q⟩=>?_;subst e;let#[t,rfl]:=r1
 have fp:∀b∈[s1.heap.objs.size],dc X pins H1 b:=λb hb=>by
  obtain rfl:b=s1.heap.objs.size:=⇑hb
  exact I1.jF (br _) (I1.aH.fresh (br _))
 cases ha:x.cps.all (· < 128)
 ·apply wpAny_pyIter_wide ha ?_;exact#[s1.heap.objs.size,[s1.heap.objs.size],_,_,H1,Z,I1.kept (t':=s1.toks) λb o e=>cc _ e,hJ_ _ x t,#[gA _,_,eJ _ Z,Z,Z],fp,q]
 apply wpAny_pyIter_ascii ha ?_;exact#[s1.heap.objs.size,[s1.heap.objs.size],_,_,H1,Z,I1.kept (t':=s1.toks) λb o e=>cc _ e,fO_ _ x t,#[gA _,_,eJ _ Z,Z,Z],fp,q]
end L2
namespace L2
open PySem PySem.Spec PyProof.Rows PySem.W mr mw
theorem Mb{X:Cx}{f:Aa->Aa->Sem Aa}{K:af}(r:af->R2)(h:dS X f (r X.K))(hK:X.K=K:=by rfl):dS X f (r K):=by
 subst hK;exact h
theorem yE{X:Cx}{f:Aa}{K:af}(r:af->ag->Hp->VK->Prop)(h:gq X f (r X.K))(hK:X.K=K:=by rfl):gq X f (r K):=by
 subst hK;exact h
theorem zS{X:Cx}{K:af}(r:af->R2)(h:CN X (r X.K))(hK:X.K=K:=by rfl):CN X (r K):=by
 subst hK;exact h
abbrev Ej(K:af):=Rh K
abbrev rW(K:af):=Ri K
theorem QS{X:Cx}{K:af}(hK:X.K=K:=by rfl):gq X (.builtin "len") (Ej K):=yE Ej gZ hK
theorem lY{X:Cx}{K:af}(hK:X.K=K:=by rfl):gq X (.type "tuple") (rW K):=yE rW dt_ hK
theorem Kh{X:Cx}{N:ae}{scope:Scope}{fp:ai}{s:Ab}{H:Hp}{es:List Expr}{k:Nat}{pos:Pos}{t:Bs}{n:Nat}(h:Iw (gU X N scope fp s H) es t)(hc:X.calm=true:=by rfl)
  (hn:(assignEach es (gU X N scope fp s H).env).length=n:=by rfl) (zX:(assignEach es (gU X N scope fp s H).env).findIdx? (·.1)=none:=by rfl):PG (gU X N scope fp s H) (.Tuple es k pos) (iI X.K n t):=o9 (X:=gU X N scope fp s H) hc h hn zX
end L2
abbrev A2:PySem.Str:="ways_by_name"
abbrev wm:PySem.Str:="_law_script"
abbrev A3:PySem.Str:="checked_words"
abbrev AS:PySem.Str:="pieces_by_hand"
abbrev tR:PySem.Str:="_law_digit"
abbrev AL:PySem.Str:="rising_neighbours"
abbrev AW:PySem.Str:="neighbours_by_hand"
abbrev uG:PySem.Str:="strength_by_hand"
abbrev pO:PySem.Str:="weight_by_name"
abbrev pR:PySem.Str:="heaviest_first"
abbrev AZ:PySem.Str:="abcdefghijklmnopqrstuvwxyz"
abbrev oj:PySem.Str:="level_by_hand"
abbrev ie:PySem.Str:="load_by_hand"
abbrev eF:PySem.Str:="_law_state"
abbrev kb:List PySem.Str:=["self","one","other"]
abbrev jN:List PySem.Str:=["goods","placed"]
abbrev ja:List PySem.Str:=["self","hand"]
abbrev fu:List PySem.Str:=["thing"]
abbrev uH:List PySem.Str:=[eF,"_law_base"]
abbrev uD:List PySem.Str:=["sight","rule","moment"]
abbrev uC:List PySem.Str:=["sight","hand","words"]
abbrev uE:List PySem.Str:=["goods","stand","rule"]
abbrev nX:List PySem.Str:=["self","thing"]
abbrev jU:List PySem.Str:=["sight","one","other","guard","given"]
abbrev yw:List PySem.Str:=["name","weight","ways"]
abbrev pS:List PySem.Str:=["one","other"]
abbrev gy:List PySem.Str:=["self"]
abbrev uf:List PySem.Str:=["_law_goods","_law_stand_here","_law_rule_here","_law_many"]
abbrev Cf:List PySem.Str:=["self","goods","placed"]
abbrev ue:List PySem.Str:=[eF,"_law_most_hands","_law_most_pieces"]
abbrev Ci:List PySem.Str:=["sight","hand","guard"]
abbrev oH:List PySem.Str:=["goods","placed","rule","moment"]
abbrev yz:List PySem.Str:=["goods","stand"]
abbrev ud:List PySem.Str:=[eF,"_law_pieces_here","_law_hands"]
abbrev yy:List PySem.Str:=["self","piece"]
abbrev jT:List PySem.Str:=["goods","placed","rule"]
abbrev jS:List PySem.Str:=["paper","word","length"]
abbrev oG:List PySem.Str:=["self","piece","one","other"]
abbrev jR:List PySem.Str:=["thing","least","most"]
abbrev uc:List PySem.Str:=[eF,"_law_ties","_law_most"]
abbrev ub:List PySem.Str:=["goods","placed","rule","t","long"]
abbrev oF:List PySem.Str:=[eF,"_law_many"]
abbrev oE:List PySem.Str:=["guard","lead","burden"]
abbrev B_:List PySem.Str:=["thing","least"]
abbrev ua:List PySem.Str:=["goods","stand","rule","moment"]
abbrev t_:List PySem.Str:=["goods","placed","rule","sums"]
abbrev tZ:List PySem.Str:=["goods","stand","rule","paper"]
abbrev oC:List PySem.Str:=["_law_tie",eF]
abbrev oB:List PySem.Str:=["self","hands","ties"]
abbrev oA:List PySem.Str:=[wm,"_law_k"]
abbrev oz:List PySem.Str:=["self","web","pieces"]
namespace Ev
open PySem L2
def top(i:Nat):Stmt:=PySem.Challenge.pw_evenpieces_k54_papers_of_no_form.main.body.getD i (.Pass #[0,0,0,0])
abbrev vx:Stmt:=top 3
abbrev kY:Stmt:=top 5
abbrev rC:Stmt:=top 6
abbrev OR:Stmt:=top 7
abbrev rA:Stmt:=top 8
abbrev Qe:Stmt:=top 9
abbrev rR:Stmt:=top 10
abbrev rJ:Stmt:=top 63
abbrev zy:Stmt:=top 64
abbrev rh:Stmt:=top 65
abbrev rB:Stmt:=top 66
abbrev iC:Stmt:=top 68
def nA(a b:Str):Bool:=decide (a.cps.toList<b.cps.toList)
def aQ(a b:Str):Str × Str:=if nA a b=true then (a,b) else (b,a)
section v
theorem bD{N p:List Str}{c:Scope}(h:bw N p c:=by exact#[Z,Z,Z,by decide +kernel,Z,by decide +kernel,by decide +kernel]):bw N p c:=h
theorem qR:bw pS pS (aY OR):=bD
def Ks:Sp:=λvs H Q _=>∃a b,vs=[.str a,.str b]/\∀t,H t=none->Q (.ref t) (upd H t (.tup [.str (aQ a b).1,.str (aQ a b).2]))
theorem h0_{f:Addr}{fd:Ae}(F:bh K "lesser_first" "lesser_first" OR f fd):!ak a9 1 f fd pS Ks:=by
 exists F.bG qR;let#[a,b,rfl,k]:=h;apply#[_,aF (aZ (Vq (dm gv_ (pv 0) (pv 1)) (bC %[0,1|0]) (bC %[1,0|0]))),?_];apply#[_,Z,_,Z,a,b,Z,Z,_,Z,?_];apply a_ (λc=>?_) (λc=>?_)
 ·apply#[_,Z,_,Z,zl,λt ht=>?_];have:=k t ht;rwa [show aQ a b=(a,b) from aJ c] at this
 apply#[_,Z,_,Z,zl,λt ht=>?_];have:=k t ht;rwa [show aQ a b=(b,a) from aE c] at this
theorem vk:bw jR jR (aY kY):=bD
def OA:Sp:=λvs H Q _=>∃i a b:Int,vs=[.int i,.int a,.int b]/\Q (.bl (decide (a<=i)&&decide (i<=b))) H
structure Bi (mg:Str->Option Aa):Prop where
 ia:mg "isinstance"=none
 int:mg "int"=none
 bool:mg "bool"=none
 str:mg "str"=none
 tuple:mg "tuple"=none
 list:mg "list"=none
 dict:mg "dict"=none
 len:mg "len"=none
 all:mg "all"=none
 sorted:mg "sorted"=none
 max:mg "max"=none
 range:mg "range"=none
 any:mg "any"=none
 enum:mg "enumerate"=none
 min:mg "min"=none
 abs:mg "abs"=none
structure bg (P:Ad) (w:Af) (K:af) (mg:Str->Option Aa) (base:Heap) (k:Nat) (x:Str) (ps:ae) (sp:Sp):Prop where
 ex:∃f fd,ak P w K mg base a9 k f fd ps sp/\mg x\.ref f/\PySem.W.keepIn K (.ref f)=true/\pP K fd ps []
theorem aR{n_:Nat}{X:Cx}{k:Nat}{x:Str}{ps:ae}{sp:Sp}{p pos:Pos}{e:Expr}{es:List Expr}{t:TA}(c:bg X.prog X.w X.K X.mg X.base k x ps sp)(hr:ba n_ X.A)(ha:PA X (e::es) t)(hg:Gl X x:=by rfl)(sW:(x == ("__debug__":Str))=false:=by decide)
  (he:starEach (e::es) X.env=(false,eval e X.env)::starEach es X.env:=by rfl) (iY:(backTo pos (starEach es X.env)).any (·.1)=false:=by rfl) (hk:k<=n_:=by decide):PE X (.Call (.Name x p) (e::es) [] pos) (xv sp [] E0 t):=by
 let#[f,fd,F,m,kp,b]:=c.ex;exact jT_ F (hr.mono hk) hg m kp b .nil nu ha sW he iY
theorem xB:bw fu fu (aY vx):=bD
def qF:Sp:=λvs H Q _=>∃i:Int,vs=[.int i]/\Q (.bl true) H
theorem kw_{f:Addr}{fd:Ae}(F:bh K "is_whole" "is_whole" vx f fd)(B:Bi mg):!ak a9 1 f fd fu qF:=by
 exists F.bG xB;let#[i,rfl,k]:=h;apply#[_,aF (aZ (j_ (cu iS (by rfl) B.ia ik %[0,iR (v:=.ty "int") (by rfl) B.int Oa Z|0]) (j9 (Tp (cu iS (by rfl) B.ia ik %[0,iR (v:=.ty "bool") (by rfl) B.bool PyProof.Rows.Boot.«bool» rfl|0]))))),?_];exact#[_,Z,_,_,_,_,Z,.int i,Z,_,Z,bO #[_,Z,_,_,_,_,Z,.int i,Z,_,Z,k]]
theorem id_{f:Addr}{fd:Ae}(F:bh K "is_whole_within" "is_whole_within" kY f fd)(cI:!bg 1 "is_whole" fu qF):!ak a9 2 f fd jR OA:=by
 exists F.bG vk;let#[i,a,b,rfl,k]:=h;apply#[_,aF (aZ (j_ (aR cI hr %[0|0]) (j9 (Pz o7 o7 (pv 1) (pv 0) (pv 2))))),?_];apply#[_,Z,i,Z,_,Z,bO ?_];apply#[_,Z,_,Z,_,_,Z,Z,_,Z,?_];apply a_ (λc=>?_) (λc=>?_)
 ·apply#[_,Z,_,_,Z,Z,?_];rw[c] at k;exact k
 rw[show decide (a<=i)=false by simpa using c] at k;exact k
def jt(c:Nat):Bool:=decide (97<=c)&&decide (c<=122)
def hW(x:Str):Bool:=decide (1<=x.length)&&decide (x.length<=8)&&x.cps.toList.all jt
theorem zk:bw fu fu (aY rC):=bD
def J3:Sp:=λvs H Q _=>∃x:Str,vs=[.str x]/\x.length<=100000/\∀H',aa H H'->Q (.bl (hW x)) H'
theorem ke_{c:Nat}:(!decide ((⟨(List.toArray [c])⟩:Str).cps.toList<("a":Str).cps.toList))=decide (97<=c):=by
 have e:("a":Str).cps.toList=[97]:=by decide +kernel
 rw[e];show (!decide ([c] < [97]))=decide (97<=c);by_cases h:97<=c
 ·have:¬[c] < [97]:=by simp[List.cons_lt_cons_iff];omega
  simp[this,h]
 have:[c] < [97]:=by simp[List.cons_lt_cons_iff];omega
 simp[this,h]
theorem k1_{c:Nat}:(!decide (("z":Str).cps.toList<(⟨(List.toArray [c])⟩:Str).cps.toList))=decide (c<=122):=by
 have e:("z":Str).cps.toList=[122]:=by decide +kernel
 rw[e];show (!decide ([122] < [c]))=decide (c<=122);by_cases h:c<=122
 ·have:¬[122] < [c]:=by simp[List.cons_lt_cons_iff];omega
  simp[this,h]
 have:[122] < [c]:=by simp[List.cons_lt_cons_iff];omega
 simp[this,h]
theorem jv_{f:Addr}{fd:Ae}(F:bh K "is_name" "is_name" rC f fd)(B:Bi mg){t8:Tok}(m8:mg "MOST_LETTERS"\.int 8 t8):!ak a9 1 f fd fu J3:=by
 exists F.bG zk;let#[x,rfl,hz,k]:=h;let sz:=b_
 apply#[_,ax (bL (uz (eQ (dR (cu iS (by rfl) B.ia ik %[0,iR (v:=.ty "str") (by rfl) B.str Cj Z|0])))
   (uN (eQ (Vk o7 o7 au (cu e5_ (by rfl) B.len gz %[0|0]) (wJ (v:=.int 8) (by rfl) m8 #[t8,Z]))))).pt (aF (aZ ke)) bM)
  (aF (aZ (cu (Vd Z) (by rfl) B.all PyProof.Rows.Boot.«all» (eE
   (md ["letter"] 1 [] (kH_ (pv 0)) (λfp s H=>fM (i:=0) (show (["letter"]:ae).Nodup by decide +kernel) Z (Or.inl Z)) (λfp s H=>jb) (λfp s H=>Pz WK WK bf (pv 0) bf)) aK)))),?_]
 apply#[_,Z,_,_,_,_,Z,.str x,Z,_,Z,?_];apply aO ?_;apply#[_,Z,x,Z,by omega,_,_,Z,Z,_,Z,?_]
 have fin:(decide (1<=x.length)&&decide (x.length<=8))=false->∀H',aa H H'->Q (.bl false) H':=λe H' sm=>by
  have:=k H' sm;rwa [show hW x=false by unfold hW;rw[e];rfl] at this
 apply a_ (λc=>?_) (λc=>?_)
 ·have c1:1<=x.length:=by
   have:(1:Int)<=(x.length:Int):=⇑c
   omega
  apply#[_,_,Z,Z,_,Z,?_];apply a_ (λc2=>?_) (λc2=>?_)
  ·-- too long
   have c3:¬x.length<=8:=by
    have:¬((x.length:Int)<=8):=⇑c2
    omega
   exact fin (by rw[dM c3,tV]) H (aa.refl H)
  have c3:x.length<=8:=by
   have:(x.length:Int)<=8:=⇑c2
   omega
  apply#[_,Z,x,Z,λD hD=>?_];apply Kf (own:=1) (fv:=[]) Z eL x.cps.size (λi out H'=>H'=upd H D (.lst out)/\out=((x.cps.toList.take i).map jt).map V.bl) #[Z,by simp] (λout H' ⟨e1,e2⟩=>?_) (λi out H' hi ⟨e1,e2⟩=>?_)
  ·apply#[br _,D,x.cps.toList.map jt,Z,.of ?_,?_]
   ·rw[e1,ao,e2,w9 Z2]
   have:=k H' (by rw[e1];exact aa.new hD);rwa [show hW x=(x.cps.toList.map jt).all id by unfold hW;rw[cb c1,cb c3,List.all_map];rfl] at this
  apply#[hi,λv H2 y=>?_];let#[eH,c,hc,rfl]:=y;subst eH;apply#[_,Z,Z,λNx hN=>d6 ?_]
  have lo:out.length<sizeLine:=by
   rw[e2];have hs:x.length=x.cps.size:=rfl;simp only[ay,dP,tY];omega
  have nx:Nx (upd H2 D (.lst (out++[V.bl (jt c)]))):=hN (out++[V.bl (jt c)]) _ #[by rw[e1,O0],by
   rw[e2,ig];simp[hc]]
  have Xm:H2 D\.lst out:=by rw[e1,ao]
  apply#[_,Z,_,_,Z,Z,_,Z,?_];rw[ke_];apply a_ (λc2=>?_) (λc2=>?_)
  ·apply#[_,_,Z,Z,out,Xm,lo,?_];rw[k1_];rwa [show jt c=decide (c<=122) by unfold jt;rw[c2];rfl] at nx
  apply#[out,Xm,lo,?_];rwa [show jt c=false by unfold jt;rw[show decide (97<=c)=false by simpa using c2];rfl] at nx
 have c1:¬1<=x.length:=by
  have:¬((1:Int)<=(x.length:Int)):=⇑c
  omega
 exact#[_,Z,bO (fin (by rw[dM c1];rfl) H (aa.refl H))]
end
end Ev
namespace Ev
open PySem L2
def kT(t:Str × Str):aA:=[.inr t.1,.inr t.2]
def yA(t:Str × Str):Prop:=hW t.1=true/\hW t.2=true/\t.1≠t.2
theorem Ky{x:Str}(h:hW x=true):x.length<=8:=by
 unfold hW at h;simp only[Bool.and_eq_true,decide_eq_true_eq] at h;exact h.1.2
theorem xZ{H:Hp}{p:Addr}{t:Str × Str}(h:H p\.tup ((kT t).map kV)):H p\.tup [.str t.1,.str t.2]:=h
section v
theorem zj:bw fu fu (aY rA):=bD
def qD:Sp:=λvs H Q _=>∃(p:Addr) (a b:Str),vs=[.ref p]/\H p\.tup [.str a,.str b]/\a.length<=100000/\b.length<=100000/\∀H',aa H H'->Q (.bl (hW a&&hW b&&!decide (a=b))) H'
theorem jt_{f:Addr}{fd:Ae}(F:bh K "is_pair_of_names" "is_pair_of_names" rA f fd)(B:Bi mg)(cN:!bg 1 "is_name" fu J3):!ak a9 2 f fd fu qD:=by
 exists F.bG zj;let#[p,a,b,rfl,hp,la,lb,k]:=h
 apply#[_,ax (bL (uz (eQ (dR (cu iS (by rfl) B.ia ik %[0,iR (v:=.ty "tuple") (by rfl) B.tuple Bm Z|0])))
   (uN (dm tJ (cu gZ (by rfl) B.len gz %[0|0]) au))).pt (aF (aZ ke)) bM)
  (aF (aZ (j_ (aR cN hr %[bE dh (pv 0) au|0]) (j_ (aR cN hr %[bE dh (pv 0) au|0])
   (j9 (oi tJ (bE dh (pv 0) au) (bE dh (pv 0) au))))))),?_]
 apply#[_,Z,_,_,_,_,Z,.tup hp,Z,_,Z,aO ?_];apply#[_,Z,p,_,Z,.inr (.of hp),Z,_,Z,?_];apply sI (show V.int ((2:Nat):Int)=V.int 2 from Z) ?_;apply#[_,Z,p,_,_,_,Z,Z,.of hp,Z,a,Z,la,λH1 s1=>#[_,Z,?_]];let x_:=s1 _ _ hp;apply a_ (λc=>?_) (λc=>?_)
 ·apply#[_,Z,p,_,_,_,Z,Z,.of x_,Z,b,Z,lb,λH2 s2=>#[_,Z,?_]];let iZ:=s2 _ _ x_;let kk:=k H2 (s1.trans s2);apply a_ (λc2=>?_) (λc2=>?_)
  ·apply#[_,Z,p,_,_,_,Z,Z,.of iZ,Z,_,Z,p,_,_,_,Z,Z,.of iZ,Z,Z,?_];rw[c,c2] at kk
   have e:decide (V.str a=V.str b)=decide (a=b):=by
    by_cases z:a=b
    ·simp[z]
    simp[z]
   show Q (.bl (!decide (V.str a=V.str b))) H2;rw[e];exact kk
  rw[c,show hW b=false by simpa using c2] at kk;exact kk
 let kk:=k H1 s1;rw[show hW a=false by simpa using c] at kk;exact kk
theorem Kq:bw ["ties","found","pair","tie"] ["ties"] (aY Qe):=bD
def P1(K:af):Sp:=λvs H Q _=>∃(l:Addr) (ys:ag) (ts:Xb),vs=[.ref l]/\H l\.lst ys/\bF K H ys (ts.map kT)/\(∀t∈ts,yA t)/\(ts.map λt=>kT (aQ t.1 t.2)).Nodup/\ts.length<64 /\
 ∀l' zs H',aa H H'->H l'=none->H' l'\.lst zs->bF K H' zs (aX (ts.map λt=>kT (aQ t.1 t.2)))->Q (.ref l') H'
theorem ou{α β γ:Type}{F:α->γ->Prop}{g:β->γ}{ys:List α}{ts:List β}(t:Paired F ys (ts.map g)){i:Nat}{y:α}(h:ys[i]? = some y):∃x,ts[i]? = some x/\F y (g x):=by
 have hi:i<ys.length:=(cw.mp h).1;let hl:=bP t;rw[ay] at hl;have:=gY t i hi (by rw[ay];omega);rw[List.getElem_map] at this;apply#[ts[i],cg Z1,?_];rw[(cw.mp h).2] at this;exact this
theorem yR{κ:Type}[DecidableEq κ]{kvs:List (κ × V)}{k:κ}(h:k∉kvs.map (·.1)):bH kvs k=none:=by
 cases e:bH kvs k with
 |none=>rfl
 |some v=>exact absurd (kj_ e) h
theorem CM{α β:Type}(g:α->β){ts:List α}{i:Nat}{x:α}(h:ts[i]? = some x):(ts.take (i+1)).map g=(ts.take i).map g++[g x]:=by
 rw[ig,h,dD];rfl
theorem Ia{α β:Type}{g:α->β}{ts:List α}{i:Nat}{x:α}(h:(ts.map g).Nodup)(hx:ts[i]? = some x):g x∉(ts.take i).map g:=by
 intro m;have hi:i<ts.length:=(cw.mp hx).1;let#[y,hy,e]:=bN.mp m;let#[j,hj,e2]:=mm hy;rw[dP] at hj;rw[List.getElem_take] at e2;rw[w_,tX,List.pairwise_iff_getElem] at h;apply h j i Z1 hi Z1 ?_;rw[e2,e,(cw.mp hx).2]
theorem gY_{f:Addr}{fd:Ae}(F:bh K "sorted_ties" "sorted_ties" Qe f fd)(B:Bi mg)(cP:!bg 2 "is_pair_of_names" fu qD)(cL:!bg 1 "lesser_first" pS Ks):!ak a9 3 f fd ["ties"] (P1 K):=by
 exists F.bG Kq;let#[l,ys,ts,rfl,hl,tu,good,nd,bU,k]:=h;let hu:=fZ hr;let sz:=b_
 apply#[_,ax (bL (eQ (dR (cu iS (by rfl) B.ia ik %[0,iR (v:=.ty "list") (by rfl) B.list uK Z|0]))) eB bM)
  (ax (bx 1 Kq.nd ic_)
  (ax (eR eh Z (dO (pv 0)) (cY 2 Kq.nd)
   (ax (bL (eQ (dR (aR cP hr %[2|0]))) eB bM)
   (ax (bx 3 Kq.nd (aR cL hr %[bE dh (pv 2) au,bE dh (pv 2) au|0]))
   (ax (bL (yB (Ck hu (pv 3) (pv 1))) eB bM)
   (aF (wM hu (pv 1) (pv 3) ke Z))))))
  (aF (aZ (cu (eI_ Z) (by rfl) B.sorted Kv %[1|0]))))),?_]
 apply#[_,Z,_,_,_,_,Z,.lst hl,Z,_,Z,aO ?_];intro d hd;have s0:aa H (upd H d (.dT [])):=aa.new hd;apply#[_,Z,l,Z,#[_,.of (s0 _ _ hl)],gQ (K:=K) (a:=l) (xs:=ys) (λi σ H2=>∃(v3 v4:aI),σ=[some (.ref l),some (.ref d),v3,v4]/\aa H H2/\H2 d\.dT ((ts.take i).map λt=>(kT (aQ t.1 t.2),V.bl true))) #[none,none,Z,s0,ao] (λi σ H2 _ ⟨_,_,_,s2,_⟩=>.of (s2 _ _ hl)) ?_ ?_]
 ·rintro i y σ H2 hy ⟨v3,v4,rfl,s2,hd2⟩;let#[t,ht,a,rfl,ha]:=ou tu hy;let#[g1,g2,g3]:=good t (dC ht);let ib:=s2 _ _ (xZ ha);apply#[_,Z,a,t.1,t.2,Z,ib,by have:=Ky g1;omega,by have:=Ky g2;omega,λH3 s3=>#[_,Z,?_]];let i3:=s3 _ _ ib;let lV:=s3 _ _ hd2;rw[g1,g2,dM g3];apply aO ?_;apply#[_,Z,a,_,_,_,Z,Z,.of i3,Z,_,Z,a,_,_,_,Z,Z,.of i3,Z,t.1,t.2,Z,λb hb=>?_];have s4:aa H3 (upd H3 b (.tup [.str (aQ t.1 t.2).1,.str (aQ t.1 t.2).2])):=aa.new hb;let Ui:=s4 _ _ lV;have Uo:upd H3 b (.tup [.str (aQ t.1 t.2).1,.str (aQ t.1 t.2).2]) b\.tup ((kT (aQ t.1 t.2)).map kV):=ao
  have ur:bH ((ts.take i).map λt=>(kT (aQ t.1 t.2),V.bl true)) (kT (aQ t.1 t.2))=none:=yR (by
   rw[ck];exact Ia (g:=λt=>kT (aQ t.1 t.2)) nd ht)
  apply#[_,Z,_,Z,d,_,Z,.t (k:=kT (aQ t.1 t.2)) Ui Uo,_,Z,?_];rw[ur];apply aO ?_;apply#[_,Z,_,Z,d,_,Z,.t (k:=kT (aQ t.1 t.2)) Ui Uo (by rw[ay,dP];omega),?_];apply#[_,_,Z,λc o e=>?_,?_]
  ·rw[az (bu e hd)];exact s4 _ _ (s3 _ _ (s2 _ _ e))
  rw[ao,CJ _ ur,CM _ ht]
 rintro σ H2 ⟨v3,v4,rfl,s2,hd2⟩;let le:=bP tu;rw[ay] at le;rw[le,eX] at hd2;apply#[_,Z,d,_,[true,true],Z,hd2,#[by decide,λk hk=>?_],by rw[ay];exact bU,λl' zs hn tz=>?_]
 ·rw[ck] at hk;let#[t,_,rfl]:=bN.mp hk;rfl
 rw[ck] at tz;exact k l' zs _ (s2.trans (aa.new hn)) (s2.free hn) ao (tz.same (aa.new hn))
theorem zw:bw ["ties"] ["ties"] (aY rR):=bD
def qJ(K:af):Sp:=λvs H Q _=>∃(l:Addr) (ys:ag) (ts:Xb),vs=[.ref l]/\H l\.lst ys/\bF K H ys (ts.map kT)/\ts.length<=1000 /\
 ∀l' zs H',aa H H'->H l'=none->H' l'\.lst zs->bF K H' zs (ts.map kT)->Q (.ref l') H'
theorem Bj{K:af}{H:Hp}{ys:ag}{ks:List aA}{a:Addr}{k:aA}(t:bF K H ys ks)(h:H a\.tup (k.map kV)):bF K H (ys++[.ref a]) (ks++[k]):=Paired.snoc t #[a,Z,h]
theorem g6{H H1:Hp}{D:Addr}{o:HO}(h:aa H H1)(hD:H D=none):aa H (upd H1 D o):=λb u e=>by rw[az (bu e hD)];exact h b u e
theorem jc{K:af}{H:Hp}{ys:ag}{ks:List aA}{D:Addr}{o:HO}{xs:ag}(t:bF K H ys ks)(hD:H D\.lst xs):bF K (upd H D o) ys ks:=Paired.bQ t λy k ⟨a,z,q⟩=>#[a,z,by rw[az (cy q hD nofun)];exact q]
theorem k8_{f:Addr}{fd:Ae}(F:bh K "ties_anew" "ties_anew" rR f fd):!ak a9 1 f fd ["ties"] (qJ K):=by
 exists F.bG zw;let#[l,ys,ts,rfl,hl,tu,hz,k]:=h;let sz:=b_
 apply#[_,aF (aZ (md pS 2 [] (dO (pv 0)) (λfp s H=>Kh (n:=2) (dZ (fM (i:=0) (show (pS:ae).Nodup by decide +kernel) Z (Or.inl Z)) (dZ (fM (i:=1) (show (pS:ae).Nodup by decide +kernel) Z (Or.inl Z)) kq)))
  (λfp s H=>jb) (λfp s H=>bC %[0,1|0]))),?_]
 apply#[_,Z,l,Z,#[_,.of hl],λD hD=>?_];let le:=bP tu;rw[ay] at le;apply ku (own:=2) (fv:=[]) (xs:=ys) Z F3 (λi out H'=>aa H H'/\H' D\.lst out/\bF K H' out ((ts.take i).map kT)) #[aa.new hD,ao,.nil] (λi out H' _ ⟨sm,_,_⟩=>.of (sm _ _ hl)) (λout H' ⟨sm,hd,tz⟩=>?_) (λi x out H' hx ⟨sm,hd,tz⟩=>?_)
 ·rw[le,eX] at tz;exact k D out H' sm hD hd tz
 let#[t,ht,a,rfl,ha]:=ou tu hx;apply#[_,#[a,_,_,Z,.of (sm _ _ (xZ ha)),Z],Z,λNx hN=>d6 ?_];apply#[_,Z,_,Z,zl,λp hp=>#[out,(aa.new hp) _ _ hd,?_,?_]]
 ·have:=bP tz;rw[ay,dP] at this;omega
 have iZ:upd H' p (.tup [.str t.1,.str t.2]) p\.tup ((kT t).map kV):=ao;apply hN (out++[.ref p]) _ #[g6 (sm.trans (aa.new hp)) hD,ao,?_];rw[CM _ ht];exact jc (Bj (tz.same (aa.new hp)) iZ) ((aa.new hp) _ _ hd)
end
end Ev
namespace Ev
open PySem L2
def kH(h:Str × Int):aA:=[.inr h.1,.inl h.2]
def tp(h:Str × Int):Prop:=hW h.1=true/\1<=h.2/\h.2<=1000
def zR:aA->Key × V
 |[k,v]=>(k,kV v)
 |_=>(.inl 0,.non)
def di(hs:Xa):List (Key × V):=(aX (hs.map kH)).map zR
theorem TR{H:Hp}{p:Addr}{t:Str × Int}(h:H p\.tup ((kH t).map kV)):H p\.tup [.str t.1,.int t.2]:=h
theorem Wm:∀(more kvs:List (Key × V)),(kvs.map (·.1)++more.map (·.1)).Nodup->oh kvs more=kvs++more
 |[],kvs,_=>by
  show kvs=kvs++[];rw[yP]
 |p::more,kvs,h=>by
  show oh (putK kvs p.1 p.2) more=kvs++p::more
  have hn:bH kvs p.1=none:=yR λm=>by
   rw[fi,List.nodup_append] at h;exact h.2.2 p.1 m p.1 eP Z
  rw[CJ _ hn,Wm more (kvs++[(p.1,p.2)])]
  ·simp
  simpa using h
theorem CF{more:List (Key × V)}(h:(more.map (·.1)).Nodup):oh [] more=more:=by
 rw[Wm more [] ⇑h];rfl
theorem WM(hs:Xa):((di hs).map (·.1)).Perm (hs.map λh=>Sum.inr h.1):=by
 unfold di;rw[ck];let p:=(mj (hs.map kH)).map λk=>(zR k).1;rw[ck] at p;exact p
theorem W4{hs:Xa}(h:(hs.map (·.1)).Nodup):((di hs).map (·.1)).Nodup:=by
 apply (WM hs).nodup_iff.mpr ?_;have:(hs.map λh=>(Sum.inr h.1:Key))=(hs.map (·.1)).map Sum.inr:=by rw[ck];rfl
 rw[this,w_,tX];exact h.imp λn e=>n (gO e)
theorem oo{k:Nat}{A:Ag}(hr:ba k A)(n:Nat)(h:n+1<=64:=by decide):A.units+n+1<cLine:=by
 have:=hr.units;omega
section v
theorem zr:bw fu fu (aY rJ):=bD
def qG:Sp:=λvs H Q _=>∃(p:Addr) (a:Str) (n:Int),vs=[.ref p]/\H p\.tup [.str a,.int n]/\a.length<=100000/\∀H',aa H H'->Q (.bl (hW a&&(decide (1<=n)&&decide (n<=1000)))) H'
theorem jK_{f:Addr}{fd:Ae}(F:bh K "is_hand_with_strength" "is_hand_with_strength" rJ f fd)(B:Bi mg)(cN:!bg 1 "is_name" fu J3)(cW:!bg 2 "is_whole_within" jR OA){tk:Tok}(mS:mg "MOST_STRENGTH"\.int 1000 tk) :
  ak P w K mg base a9 3 f fd fu qG:=by
 exists F.bG zr;let#[p,a,n,rfl,hp,la,k]:=h
 apply#[_,ax (bL (uz (eQ (dR (cu iS (by rfl) B.ia ik %[0,iR (v:=.ty "tuple") (by rfl) B.tuple Bm Z|0])))
   (uN (dm tJ (cu gZ (by rfl) B.len gz %[0|0]) au))).pt (aF (aZ ke)) bM)
  (aF (aZ (j_ (aR cN hr %[bE dh (pv 0) au|0]) (j9 (aR cW hr %[bE dh (pv 0) au,au,wJ (v:=.int 1000) (by rfl) mS #[tk,Z]|0]))))),?_]
 apply#[_,Z,_,_,_,_,Z,.tup hp,Z,_,Z,aO ?_];apply#[_,Z,p,_,Z,.inr (.of hp),Z,_,Z,?_];apply sI (show V.int ((2:Nat):Int)=V.int 2 from Z) ?_;apply#[_,Z,p,_,_,_,Z,Z,.of hp,Z,a,Z,la,λH1 s1=>#[_,Z,?_]];let x_:=s1 _ _ hp;let kk:=k H1 s1;apply a_ (λc=>?_) (λc=>?_)
 ·apply#[_,Z,p,_,_,_,Z,Z,.of x_,Z,n,1,1000,Z,?_];rw[c] at kk;exact kk
 rw[show hW a=false by simpa using c] at kk;exact kk
theorem qM:bw ["hands","found","hand"] ["hands"] (aY zy):=bD
def xw(K:af):Sp:=λvs H Q _=>∃(l:Addr) (ys:ag) (hs:Xa),vs=[.ref l]/\H l\.lst ys/\bF K H ys (hs.map kH)/\(∀h∈hs,tp h)/\(hs.map (·.1)).Nodup/\1<=hs.length/\hs.length<=8 /\
 ∀d H',aa H H'->H d=none->H' d\.dK (di hs)->Q (.ref d) H'
theorem kE_{f:Addr}{fd:Ae}(F:bh K "checked_strengths" "checked_strengths" zy f fd)(B:Bi mg)(cH:!bg 3 "is_hand_with_strength" fu qG){tk:Tok}(mH:mg "MOST_HANDS"\.int 8 tk):!ak a9 4 f fd ["hands"] (xw K):=by
 exists F.bG qM;let#[l,ys,hs,rfl,hl,tu,good,nd,h1,h8,k]:=h;let hu:=fZ hr;let sz:=b_;let le:=bP tu;rw[ay] at le
 apply#[_,ax (bL (uz (eQ (dR (cu iS (by rfl) B.ia ik %[0,iR (v:=.ty "list") (by rfl) B.list uK Z|0])))
   (uN (eQ (Vk o7 o7 au (cu gZ (by rfl) B.len gz %[0|0]) (wJ (v:=.int 8) (by rfl) mH #[tk,Z]))))).pt eB bM)
  (ax (bx 1 qM.nd Bf)
  (ax (eR eh Z (dO (pv 0)) (cY 2 qM.nd)
   (ax (bL (eQ (dR (aR cH hr %[2|0]))) eB bM)
   (ax (bL (yB (Ck hu (bE dh (pv 2) au) (pv 1))) eB bM)
   (aF (wM hu (pv 1) (bE dh (pv 2) au) (bE dh (pv 2) au) Z)))))
  (aF (aZ (iP (CK Z) (by rfl) B.dict uJ %[cu (g7_ Z) (by rfl) B.sorted Kv %[HZ (pv 1)|0]|0]))))),?_]
 apply#[_,Z,_,_,_,_,Z,.lst hl,Z,_,Z,aO ?_];apply#[_,Z,l,_,Z,.inl (.of hl),_,_,Z,Z,_,Z,?_];rw[cb (show (1:Int)<=(ys.length:Int) by omega)];apply bO #[_,_,Z,Z,_,Z,?_];rw[cb (show (ys.length:Int)<=8 by omega)];apply aO ?_;intro d hd;have s0:aa H (upd H d (.dK [])):=aa.new hd;apply#[_,Z,l,Z,#[_,.of (s0 _ _ hl)],gQ (K:=K) (a:=l) (xs:=ys) (λi σ H2=>∃(v2:aI),σ=[some (.ref l),some (.ref d),v2]/\aa H H2/\H2 d\.dK ((hs.take i).map λh=>(Sum.inr h.1,V.int h.2))) #[none,Z,s0,ao] (λi σ H2 _ ⟨_,_,s2,_⟩=>.of (s2 _ _ hl)) ?_ ?_]
 ·rintro i y σ H2 hy ⟨v2,rfl,s2,hd2⟩;let#[t,ht,a,rfl,ha]:=ou tu hy;let#[g1,g2,g3]:=good t (dC ht);let ib:=s2 _ _ (TR ha);apply#[_,Z,a,t.1,t.2,Z,ib,by have:=Ky g1;omega,λH3 s3=>#[_,Z,?_]];let i3:=s3 _ _ ib;let lV:=s3 _ _ hd2;rw[g1,cb g2,cb g3];apply aO ?_
  have ur:bH ((hs.take i).map λh=>((Sum.inr h.1:Key),V.int h.2)) (Sum.inr t.1)=none:=yR (by
   rw[ck];let q:=Ia (g:=λh:Str × Int=>h.1) nd ht;intro m;let#[h,hh,e]:=bN.mp m;exact q (bN.mpr #[h,hh,gO e]))
  apply#[_,Z,a,_,_,_,Z,Z,.of i3,Z,_,Z,d,_,Z,.k (k:=Sum.inr t.1) lV,_,Z,?_];rw[ur];apply aO ?_;apply#[_,Z,a,_,_,_,Z,Z,.of i3,Z,_,Z,_,Z,a,_,_,_,Z,Z,.of i3,Z,d,_,Z,.k (k:=Sum.inr t.1) lV (by rw[ay,dP];omega),?_];apply#[_,Z,λc o e=>?_,?_]
  ·rw[az (bu e hd)];exact s3 _ _ (s2 _ _ e)
  rw[ao,CJ _ ur,CM _ ht]
 rintro σ H2 ⟨v2,rfl,s2,hd2⟩;rw[le,eX] at hd2;apply#[_,Z,d,_,Z,hd2,λv hv=>?_];have s3:aa H2 (upd H2 v (o_ v d)):=aa.new hv;apply#[v,d,_,hs.map λh=>(Sum.inr h.1,Sum.inl h.2),[true,false],Z,ao,s3 _ _ hd2,by rw[ck];rfl,#[by decide,λq hq=>?_],by rw[ay];omega,λl' H4 zs s4 hn tz=>?_]
 ·rw[ck] at hq;let#[h,_,rfl]:=bN.mp hq;rfl
 have ez:((hs.map λh=>((Sum.inr h.1:Key),(Sum.inl h.2:Key))).map λk=>[k.1,k.2])=hs.map kH:=by rw[ck];rfl
 rw[ez] at tz
 have pz:og K (upd H4 l' (.lst zs)) zs (di hs):=by
  have shape:∀k∈aX (hs.map kH),∃a b,k=[a,b]:=λk hk=>by
   let#[h,_,e]:=bN.mp ((mj _).mem_iff.mp hk);exact#[_,_,e.symm]
  have gen:∀(ks:List aA) (zs:ag),(∀k∈ks,∃a b,k=[a,b])->bF K (upd H4 l' (.lst zs)) zs ks->og K (upd H4 l' (.lst zs)) zs (ks.map zR):=λks=>by
   intro zs;generalize upd H4 l' (.lst zs)=HH;intro sh t
   induction t with
   |nil=>exact .nil
   |cons h t ih=>
    let#[a,b,rfl]:=sh _ eP;exact .cons h (ih λk hk=>sh k (eA _ hk))
  exact gen _ _ shape (tz.same (aa.new hn))
 apply#[l',zs,_,Z,ao,pz,?_,λd' jE=>?_]
 ·have:=(WM hs).length_eq;simp only[ay] at this;omega
 rw[CF (W4 nd)];have DA:aa H (upd H4 l' (.lst zs)):=(s2.trans (s3.trans s4)).trans (aa.new hn);exact k d' _ (DA.trans (aa.new jE)) (DA.free jE) ao
theorem JY:bw ["ties","strengths","found","one","other"] ["ties","strengths"] (aY rh):=bD
inductive kE (K:af) (vs:ag) (H:Hp) (Q:VK) (E:XK):Prop
 |mk:∀(l d:Addr) (ys:ag) (ts:Xb) (kvs:List (Key × V)),vs=[.ref l,.ref d]->H l\.lst ys->bF K H ys (ts.map kT)->(∀t∈ts,yA t)->(ts.map λt=>kT (aQ t.1 t.2)).Nodup->ts.length<64->H d\.dK kvs->(∀t∈ts,(bH kvs (Sum.inr t.1)).isSome=true/\(bH kvs (Sum.inr t.2)).isSome=true)->(∀l' zs H',aa H H'->H l'=none->H' l'\.lst zs->bF K H' zs (aX (ts.map λt=>kT (aQ t.1 t.2)))->Q (.ref l') H')->kE K vs H Q E
theorem J5(a b:Str):aQ a b=(a,b)∨aQ a b=(b,a):=by
 unfold aQ;split
 ·exact .inl rfl
 exact .inr rfl
theorem k3_{f:Addr}{fd:Ae}(F:bh K "checked_ties" "checked_ties" rh f fd)(B:Bi mg)(cS:!bg 3 "sorted_ties" ["ties"] (P1 K)):!ak a9 4 f fd ["ties","strengths"] (kE K):=by
 exists F.bG JY;let#[l,d,ys,ts,kvs,rfl,hl,tu,good,nd,bU,hd,there,k]:=h;let hu:=fZ hr
 apply#[_,ax (bx 2 JY.nd (aR cS hr %[0|0]))
  (ax (bL (yB (JJ (pv 2))) eB bM)
  (ax (eR eh Z (dO (pv 2)) (o9 Z (dZ (cY 3 JY.nd) (dZ (cY 4 JY.nd) kq)))
   (aF (bL (uz (yB (VH hu (pv 3) (pv 1))) (uN (yB (VH hu (pv 4) (pv 1))))).pt eB bM)))
  (aF (aZ (pv 2))))),?_]
 apply#[_,Z,l,ys,ts,Z,hl,tu,good,nd,bU,λl' zs H1 s1 hf fY tz=>?_];apply#[_,Z,_,Z,aO ?_];apply#[_,Z,l',Z,#[_,.of fY],gQ (K:=K) (a:=l') (xs:=zs) (λi σ H2=>∃(v3 v4:aI),σ=[some (.ref l),some (.ref d),some (.ref l'),v3,v4]/\H2=H1) #[none,none,Z,Z] (λi σ H2 _ ⟨_,_,_,e⟩=>by subst e;exact .of fY) ?_ ?_]
 ·rintro i y σ H2 hy ⟨v3,v4,rfl,rfl⟩;let ez:=bP tz;have hi:i<zs.length:=(cw.mp hy).1;let#[a,e,ha]:=gY tz i hi Z1;rw[(cw.mp hy).2] at e;subst e;let#[t,ht,e]:=bN.mp ((mj _).mem_iff.mp (ml (show i<(aX (ts.map λt=>kT (aQ t.1 t.2))).length by omega)));rw[<- e] at ha;let#[t1,t2]:=there t ht
  have both:(bH kvs (Sum.inr (aQ t.1 t.2).1)).isSome=true/\(bH kvs (Sum.inr (aQ t.1 t.2).2)).isSome=true:=by
   rcases J5 t.1 t.2 with q|q
   ·rw[q];exact#[t1,t2]
   rw[q];exact#[t2,t1]
  let ux:=s1 _ _ hd;apply#[a,_,Z,.of (xZ ha),Z,_,_,Z,_,_,Z,Z,?_];apply#[_,Z,_,Z,d,_,Z,.k (k:=Sum.inr (aQ t.1 t.2).1) ux,_,Z,?_];rw[both.1];apply aO ?_;apply#[_,Z,_,Z,d,_,Z,.k (k:=Sum.inr (aQ t.1 t.2).2) ux,_,Z,?_];rw[both.2];apply aO ?_;exact#[_,_,Z,Z]
 rintro σ H2 ⟨v3,v4,rfl,rfl⟩;exact#[_,Z,k l' zs _ s1 hf fY tz]
def near(ns:ae)(ts:Xb)(n:Str):ae:=ns.filter λo=>decide (aQ n o∈ts)
theorem kQ:bw ["names","ties","found","hand"] ["names","ties"] (aY rB):=bD
def iL(ns:ae)(as:ai):List (Key × V):=(ns.zip as).map λp=>(Sum.inr p.1,V.ref p.2)
inductive kG (K:af) (vs:ag) (H:Hp) (Q:VK) (E:XK):Prop
 |mk:∀(l1 l2:Addr) (ns:ae) (zs:ag) (ts:Xb),vs=[.ref l1,.ref l2]->H l1\.lst (ns.map V.str)->H l2\.lst zs->bF K H zs (ts.map kT)->ns.Nodup->ns.length<=1000->l1≠l2->(∀d as H',aa H H'->H d=none->as.length=ns.length->H' d\.dK (iL ns as)->(∀(i:Nat) n a,ns[i]? = some n->as[i]? = some a->H a=none/\H' a\.lst ((near ns ts n).map V.str))->Q (.ref d) H')->kG K vs H Q E
theorem Oz{K:af}{H:Hp}:∀{ts:Xb} {zs:ag},bF K H zs (ts.map kT)->Paired (r2 K rS rS H) zs ts
 |[],_,.nil=>.nil
 |t::ts,_,.cons ⟨a,e,h⟩ r=>.cons #[a,_,_,e,.of (xZ h),Z,Z] (Oz r)
theorem jP{ns:ae}{i:Nat}{x:V}(h:(ns.map V.str)[i]? = some x):∃n,ns[i]? = some n/\x=.str n:=by
 rw[dQ] at h;cases e:ns[i]? with
 |none=>rw[e] at h;cases h
 |some n=>rw[e] at h;exact#[n,Z,(d5 h).symm]
theorem W8{α:Type}(p:α->Bool){l:List α}{i:Nat}{x:α}(h:l[i]? = some x):(l.take (i+1)).filter p=(l.take i).filter p++(if p x then [x] else []):=PySem.take_succ_filter p l i x h
theorem k9_{f:Addr}{fd:Ae}(F:bh K "neighbours_of_all" "neighbours_of_all" rB f fd)(cL:!bg 1 "lesser_first" pS Ks):!ak a9 2 f fd ["names","ties"] (kG K):=by
 exists F.bG kQ;let#[l1,l2,ns,zs,ts,rfl,fY,j5,tz,nd,h8,sP,k]:=h;let hu:=fZ hr;let MX:=hr.units;let sz:=b_
 apply#[_,ax (bx 2 kQ.nd Bf)
  (ax (eR eh Z (dO (pv 0)) (cY 3 kQ.nd)
   (aF (wM hu (pv 2) (pv 3) (md ["other","hand","ties"] 1 [3,1] (dO (pv 0)) (λfp s H=>fM (i:=0) (show (["other","hand","ties"]:ae).Nodup by decide +kernel) Z (Or.inl Z))
    (λfp s H=>UK (dm (Mb (K:=K) (λK=>zF K (r2 K rS rS) false) (NM (Hf hV hV) (oo hr _))) (aR cL hr %[1,0|0]) (pv 2) (by with_unfolding_all rfl))) (λfp s H=>pv 0)) Z)))
  (aF (aZ (pv 2)))),?_]
 intro d hd;have s0:aa H (upd H d (.dK [])):=aa.new hd
 apply#[_,Z,l1,Z,#[_,.of (s0 _ _ fY)],gQ (K:=K) (a:=l1) (xs:=ns.map V.str) (λi σ H2=>∃(v3:aI) (as:ai),σ=[some (.ref l1),some (.ref l2),some (.ref d),v3]/\aa H H2/\as.length=i/\H2 d\.dK (iL (ns.take i) as) /\
  ∀(j:Nat) n a,ns[j]? = some n->as[j]? = some a->H a=none/\a≠d/\H2 a\.lst ((near ns ts n).map V.str)) #[none,[],Z,s0,Z,ao,λj n a _ e=>by simp at e] (λi σ H2 _ ⟨_,_,_,s2,_⟩=>.of (s2 _ _ fY)) ?_ ?_]
 ·rintro i y σ H2 hy ⟨v3,as,rfl,s2,la,hd2,lists⟩;let#[n,hn,rfl]:=jP hy;have hi:i<ns.length:=(cw.mp hn).1
  have lk:(iL (ns.take i) as).length=i:=by
   unfold iL;rw[ay,List.length_zip,dP];omega
  apply#[_,Z,l1,Z,#[_,.of (s2 _ _ fY)],λD hD=>?_];apply ku (own:=1) (fv:=[some (.str n),some (.ref l2)]) (xs:=ns.map V.str) Z eL (λj out H'=>aa H2 H'/\H' D\.lst out/\out=((ns.take j).filter λo=>decide (aQ n o∈ts)).map V.str) #[aa.new hD,ao,Z] (λj out H' _ ⟨sm,_,_⟩=>.of (sm _ _ (s2 _ _ fY))) (λout H' ⟨sm,ee,eo⟩=>?_) (λj x out H' hx ⟨sm,ee,eo⟩=>?_)
  ·rw[ay,eX] at eo
   have ur:bH (iL (ns.take i) as) (Sum.inr n)=none:=yR λm=>by
    unfold iL at m;rw[ck] at m;let#[p,hp,e]:=bN.mp m;have e:p.1=n:=gO e;let q:=Ia (g:=id) (by rw[List.map_id];exact nd) hn;rw[List.map_id] at q;exact q (e▸(List.of_mem_zip hp).1)
   have SF:D≠d:=λz=>by subst z;rw[hD] at hd2;cases hd2
   apply#[_,Z,_,Z,d,_,Z,.k (k:=Sum.inr n) (sm _ _ hd2) Z1,?_];apply#[_,as++[D],Z,λc o e=>?_,by rw[dW,la];rfl,?_,λj n' a Ak ha=>?_]
   ·rw[az (bu e hd)];exact sm _ _ (s2 _ _ e)
   ·rw[ao,CJ _ ur];congr 2;unfold iL;rw[ig,hn,List.zip_append (by rw[dP];omega),dD];rfl
   by_cases hj:j<as.length
   ·rw[yT hj] at ha;let#[q1,q2,q3]:=lists j n' a Ak ha;apply#[q1,q2,?_];rw[az q2];exact sm _ _ q3
   have hj2:j=i:=by
    have:=(cw.mp ha).1;rw[dW] at this;simp only[yS] at this;omega
   subst hj2;rw[xa Z1,la,Nat.sub_self] at ha;have ha:D=a:=⇑ha
   subst ha;rw[hn] at Ak;cases Ak;apply#[s2.free hD,SF,?_];rw[az SF,ee,eo];rfl
  let#[o,ho,rfl]:=jP hx;apply#[_,Z,Z,λNx hN=>?_];apply#[_,Z,_,Z,n,o,Z,λt ht=>?_];have s3:aa H' (upd H' t (.tup [.str (aQ n o).1,.str (aQ n o).2])):=aa.new ht;let YX:=((tz.same s2).same sm).same s3
  have lo:out.length<sizeLine:=by
   rw[eo,ay];have:=List.length_filter_le (λo=>decide (aQ n o∈ts)) (ns.take j);rw[dP] at this;omega
  apply#[_,Z,aQ n o,ts,#[t,_,_,Z,.of ao,Z,Z],#[l2,zs,Z,.of (s3 _ _ (sm _ _ (s2 _ _ j5))),Oz YX],_,Z,?_];apply a_ (λc=>?_) (λc=>?_)
  ·apply#[_,Z,out,s3 _ _ ee,lo,hN _ _ #[g6 (sm.trans s3) hD,ao,?_]];have c:decide (aQ n o∈ts)=true:=⇑c
   rw[W8 _ ho,aJ c,dD,eo];rfl
  apply hN _ _ #[sm.trans s3,s3 _ _ ee,?_];have c:¬decide (aQ n o∈ts)=true:=⇑c
  rw[W8 _ ho,aE c,yP,eo]
 rintro σ H2 ⟨v3,as,rfl,s2,la,hd2,lists⟩;rw[ay] at la hd2;rw[eX] at hd2;exact#[_,Z,k d as _ s2 hd la hd2 λj n a h1 h2=>#[(lists j n a h1 h2).1,(lists j n a h1 h2).2.2]]
end
end Ev
namespace Ev
open PySem L2
abbrev rH:Stmt:=i9 iC 0
abbrev vy:Stmt:=i9 iC 1
abbrev lF:Stmt:=i9 iC 2
abbrev QX:Stmt:=i9 iC 3
abbrev lB:Stmt:=i9 iC 4
abbrev rj:Stmt:=i9 iC 5
abbrev k4:Stmt:=i9 iC 6
abbrev rE:Stmt:=i9 iC 7
def GO:aA->Str
 |.inr a::_=>a
 |_=>⟨#[]⟩
def Lm:aA->Str × Str
 |[.inr a,.inr b]=>(a,b)
 |_=>(⟨#[]⟩,⟨#[]⟩)
def aD(hs:Xa):ae:=(aX (hs.map kH)).map GO
def aP(ts:Xb):Xb:=(aX (ts.map λt=>kT (aQ t.1 t.2))).map Lm
theorem KC(ts:Xb):(aP ts).map kT=aX (ts.map λt=>kT (aQ t.1 t.2)):=by
 unfold aP;rw[ck]
 have all:∀k∈aX (ts.map λt=>kT (aQ t.1 t.2)),∃t:Str × Str,k=kT t:=λk hk=>by
  let#[t,_,e]:=bN.mp ((mj _).mem_iff.mp hk);exact#[_,e.symm]
 generalize aX (ts.map λt=>kT (aQ t.1 t.2))=l at all
 induction l with
 |nil=>rfl
 |cons k l ih=>
  let#[t,rfl]:=all k eP;rw[fi,ih λk hk=>all k (eA _ hk)];rfl
theorem K0(hs:Xa):∀k∈aX (hs.map kH),∃h:Str × Int,h∈hs/\k=kH h:=λk hk=>by
 let#[t,ht,e]:=bN.mp ((mj _).mem_iff.mp hk);exact#[t,ht,e.symm]
theorem Ve(hs:Xa):((di hs).map λkv=>kV kv.1)=(aD hs).map V.str:=by
 unfold di aD;rw[ck,ck];apply uR λk hk=>?_;let#[h,_,rfl]:=K0 hs k hk;rfl
theorem Vs(hs:Xa):(di hs).map (·.1)=(aD hs).map Sum.inr:=by
 unfold di aD;rw[ck,ck];apply uR λk hk=>?_;let#[h,_,rfl]:=K0 hs k hk;rfl
theorem hX(hs:Xa):(aD hs).Perm (hs.map (·.1)):=by
 unfold aD;let p:=(mj (hs.map kH)).map GO;rw[ck] at p;exact p
theorem V9{κ:Type}[DecidableEq κ]{kvs:List (κ × V)}{k:κ}(h:k∈kvs.map (·.1)):(bH kvs k).isSome=true:=by
 rw[<- HY];let#[p,hp,e]:=bN.mp h;exact List.any_eq_true.mpr #[p,hp,cb e]
theorem Ko{hs:Xa}{n:Str}:(bH (di hs) (Sum.inr n)).isSome=decide (n∈hs.map (·.1)):=by
 by_cases h:n∈hs.map (·.1)
 ·rw[cb h];apply V9 ?_;rw[Vs];exact bN.mpr #[n,(hX hs).mem_iff.mpr h,Z]
 rw[dM h,yR]
 ·rfl
 rw[Vs];intro m;let#[x,hx,e]:=bN.mp m;cases e;exact h ((hX hs).mem_iff.mp hx)
theorem Mu:¬((uG:Str)="sorted_pairs"):=by decide +kernel
theorem Mt:¬((uG:Str)=AW):=by decide +kernel
theorem _r:¬(("sorted_pairs":Str)=AW):=by decide +kernel
def cQ(d1 l2 d3:Addr):List (Str × V):=aB AW (.ref d3) (aB "sorted_pairs" (.ref l2) (aB uG (.ref d1) []))
theorem JM(d1 l2 d3:Addr):(cQ d1 l2 d3).lookup (uG:Str)\.ref d1:=by
 unfold cQ;rw[eK,aE Mt,eK,aE Mu,eK,aJ Z]
theorem kT_(d1 l2 d3:Addr):(cQ d1 l2 d3).lookup ("sorted_pairs":Str)\.ref l2:=by
 unfold cQ;rw[eK,aE _r,eK,aJ Z]
theorem N6(d1 l2 d3:Addr):(cQ d1 l2 d3).lookup (AW:Str)\.ref d3:=by
 unfold cQ;rw[eK,aJ Z]
theorem ip(d1 l2 d3:Addr){m:Str}(h1:¬m=uG)(h2:¬m="sorted_pairs")(h3:¬m=AW):(cQ d1 l2 d3).lookup m=none:=by
 unfold cQ;rw[eK,aE h3,eK,aE h2,eK,aE h1]
 all_goals rfl
structure eV (K:af) (C:Addr) (H:Hp) (p:Addr) (hs:Xa) (ts:Xb) (fp:ai):Prop where
 ex:∃(dx d1 l2 d3:Addr) (zs:ag) (as:ai),fp=p::d1::l2::d3::as/\H p\.ins C dx (cQ d1 l2 d3)/\H d1\.dK (di hs)/\H l2\.lst zs/\bF K H zs ((aP ts).map kT)/\H d3\.dK (iL (aD hs) as)/\as.length=(aD hs).length /\
  ∀(i:Nat) n a,(aD hs)[i]? = some n->as[i]? = some a->H a\.lst ((near (aD hs) (aP ts) n).map V.str)
theorem eV.keep{K:af}{C:Addr}{H H':Hp}{p:Addr}{hs:Xa}{ts:Xb}{fp:ai}(W:eV K C H p hs ts fp)(k:∀b∈fp,∀o,H b\o->H' b\o)(kt:∀b xs,H b\.tup xs->H' b\.tup xs):eV K C H' p hs ts fp:=by
 let#[dx,d1,l2,d3,zs,as,rfl,h1,h2,h3,h4,h5,h6,h7]:=W.ex;apply#[dx,d1,l2,d3,zs,as,Z,k _ Z2 _ h1,k _ Z2 _ h2,k _ Z2 _ h3,Paired.bQ h4 λy q ⟨a,e,z⟩=>#[a,e,kt _ _ z],k _ Z2 _ h5,h6,λi n a e1 e2=>k _ ?_ _ (h7 i n a e1 e2)];have:=dC e2;simp[this]
theorem eV.same{K:af}{C:Addr}{H H':Hp}{p:Addr}{hs:Xa}{ts:Xb}{fp:ai}(W:eV K C H p hs ts fp)(s:aa H H'):eV K C H' p hs ts fp:=W.keep (λb _ o e=>s b o e) λb xs e=>s b _ e
structure Good (hs:Xa) (ts:Xb):Prop where
 aH:∀h∈hs,tp h
 yb:(hs.map (·.1)).Nodup
 h1:1<=hs.length
 h8:hs.length<=8
 tok:∀t∈ts,yA t
 R6:(ts.map λt=>kT (aQ t.1 t.2)).Nodup
 vg:ts.length<64
 IJ:∀t∈ts,t.1∈hs.map (·.1)/\t.2∈hs.map (·.1)
theorem Good.sy{hs:Xa}{ts:Xb}(G:Good hs ts):(aD hs).Nodup:=(hX hs).nodup_iff.mpr G.yb
theorem Good.fD{hs:Xa}{ts:Xb}(G:Good hs ts):(aD hs).length=hs.length:=by
 rw[(hX hs).length_eq,ay]
theorem Hj(ts:Xb):(aP ts).length=ts.length:=by
 unfold aP;rw[ay,(mj _).length_eq,ay]
structure Txt (K:af) (mg:Str->Option Aa) (C:Addr):Prop where
 cl:mB K C
 nS:j7 K C uG
 nP:j7 K C "sorted_pairs"
 nN:j7 K C AW
section v
theorem kU:bw ["self","hands","ties","strengths","checked"] oB (aY rH):=bD
inductive G0 (K:af) (C:Addr) (vs:ag) (H:Hp) (Q:VK) (E:XK):Prop
 |mk:∀(p dx lh lt:Addr) (ys zs:ag) (hs:Xa) (ts:Xb),vs=[.ref p,.ref lh,.ref lt]->H p\.ins C dx []->H lh\.lst ys->bF K H ys (hs.map kH)->H lt\.lst zs->bF K H zs (ts.map kT)->Good hs ts->(∀fp H',(∀b o,H b\o->b≠p->H' b\o)->eV K C H' p hs ts fp->(∀b∈fp,b=p∨H b=none)->Q .non H')->G0 K C vs H Q E
theorem ks_{f C:Addr}{fd:Ae}(F:bh K "__init__" "Web.__init__" rH f fd)(T:Txt K mg C)(B:Bi mg)(cS:!bg 4 "checked_strengths" ["hands"] (xw K))(cT:!bg 4 "checked_ties" ["ties","strengths"] (kE K))(cN:!bg 2 "neighbours_of_all" ["names","ties"] (kG K)) :
  ak P w K mg base a9 5 f fd oB (G0 K C):=by
 exists F.bG kU;let#[p,dx,lh,lt,ys,zs,hs,ts,rfl,hp,o5,th,dG,tt,G,k]:=h
 apply#[_,ax (bx 3 kU.nd (aR cS hr %[1|0]))
  (ax (bx 4 kU.nd (aR cT hr %[2,3|0]))
  (ax (uO (pv 0) (pv 3) Z) (ax (uO (pv 0) (pv 4) Z)
  (aF (uO (pv 0) (aR cN hr %[iP (Qw Z) (by rfl) B.list uK %[3|0],4|0]) Z))))),?_]
 apply#[_,Z,lh,ys,hs,Z,o5,th,G.aH,G.yb,G.h1,G.h8,λd1 H1 s1 f1 ux=>?_];apply#[_,Z,_,Z,lt,d1,zs,ts,_,Z,s1 _ _ dG,tt.same s1,G.tok,G.R6,G.vg,ux,λt ht=>?_,λl2 CV H2 s2 f2 j5 tz=>?_]
 ·rw[Ko,Ko];exact#[cb (G.IJ t ht).1,cb (G.IJ t ht).2]
 let Au:=s2 _ _ ux;let iZ:=s2 _ _ (s1 _ _ hp);have p1:p≠d1:=cy iZ Au nofun;have p2:p≠l2:=cy iZ j5 nofun;apply#[_,Z,_,Z,p,C,dx,[],Z,iZ,T.cl,T.nS,by show 0<1000;decide,?_];apply#[_,Z,_,Z,p,C,dx,_,Z,ao,T.cl,T.nP,by show 1<1000;decide,?_]
 let H3:Hp:=upd (upd H2 p (.ins C dx (aB uG (.ref d1) []))) p (.ins C dx (aB "sorted_pairs" (.ref l2) (aB uG (.ref d1) [])))
 have h3:∀{b o},H2 b\o->b≠p->H3 b\o:=λe ne=>by
  show upd (upd H2 p _) p _ _=_;rw[az ne,az ne];exact e
 have N2:H3 p\.ins C dx (aB "sorted_pairs" (.ref l2) (aB uG (.ref d1) [])):=ao
 have EB:∀{b},H3 b=none->H2 b=none:=λ{b} e=>by
  by_cases z:b=p
  ·subst z;rw[N2] at e;cases e
  have e:upd (upd H2 p _) p _ b=none:=e;rw[az z,az z] at e;exact e
 have RZ:bF K H3 CV ((aP ts).map kT):=by
  rw[KC];exact Paired.bQ tz λy q ⟨a,e,z⟩=>#[a,e,h3 z (cy z iZ nofun)]
 apply#[_,Z,d1,_,Z,.inl (h3 Au p1.symm),λl1 fY=>?_];rw[Ve];have s4:aa H3 (upd H3 l1 (.lst ((aD hs).map V.str))):=aa.new fY;have Mp:l1≠l2:=(bu (H:=H3) (h3 j5 p2.symm) fY).symm;apply#[_,Z,l1,l2,aD hs,CV,aP ts,Z,ao,s4 _ _ (h3 j5 p2.symm),RZ.same s4,G.sy,by rw[G.fD];have:=G.h8;omega,Mp,λd3 as H5 s5 f5 la lV lists=>?_];let BQ:=s5 _ _ (s4 _ _ N2);apply#[_,Z,p,C,dx,_,Z,BQ,T.cl,T.nN,by show 2<1000;decide,?_]
 have up:∀{b o},H2 b\o->b≠p->upd H5 p (.ins C dx (cQ d1 l2 d3)) b\o:=λe ne=>by
  rw[az ne];exact s5 _ _ (s4 _ _ (h3 e ne))
 have nR:∀{b},upd H3 l1 (.lst ((aD hs).map V.str)) b=none->H b=none:=λe=>s1.free (s2.free (EB (s4.free e)));have NO:d3≠p:=(bu (s4 _ _ N2) f5).symm;apply k (p::d1::l2::d3::as) _ (λb o e ne=>up (s2 _ _ (s1 _ _ e)) ne) #[dx,d1,l2,d3,CV,as,Z,ao,up Au p1.symm,up j5 p2.symm,?_,?_,la,λi n a e1 e2=>?_] λb hb=>?_
 ·exact Paired.bQ (RZ.same (s4.trans s5)) λy q ⟨a,e,z⟩=>#[a,e,by rw[az (cy z BQ nofun)];exact z]
 ·rw[az NO];exact lV
 ·let#[q1,q2]:=lists i n a e1 e2;rw[az (cy q2 BQ nofun)];exact q2
 simp only[cq] at hb;rcases hb with rfl|rfl|rfl|rfl|hb
 ·exact .inl Z
 ·exact .inr f1
 ·exact .inr (s1.free f2)
 ·exact .inr (nR f5)
 let#[i,hi,e]:=mm hb;have e1:as[i]? = some b:=by rw[cg hi,e]
 have hn:i<(aD hs).length:=by omega
 exact .inr (nR (lists i _ b (cg hn) e1).1)
end
end Ev
namespace Ev
open PySem L2
structure bo (P:Ad) (w:Af) (K:af) (mg:Str->Option Aa) (base:Heap) (C:Addr) (k:Nat) (m:Str) (ps:ae) (sp:Sp):Prop where
 ex:∃f fd,ak P w K mg base a9 k f fd ps sp/\Meth K C m f/\pP K fd ps []
theorem eW{X:Cx}{C:Addr}{k:Nat}{m:Str}{ps:ae}{sp:Sp}{pos apos:Pos}{o e:Expr}{es:List Expr}{ta:TE}{t:TA}{pl:Sem Bool}(c:bo X.prog X.w X.K X.mg X.base C k m ps sp)(cl:mB X.K C)(hr:ba k X.A)(he:PE X o ta)(ha:PA X (e::es) t)
  (zX:starEach (e::es) X.env=(false,eval e X.env)::starEach es X.env:=by rfl) (iY:(backTo pos (starEach es X.env)).any (·.1)=false:=by rfl)
  (ht:eval (.Call (.Attribute o m apos) (e::es) [] pos) X.env=(do
   let ov <- eval o X.env
   standAt apos.atName
   let (f,first) <- holding [ov] (getMethod ov m pl)
   callWith pos f first (backTo pos (starEach (e::es) X.env)) (backToKw pos (keywordEach [] X.env))):=by rfl) :
  PE X (.Call (.Attribute o m apos) (e::es) [] pos) (mG C m sp [] E0 ta t):=by
 let#[f,fd,F,hm,b]:=c.ex;exact ko_ he cl hm F hr b .nil nu ha zX iY ht
theorem wI{X:Cx}{C:Addr}{k:Nat}{m:Str}{ps:ae}{sp:Sp}{pos apos:Pos}{o:Expr}{ta:TE}{pl:Sem Bool}(c:bo X.prog X.w X.K X.mg X.base C k m ps sp)(cl:mB X.K C)(hr:ba k X.A)(he:PE X o ta)
  (ht:eval (.Call (.Attribute o m apos) [] [] pos) X.env=(do
   let ov <- eval o X.env
   standAt apos.atName
   let (f,first) <- holding [ov] (getMethod ov m pl)
   callWith pos f first (backTo pos (starEach [] X.env)) (backToKw pos (keywordEach [] X.env))):=by rfl) :
  PE X (.Call (.Attribute o m apos) [] [] pos) (mG C m sp [] E0 ta gi):=by
 let#[f,fd,F,hm,b]:=c.ex;exact iI_ he cl hm F hr b .nil nu ht
theorem fU_{hs:Xa}(nd:(hs.map (·.1)).Nodup){x:Str}{n:Int}(h:(x,n)∈hs):bH (di hs) (Sum.inr x)\.int n:=by
 have m:((Sum.inr x:Key),V.int n)∈di hs:=by
  unfold di;apply bN.mpr #[kH (x,n),(mj _).mem_iff.mpr (bN.mpr #[_,h,Z]),Z]
 let nk:=W4 nd;generalize di hs=kvs at m nk
 induction kvs with
 |nil=>cases m
 |cons p r ih=>
  let#[n1,n2]:=p7.mp nk;rcases cq.mp m with e|m
  ·rw[<- e];exact Be Z
  rw[Bg (λe:p.1=Sum.inr x=>n1 (bN.mpr #[_,m,e.symm]))];exact ih m n2
theorem hH_{ns:ae}{as:ai}(nd:ns.Nodup)(la:as.length=ns.length){i:Nat}{n:Str}(hn:ns[i]? = some n):∃a,as[i]? = some a/\bH (iL ns as) (Sum.inr n)\.ref a:=by
 induction ns generalizing as i with
 |nil=>simp at hn
 |cons x ns ih=>
  cases as with
  |nil=>cases la
  |cons b as=>
   let#[n1,n2]:=p7.mp nd;cases i with
   |zero=>
    have e:x=n:=⇑hn
    subst e;exact#[b,Z,Be Z]
   |succ i=>
    have hn:ns[i]? = some n:=⇑hn
    let#[a,h1,h2]:=ih n2 ⇑la hn;apply#[a,by simpa using h1,?_];show bH ((Sum.inr x,V.ref b)::iL ns as) (Sum.inr n)=_;rw[Bg λe=>n1 (by rw[show x=n from gO e];exact dC hn)];exact h2
section v
theorem xC:bw nX nX (aY vy):=bD
inductive jj (K:af) (C:Addr) (vs:ag) (H:Hp) (Q:VK) (E:XK):Prop
 |mk:∀(p:Addr) (x:Str) (hs:Xa) (ts:Xb) (fp:ai),vs=[.ref p,.str x]->eV K C H p hs ts fp->Q (.bl (decide (x∈hs.map (·.1)))) H->jj K C vs H Q E
theorem kZ_{f C:Addr}{fd:Ae}(F:bh K "has_hand" "Web.has_hand" vy f fd)(T:Txt K mg C)(B:Bi mg):!ak a9 1 f fd nX (jj K C):=by
 exists F.bG xC;let#[p,x,hs,ts,fp,rfl,W,k]:=h;let hu:=fZ hr;let#[dx,d1,l2,d3,zs,as,rfl,h1,h2,h3,h4,h5,h6,h7]:=W.ex;apply#[_,aF (aZ (j_ (cu iS (by rfl) B.ia ik %[1,iR (v:=.ty "str") (by rfl) B.str Cj Z|0]) (j9 (GT (Ck hu (pv 1) (dA (pv 0) Z)))))),?_];apply#[_,Z,_,_,_,_,Z,.str x,Z,_,Z,bO ?_];apply#[_,Z,_,Z,p,C,dx,_,_,Z,h1,T.cl,T.nS,JM _ _ _,d1,_,Z,.k (k:=Sum.inr x) h2,?_];rw[Ko];exact k
theorem vw:bw gy gy (aY lF):=bD
inductive Ct (K:af) (C:Addr) (vs:ag) (H:Hp) (Q:VK) (E:XK):Prop
 |mk:∀(p:Addr) (hs:Xa) (ts:Xb) (fp:ai),vs=[.ref p]->eV K C H p hs ts fp->(∀l,H l=none->Q (.ref l) (upd H l (.lst ((aD hs).map V.str))))->Ct K C vs H Q E
theorem iN_{f C:Addr}{fd:Ae}(F:bh K "hands" "Web.hands" lF f fd)(T:Txt K mg C)(B:Bi mg):!ak a9 1 f fd gy (Ct K C):=by
 exists F.bG vw;let#[p,hs,ts,fp,rfl,W,k]:=h;let#[dx,d1,l2,d3,zs,as,rfl,h1,h2,h3,h4,h5,h6,h7]:=W.ex;apply#[_,aF (aZ (iP (Qw Z) (by rfl) B.list uK %[dA (pv 0) Z|0])),?_];apply#[_,Z,p,C,dx,_,_,Z,h1,T.cl,T.nS,JM _ _ _,d1,_,Z,.inl h2,λl hl=>?_];rw[Ve];exact k l hl
theorem e6':bw ja ja (aY QX):=bD
inductive CB (K:af) (C:Addr) (vs:ag) (H:Hp) (Q:VK) (E:XK):Prop
 |mk:∀(p:Addr) (x:Str) (n:Int) (hs:Xa) (ts:Xb) (fp:ai),vs=[.ref p,.str x]->eV K C H p hs ts fp->(hs.map (·.1)).Nodup->(x,n)∈hs->Q (.int n) H->CB K C vs H Q E
theorem eE_{f C:Addr}{fd:Ae}(F:bh K "strength" "Web.strength" QX f fd)(T:Txt K mg C)(cH:!bo C 1 "has_hand" nX (jj K C)):!ak a9 2 f fd ja (CB K C):=by
 apply F.bG e6' λaM A outer s H vs Q E hr h=>?_;let#[p,x,n,hs,ts,fp,rfl,W,nd,hx,k]:=h;let hu:=fZ hr;let#[dx,d1,l2,d3,zs,as,rfl,h1,h2,h3,h4,h5,h6,h7]:=id W.ex;apply#[_,ax (bL (eQ (dR (eW cH T.cl hr (pv 0) %[1|0]))) eB bM) (aF (aZ (ko hu (dA (pv 0) Z) (pv 1)))),?_];apply#[_,Z,p,dx,_,Z,h1,ip _ _ _ Z0 Z0 Z0,_,Z,p,x,hs,ts,_,Z,W,_,Z,?_];rw[cb (bN.mpr #[_,hx,Z])];apply aO ?_;apply#[_,Z,p,C,dx,_,_,Z,h1,T.cl,T.nS,JM _ _ _,_,Z,d1,_,Z,?_,k];rw[<- fU_ nd hx];exact .k (k:=Sum.inr x) h2
theorem vq:bw ja ja (aY lB):=bD
inductive Ke (K:af) (C:Addr) (vs:ag) (H:Hp) (Q:VK) (E:XK):Prop
 |mk:∀(p:Addr) (x:Str) (hs:Xa) (ts:Xb) (fp:ai),vs=[.ref p,.str x]->eV K C H p hs ts fp->(aD hs).Nodup->x∈hs.map (·.1)->(∀l,H l=none->Q (.ref l) (upd H l (.lst ((near (aD hs) (aP ts) x).map V.str))))->Ke K C vs H Q E
theorem SZ{H:Hp}{hs:Xa}{ts:Xb}{as:ai}{x:Str}(nd:(aD hs).Nodup)(hx:x∈hs.map (·.1))(la:as.length=(aD hs).length)
  (h7:∀(i:Nat) n a,(aD hs)[i]? = some n->as[i]? = some a->H a\.lst ((near (aD hs) (aP ts) n).map V.str)):∃a,bH (iL (aD hs) as) (Sum.inr x)\.ref a/\H a\.lst ((near (aD hs) (aP ts) x).map V.str):=by
 let#[i,hi,e]:=mm ((hX hs).mem_iff.mpr hx);have hn:(aD hs)[i]? = some x:=by rw[cg hi,e]
 let#[a,h1,h2]:=hH_ nd la hn;exact⟨a,h2,h7 i x a hn h1⟩
theorem i9_{f C:Addr}{fd:Ae}(F:bh K "neighbours" "Web.neighbours" lB f fd)(T:Txt K mg C)(B:Bi mg)(cH:!bo C 1 "has_hand" nX (jj K C)):!ak a9 2 f fd ja (Ke K C):=by
 exists F.bG vq;let#[p,x,hs,ts,fp,rfl,W,nd,hx,k]:=h;let hu:=fZ hr;let#[dx,d1,l2,d3,zs,as,rfl,h1,h2,h3,h4,h5,h6,h7]:=id W.ex;let#[a,e1,ha]:=SZ nd hx h6 h7;apply#[_,ax (bL (eQ (dR (eW cH T.cl hr (pv 0) %[1|0]))) eB bM) (aF (aZ (iP Rf (by rfl) B.list uK %[ko hu (dA (pv 0) Z) (pv 1)|0]))),?_];apply#[_,Z,p,dx,_,Z,h1,ip _ _ _ Z0 Z0 Z0,_,Z,p,x,hs,ts,_,Z,W,_,Z,?_];rw[cb hx];apply aO ?_;apply#[_,Z,p,C,dx,_,_,Z,h1,T.cl,T.nN,N6 _ _ _,_,Z,d3,.ref a,Z,?_,a,_,Z,.inl (.of ha),k];rw[<- e1];exact .k (k:=Sum.inr x) h5
theorem zh:bw kb kb (aY rj):=bD
theorem Hl{H:Hp}:∀ns:ae,Paired (rS H) (ns.map V.str) ns
 |[]=>.nil
 |_::ns=>.cons Z (Hl ns)
theorem vm:bw gy gy (aY k4):=bD
inductive OJ (K:af) (C:Addr) (vs:ag) (H:Hp) (Q:VK) (E:XK):Prop
 |mk:∀(p:Addr) (hs:Xa) (ts:Xb) (fp:ai),vs=[.ref p]->eV K C H p hs ts fp->ts.length<64->(∀l zs H',aa H H'->H l=none->H' l\.lst zs->bF K H' zs ((aP ts).map kT)->Q (.ref l) H')->OJ K C vs H Q E
theorem iy_{f C:Addr}{fd:Ae}(F:bh K "ties" "Web.ties" k4 f fd)(T:Txt K mg C)(cA:!bg 1 "ties_anew" ["ties"] (qJ K)):!ak a9 2 f fd gy (OJ K C):=by
 exists F.bG vm;let#[p,hs,ts,fp,rfl,W,bU,k]:=h;let#[dx,d1,l2,d3,zs,as,rfl,h1,h2,h3,h4,h5,h6,h7]:=W.ex;apply#[_,aF (aZ (aR cA hr %[dA (pv 0) Z|0])),?_];exact#[_,Z,p,C,dx,_,_,Z,h1,T.cl,T.nP,kT_ _ _ _,l2,zs,aP ts,Z,h3,h4,by rw[Hj];omega,k]
theorem zo:bw gy gy (aY rE):=bD
def fQ(hs:Xa)(ts:Xb):List Int:=(aD hs).map λn=>((near (aD hs) (aP ts) n).length:Int)
inductive kJ (K:af) (C:Addr) (vs:ag) (H:Hp) (Q:VK) (E:XK):Prop
 |mk:∀(p:Addr) (hs:Xa) (ts:Xb) (fp:ai),vs=[.ref p]->eV K C H p hs ts fp->0<(aD hs).length->(aD hs).length<=1000->(∀m H',aa H H'->m∈fQ hs ts->(∀a∈fQ hs ts,a<=m)->Q (.int m) H')->kJ K C vs H Q E
theorem jr_{f C:Addr}{fd:Ae}(F:bh K "most_neighbours" "Web.most_neighbours" rE f fd)(T:Txt K mg C)(B:Bi mg):!ak a9 1 f fd gy (kJ K C):=by
 exists F.bG zo;let#[p,hs,ts,fp,rfl,W,h0,h8,k]:=h;let sz:=b_;let#[dx,d1,l2,d3,zs,as,rfl,h1,h2,h3,h4,h5,h6,h7]:=W.ex
 apply#[_,aF (aZ (cu (iL_ Z) (by rfl) B.max PyProof.Rows.Boot.«max» %[jC_ (md ["row"] 1 [] (jx_ (hW_ (dA (pv 0) Z))) (λfp s H=>fM (i:=0) (show (["row"]:ae).Nodup by decide +kernel) Z (Or.inl Z)) (λfp s H=>jb)
  (λfp s H=>cu (QS (K:=K)) (by rfl) B.len gz %[0|0]))|0])),?_]
 apply#[d3,_,h5,_,Z,p,C,dx,_,_,Z,h1,T.cl,T.nN,N6 _ _ _,d3,_,Z,h5,λv hv=>?_];have s1:aa H (upd H v (Bl v d3)):=aa.new hv;apply#[v,d3,_,Z,ao,s1 _ _ h5,λo D hD=>?_]
 have lk:(iL (aD hs) as).length=(aD hs).length:=by
  unfold iL;rw[ay,List.length_zip];omega
 have Ib:∀{b u},H b\u->u≠.dK (iL (aD hs) as)->upd (upd H v (Bl v d3)) d3 (.frz o (.dK (iL (aD hs) as))) b\u:=λe ne=>by
  rw[az (cy e h5 ne)];exact s1 _ _ e
 apply Kf (own:=1) (fv:=[]) Z eL (aD hs).length (λi out H'=>aa (upd (upd H v (Bl v d3)) d3 (.frz o (.dK (iL (aD hs) as)))) H'/\H' D\.lst out/\out=((fQ hs ts).take i).map V.int) #[aa.new hD,ao,Z] (λout H' ⟨sm,ee,eo⟩=>?_) (λi out H' hi ⟨sm,ee,eo⟩=>?_)
 ·let hf:=sm _ _ (show upd (upd H v (Bl v d3)) d3 (.frz o (.dK (iL (aD hs) as))) d3\_ from ao);have Dd:D≠d3:=cy ee hf nofun;have ll:(fQ hs ts).length=(aD hs).length:=by unfold fQ;rw[ay]
  rw[<- ll,eX] at eo;apply#[#[hf,by omega],o,hf,D,fQ hs ts,Z,.of ?_,by omega,λm hm hle=>k m _ (λb u e=>?_) hm hle]
  ·rw[az Dd,ee,eo]
  by_cases z:b=d3
  ·subst z;rw[ao,<- h5];exact e
  rw[az z];exact sm _ _ (by rw[az z];exact s1 _ _ e)
 let hf:=sm _ _ (show upd (upd H v (Bl v d3)) d3 (.frz o (.dK (iL (aD hs) as))) d3\_ from ao);apply#[#[hf,by omega],λx H2 y=>?_];let#[eH,kk,hk]:=y;subst eH;have hn:(aD hs)[i]? = some (aD hs)[i]:=cg hi;have ha:as[i]? = some (as[i]' Z1):=cg Z1
 have ex:x=.ref (as[i]' Z1):=by
  unfold iL at hk;rw[dQ,cg (by rw[List.length_zip];omega),List.getElem_zip] at hk;exact (Prod.mk.inj (d5 hk)).2.symm
 subst ex;let M0:=h7 i _ _ hn ha;apply#[_,Z,Z,λNx hN=>d6 ?_];apply#[_,Z,_,_,Z,.inl (.of (sm _ _ (Ib M0 nofun))),out,ee,?_,hN _ _ #[g6 sm hD,ao,?_]]
 ·rw[eo,ay,dP];unfold fQ;rw[ay];omega
 rw[CM _ (show (fQ hs ts)[i]? = some (((near (aD hs) (aP ts) (aD hs)[i]).length:Nat):Int) by unfold fQ;rw[dQ,hn];rfl),eo,ay]
end
end Ev
namespace L2
open PySem PySem.Spec PyProof.Rows PySem.W
def Iz(K:af)(a:Addr):It:=
 #[λi H=>∃xs x,dN K H a xs/\xs[i]? = some x,λi H y H'=>∃t x,y=.ref t/\H t=none/\(∀xs,dN K H a xs->xs[i]? = some x)/\H'=upd H t (.tup [.int i,x]),λi H=>∃xs,dN K H a xs/\xs.length=i]
theorem Inv.mE{X:Cx}{pins:List (Addr × Obj)}{σ:St}{H:Hp}{s:Ab}{h':Heap}{t':Nat}{fp:ai}{T:Addr}{xs:ag}{its:aj}(I:Inv X pins σ H s)(k:∀b o,b∉fp->s.heap.get? b\o->h'.get? b\o)(hf:∀b∈fp,dc X pins H b)
  (hT:s.heap.objs.size<=T) (hz:xs.length<=sizeLine) (r:Vals xs its) (ht:IsTup h' T its.toArray/\∃o,h'.get? T\o/\o.dict=none):Inv X pins σ (upd H T (.tup xs)) { s with heap:=h',toks:=t' }:=by
 have fT:H T=none:=I.aH.fresh hT;have nf:∀b u,H b\u->b∉fp:=λb u e hb=>by rw[(hf b hb).1] at e;cases e
 have old:∀{b u},H b\u->upd H T (.tup xs) b\u:=λe=>by rw[az (bu e fT)];exact e
 apply I.step (g':=s.gens) (d':=s.drawn) (ch:=fp) (λb hb=>?_) (λb o _ _ hc e _=>k b o hc e) (λb o _ _ hc e _=>#[o.slots,k b o hc e]) (λb o _ e n=>?_)
  (λb o hc e=>#[o,k b o hc e]) (λb ys e=>old e) (λb o u e=>old e) (λb ps e=>#[#[],by rw[Array.append_empty];exact old e]) (λm hm=>?_) (λb u e=>?_) I.bare
 ·let#[f0,f1,f2,f3,f4,f5]:=hf b hb;exact#[f3,f1,f4,f5]
 ·rw[az (λz=>by subst z;exact absurd (cm e) (Nat.not_lt.mpr hT))];exact n
 ·let#[o,es,ep,ho,r]:=hm;exact#[o,es,ep,k _ o (λhb=>(hf _ hb).2.1 Z) ho,r]
 by_cases z:b=T
 ·subst z;rw[ao] at e;cases e;exact#[hz,its,r,ht]
 rw[az z] at e;apply (I.aH b u e).dX (λc v hc q=>k c v ?_ q) (λ_ q=>old q) λ_ _ q=>old q;rcases hc with z|z
 ·rw[z];exact nf b u e
 exact nf c _ z
theorem Inv.iw{X:Cx}{pins:List (Addr × Obj)}{σ:St}{H:Hp}{s:Ab}{h':Heap}{t':Nat}{fp:ai}(I:Inv X pins σ H s)(k:∀b o,b∉fp->s.heap.get? b\o->h'.get? b\o)(hf:∀b∈fp,dc X pins H b):Inv X pins σ H { s with heap:=h',toks:=t' }:=by
 have nf:∀b u,H b\u->b∉fp:=λb u e hb=>by rw[(hf b hb).1] at e;cases e
 apply I.step (g':=s.gens) (d':=s.drawn) (ch:=fp) (λb hb=>?_) (λb o _ _ hc e _=>k b o hc e) (λb o _ _ hc e _=>#[o.slots,k b o hc e]) (λb o _ e n=>n)
  (λb o hc e=>#[o,k b o hc e]) (λb ys e=>e) (λb o u e=>e) (λb ps e=>#[#[],by rw[Array.append_empty];exact e]) (λm hm=>?_) (λb u e=>?_) I.bare
 ·let#[f0,f1,f2,f3,f4,f5]:=hf b hb;exact#[f3,f1,f4,f5]
 ·let#[o,es,ep,ho,r]:=hm;exact#[o,es,ep,k _ o (λhb=>(hf _ hb).2.1 Z) ho,r]
 apply (I.aH b u e).dX (λc v hc q=>k c v ?_ q) (λ_ q=>q) λ_ _ q=>q;rcases hc with z|z
 ·rw[z];exact nf b u e
 exact nf c _ z
theorem gR_{P:Ad}{w:Af}{K:af}{elts:List Expr}{k:Nat}{pos:Pos}(a e it:Addr)(h1:e≠it)(h2:a≠e)(h3:a≠it):Turn P w K (.Tuple elts k pos) (Iz K a) [e,it] e (λi h=>(∃old,IsEnum h e it i old)/\h.IsListIter it a i) where
 mem:=by simp
 obj:=λi h st b hb=>by
  let#[#[old,q],o,e2,c,d]:=st;rcases cq.mp hb with rfl|hb
  ·exact#[_,q,λv z=>by cases z]
  obtain rfl:b=it:=⇑hb
  exact#[o,e2,λv z=>by rw[d] at z;cases z]
 keep:=λi h h' st kk=>by
  let#[#[old,q],dB]:=st;exact#[#[old,kk e Z2 _ q],dB.at λo q2=>kk it Z2 o q2]
 item:=by
  intro X hP hw hK hc i pins s σ H E I hf st hg;subst hP hw hK;let#[xs,x,hq,hx]:=hg;let#[its,rv,p,hz]:=I.list hq;let#[u,hu,ru]:=rv.get hx;let W:=WalksT.enumerate (prog:=X.prog) (w:=X.w) (A:=X.A) (I.ok.hd hc) e it a h1 h2 h3 its.toArray
  have hi:i<its.toArray.size:=by
   simp only[cX];exact (cw.mp hu).1
  let#[old,he]:=st.1;let hit:=st.2;apply wpAny_pyNext_enum_item he hit p.isList (x:=u) (by rw[List.getElem?_toArray];exact hu) h1 λh' ho Ap JE hsz hk=>?_;have NG:e<s.heap.objs.size:=cm he;have Nt:it<s.heap.objs.size:=by let#[_,x,_]:=hit;exact cm x
  have mid:(∃x,IsEnumOut h' e it ((i:Int)+1) x s.heap.objs.size)/\h'.IsListIter it a (i+1)/\h'.IsList a its.toArray/\s.heap.objs.size≠e/\s.heap.objs.size≠it:=#[#[_,ho],Ap,p.isList.at λo x=>hk a o h2 h3 x,uT NG,uT Nt];have kk:∀b o,b∉[e,it]->s.heap.get? b\o->h'.get? b\o:=λb o hb x=>hk b o (λe'=>hb (by simp[e'])) (λe'=>hb (by simp[e'])) x;have MR:h'.IsTuple s.heap.objs.size (List.toArray [.int i s.toks,u]):=#[_,JE,Z,_,Z];obtain⟨T,eT⟩:∃T,T=s.heap.objs.size:=#[_,Z];obtain⟨t,et⟩:∃t,t=s.toks:=#[_,Z];obtain⟨tk,Jq⟩:∃tk,tk=s.toks+1:=#[_,Z];rw[<- eT] at MR mid JE ⊢;have hT:s.heap.objs.size<=T:=Nat.le_of_eq eT.symm;rw[<- et] at MR JE;rw[<- Jq];apply#[_,Z,W.go elts k pos i T { s with heap:=h',toks:=tk } _ _ mid λi6 ft ML=>?_];have nT:T∉[e,it]:=W.apart i T h' mid
  have MQ:i6.IsTuple T (List.toArray [.int i t,u]):=by
   let#[o,q,r]:=MR;exact#[o,ML T o nT q,r]
  have I1:Inv X pins σ (upd H T (.tup [.int i,x])) { s with heap:=i6,toks:=tk }:=I.mE (t':=tk) (fp:=[e,it]) (its:=[.int i t,u]) (λb o hb q=>ML b o hb (kk b o hb q)) hf hT (zl) (.cons #[t,Z] (.cons ru .nil)) #[MQ,_,ML T _ nT JE,Z];apply#[.ref T,_,I1,Z,#[T,x,Z,I.aH.fresh hT,λys hy=>by rw[I.jy hy hq];exact hx,Z],#[?_,ft.2.1],λb hb=>?_]
  ·let#[old,q]:=ft.1;exact#[old,by simpa using q]
  rw[az (λz:b=T=>nT (by rw[<- z];exact hb))];exact (hf b hb).1
 done:=by
  intro X hP hw hK hc i pins s σ H E I hf st hg;subst hP hw hK;let#[xs,hq,hx]:=hg;let#[its,rv,p,hz]:=I.list hq;let W:=WalksT.enumerate (prog:=X.prog) (w:=X.w) (A:=X.A) (I.ok.hd hc) e it a h1 h2 h3 its.toArray
  have hn:its.toArray.size=i:=by
   have:=rv.length;simp only[cX];omega
  apply W.done s _ _ (by rw[hn];exact#[st.1,st.2,p.isList]) λh' tk kk=>#[Z,I.iw (t':=tk) (fp:=[e,it]) kk hf]
 self:=λA i s Q E st h=>by
  let#[old,q]:=st.1;exact wpAny_pyIter_enum q h
inductive sN (K:af) (R:It->Hp->Prop) (vs:ag) (H1:Hp):Prop
 |mk:∀a,vs=[.ref a]->(∃xs,dN K H1 a xs)->R (Iz K a) H1->sN K R vs H1
def E4(K:af)(ta:TA):TI:=λσ H R=>ta σ H λvs H1=>sN K R vs H1
theorem T7{X:Cx}{elts:List Expr}{kk:Nat}{p2:Pos}{a:Expr}{ta:TA}{p pos:Pos}(hg:Gl X "enumerate")(hm:X.mg "enumerate"=none)(ha:PA X [a] ta)(hs:starEach [a] X.env=[(false,eval a X.env)]:=by rfl):PI X (.Tuple elts kk p2) (.Call (.Name "enumerate" p) [a] [] pos) (E4 X.K ta):=by
 intro pins s σ H R I h;apply Call_ (Cr I hg hm boot_enumerate (PyProof.Rows.callWith_type1 (aV (ha pos pins s σ H _ I h) λus s1 ⟨vs,H1,I1,r1,q1⟩=>?_) hs Z));let#[l,e,#[xs,hq],q]:=q1;subst e;cases r1 with
 |cons r rr=>
  cases rr;cases r;let#[its,rv,pl,hz]:=I1.list hq;have ll:l<s1.heap.objs.size:=by let#[_,e,_]:=pl.isList;exact cm e
  apply call_enumerate_list pl.isList λh' he hi hn kp=>?_;apply wpAny_pyIter_enum he ?_;apply#[s1.heap.objs.size+1,[s1.heap.objs.size+1,s1.heap.objs.size],_,_,H1,Z,I1.kept (t':=s1.toks) kp,gR_ l _ _ (Nat.succ_ne_self _) (dY (Nat.lt_succ_of_lt ll)) (dY ll),#[#[_,he],hi],λb hb=>?_,q]
  have e:s1.heap.objs.size<=b:=by
   rcases cq.mp hb with rfl|hb
   ·exact Nat.le_succ _
   obtain rfl:b=s1.heap.objs.size:=⇑hb
   exact br _
  exact I1.jF e (I1.aH.fresh e)
theorem U8{K:af}{a:Addr}{xs:ag}{g:TG}{tb:TS}{D:Ends}{σ:St}{H:Hp}(Pv:Nat->St->Hp->Prop)(h0:Pv 0 σ H)(hl:∀i σ H,i<=xs.length->Pv i σ H->dN K H a xs)
  (hs:∀i x σ H,xs[i]? = some x->Pv i σ H->∀t,H t=none->g (.ref t) σ (upd H t (.tup [.int i,x])) λgC H2=>tb { D with nx:=Pv (i+1),ct:=Pv (i+1),bk:=D.nx } gC H2) (hd:∀σ H,Pv xs.length σ H->D.nx σ H) :
  ∃W:Nat->Nat->St->Hp->Prop,(∃m,W 0 m σ H)/\∀i m σ H,W i m σ H->
   ((Iz K a).stop i H/\D.nx σ H)∨((Iz K a).go i H/\∃N:St->Hp->Prop,(∀bq H',N bq H'->∃m',m'<m/\W (i+1) m' bq H')/\∀x H',(Iz K a).xf i H x H'->g x σ H' λgC H2=>tb { D with nx:=N,ct:=N,bk:=D.nx } gC H2):=by
 apply#[λi m σ H=>m=xs.length - i/\i<=xs.length/\Pv i σ H,#[xs.length,by simp,gA _,h0],?_];rintro i m σ H ⟨rfl,hi,p⟩;let q:=hl i σ H hi p;by_cases dG:i<xs.length
 ·apply .inr #[#[xs,xs[i],q,by simp[dG]],Pv (i+1),λbq H' p'=>#[xs.length - (i+1),by omega,Z,dG,p'],λx H' y=>?_];let#[t,x,rfl,ht,y,rfl]:=y;exact hs i x σ H (y xs q) p t ht
 have e:i=xs.length:=by omega
 subst e;exact .inl #[#[xs,q,Z],hd σ H p]
theorem Oo(a b c:Str):EX (.str a) [.str b,.str c]=(decide (b=a) || decide (c=a)):=by
 have e:∀x y:Str,nU (.str x) (.str y)=decide (x=y):=λx y=>by
  have:=Uw (a:=Sum.inr x) (b:=Sum.inr y) Z;rw[show nU (.str x) (.str y)=nU (kV (Sum.inr x)) (kV (Sum.inr y)) from Z,this];by_cases z:x=y
  ·simp[z]
  simp[z]
 unfold EX;simp only[List.any_cons,List.any_nil,Bool.or_false,e]
end L2
namespace L2
open PySem PySem.Spec PyProof.Rows
section
variable{M:Model}{A:Ag}{E:Aa->Ab->Prop}{s:Ab}{base:Heap}{env:Env}{outer:List Env}{L e:Addr}{cls cx fl:Aa}{Q:Unit->Ab->Prop}
end
end L2
namespace L2
open PySem PySem.Spec PyProof.Rows
theorem eM.here{P:Ad}{w:Af}{H:Hp}{h:Heap}{a:Addr}{o:HO}(x:eM P w H h a o):∃u,h.get? a\u:=by
 cases o with
 |lst xs=>let#[_,_,_,_,e]:=x;exact#[_,e]
 |tup xs=>let#[_,_,_,#[o,e,_],_]:=x;exact#[_,e]
 |dK kvs=>let#[_,_,_,_,o,_,_,e,_]:=x;exact#[_,e]
 |dT kvs=>let#[_,_,_,_,o,_,_,e,_]:=x;exact#[_,e]
 |set S n=>let#[o,_,_,_,e,_]:=x;exact#[_,e]
 |ins C dx fs=>let#[_,_,_,e,_]:=x;exact#[_,e]
 |own y=>exact x
 |xd fs=>let#[_,#[_,_,_,e,_],_]:=x;exact#[_,e]
 |rng lo hi=>let#[_,_,_,e]:=x;exact#[_,e]
 |frz ob u=>let#[e,_]:=x;exact#[_,e]
 |tbl ps=>exact#[_,show h.get? a\_ from x]
 |met f y=>exact#[_,show h.get? a\_ from x]
 |ext φ=>let#[_,e,_]:=x;exact e
def CQ(B:Heap)(l:List Env)(H:Hp)(h0 h:Heap):Prop:=
 ∀b o,h.get? b\o->b∉gM l->((H b).isSome=true∨∃o0,h0.get? b\o0)->B.get? b\o
section
variable{P:Ad}{w:Af}{H H':Hp}{B h0 h h1:Heap}{l:List Env}
theorem hs_(aH:eD P w H' h)(fr:∀b∈gM l,H' b=none)(i:CQ B l H' h0 h)(st:B.StaysIn h1):eD P w H' h1:=λb o e=>
 (aH b o e).dX (λc u hc q=>by
  have hs:∃x,H' c\x:=by
   rcases hc with z|z
   ·exact#[o,z▸e]
   exact#[_,z]
  let#[x,hx]:=hs;exact st c u (i c u q (λm=>by rw[fr c m] at hx;cases hx) (.inl (by rw[hx];rfl)))) (λ_ q=>q) (λ_ _ q=>q)
theorem iQ_(un:Un (gM l) [] H H' h0 h)(ff:h.FunFrames B l)(i:CQ B l H' h0 h)(st:B.StaysIn h1)(up:h.UpToSlots h1):Un (gM l) [] H H' h0 h1 where
 keep:=λb o q n hb hx=>st b o (i b o (un.keep b o q n hb hx) hb (.inr #[o,q]))
 slot:=λb o q n hb hx=>by
  let#[sl,e]:=un.slot b o q n hb hx;let#[_,o',e',d]:=ff.mem hb;rw[e] at e';cases e';let#[IT,e2]:=up b _ e d;exact#[IT,e2]
 free:=un.free
 there:=λb o q hx=>by
  let#[o',e]:=un.there b o q hx;by_cases hb:b∈gM l
  ·let#[_,o2,e',d]:=ff.mem hb;rw[e] at e';cases e';let#[IT,e2]:=up b _ e d;exact#[_,e2]
  exact#[o',st b o' (i b o' e hb (.inr #[o,q]))]
 gD:=un.gD
 fG:=un.fG
 gg:=un.gg
theorem ia_(aH:eD P w H' h)(un:Un (gM l) [] H H' h0 h)(i:CQ B l H' h0 h)(st:B.StaysIn h1):CQ B l H' h0 h1:=λb o e hb c=>by
 have:∃u,h.get? b\u:=by
  rcases c with z|⟨o0,z⟩
  ·let#[x,hx]:=Bq.mp z;exact (aH b x hx).here
  exact un.there b o0 z Z2
 let#[u,hu]:=this;let q:=i b u hu hb c;have:=st b u q;rw[e] at this;cases this;exact q
end
section
variable{X:Cx}{pins:List (Addr × Obj)}{σ:St}{H H':Hp}{s s1:Ab}{B h:Heap}{a:Addr}{cls a0:Aa}{E:XK}
theorem io_(I:Inv X pins σ H s)(un:Un (gM X.stack) [] H H' s.heap h):∀b∈gM X.stack,H' b=none:=λb hb=>by
 let#[_,o,ho,_]:=I.stack.mem hb;exact un.free b o ho (I.iA b hb) Z2
end
section
variable{P:Ad}{w:Af}{K:af}{mg:Str->Option Aa}{base:Heap}{N:ae}{qual:Str}{scope:Scope}{f:Addr}{cd:Aa}{A:Ag}{outer:List Env}{s:Ab}{H:Hp}{E:XK}
end
section
variable{X:Cx}{x:Str}{C:Addr}{bm:aj}{B newId zU:String}{np cn pos:Pos}{e₀:Expr}{t:TA}{E:XK}
end
section v
end
end L2
namespace L2
open PySem PySem.Spec PySem.Calls PyProof.Rows PySem.W Builtin Builtin.ObjectAttr Builtin.Getset_descriptor
structure Rz (K:af) (C:Addr):Prop where
 cl:(clsIn K C).isSome=true
 ga:findIn K (.ref C) "__getattribute__"\some (.builtin "BaseException.__getattribute__")
 ha:findIn K (.ref C) "__getattr__"\none
 ca:findIn K (.ref C) "__class__"\some (.builtin "object.__class__")
 gt:specialIn K (.builtin "object.__class__") "__get__"\some (.builtin "getset_descriptor.__get__")
 tk:takesIn K (.builtin "object.__class__")\true
 mo:mroIn K C (.type "object")\true
 mb:mroIn K C (.type "BaseException")\true
section
variable{prog:Ad}{w:Af}{A:Ag}{E:Aa->Ab->Prop}{s:Ab}{K:af}{x C:Addr}
end
section
variable{X:Cx}
inductive xJ (K:af) (xs:ag) (H:Hp) (Q:VK):Prop
 |mk:∀x C t b,xs=[x,.ref C]->dE K H x t->PySem.W.kitOne K t (.ref C)\b->Q (.bl b) H->xJ K xs H Q
theorem h7_:gq X (.builtin "isinstance") (xJ X.K):=by
 intro pins s σ H xs us Q I r h;let#[x,C,t,b,rfl,ty,e,q]:=h;let#[u,w',rfl,ru,jq]:=vals2 r;cases (show w'=Value.ref C from jq);exact VN I ru ty e λtk=>#[.bl b,H,I.tok tk,Z,q]
end
end L2
namespace L2
open PySem PySem.Spec PyProof.Rows
section
variable{X:Cx}{pins:List (Addr × Obj)}{σ:St}{H:Hp}{s:Ab}{a:Addr}
end
section
variable{X:Cx}{st:Stmt}{e c:Expr}{te:XS->TE}{t u:XS->TS}{pos:Pos}{a b:List Stmt}{tc:TT}
end
section
variable{X:Cx}{k:Nat}{f C:Addr}{fd:Ae}{ps:ae}{sp:Sp}{gn:ag}{ds:aj}{ES:XS}{x m:Str}{p pos apos:Pos}{e o:Expr}{es:List Expr}{ta:TE}{t:TA}
end
section
variable{X:Cx}{i:Nat}{x n:Str}{D C:Addr}{np zZ pos:Pos}{Bd:Stmt}{qy body:List Stmt}{tb:XS->TS}{ts:TS}
end
end L2
namespace L2
open PySem
end L2
namespace Ev
open PySem L2
abbrev rQ:Stmt:=top 76
abbrev lJ:Stmt:=top 77
abbrev rG:Stmt:=top 79
abbrev LX:Stmt:=top 11
abbrev Qd:Stmt:=top 31
abbrev kX:Stmt:=top 32
abbrev lK:Stmt:=top 71
abbrev OM:Stmt:=top 72
abbrev PP:Stmt:=top 73
abbrev G_:Stmt:=top 74
abbrev O5:Stmt:=top 23
abbrev PQ:Stmt:=top 24
abbrev LW:Stmt:=top 12
abbrev rD:Stmt:=top 25
abbrev O7:Stmt:=top 26
abbrev QT:Stmt:=top 67
abbrev Kb:Stmt:=top 4
abbrev hG:Stmt:=top 34
abbrev JZ:Stmt:=top 35
abbrev rO:Stmt:=top 36
abbrev zC:Stmt:=top 37
abbrev zA:Stmt:=top 38
abbrev PZ:Stmt:=top 39
abbrev Pt:Stmt:=top 40
abbrev QJ:Stmt:=top 41
abbrev HU:Stmt:=top 42
abbrev PY:Stmt:=top 43
abbrev jm:Stmt:=top 44
abbrev OL:Stmt:=top 46
abbrev QE:Stmt:=top 47
abbrev PF:Stmt:=top 48
abbrev P_:Stmt:=top 45
abbrev OG:Stmt:=top 49
abbrev OD:Stmt:=top 33
abbrev kW:Stmt:=top 84
abbrev lC:Stmt:=top 78
abbrev rg:Stmt:=top 80
abbrev OH:Stmt:=top 81
abbrev k9:Stmt:=top 82
abbrev rq:Stmt:=top 83
abbrev OU:Stmt:=top 85
abbrev zB:Stmt:=top 86
abbrev lA:Stmt:=top 87
abbrev lj:Stmt:=top 51
abbrev k8:Stmt:=top 27
abbrev k7:Stmt:=top 28
abbrev Qc:Stmt:=top 54
abbrev O_:Stmt:=top 55
abbrev OS:Stmt:=top 56
abbrev lI:Stmt:=top 57
abbrev lH:Stmt:=top 58
abbrev Pb:Stmt:=top 59
abbrev gE:Stmt:=top 88
def aN(l:Addr)(H H':Hp):Prop:=∀b o,H b\o->b≠l->H' b\o
theorem aN.refl(l:Addr)(H:Hp):aN l H H:=λ_ _ e _=>e
theorem aN.trans{l:Addr}{H H1 H2:Hp}(h:aN l H H1)(h2:aN l H1 H2):aN l H H2:=λb o e n=>h2 b o (h b o e n) n
theorem aN.of{l:Addr}{H H1:Hp}(h:aa H H1):aN l H H1:=λb o e _=>h b o e
theorem aN.upd{l:Addr}{H:Hp}{o:HO}:aN l H (upd H l o):=λb u e n=>by rw[az n];exact e
def cZ(H:Hp)(l:Addr):Prop:=(∃n:Int,H l\.lst [.int n])∨∃n m c:Int,H l\.lst [.int n,.int m,.int c]
theorem cZ.some{H:Hp}{l:Addr}(h:cZ H l):∃xs,H l\.lst xs:=by
 rcases h with⟨n,e⟩|⟨n,m,c,e⟩
 ·exact#[_,e]
 exact#[_,e]
theorem aN.free{l b:Addr}{H H':Hp}(h:aN l H H')(s:cZ H' l)(e:H' b=none):H b=none:=by
 cases z:H b with
 |none=>rfl
 |some o=>
  by_cases q:b=l
  ·subst q;let#[xs,e2]:=s.some;rw[e] at e2;cases e2
  rw[h b o z q] at e;cases e
theorem gc{α:Type}{xs:List α}{i:Int}(h0:0<=i)(h1:i<xs.length):eO xs i=xs[i.toNat]?:=by
 unfold eO uv;rw[aJ h0,aJ h1];rfl
section v
def wQ:Sp:=λvs H Q _=>∃(l:Addr) (b:Int),vs=[.ref l,.int b]/\0<b/\b<1073741824/\cZ H l/\∀r H',0<=r->r<b->aN l H H'->cZ H' l->Q (.int r) H'
theorem small(x:Int):-(2 ^ 64)<x % 2147483647/\x % 2147483647<2 ^ 64:=by
 let h1:=Int.emod_nonneg x (b:=2147483647) (by decide);let h2:=Int.emod_lt_of_pos x (b:=2147483647) (by decide);exact#[by omega,by omega]
end
end Ev
namespace Ev
open PySem L2
theorem Vj:(AZ:Str).cps.toList=[97,98,99,100,101,102,103,104,105,106,107,108,109,110,111,112,113,114,115,116,117,118,119,120,121,122]:=by decide +kernel
theorem kA_{r:Int}(h0:0<=r)(h1:r<26):∃c,eO (AZ:Str).cps.toList r\c/\jt c=true:=by
 rw[Vj,gc h0 ⇑h1];have hn:r.toNat<26:=by omega
 apply#[_,cg ⇑hn,?_];have all:∀c∈[97,98,99,100,101,102,103,104,105,106,107,108,109,110,111,112,113,114,115,116,117,118,119,120,121,122],jt c=true:=by decide +kernel
 exact all _ (ml _)
end Ev
namespace Ev
open PySem L2
theorem vT{α:Type}{a b:α}{r:Int}(h0:0<=r)(h1:r<2):eO [a,b] r\a∨eO [a,b] r\b:=by
 have:r=0∨r=1:=by omega
 rcases this with rfl|rfl
 ·exact .inl Z
 exact .inr Z
section
theorem jd{K:af}{H H':Hp}{l:Addr}{ys:ag}{ks:List aA}(t:bF K H ys ks)(b:aN l H H'){xs:ag}(hl:H l\.lst xs):bF K H' ys ks:=Paired.bQ t λy k ⟨a,z,q⟩=>#[a,z,b _ _ q (cy q hl nofun)]
theorem WC{K:af}{H:Hp}{D:Addr}{ns:ae}(h:H D\.lst (ns.map V.str)):rL K rS H (.ref D) ns:=#[D,_,Z,.of h,Hl ns]
end
end Ev
namespace Ev
open PySem L2
def kO(t:Str × Str):aA:=kT (aQ t.1 t.2)
structure TI (ns:ae) (k j:Nat) (ts:Xb):Prop where
 at':∀t∈ts,∃(a b:Nat) (x y:Str),b<a/\(a<k∨(a=k/\b<j))/\ns[a]? = some x/\ns[b]? = some y/\(t=(x,y)∨t=(y,x))
 nd:(ts.map kO).Nodup
 len:ts.length<=7 * k+j
theorem GU{a b:Str × Str}(h:kT a=kT b):a=b:=by
 unfold kT at h;let#[h1,h2]:=List.cons.inj h;let#[h2,_]:=List.cons.inj h2;exact Prod.ext (gO h1) (gO h2)
theorem Hy{ns:ae}(nd:ns.Nodup){i j:Nat}{x:Str}(h:ns[i]? = some x)(h2:ns[j]? = some x):i=j:=by
 let#[hi,e1]:=cw.mp h;let#[hj,e2]:=cw.mp h2;exact (List.getElem_inj nd).mp (e1.trans e2.symm)
theorem kM_{a b c d:Str}(h:kO (a,b)=kO (c,d)):(a=c/\b=d)∨(a=d/\b=c):=by
 let h:=GU h;dsimp only at h;rcases J5 a b with e|e<;>rcases J5 c d with e2|e2<;>rw[e,e2] at h<;>let h1:=(Prod.mk.inj h).1<;>let h2:=(Prod.mk.inj h).2
 ·exact .inl #[h1,h2]
 ·exact .inr #[h1,h2]
 ·exact .inr #[h2,h1]
 exact .inl #[h2,h1]
theorem cZ.same{H H':Hp}{l:Addr}(h:cZ H l)(s:aa H H'):cZ H' l:=by
 rcases h with⟨n,e⟩|⟨n,m,c,e⟩
 ·exact .inl #[n,s _ _ e]
 exact .inr #[n,m,c,s _ _ e]
end Ev
namespace Ev
open PySem L2
theorem TH(a:Str):nA a a=false:=UY (Sum.inr a)
theorem hr_{a b:Str}(h:nA a b=true):nA b a=false:=VU (a:=Sum.inr a) (b:=Sum.inr b) h
theorem jI_{a b:Str}(h:nA a b=false)(h2:nA b a=false):a=b:=gO (UF (a:=Sum.inr a) (b:=Sum.inr b) h h2)
theorem MF(a b:Str):bK (cE a) (cE b)=nA a b:=by
 show (if (Sum.inr a:Key)=Sum.inr b then false else nA a b)=nA a b;by_cases h:a=b
 ·subst h;rw[aJ Z,TH]
 rw[aE λe=>h (gO e)]
def mn(ns:ae):Prop:=ns.Pairwise λa b=>nA b a=false
theorem mn.keys{ns:ae}(h:mn ns):yV (ns.map cE):=by
 unfold yV;rw[tX];exact h.imp λq=>by rw[MF];exact q
theorem eV_{a b:ae}(p:a.Perm b)(h1:mn a)(h2:mn b):a=b:=U3 (Qm (p.map cE) h1.keys h2.keys)
theorem ka_(hs:Xa):mn (aD hs):=by
 unfold aD mn;rw[tX];apply (Wt (hs.map kH)).imp_of_mem λ{a b} ha hb q=>?_;let#[x,_,rfl]:=K0 hs a ha;let#[y,_,rfl]:=K0 hs b hb;show nA y.1 x.1=false;by_cases h:y.1=x.1
 ·rw[h,TH]
 have q:(if (Sum.inr y.1:Key)=Sum.inr x.1 then bK [Sum.inl y.2] [Sum.inl x.2] else nA y.1 x.1)=false:=q;rwa [aE λe=>h (gO e)] at q
theorem WB(a b:Str):aQ a b=aQ b a:=by
 unfold aQ;by_cases h:nA a b=true
 ·rw[aJ h,aE (by rw[hr_ h];decide)]
 by_cases h2:nA b a=true
 ·rw[aE h,aJ h2]
 have:=jI_ ⇑h ⇑h2;subst this;rw[aE h]
theorem PB{ts:Xb}{x:Str × Str}:x∈aP ts ↔ ∃t∈ts,aQ t.1 t.2=x:=by
 have e:kT x∈(aP ts).map kT ↔ x∈aP ts:=#[λh=>by
  let#[y,hy,e]:=bN.mp h;rw[<- GU e];exact hy,λh=>bN.mpr #[x,h,Z]]
 rw[<- e,KC,(mj _).mem_iff,bN];exact#[λ⟨t,ht,q⟩=>#[t,ht,GU q],λ⟨t,ht,q⟩=>#[t,ht,by rw[q]]]
theorem jQ_(a b:Str):kO (a,b)=kO (b,a):=by
 show kT (aQ a b)=kT (aQ b a);rw[WB]
end Ev
namespace Ev
open PySem L2
section v
theorem zv:bw oA oA (aY rQ):=bD
def qI(K:af):Sp:=λvs H Q _=>∃(l:Addr) (ns:List Int) (k:Int),vs=[.ref l,.int k]/\0<=k/\dN K H l (ns.map V.int)/\∀n,Q (.int n) H
theorem k6_{f:Addr}{fd:Ae}(F:bh K "_law_cell_at" "_law_cell_at" rQ f fd)(B:Bi mg):!ak a9 1 f fd oA (qI K):=by
 exists F.bG zv;let#[l,ns,i,rfl,h0,hl,k]:=h;apply#[_,ax (bL (dm l8_ (pv 1) (cu gZ (by rfl) B.len gz %[0|0])) (aF (aZ (bE fA (pv 0) (pv 1)))) bM) (aF (aZ au)),?_];apply#[_,Z,_,Z,l,_,Z,.inl hl,_,_,Z,Z,_,Z,?_];apply a_ (λc=>?_) (λc=>?_)
 ·have c:i<(ns.map V.int).length:=⇑c
  have e:eO (ns.map V.int) i\.int (ns[i.toNat]'(by rw[ay] at c;omega)):=by
   rw[gc h0 c,dQ,cg (by rw[ay] at c;omega)];rfl
  exact#[_,Z,_,Z,l,_,_,_,Z,Z,hl,e,k _]
 exact k 0
theorem Hx:bw [eF,"_law_base","_law_cell","_law_found","_law_number"] uH (aY lJ):=bD
theorem Em{n:Int}(b:Bool):∃m:Int,eO [V.int 0,V.int n] (if b then 1 else 0)\.int m:=by
 cases b
 ·exact#[0,Z]
 exact#[n,Z]
theorem il_{f:Addr}{fd:Ae}(F:bh K tR tR lJ f fd)(B:Bi mg):!ak a9 1 f fd uH wQ:=by
 exists F.bG Hx;let#[l,b,rfl,h0,h1,st,k]:=h
 apply#[_,ax (bL (dm l_ (cu gZ (by rfl) B.len gz %[0|0]) au)
   (ax (bx 2 Hx.nd (bE fA (pv 0) au))
   (ax (Cp (bE fA (bX %[au,2|0]) (iP hS_ (by rfl) B.int Oa %[oi MP (pv 2) (bI JV au au)|0])) (JI (pv 0) au KN))
   (aF (iq (iJ i_ Cw Cy CC (pv 0) %[bX %[bI uM (pv 2) au,au|0]|0]))))) bM)
  (ax (bL (dm AK (bE fA (pv 0) au) au)
   (ax (bx 3 Hx.nd (bI uM (bE fA (pv 0) au) (pv 1)))
   (ax (Cp (bI yL (bE fA (pv 0) au) (pv 1)) (JI (pv 0) au KN))
   (aF (aZ (pv 3))))) bM)
  (ax (Cp (bI g5 (bE fA (pv 0) au) au) (JI (pv 0) au KN))
  (ax (bx 4 Hx.nd (bI uM (bI pW (bI g5 (bI g5 (bE fA (pv 0) au) (bI pW au (bE fA (pv 0) au))) au) au) au))
  (ax (bx 4 Hx.nd (bI uM (bI pW (pv 4) (bI g5 (bI yL (pv 4) au) au)) au))
  (aF (aZ (bI uM (bI uM (bI pW (pv 4) (bI g5 (bI yL (pv 4) au) au)) au) (pv 1)))))))),?_]
 rcases st with⟨n,uw⟩|⟨n,m,c,hl⟩
 case' inl=>
  apply#[_,Z,l,_,Z,.inl (.of uw),Z,_,Z,bO ?_];apply#[_,Z,l,_,_,_,Z,Z,.of uw,Z,?_];apply#[_,Z,zl,λp hp=>?_];have lp:l≠p:=bu uw hp;apply#[_,Z,_,_,Z,Z,#[by decide,by decide,by decide],_,_,Z,Z,.inr #[_,Z,?_]];let#[n',Ak]:=Em (n:=n) (decide ((10:Int) ^ (18:Int).toNat<=n));apply#[p,_,_,_,Z,Z,.of ao,Ak,?_];apply#[_,Z,l,_,_,0,Z,Z,by rw[az lp];exact uw,Z,?_];have fY:(upd (upd H p (.lst [.int 0,.int n])) l (.lst ([V.int n].set 0 (.int n')))) l\.lst [.int n']:=ao;have Xf:aN l H (upd (upd H p (.lst [.int 0,.int n])) l (.lst ([V.int n].set 0 (.int n')))):=(aN.of (aa.new hp)).trans aN.upd;generalize (upd (upd H p (.lst [.int 0,.int n])) l (.lst ([V.int n].set 0 (.int n'))))=Ha at fY Xf ⊢;apply#[_,Z,.inl #[Z,_,.of fY],_,Z,_,_,Z,Z,by show (0:Int)<2147483647;decide,zl,λq hq=>?_];apply#[l,q,_,_,Z,Z,aa.new hq _ _ fY,ao,by show 1+2<=sizeLine;decide,?_];have bt:aN l H (upd (upd Ha q (.lst [.int (n % 2147483647),.int 0])) l (.lst ([.int n']++[.int (n % 2147483647),.int 0]))):=Xf.trans ((aN.of (aa.new hq)).trans aN.upd);have hl:(upd (upd Ha q (.lst [.int (n % 2147483647),.int 0])) l (.lst ([.int n']++[.int (n % 2147483647),.int 0]))) l\.lst [.int n',.int (n % 2147483647),.int 0]:=ao;generalize (upd (upd Ha q (.lst [.int (n % 2147483647),.int 0])) l (.lst ([.int n']++[.int (n % 2147483647),.int 0])))=H1 at bt hl ⊢
 case' inr=>
  apply#[_,Z,l,_,Z,.inl (.of hl),Z,_,Z,aO ?_];let bt:=aN.refl l H
 all_goals
  apply#[_,Z,l,_,_,_,Z,Z,.of hl,Z,_,_,Z,Z,_,Z,?_];apply a_ (λc=>?_) (λc=>?_)
  ·apply#[_,Z,l,_,_,_,Z,Z,.of hl,Z,_,Z,_,_,Z,Z,h0,?_];apply#[_,Z,l,_,_,_,Z,Z,.of hl,Z,_,Z,_,_,Z,Z,#[h0,h1],_,Z,l,_,_,0,Z,Z,hl,Z,?_];exact#[_,Z,k _ _ (Int.emod_nonneg _ Z1) (Int.emod_lt_of_pos _ h0) (bt.trans aN.upd) (.inr #[_,_,_,ao])]
  apply#[_,Z,l,_,_,_,Z,Z,.of hl,Z,_,_,Z,Z,_,Z,l,_,_,2,Z,Z,hl,Z,?_];apply#[_,Z,l,_,_,_,Z,Z,.of ao,Z,_,Z,l,_,_,_,Z,Z,.of ao,Z,_,_,Z,Z,.inl #[by decide,by decide],_,_,Z,Z,_,_,Z,Z,_,_,Z,Z,.inr #[by decide,by decide],_,_,Z,Z,by show (0:Int)<2147483647;decide,?_];apply#[_,Z,_,Z,_,_,Z,Z,#[by decide,by decide],_,_,Z,Z,_,_,Z,Z,.inl (small _),_,_,Z,Z,by show (0:Int)<2147483647;decide,?_];apply#[_,Z,_,Z,_,_,Z,Z,#[by decide,by decide],_,_,Z,Z,_,_,Z,Z,.inl (small _),_,_,Z,Z,by show (0:Int)<2147483399;decide,_,Z,_,_,Z,Z,h0,?_];exact k _ _ (Int.emod_nonneg _ Z1) (Int.emod_lt_of_pos _ h0) (bt.trans aN.upd) (.inr #[_,_,_,ao])
end
end Ev
namespace Ev
open PySem L2
def qd:ae:=["hand","tie","piece","yard","free","fixed","none","tick","come","go","rest","run","show","ok"]
structure Nm (m:Nat) (ns:ae):Prop where
 len:ns.length=m
 nd:ns.Nodup
 ok:∀n∈ns,hW n=true
 end_:∀n∈ns,n∈qd∨∃k,k<m/\n.cps.toList.getLast? = some (97+k % 26)
theorem iR_(ns:ae)(k:Nat)(h:k<=ns.length):bZ (ns.map V.str) (some (k:Int)) none=(ns.drop k).map V.str:=by
 unfold bZ;rw[HT.iD,HT.gF,ay,Nat.min_eq_left h,List.map_drop,w9];rw[wX,ay];omega
def Tl(m k:Nat)(n:Str):Prop:=hW n=true/\∃w:List Nat,n.cps.toList=w++(if 26<m then [97+k / 26] else [])++[97+k % 26]
theorem kG_{m i j:Nat}{n:Str}(hm:m<=676)(hi:i<m)(hj:j<m)(a:Tl m i n)(b:Tl m j n):i=j:=by
 let#[_,w1,e1]:=a;let#[_,w2,e2]:=b;rw[e1] at e2;let l:=eI List.getLast? e2;rw[List.getLast?_append,List.getLast?_append] at l;simp at l;by_cases h:26<m
 ·rw[aJ h,aJ h] at e2;let z:=List.append_inj' e2 Z;let z2:=List.append_inj' z.1 Z;have:=(List.cons.inj z2.2).1;omega
 omega
theorem iv_{m:Nat}{ns:ae}(hm:m<=676)(hl:ns.length=m)(h:∀k n,ns[k]? = some n->Tl m k n):Nm m ns:=by
 apply#[hl,?_,λn hn=>?_,λn hn=>?_]
 ·rw[w_,List.pairwise_iff_getElem];intro i j hi hj lt e;let a:=h i _ (cg hi);let b:=h j _ (cg hj);rw[e] at a;have:=kG_ hm Z1 Z1 a b;omega
 ·let#[k,hk,e]:=mm hn;exact (h k n (by rw[cg hk,e])).1
 let#[k,hk,e]:=mm hn;let#[_,w,e2]:=h k n (by rw[cg hk,e]);apply .inr #[k,by omega,?_];rw[e2,List.getLast?_append];rfl
theorem UJ{q:Nat}(h:q<26):eO (AZ:Str).cps.toList (q:Int)\(97+q):=by
 rw[Vj,gc Z1 (by show (q:Int)<((26:Nat):Int);omega),ow];have all:∀i:Fin 26,[97,98,99,100,101,102,103,104,105,106,107,108,109,110,111,112,113,114,115,116,117,118,119,120,121,122][i.val]? = some (97+i.val):=by decide +kernel
 exact all #[q,h]
theorem Kx(x:Str)(c:Nat):(x++(⟨(List.toArray [c])⟩:Str)).cps.toList=x.cps.toList++[c]:=PySem.W.KT.app_list _ _
theorem CD(x:Str):x.length=x.cps.toList.length:=by rw[tY];rfl
theorem Tw{q:Nat}(h:q<26):jt (97+q)=true:=by
 unfold jt;rw[cb Z1,cb Z1];rfl
section v
theorem yJ:bw [eF,"_law_many","_law_letters","_law_names_here","_law_k","_law_word","_law_j"] oF (aY lC):=bD
def OV:Sp:=λvs H Q _=>∃(l:Addr) (m:Nat),vs=[.ref l,.int m]/\m<=30/\cZ H l/\∀(a:Addr) (ns:ae) (H':Hp),aN l H H'->cZ H' l->H a=none->H' a\.lst (ns.map V.str)->Nm m ns->Q (.ref a) H'
theorem iG_{f:Addr}{fd:Ae}(F:bh K "_law_names" "_law_names" lC f fd)(B:Bi mg)(cD:!bg 1 tR uH wQ):!ak a9 2 f fd oF OV:=by
 exists F.bG yJ;let#[l,m,rfl,My,st,k]:=h;let sz:=b_;refine' #[_,?u0,?kk]
 case' u0=>refine' ax ?u1 ?u2
 case u1=>exact bx 2 yJ.nd bf
 case' u2=>refine' ax ?YO ?YN
 case YO=>exact bx 3 yJ.nd (bX aK)
 case' YN=>refine' ax ?YM ?YL
 case' YM=>refine' eR ?YK ?YJ ?YI ?YH ?YG
 case YK=>exact eh
 case YJ=>exact Z
 case YI=>exact Ij (by rfl) B.range %[1|0]
 case YH=>exact cY 4 yJ.nd
 case' YG=>refine' ax ?YF ?YE
 case YF=>exact bx 5 yJ.nd bf
 case' YE=>refine' ax ?YD ?YC
 case' YD=>refine' eR ?YB ?YA ?Yz ?Yy ?RX
 case YB=>exact eh
 case YA=>exact Z
 case' Yz=>refine' Ij ?Yx ?Yw ?Yv
 case Yx=>exact by rfl
 case Yw=>exact B.range
 case Yv=>exact eE (aR cD hr %[0,bI Hb au (bI yL (pv 1) au)|0]) aK
 case Yy=>exact cY 6 yJ.nd
 case' RX=>refine' aF ?Yu
 first|(case' Yu=>refine' Cm (i:=5) ?RW ?RV ?RU ?RT)|(case' RX=>refine' Cm (i:=5) ?RW ?RV ?RU ?RT)
 case RW=>exact yJ.nd
 case RV=>exact Z
 case RU=>exact Or.inl Z
 case RT=>exact bI Qk (pv 5) (bE N_ (pv 2) (aR cD hr %[0,au|0]))
 case' YC=>refine' ax ?Yt ?RS
 case' Yt=>refine' bL ?Ys ?RR ?Yr
 case Ys=>exact dm AK (pv 1) au
 case' RR=>refine' aF ?Yq
 first|(case' Yq=>refine' Cm (i:=5) ?RQ ?RP ?RO ?RN)|(case' RR=>refine' Cm (i:=5) ?RQ ?RP ?RO ?RN)
 case RQ=>exact yJ.nd
 case RP=>exact Z
 case RO=>exact Or.inl Z
 case RN=>exact bI Qk (pv 5) (bE N_ (pv 2) (bI yL (pv 4) au))
 case Yr=>exact bM
 case' RS=>refine' aF ?RM
 first|(case' RM=>refine' iq ?RL)|(case' RS=>refine' iq ?RL)
 first|(case' RL=>refine' iJ ?RK ?RJ ?RI ?RH ?RG ?RF)|(case' RM=>refine' iJ ?RK ?RJ ?RI ?RH ?RG ?RF)
 case RK=>exact i_
 case RJ=>exact tT
 case RI=>exact tU
 case RH=>exact p0
 case RG=>exact pv 3
 case RF=>exact eE (bI Qk (pv 5) (bE N_ (pv 2) (bI uM (pv 4) au))) aK
 case YL=>exact aF (aZ (pv 3))
 generalize hH:H=H1;have b1:aN l H H1:=by rw[hH];exact aN.refl l H1
 have fJ:cZ H1 l:=by rw[<- hH];exact st
 rw[<- hH] at b1;have b1:aN l H H1:=by rw[hH];exact aN.refl l H1
 all_goals
  apply#[zl,λa ha=>?_];let s2:=aa.new (o:=.lst []) ha;have b0:aN l H H1:=b1;have FY:H a=none:=b0.free fJ ha
  have jD:l≠a:=by
   let#[xs,e]:=fJ.some;exact bu e ha
  apply#[_,Z,_,Z,by show (-(2 ^ 62):Int)<=(m:Int);omega,by show (m:Int)<(2 ^ 62:Int);omega,?_]
  apply Ik (lo:=0) (n:=(m:Int).toNat) (λi σ H2=>∃(v6 v7 v8:aI) (ns:ae),σ=[some (.ref l),some (.int m),some (.str AZ),some (.ref a),v6,v7,v8]/\aN l H H2/\cZ H2 l/\H2 a\.lst (ns.map V.str)/\ns.length=i/\∀k n,ns[k]? = some n->Tl m k n)
   #[_,_,_,[],Z,b0.trans (aN.of s2),fJ.same s2,ao,Z,λk n e=>by simp at e] ?_ ?_
  ·rintro i σ H2 hi ⟨v6,v7,v8,ns,rfl,b2,dB,ib,ln,tl⟩;rw[Int.zero_add];have hi:i<m:=by omega
   apply#[_,Z,_,Z,_,_,Z,Z,#[by decide,by decide],_,_,Z,Z,l,8 - (m:Int) / 27,Z,by omega,by omega,dB,λr H3 r0 rb b3 g_=>#[_,Z,by show (-(2 ^ 62):Int)<=r;omega,by show r<(2 ^ 62:Int);omega,?_]]
   apply Ik (lo:=0) (n:=r.toNat) (λj σ H4=>∃(x:Str) (v8:aI),σ=[some (.ref l),some (.int m),some (.str AZ),some (.ref a),some (.int i),some (.str x),v8]/\aN l H H4/\cZ H4 l/\H4 a\.lst (ns.map V.str)/\x.length=j/\x.cps.toList.all jt=true)
    #["",_,Z,b2.trans b3,g_,b3 _ _ ib jD.symm,Z,Z] ?_ ?_
   ·rintro j σ H4 hj ⟨x,v8,rfl,b4,fq,tj,hx,ho⟩;apply#[_,Z,_,Z,_,Z,l,26,Z,by decide,by decide,fq,λq H5 q0 ZK b5 gT=>?_];let#[c,hc,oc]:=kA_ q0 ZK;apply#[_,_,_,Z,Z,by decide +kernel,hc,_,_,Z,Z,?_,_,_,Z,b4.trans b5,gT,b5 _ _ tj jD.symm,?_,?_]
    ·have:(⟨(List.toArray [c])⟩:Str).length=1:=rfl;omega
    ·rw[CD,Kx,dW,<- CD,hx];rfl
    rw[Kx,List.all_append,ho];simp[oc]
   rintro σ H4 ⟨x,v8,rfl,b4,fq,tj,hx,ho⟩;apply#[_,Z,_,_,Z,Z,_,Z,?_];apply a_ (λc3=>?_) (λc3=>?_)
   have c3:26<m:=by
    have:(26:Int)<(m:Int):=⇑c3
    omega
   have JC:eO (AZ:Str).cps.toList ((i:Int) / 26)\(97+i / 26):=by
    have:=UJ (q:=i / 26) Z1;rw[<- this];congr 1
   apply#[_,Z,_,Z,_,Z,_,_,Z,Z,#[by decide,by decide],_,_,_,Z,Z,by decide +kernel,JC,_,_,Z,Z,by show x.length+1<=sizeLine;omega,?_];have ex:(x++(⟨(List.toArray [97+i / 26])⟩:Str)).cps.toList=x.cps.toList++(if 26<m then [97+i / 26] else []):=by rw[aJ c3];exact Kx _ _
   generalize x++(⟨(List.toArray [97+i / 26])⟩:Str)=x' at ex ⊢;rotate_left 1
   have c3:¬26<m:=by
    have:¬(26:Int)<(m:Int):=⇑c3
    omega
   have ex:x.cps.toList=x.cps.toList++(if 26<m then [97+i / 26] else []):=by rw[aE c3,yP]
   obtain⟨x',BM⟩:∃x':Str,x'=x:=#[_,Z];rw[<- BM];have ex:x'.cps.toList=x.cps.toList++(if 26<m then [97+i / 26] else []):=by rw[BM];exact ex
   all_goals
    have hc4:eO (AZ:Str).cps.toList ((i:Int) % 26)\(97+i % 26):=by
     have:=UJ (q:=i % 26) (Nat.mod_lt _ (by decide));rw[<- this];congr 1
    have lx:x'.length<=7:=by
     rw[CD,ex,dW,<- CD,hx];by_cases hm:26<m
     ·rw[aJ hm];show r.toNat+1<=7;omega
     rw[aE hm];show r.toNat+0<=7;omega
    apply#[_,Z,.inl #[Z,_,.of tj],_,Z,_,Z,_,Z,_,_,Z,Z,by show (0:Int)<26;decide,_,_,_,Z,Z,by decide +kernel,hc4,_,_,Z,Z,?_,a,_,_,Z,Z,tj,?_,?_]
    ·have:(⟨(List.toArray [97+i % 26])⟩:Str).length=1:=rfl;omega
    ·rw[ay];omega
    apply#[_,_,_,ns++[x'++(⟨(List.toArray [97+i % 26])⟩:Str)],Z,λb o e ne=>?_,?_,?_,?_,λkk n hn=>?_]
    ·rw[az (bu e FY)];exact b4 _ _ e ne
    ·unfold cZ;rw[az jD];exact fq
    ·rw[ao,dD];rfl
    ·rw[dW,ln];rfl
    by_cases hk:kk<ns.length
    ·rw[yT hk] at hn;exact tl kk n hn
    have ye:kk=i:=by
     have:=(cw.mp hn).1;rw[dW] at this;simp only[yS] at this;omega
    subst ye;rw[xa Z1,ln,Nat.sub_self] at hn;have hn:x'++(⟨(List.toArray [97+kk % 26])⟩:Str)=n:=⇑hn
    subst hn;have ey:(x'++(⟨(List.toArray [97+kk % 26])⟩:Str)).cps.toList=x'.cps.toList++[97+kk % 26]:=Kx _ _;apply#[?_,x.cps.toList,by rw[ey,ex]];unfold hW;rw[CD,ey,dW,<- CD,cb (by show 1<=x'.length+1;omega),cb (by show x'.length+1<=8;omega),List.all_append,ex,List.all_append,ho];have o1:([97+kk % 26]:List Nat).all jt=true:=by simp[Tw (Nat.mod_lt kk (show 0<26 by decide))]
    have o2:(if 26<m then [97+kk / 26] else ([]:List Nat)).all jt=true:=by
     by_cases hm:26<m
     ·rw[aJ hm];simp[Tw (show kk / 26<26 by omega)]
     rw[aE hm];rfl
    rw[o1,o2];rfl
  rintro σ H2 ⟨v6,v7,v8,ns,rfl,b2,dB,ib,ln,tl⟩;exact#[_,Z,k a ns H2 b2 dB FY ib (iv_ Z1 Z1 tl)]
end
end Ev
namespace Ev
open PySem L2
theorem Kz(ys:ag)(k:Nat):bZ ys none (some (k:Int))=ys.take k:=by
 unfold bZ;rw[HT.gF,HT.iD,List.drop_zero,Nat.sub_zero];by_cases h:k<=ys.length
 ·rw[Nat.min_eq_left h]
 rw[Nat.min_eq_right Z1,w9 (br _),w9 Z1]
theorem VP(ys:ag)(k:Nat):bZ ys (some (k:Int)) none=ys.drop k:=by
 unfold bZ;rw[HT.iD,HT.gF];by_cases h:k<=ys.length
 ·rw[Nat.min_eq_left h,w9 (by rw[wX];omega)]
 rw[Nat.min_eq_right Z1,List.drop_eq_nil_of_le (br _),List.drop_eq_nil_of_le Z1,List.take_nil]
theorem KS{α β:Type}{F:α->β->Prop}:∀{ys:List α} {ks:List β} (n:Nat),Paired F ys ks->Paired F (ys.take n) (ks.take n)
 |_,_,0,_=>.nil
 |_,_,_+1,.nil=>.nil
 |_,_,n+1,.cons a t=>.cons a (KS n t)
theorem Re{α β:Type}{F:α->β->Prop}:∀{ys:List α} {ks:List β} (n:Nat),Paired F ys ks->Paired F (ys.drop n) (ks.drop n)
 |_,_,0,h=>h
 |_,_,_+1,.nil=>.nil
 |_,_,n+1,.cons _ t=>Re n t
theorem kj{α β:Type}{F:α->β->Prop}:∀{ys yW:List α} {ks sF:List β},Paired F ys ks->Paired F yW sF->Paired F (ys++yW) (ks++sF)
 |_,_,_,_,.nil,h=>h
 |_,_,_,_,.cons a t,h=>.cons a (kj t h)
theorem U0{α:Type}(l:List α)(t:Nat):(l.drop t++l.take t).Perm l:=List.perm_append_comm.trans (by rw[List.take_append_drop])
theorem FK{α:Type}{p:α->Prop}{a b c:α}{r:Int}(h0:0<=r)(h1:r<3)(ha:p a)(hb:p b)(hc:p c):∃x,eO [a,b,c] r\x/\p x:=by
 have:r=0∨r=1∨r=2:=by omega
 rcases this with rfl|rfl|rfl
 ·exact#[_,Z,ha]
 ·exact#[_,Z,hb]
 exact#[_,Z,hc]
structure TJ (ns:ae) (k q:Nat) (ts:Xb):Prop where
 at':∀t∈ts,∃(a b:Nat) (x y:Str),a<b/\(a<k∨(a=k/\b<k+1+q))/\ns[a]? = some x/\ns[b]? = some y/\(t=(x,y)∨t=(y,x))
 nd:(ts.map kO).Nodup
 len:ts.length<=7 * k+q
theorem TJ.skip{ns:ae}{k j:Nat}{ts:Xb}(h:TJ ns k j ts):TJ ns k (j+1) ts:=
 #[λt ht=>let #[a,b,x,y,h1,h2,h3,h4,h5]:=h.at' t ht;#[a,b,x,y,h1,by omega,h3,h4,h5],h.nd,by have:=h.len;omega]
theorem TJ.next{ns:ae}{k q:Nat}{ts:Xb}(h:TJ ns k q ts)(h7:q<=7):TJ ns (k+1) 0 ts:=
 #[λt ht=>let #[a,b,x,y,h1,h2,h3,h4,h5]:=h.at' t ht;#[a,b,x,y,h1,by omega,h3,h4,h5],h.nd,by have:=h.len;omega]
theorem TJ.add{ns:ae}{k q:Nat}{ts:Xb}(h:TJ ns k q ts)(nd:ns.Nodup){x y:Str}{t:Str × Str}(hx:ns[k]? = some x)(hy:ns[k+1+q]? = some y)(ht:t=(x,y)∨t=(y,x)):TJ ns k (q+1) (ts++[t]):=by
 apply#[λu hu=>?_,?_,by have:=h.len;rw[dW];simp only[yS];omega]
 ·rcases fB.mp hu with hu|hu
  ·exact h.skip.at' u hu
  obtain rfl:u=t:=⇑hu
  exact#[k,k+1+q,x,y,by omega,.inr #[Z,by omega],hx,hy,ht]
 rw[dD];apply UE h.nd λm=>?_;let#[u,hu,e]:=bN.mp m;let#[a,b,c,d,h1,h2,h3,h4,h5]:=h.at' u hu
 have key:(c=x/\d=y)∨(c=y/\d=x):=by
  rcases h5 with rfl|rfl<;>rcases ht with rfl|rfl<;>rcases kM_ e with⟨q1,q2⟩|⟨q1,q2⟩<;>simp_all
 rcases key with⟨rfl,rfl⟩|⟨rfl,rfl⟩
 ·have:=Hy nd h3 hx;have:=Hy nd h4 hy;omega
 have:=Hy nd h3 hy;have:=Hy nd h4 hx;omega
theorem TJ.good{ns:ae}{k j:Nat}{ts:Xb}(h:TJ ns k j ts)(nd:ns.Nodup)(ok:∀n∈ns,hW n=true):∀t∈ts,yA t/\t.1∈ns/\t.2∈ns:=λt ht=>by
 let#[a,b,x,y,h1,h2,h3,h4,h5]:=h.at' t ht;let mx:=dC h3;let my:=dC h4
 have ne:x≠y:=λe=>by
  subst e;have:=Hy nd h3 h4;omega
 rcases h5 with rfl|rfl
 ·exact#[#[ok _ mx,ok _ my,ne],mx,my]
 exact#[#[ok _ my,ok _ mx,ne.symm],my,mx]
def IB(m:Nat)(n:Str):Prop:=n∈qd∨∃k,k<m/\n.cps.toList.getLast? = some (97+k % 26)
section v
theorem wV:bw [eF,"_law_most","_law_names_here","_law_hands","_law_thin","_law_ties","_law_k","_law_one","_law_other","_law_turn"] [eF,"_law_most"] (aY rG):=bD
def qE(K:af):Sp:=λvs H Q _=>∃(l:Addr),vs=[.ref l,.int 4]/\cZ H l/\∀(t lh lt:Addr) (ys zs:ag) (hs:Xa) (ts:Xb) (H':Hp),aN l H H'->cZ H' l->H' t\.tup [.ref lh,.ref lt]->H lh=none->H lt=none->lh≠lt->
 H' lh\.lst ys->bF K H' ys (hs.map kH)->H' lt\.lst zs->bF K H' zs (ts.map kT)->Good hs ts->(∀n∈hs.map (·.1),IB 8 n)->Q (.ref t) H'
theorem k0_{f:Addr}{fd:Ae}(F:bh K "_law_web" "_law_web" rG f fd)(B:Bi mg)(cD:!bg 1 tR uH wQ)(cN:!bg 2 "_law_names" oF OV):!ak a9 3 f fd [eF,"_law_most"] (qE K):=by
 exists F.bG wV;let#[l,rfl,st,k]:=h;let sz:=b_
 refine' #[_,ax (bx 2 wV.nd (aR cN hr %[0,bI g5 au (aR cD hr %[0,1|0])|0]))
  (ax (Hn (i:=3) ["_law_name",eF] 1 [0] wV.nd Z (Or.inl Z) (dO (pv 2)) (λfp s H=>fM (i:=0) (show (["_law_name",eF]:ae).Nodup by decide +kernel) Z (Or.inl Z)) (λfp s H=>jb)
   (λfp s H=>?he))
  (ax (bx 4 wV.nd (bI g5 au (aR cD hr %[0,au|0])))
  (ax (bx 5 wV.nd (bX aK))
  (ax (eR eh Z (T7 (by rfl) B.enum %[2|0]) (o9 Z (dZ (cY 6 wV.nd) (dZ (cY 7 wV.nd) kq)))
   (aF (eR eh Z (dO (wN wR (pv 2) (wK (bI g5 (pv 6) au)) wL)) (cY 8 wV.nd)
    (aF (bL (dm l_ (aR cD hr %[0,4|0]) au)
     (aF (iq (iJ i_ tT tU p0 (pv 5) %[bE fA (bX %[bC %[7,8|0],bC %[8,7|0]|0]) (aR cD hr %[0,au|0])|0])))
     bM)))))
  (ax (bx 9 wV.nd (aR cD hr %[0,cu gZ (by rfl) B.len gz %[3|0]|0]))
  (aF (aZ (bC %[bI pV (wN wR (pv 3) (wK (pv 9)) wL) (wN wR (pv 3) wL (wK (pv 9))),5|0])))))))),?_]
 case he=>exact bC %[0,bI g5 au (aR cD hr %[1,bE (zS (K:=K) vC fA) (bX %[au,au,au|0]) (aR cD hr %[1,au|0])|0])|0]
 apply#[_,Z,_,Z,_,Z,l,4,Z,by decide,by decide,st,λr H1 r0 r8 b1 fJ=>#[_,_,Z,Z,?_]];let#[r,rfl]:=p_ r0;apply#[l,1+r,by show [V.ref l,V.int (1+(r:Int))]=[V.ref l,V.int ((1+r:Nat):Int)];rw[Int.natCast_add];rfl,by omega,fJ,λln ns H2 b2 dB fn yc N=>?_];have n8:ns.length<=8:=by rw[N.len];omega
 have n1:1<=ns.length:=by rw[N.len];omega
 have zQ:ln≠l:=λe=>by
  subst e;let#[xs,e2]:=fJ.some;rw[fn] at e2;cases e2
 apply#[_,Z,ln,Z,#[_,.of yc],λsE o4=>?_]
 have oX:sE≠l:=by
  let#[xs,e]:=dB.some;exact (bu e o4).symm
 apply ku (own:=1) (fv:=[some (.ref l)]) (xs:=ns.map V.str) Z eL (λi out H'=>∃hs:Xa,aN l H2 H'/\cZ H' l/\H' sE\.lst out/\bF K H' out (hs.map kH)/\hs.map (·.1)=ns.take i/\∀h∈hs,1<=h.2/\h.2<=1000) #[[],aN.of (aa.new o4),dB.same (aa.new o4),ao,.nil,Z,by simp] (λi out H' _ ⟨_,b,_⟩=>.of (b _ _ yc zQ)) (λqc H3 ⟨xY,b3,g_,hh3,Bz,en,gh⟩=>?_) (λi x out H' hx ⟨hs,b,stx,hD,tu,en,gh⟩=>?_);rotate_left 1
 ·let#[n,hn,rfl]:=jP hx
  have li:out.length=i:=by
   let h1:=bP tu;rw[ay] at h1;let h2:=eI List.length en;rw[ay,dP] at h2;have:=(cw.mp hn).1;omega
  let hi:=(cw.mp hn).1;apply#[_,Z,Z,λNx hN=>d6 ?_];apply#[_,Z,_,Z,zl,λp hp=>?_];let s4:=aa.new (o:=.lst [.int 3,.int 12,.int 1000]) hp
  have lp:p≠l:=by
   let#[xs,e]:=stx.some;exact (bu e hp).symm
  apply#[_,Z,l,3,Z,by decide,by decide,stx.same s4,λr1 H5 q0 q1 b5 gT=>?_];let#[y,hy,bb,eb,e1,e2]:=FK (p:=λy:V=>∃n:Int,y=.int n/\0<n/\n<=1000) (a:=V.int 3) (b:=.int 12) (c:=.int 1000) q0 q1 #[3,Z,by decide,by decide] #[12,Z,by decide,by decide] #[1000,Z,by decide,by decide];subst eb;apply#[p,_,_,_,Z,Z,.of (b5 _ _ ao lp),hy,l,bb,Z,e1,by omega,gT,λr2 H6 q2 q3 b6 gS=>#[_,_,Z,Z,zl,λt ht=>?_]];have Rm:aN l H' H6:=(aN.of s4).trans (b5.trans b6);let JF:=Rm _ _ hD oX;let s7:=aa.new (o:=.tup [.str n,.int (1+r2)]) ht;let#[RC,yd]:=stx.some;let C3:=jd tu Rm yd;have tt:upd H6 t (.tup [.str n,.int (1+r2)]) t\.tup ((kH (n,1+r2)).map kV):=ao;apply#[out,s7 _ _ JF,by omega,hN _ _ #[hs++[(n,1+r2)],λb' o e ne=>?_,?_,ao,?_,?_,λh hh=>?_]]
  ·rw[az (bu e o4)];exact s7 _ _ (Rm _ _ (b _ _ e ne) ne)
  ·have:=gS.same s7;unfold cZ;rw[az oX.symm];exact this
  ·rw[dD];exact jc (Bj (C3.same s7) tt) (s7 _ _ JF)
  ·rw[dD,en,ig,hn];rfl
  rcases fB.mp hh with hh|hh
  ·exact gh h hh
  obtain rfl:h=(n,1+r2):=⇑hh
  exact#[by show 1<=1+r2;omega,by show 1+r2<=1000;omega]
 rw[ay,eX] at en;let _Q:=b3 _ _ yc zQ;have _W:H2 sE=none:=o4;apply#[_,Z,l,4,Z,by decide,by decide,g_,λr3 H4 q0 q1 b4 fq=>#[_,_,Z,Z,?_]];apply#[zl,λa ha=>?_];let s5:=aa.new (o:=.lst []) ha
 have jD:l≠a:=by
  let#[xs,e]:=fq.some;exact bu e ha
 let MB:=b4 _ _ _Q zQ;let T9:=b4 _ _ hh3 oX;have MA:ln≠a:=bu MB ha;have _U:sE≠a:=bu T9 ha;have B4:aN l H H4:=b1.trans (b2.trans (b3.trans b4));have FY:H a=none:=B4.free fq ha;have TV:H sE=none:=(b1.trans b2).free dB o4;let#[XQ,sT]:=g_.some;let um:=jd Bz b4 sT
 let Iv:Nat->Nat->Hp->Prop:=λkk q H'=>∃zs ts,aN l H H'/\cZ H' l/\H' ln\.lst (ns.map V.str)/\H' sE\.lst qc/\bF K H' qc (xY.map kH)/\H' a\.lst zs/\bF K H' zs (ts.map kT)/\TJ ns kk q ts
 apply#[_,Z,ln,Z,#[_,.of (s5 _ _ MB)],U8 (K:=K) (a:=ln) (xs:=ns.map V.str) (λi σ H'=>∃(v6 v7 v8 v9:aI),σ=[some (.ref l),some (.int 4),some (.ref ln),some (.ref sE),some (.int (1+r3)),some (.ref a),v6,v7,v8,v9]/\Iv i 0 H')
  #[none,none,none,none,Z,[],[],B4.trans (aN.of s5),fq.same s5,s5 _ _ MB,s5 _ _ T9,um.same s5,ao,.nil,#[by simp,.nil,gA _]] (λi σ H' _ ⟨_,_,_,_,_,_,_,_,_,q,_⟩=>.of q) ?_ ?_]
 ·rintro i x σ H6 hx ⟨v6,v7,v8,v9,rfl,La,Lq,b6,gS,M_,Jy,IK,s_,C3,BA⟩ u hu;let#[one,Fi,rfl]:=jP hx;have hi:i<ns.length:=(cw.mp Fi).1;have s7:aa H6 (upd H6 u (.tup [.int i,.str one])):=aa.new hu;have TF:upd H6 u (.tup [.int i,.str one]) u\.tup [.int i,.str one]:=ao;apply#[u,_,Z,.of TF,Z,_,_,Z,_,_,Z,Z,?_];generalize upd H6 u (.tup [.int i,.str one])=H7 at s7 TF ⊢;apply#[_,Z,_,Z,_,_,Z,Z,_,Z,ln,_,Z,.of (s7 _ _ M_),λp hp=>?_];have ec:bZ (ns.map V.str) (some ((i:Int)+1)) none=(ns.drop (i+1)).map V.str:=iR_ ns (i+1) Z1;rw[ec];have s8:aa H7 (upd H7 p (.lst ((ns.drop (i+1)).map V.str))):=aa.new hp
  have lp:l≠p:=by
   let#[xs,e]:=(gS.same s7).some;exact bu e hp
  have pa:p≠a:=(bu (s7 _ _ s_) hp).symm;let rT:=s7.trans s8
  apply#[p,Z,#[_,.of ao],gQ (K:=K) (a:=p) (xs:=(ns.drop (i+1)).map V.str) (λj σ H'=>∃(v8 v9:aI),σ=[some (.ref l),some (.int 4),some (.ref ln),some (.ref sE),some (.int (1+r3)),some (.ref a),some (.int i),some (.str one),v8,v9]/\H' p\.lst ((ns.drop (i+1)).map V.str)/\Iv i j H')
   #[_,_,Z,ao,La,Lq,b6.trans (aN.of rT),gS.same rT,rT _ _ M_,rT _ _ Jy,IK.same rT,rT _ _ s_,C3.same rT,BA] (λj σ H' _ ⟨_,_,_,q,_⟩=>.of q) ?_ ?_]
  ·rintro j y σ H9 hy ⟨v8,v9,rfl,TU,K_,IG,b9,IS,M9,Nv,Lu,NU,IF,C6⟩;let#[o,ho,rfl]:=jP hy;rw[List.getElem?_drop] at ho;apply#[_,Z,_,Z,l,1+r3,Z,by omega,by omega,IS,λr4 CT q2 q3 oq vh=>#[Z,_,Z,?_]];let#[xs9,TY]:=IS.some;let Fp:=oq _ _ M9 zQ;let FM:=oq _ _ Nv oX;let Az:=oq _ _ NU jD.symm;let Fg:=oq _ _ TU lp.symm;let C4:=jd IF oq TY;let C7:=jd Lu oq TY;apply a_ (λc=>?_) (λc=>?_)
   ·apply#[_,Z,.inl #[Z,_,.of Az],_,Z,_,Z,zl,λt1 xX=>?_];let xF:=aa.new (o:=.tup [.str one,.str o]) xX;apply#[_,Z,_,Z,zl,λt2 E_=>?_];let s12:=aa.new (o:=.tup [.str o,.str one]) E_;apply#[zl,λlx yd=>?_];let pF:=aa.new (o:=.lst [.ref t1,.ref t2]) yd;let Sk:=(xF.trans s12).trans pF;let Dr:=vh.same Sk;apply#[_,Z,l,2,Z,by decide,by decide,Dr,λr5 Xu q4 q5 pY LK=>?_]
    have Mz:lx≠l:=by
     let#[xs,e]:=(vh.same (xF.trans s12)).some;exact (bu e yd).symm
    let Fq:=pY _ _ (show upd (upd (upd CT t1 (.tup [.str one,.str o])) t2 (.tup [.str o,.str one])) lx (.lst [.ref t1,.ref t2]) lx=_ from ao) Mz;let#[XT,FC]:=Dr.some;let Fc:=pF _ _ (s12 _ _ (show upd CT t1 (.tup [.str one,.str o]) t1=_ from ao));let E9:=pF _ _ (show upd (upd CT t1 (.tup [.str one,.str o])) t2 (.tup [.str o,.str one]) t2=_ from ao);let Fb:=pY _ _ Fc (cy Fc FC nofun);let E8:=pY _ _ E9 (cy E9 FC nofun)
    have pick:∃(t:Addr) (tt:Str × Str),eO [V.ref t1,V.ref t2] r5\.ref t/\Xu t\.tup ((kT tt).map kV)/\(tt=(one,o)∨tt=(o,one)):=by
     rcases vT (a:=V.ref t1) (b:=V.ref t2) q4 q5 with e|e
     ·exact#[t1,(one,o),e,Fb,.inl Z]
     exact#[t2,(o,one),e,E8,.inr Z]
    let#[t,tt,et,ht,OE]:=pick;have gP:aN l CT Xu:=(aN.of Sk).trans pY;let#[XU,FD]:=vh.some;let Ay:=gP _ _ Az jD.symm;let Na:=gP _ _ Fp zQ;let Nw:=gP _ _ FM oX;let M4:=gP _ _ Fg lp.symm;let Lp:=jd C4 gP FD;let Lv:=jd C7 gP FD;let lz:=bP IF;rw[ay] at lz;let tl:=C6.len
    have hj:j<8:=by
     have:=(cw.mp ho).1;omega
    apply#[lx,_,_,_,Z,Z,.of Fq,et,a,_,_,Z,Z,Ay,by omega,?_];apply#[_,_,Z,by rw[az pa];exact M4,_,IG++[tt],λb o e ne=>?_,?_,by rw[az MA];exact Na,by rw[az _U];exact Nw,jc Lv Ay,ao,?_,C6.add N.nd Fi ho OE]
    ·rw[az (bu e FY)];exact gP _ _ (oq _ _ (b9 _ _ e ne) ne) ne
    ·unfold cZ;rw[az jD];exact LK
    rw[dD];exact jc (Bj Lp ht) Ay
   exact#[_,_,Z,Fg,K_,IG,b9.trans oq,vh,Fp,FM,C7,Az,C4,C6.skip]
  rintro σ H9 ⟨v8,v9,rfl,TU,K_,IG,b9,IS,M9,Nv,Lu,NU,IF,C6⟩;exact#[_,_,_,_,Z,K_,IG,b9,IS,M9,Nv,Lu,NU,IF,C6.next (by rw[ay,wX];omega)]
 rintro σ H6 ⟨v6,v7,v8,v9,rfl,La,Lq,b6,gS,M_,Jy,IK,s_,C3,BA⟩;rw[ay] at BA
 have ly:qc.length=ns.length:=by
  let h1:=bP IK;rw[ay] at h1;let h2:=eI List.length en;rw[ay] at h2;omega
 apply#[_,Z,_,Z,sE,_,Z,.inl (.of Jy),l,_,Z,by show (0:Int)<(qc.length:Int);omega,by show (qc.length:Int)<1073741824;omega,gS,λtn H7 q0 q1 b7 mJ=>?_];let#[tn,rfl]:=p_ q0;let#[RB,FA]:=gS.some;let T8:=b7 _ _ Jy oX;let B2:=b7 _ _ s_ jD.symm;let Lo:=jd C3 b7 FA;let R7:=jd IK b7 FA;apply#[_,Z,_,Z,_,Z,sE,_,Z,.of T8,λp1 x_=>?_];rw[VP];let s8:=aa.new (o:=.lst (qc.drop tn)) x_;apply#[_,Z,_,Z,_,Z,sE,_,Z,.of (s8 _ _ T8),λp2 iZ=>?_];rw[Kz];let s9:=aa.new (o:=.lst (qc.take tn)) iZ;apply#[p1,p2,_,_,Z,Z,s9 _ _ ao,ao,by rw[wX,dP];omega,λp3 Ac=>?_];let DB:=aa.new (o:=.lst (qc.drop tn++qc.take tn)) Ac;let LZ:=s8.trans (s9.trans DB);apply#[_,Z,zl,λt ht=>?_];let xF:=aa.new (o:=.tup [.ref p3,.ref a]) ht;let rV:=LZ.trans xF;let Xh:=b6.trans b7;let perm:=U0 xY tn;let pm:=perm.map (·.1);let gt:=BA.good N.nd N.ok;have mem:∀n,n∈(xY.drop tn++xY.take tn).map (·.1) ↔ n∈ns:=λn=>by rw[pm.mem_iff,en]
 apply k t p3 a _ La (xY.drop tn++xY.take tn) Lq _ (Xh.trans (aN.of rV)) (mJ.same rV) ao ((Xh.trans (aN.of (s8.trans s9))).free (mJ.same (s8.trans s9)) Ac) FY (λe=>?_) (xF _ _ ao) ?_ (rV _ _ B2) (Lo.same rV) #[λh hh=>?_,?_,?_,?_,λt ht=>(gt t ht).1,BA.nd,by have:=BA.len;omega,λt ht=>#[(mem _).mpr (gt t ht).2.1,(mem _).mpr (gt t ht).2.2]] λn hn=>?_
 ·subst e;rw[(s8.trans s9) _ _ B2] at Ac;cases Ac
 ·rw[dD,List.map_drop,List.map_take];have Y0:bF K H7 (qc.drop tn++qc.take tn) ((xY.map kH).drop tn++(xY.map kH).take tn):=kj (Re tn R7) (KS tn R7);exact Y0.same rV
 ·let hm:=perm.mem_iff.mp hh;let#[g1,g2]:=gh h hm;exact#[N.ok _ (by rw[<- en];exact bN.mpr #[h,hm,Z]),g1,g2]
 ·apply pm.nodup_iff.mpr ?_;rw[en];exact N.nd
 ·have:=pm.length_eq;rw[ay,en] at this;omega
 ·have:=pm.length_eq;rw[ay,en] at this;omega
 rcases N.end_ n ((mem n).mp hn) with z|⟨kk,h1,h2⟩
 ·exact .inl z
 exact .inr #[kk,by omega,h2]
end
end Ev
namespace HT
open PySem PySem.Spec PyProof.Rows
section
variable{prog:Ad}{w:Af}{A:Ag}{E:Aa->Ab->Prop}{s:Ab}
theorem iH{t sl:Addr}{a b:Aa}{u:Tok}{Q:Aa->Ab->Prop}(ht:IsTup s.heap t (List.toArray [a,b]))(hs:s.heap.IsSliceOf sl .none .none (.int (-1) u))
  (h:Q (.ref s.heap.objs.size) { s with heap:=s.heap.push { cls:=.type "tuple",data:=.seq (List.toArray [b,a]) } }):wpAny (model prog w) A (getItem (.ref t) (.ref sl)) Q E s:=by
 have nD:sizeOk (.seq (List.toArray [b,a])):=by
  show 2<=sizeLine;decide
 let#[os,Jt,JB,NJ]:=id hs;have NW:s.TypeIs (.ref sl) "slice":=#[os,Jt,JB];unfold getItem
 try with_reducible apply wpAny_holding ?_
 first|refine aC (bA ?_)|skip
 apply aC (wpAny_sequenceKey ht.typeIs (by decide) ?_)
 apply aC (wpAny_callSpecial?_slot (name:=Str.ofString "__getitem__") ht.typeIs PyProof.Rows.slot_tuple_getitem
  (wpAny_call_entry PyProof.Rows.slot_tuple_getitem ht.typeIs entry_tuple_getitem ?_ (args_tuple_getitem _ _)))
 show wpAny _ _ (Builtin.Tuple.tupleItemsOf (.ref t) >>= _) _ _ s;apply aC (tupleItemsOf_ ht ?_);apply aC (wpAny_typeOf NW ?_);rw[aJ (by decide)]
 have ap:∀{A':Ag} {E':Aa->Ab->Prop} {R:Int × Int × Nat->Ab->Prop},R (1,-1,2) s->wpAny (model prog w) A' (Builtin.Slice.sliceApplied (.ref sl) (pure (((List.toArray [a,b]):Array Aa).size:Int))) R E' s:=by
  intro A' E' R hR;unfold Builtin.Slice.sliceApplied Builtin.Slice.sliceFields;apply aC (aC (wpAny_field Jt NJ (x:=.none) Z (aC (wpAny_field Jt NJ (x:=.none) Z (aC (wpAny_field Jt NJ (x:=.int (-1) u) Z (bA ?_)))))));apply aC (slicePart_int ?_);show wpAny _ _ (if ((-1:Int) == 0)=true then _ else _) _ _ s;rw[aE (by decide)];exact aC (slicePart_none (aC (slicePart_none (aC (bA (bA (by with_unfolding_all exact hR)))))))
 apply aC (ap ?_);show wpAny _ _ (if ((1:Int) == 0&&(-1:Int) == 1&&(2:Nat) == 2)=true then _ else _) _ _ s;rw[aE (by decide)];have e:(List.filterMap (λ(k:Nat)=>((List.toArray [a,b]):Array Aa)[((1:Int)+(k:Int) * -1).toNat]?) (List.range 2)).toArray=(List.toArray [b,a]):=by with_unfolding_all rfl
 rw[e]
 first
  |exact aC (m:=Builtin.Tuple.tupleExact _) (uB (bA ⟨_,rfl,bA h⟩) nD)
  |exact aC (m:=Builtin.Tuple.tupleExact _) (uB (aC (bA (bA ⟨_,rfl,bA h⟩))) nD)
  |exact aC (aC (m:=Builtin.Tuple.tupleExact _) (uB (bA (bA ⟨_,rfl,bA h⟩)) nD))
  |exact aC (aC (m:=Builtin.Tuple.tupleExact _) (uB (bA ⟨_,rfl,bA h⟩) nD))
end
end HT
namespace L2
open PySem PySem.Spec PyProof.Rows
section
variable{X:Cx}{e st:Expr}{te ts:TE}{pos p2:Pos}
def xk(K:af)(te ts:TE):TE:=λσ H Q=>te σ H λx H1=>ts σ H1 λy H2=>y=.int (-1)/\∃a u v,x=.ref a/\gB K H2 a [u,v]/\∀p,H2 p=none->Q (.ref p) (upd H2 p (.tup [v,u]))
theorem jz_(he:PE X e te)(hs:PE X st ts):PE X (.Subscript e (.Slice none none (some st) p2) pos) (xk X.K te ts):=by
 intro pins s σ H Q I h;apply Subscript_ (aV (he pins s σ H _ I h) λv s1 ⟨x,H1,I1,r1,q1⟩=>?_);apply wpAny_Slice ?_;rw[evalPart_none];apply bA (bA ?_);rw[evalPart_some];apply aV (hs pins s1 σ H1 _ I1 q1) λvs s3 ⟨y,H3,I3,ry,ey,a,u,v',ex,hx,q⟩=>?_;subst ex ey;let#[t,rfl]:=ry;cases r1;have I4:Inv X pins σ H3 { s3 with heap:=s3.heap.push { cls:=.type "slice",data:=.fields (List.toArray [.none,.none,.int (-1) t]) } }:=I3.kept (t':=s3.toks) λb ob q=>cc _ q;let#[its,r,ht,hz]:=I4.tuple hx;let#[x1,x2,rfl,Zz,Zy]:=Vals.two r;show wpAny (model X.prog X.w) X.A (subscriptTail e (.Slice none none (some st) p2) (.ref a) (.ref s3.heap.objs.size)) (EP X pins σ Q) X.xe { s3 with heap:=s3.heap.push { cls:=.type "slice",data:=.fields (List.toArray [.none,.none,.int (-1) t]) } };apply tail_any (ops:=[.ref a,.ref s3.heap.objs.size]) ht.typeIs PyProof.Rows.slot_tuple_getitem.lookup (HT.iH ht (Heap.IsSliceOf.new ..) ?_) (by with_unfolding_all rfl);apply#[.ref _,upd H3 _ (.tup [v',u]),I4.laid (t':=s3.toks) (λb o e=>cc _ e) (br _) ?_,Z,q _ (I4.aH.fresh (br _))];exact#[zl,[x2,x1],.cons Zy (.cons Zz .nil),#[_,eJ _ Z,Z,_,Z],_,eJ _ Z,Z]
theorem i0_{K:af}(he:PE X e te)(hs:PE X st ts)(hK:X.K=K:=by rfl):PE X (.Subscript e (.Slice none none (some st) p2) pos) (xk K te ts):=by
 subst hK;exact jz_ he hs
end
end L2
namespace Ev
open PySem L2
structure GZ (ts ws:Xb):Prop where
 good:∀w∈ws,yA w
 nd:(ws.map kO).Nodup
 EW:∀w∈ws,kO w∈ts.map kO
 len:ws.length<=ts.length
theorem jZ_{ts us ws:Xb}(good:∀t∈ts,yA t)(nd:(ts.map kO).Nodup)(sub:us.Sublist ts)(p:Paired (λw u=>w=u∨w=(u.2,u.1)) ws us):GZ ts ws:=by
 have e:ws.map kO=us.map kO:=by
  clear sub
  induction p with
  |nil=>rfl
  |cons h _ ih=>
   rw[fi,fi,ih];rcases h with rfl|rfl
   ·rfl
   exact eI (·::_) (jQ_ _ _)
 apply#[λw hw=>?_,?_,λw hw=>?_,?_]
 ·let#[i,hi,ew]:=mm hw;let hl:=bP p;let q:=gY p i hi Z1;rw[ew] at q;let g:=good _ (sub.subset (ml (show i<us.length by omega)));rcases q with q|q
  ·rw[q];exact g
  rw[q];exact#[g.2.1,g.1,g.2.2.symm]
 ·rw[e];exact (sub.map kO).nodup nd
 ·have:kO w∈ws.map kO:=bN.mpr #[w,hw,Z];rw[e] at this;exact (sub.map kO).subset this
 rw[bP p];exact sub.length_le
def cj(K:af)(H:Hp)(v:V):Option (Xb)->Prop
 |none=>v=.non
 |some ws=>∃a ys,v=.ref a/\H a\.lst ys/\bF K H ys (ws.map kT)
theorem cj.same{K:af}{H H':Hp}{v:V}{o:Option (Xb)}(h:cj K H v o)(s:aa H H'):cj K H' v o:=by
 cases o with
 |none=>exact h
 |some ws=>
  let#[a,ys,e,ha,t]:=h;exact#[a,ys,e,s _ _ ha,t.same s]
section v
theorem qL:bw [eF,"_law_ties","_law_some"] [eF,"_law_ties"] (aY rg):=bD
inductive kD (K:af) (vs:ag) (H:Hp) (Q:VK) (E:XK):Prop
 |mk:∀(l lt:Addr) (zs:ag) (ts:Xb),vs=[.ref l,.ref lt]->cZ H l->H lt\.lst zs->bF K H zs (ts.map kT)->lt≠l->ts.length<64->(∀t∈ts,yA t)->(ts.map kO).Nodup->(∀(v:V) (o:Option (Xb)) (H':Hp),aN l H H'->cZ H' l->cj K H' v o->(∀a,v=.ref a->H a=none)->(∀ws,o\ws->GZ ts ws)->Q v H')->kD K vs H Q E
theorem jA_{f:Addr}{fd:Ae}(F:bh K "_law_ways" "_law_ways" rg f fd)(B:Bi mg)(cD:!bg 1 tR uH wQ):!ak a9 2 f fd [eF,"_law_ties"] (kD K):=by
 exists F.bG qL;let#[l,lt,zs,ts,rfl,st,dG,tu,pI,bU,good,nd,k]:=h;let sz:=b_;let lz:=bP tu;rw[ay] at lz
 refine' #[_,ax (bL (dm AK (aR cD hr %[0,au|0]) au) (aF (aZ pU)) bM)
  (ax (Hn (i:=2) oC 1 [0] qL.nd Z (Or.inl Z) (dO (pv 1)) (λfp s H=>fM (i:=0) (show (oC:ae).Nodup by decide +kernel) Z (Or.inl Z))
   (λfp s H=>?ht) (λfp s H=>?he1))
  (aF (aZ (md oC 1 [0] (dO (pv 2)) (λfp s H=>fM (i:=0) (show (oC:ae).Nodup by decide +kernel) Z (Or.inl Z)) (λfp s H=>jb)
   (λfp s H=>?he))))),?_]
 case ht=>exact UK (dm l_ (aR cD hr %[1,au|0]) au)
 case he1=>exact pv 0
 case he=>exact bE (zS (K:=K) vC fA) (bX %[0,i0_ (K:=K) (pv 0) (AX A9 au)|0]) (aR cD hr %[1,au|0])
 apply#[_,Z,l,3,Z,by decide,by decide,st,λr H1 r0 r3 b1 fJ=>#[_,_,Z,Z,_,Z,?_]];apply a_ (λc=>?_) (λc=>?_)
 ·exact k .non none H1 b1 fJ Z (λa z=>by cases z) (λws z=>by cases z)
 let#[xs,hl]:=st.some;let sQ:=b1 _ _ dG pI;let YZ:=jd tu b1 hl;apply#[_,Z,lt,Z,#[_,.of sQ],λD hD=>?_]
 have Dl:D≠l:=by
  let#[xs,e]:=fJ.some;exact (bu e hD).symm
 apply ku (own:=1) (fv:=[some (.ref l)]) (xs:=zs) Z eL (λi out H'=>∃us:Xb,aN l H1 H'/\cZ H' l/\H' D\.lst out/\bF K H' out (us.map kT)/\us.Sublist (ts.take i)) #[[],aN.of (aa.new hD),fJ.same (aa.new hD),ao,.nil,List.nil_sublist _] (λi out H' _ ⟨_,b,_⟩=>.of (b _ _ sQ pI)) (λXD H2 ⟨us,b2,dB,ym,R5,sub⟩=>?_) (λi x out H' hx ⟨us,b,stx,hDx,C0,sub⟩=>?_);rotate_left 1
 ·let#[t,ht,p,rfl,hp]:=ou YZ hx;apply#[_,Z,Z,λNx hN=>?_];apply#[_,Z,l,2,Z,by decide,by decide,stx,λr2 H4 q0 q1 b4 fq=>#[Z,_,Z,?_]];let#[XN,yd]:=stx.some;let um:=jd C0 b4 yd;let pM:=b4 _ _ hDx Dl;apply a_ (λc2=>?_) (λc2=>?_)
  ·let lo:=bP C0;rw[ay] at lo;let ls:=sub.length_le;rw[dP] at ls
   let hp4:=b4 _ _ (b _ _ hp (cy hp (show H1 l\_ from fJ.some.choose_spec) nofun)) (by
    let#[XW,e1]:=fJ.some;exact cy hp e1 nofun)
   apply#[_,Z,out,pM,by omega,hN _ _ #[us++[t],λb' o e ne=>?_,?_,ao,?_,?_]]
   ·rw[az (bu e hD)];exact b4 _ _ (b _ _ e ne) ne
   ·unfold cZ;rw[az Dl.symm];exact fq
   ·rw[dD];exact jc (Bj um hp4) pM
   rw[ig,ht];exact sub.append (List.Sublist.refl _)
  apply hN _ _ #[us,b.trans b4,fq,pM,um,sub.trans ?_];rw[ig];exact List.sublist_append_left _ _
 rw[lz,eX] at sub;let lu:=bP R5;rw[ay] at lu;let ls:=sub.length_le;apply#[_,Z,D,Z,#[_,.of ym],λa ha=>?_]
 have al:a≠l:=by
  let#[xs,e]:=dB.some;exact (bu e ha).symm
 have Da:D≠a:=bu ym ha;apply ku (own:=1) (fv:=[some (.ref l)]) (xs:=XD) Z eL (λi out H'=>∃ws:Xb,aN l H2 H'/\cZ H' l/\H' a\.lst out/\bF K H' out (ws.map kT)/\Paired (λw u=>w=u∨w=(u.2,u.1)) ws (us.take i)) #[[],aN.of (aa.new ha),dB.same (aa.new ha),ao,.nil,.nil] (λi out H' _ ⟨_,b,_⟩=>.of (b _ _ ym Dl)) (λXC H3 ⟨ws,b3,g_,i3,Bz,pw⟩=>?_) (λi x out H' hx ⟨ws,b,stx,hax,C0,pw⟩=>?_)
 ·rw[lu,eX] at pw;let b0:=b1.trans b2;exact k (.ref a) (some ws) H3 (b0.trans b3) g_ #[a,XC,Z,i3,Bz] (λc z=>by cases z;exact b0.free dB ha) (λws' z=>by cases z;exact jZ_ good nd sub pw)
 let#[t,ht,p,rfl,hp]:=ou R5 hx;have hi:i<us.length:=(cw.mp ht).1;let#[XR,j5]:=dB.some;let#[XN,yd]:=stx.some;let TM:=b _ _ hp (cy hp j5 nofun);apply#[_,Z,Z,λNx hN=>d6 ?_];apply#[_,Z,_,Z,_,Z,Z,p,_,_,Z,.of (xZ TM),λq hq=>?_];let s4:=aa.new (o:=.tup [.str t.2,.str t.1]) hq;apply#[zl,λlx Fs=>?_];let s5:=aa.new (o:=.lst [.ref p,.ref q]) Fs;let vA:=s4.trans s5;let gT:=stx.same vA
 have Mz:lx≠l:=by
  let#[xs,e]:=(stx.same s4).some;exact (bu e Fs).symm
 apply#[_,Z,l,2,Z,by decide,by decide,gT,λr2 H6 q0 q1 b6 gS=>?_];let#[xs5,FB]:=gT.some;let BQ:=vA _ _ TM;let TK:=s5 _ _ (show upd H' q (.tup [.str t.2,.str t.1]) q=_ from ao);let hp6:=b6 _ _ BQ (cy BQ FB nofun);let hq6:=b6 _ _ TK (cy TK FB nofun);let Nd:=b6 _ _ (show upd (upd H' q (.tup [.str t.2,.str t.1])) lx (.lst [.ref p,.ref q]) lx=_ from ao) Mz
 have pick:∃(c:Addr) (tt:Str × Str),eO [V.ref p,V.ref q] r2\.ref c/\H6 c\.tup ((kT tt).map kV)/\(tt=t∨tt=(t.2,t.1)):=by
  rcases vT (a:=V.ref p) (b:=V.ref q) q0 q1 with e|e
  ·exact#[p,t,e,hp6,.inl Z]
  exact#[q,(t.2,t.1),e,hq6,.inr Z]
 let#[c,tt,et,hc,OE]:=pick;have yN:aN l H' H6:=(aN.of vA).trans b6;let s_:=yN _ _ hax al;let lo:=bP C0;rw[ay] at lo;let lp:=bP pw;rw[dP] at lp;apply#[lx,_,_,_,Z,Z,.of Nd,et,out,s_,by omega,hN _ _ #[ws++[tt],λb' o e ne=>?_,?_,ao,?_,?_]]
 ·rw[az (bu e ha)];exact yN _ _ (b _ _ e ne) ne
 ·unfold cZ;rw[az al.symm];exact gS
 ·rw[dD];exact jc (Bj (jd C0 yN yd) hc) s_
 rw[ig,ht];exact kj pw (.cons OE .nil)
end
end Ev
namespace Ev
open PySem L2
abbrev Pc:=Str × Int × Option (Xb)
def jW(K:af)(H:Hp)(y:V)(p:Pc):Prop:=∃t v,y=.ref t/\H t\.tup [.str p.1,.int p.2.1,v]/\cj K H v p.2.2
abbrev tL(K:af)(H:Hp)(ys:ag)(ps:List Pc):Prop:=Paired (jW K H) ys ps
structure AY (ts:Xb) (p:Pc):Prop where
 nm:hW p.1=true
 w1:1<=p.2.1
 w2:p.2.1<=1000000000
 ws:∀ws,p.2.2\ws->GZ ts ws
theorem jP_{K:af}{H:Hp}{a l:Addr}{ys:ag}{ks:List aA}(t:bF K H ys ks)(ha:H a\.lst ys)(st:cZ H l):a≠l:=λe=>by
 subst e;rcases st with⟨n,e⟩|⟨n,m,c,e⟩
 all_goals
  rw[ha] at e;have e:ys=_:=HO.lst.inj (d5 e);subst e;cases t with
  |cons h _=>
   let#[b,z,_]:=h;cases z
theorem cj.but{K:af}{H H':Hp}{l:Addr}{v:V}{o:Option (Xb)}(h:cj K H v o)(b:aN l H H')(st:cZ H l):cj K H' v o:=by
 cases o with
 |none=>exact h
 |some ws=>
  let#[a,ys,e,ha,t]:=h;let#[xs,hl]:=st.some;exact#[a,ys,e,b _ _ ha (jP_ t ha st),jd t b hl]
theorem jW.but{K:af}{H H':Hp}{l:Addr}{y:V}{p:Pc}(h:jW K H y p)(b:aN l H H')(st:cZ H l):jW K H' y p:=by
 let#[t,v,e,ht,hv]:=h;let#[xs,hl]:=st.some;exact#[t,v,e,b _ _ ht (cy ht hl nofun),hv.but b st]
theorem jW.same{K:af}{H H':Hp}{y:V}{p:Pc}(h:jW K H y p)(s:aa H H'):jW K H' y p:=by
 let#[t,v,e,ht,hv]:=h;exact#[t,v,e,s _ _ ht,hv.same s]
theorem cj.put{K:af}{H:Hp}{D:Addr}{xs:ag}{v:V}{o:Option (Xb)}{u:HO}(h:cj K H v o)(hD:H D\.lst xs)(ne:v≠.ref D):cj K (upd H D u) v o:=by
 cases o with
 |none=>exact h
 |some ws=>
  let#[a,ys,e,ha,t]:=h;subst e;exact#[a,ys,Z,by rw[az λz=>ne (by rw[z])];exact ha,jc t hD]
section v
theorem Hm:bw [eF,"_law_ties","_law_most","_law_pieces_here","_law_name","_law_weight","_law_turn"] uc (aY OH):=bD
inductive Qa (K:af) (vs:ag) (H:Hp) (Q:VK) (E:XK):Prop
 |mk:∀(l lt:Addr) (m:Nat) (zs:ag) (ts:Xb),vs=[.ref l,.ref lt,.int m]->m<=30->cZ H l->H lt\.lst zs->bF K H zs (ts.map kT)->lt≠l->ts.length<64->(∀t∈ts,yA t)->(ts.map kO).Nodup->(∀(a:Addr) (ys:ag) (ps:List Pc) (H':Hp),aN l H H'->cZ H' l->H a=none->H' a\.lst ys->tL K H' ys ps->(∀p∈ps,AY ts p)->(ps.map (·.1)).Nodup->ps.length<=m->(∀p∈ps,IB m p.1)->Q (.ref a) H')->Qa K vs H Q E
theorem hm_{f:Addr}{fd:Ae}(F:bh K "_law_pieces" "_law_pieces" OH f fd)(B:Bi mg)(cD:!bg 1 tR uH wQ)(cN:!bg 2 "_law_names" oF OV)(cW:!bg 2 "_law_ways" [eF,"_law_ties"] (kD K)) :
  ak P w K mg base a9 3 f fd uc (Qa K):=by
 exists F.bG Hm;let#[l,lt,m,zs,ts,rfl,My,st,dG,tu,pI,bU,good,nd,k]:=h;let sz:=b_
 apply#[_,ax (bx 3 Hm.nd (bX aK))
  (ax (eR eh Z (dO (aR cN hr %[0,aR cD hr %[0,bI g5 (pv 2) au|0]|0])) (cY 4 Hm.nd)
   (ax (bx 5 Hm.nd (bI g5 au (aR cD hr %[0,bE fA (bX %[au,au,bI JV au au|0]) (aR cD hr %[0,au|0])|0])))
   (aF (iq (iJ i_ tT tU p0 (pv 3) %[bC %[4,5,aR cW hr %[0,1|0]|0]|0])))))
  (ax (bx 6 Hm.nd (aR cD hr %[0,bI g5 (cu gZ (by rfl) B.len gz %[3|0]) au|0]))
  (aF (aZ (bI pV (wN wR (pv 3) (wK (pv 6)) wL) (wN wR (pv 3) wL (wK (pv 6)))))))),?_]
 apply#[zl,λa ha=>?_];let s1:=aa.new (o:=.lst []) ha
 have jD:l≠a:=by
  let#[xs,e]:=st.some;exact bu e ha
 have lta:lt≠a:=bu dG ha;apply#[_,Z,_,Z,_,Z,_,_,Z,Z,l,(m:Int)+1,Z,by omega,by omega,st.same s1,λr H2 r0 rm b2 dB=>?_];let#[r,rfl]:=p_ r0;apply#[l,r,Z,by omega,dB,λln ns H3 b3 g_ fn BU N=>?_]
 have zQ:ln≠l:=λe=>by
  subst e;let#[xs,e2]:=dB.some;rw[fn] at e2;cases e2
 let ib:=b2 _ _ (show upd H a (.lst []) a=_ from ao) jD.symm
 have MA:ln≠a:=λe=>by
  subst e;rw[fn] at ib;cases ib
 have B3:aN l H H3:=(aN.of s1).trans (b2.trans b3);let i3:=b3 _ _ ib jD.symm;let Ft:=B3 _ _ dG pI;let#[RC,uw]:=st.some;let Bz:=jd tu B3 uw
 apply#[ln,Z,#[_,.of BU],gQ (K:=K) (a:=ln) (xs:=ns.map V.str) (λi σ H'=>∃(v4 v5 v6:aI) (ys:ag) (ps:List Pc),σ=[some (.ref l),some (.ref lt),some (.int m),some (.ref a),v4,v5,v6]/\aN l H H'/\cZ H' l/\H' ln\.lst (ns.map V.str)/\H' a\.lst ys/\tL K H' ys ps/\(∀y v,y∈ys->∀t n q,y=.ref t->H' t\.tup [n,q,v]->v≠.ref a)/\(∀p∈ps,AY ts p)/\ps.map (·.1)=ns.take i)
  #[none,none,none,[],[],Z,B3,g_,BU,i3,.nil,λy v hy=>(by simp at hy),by simp,Z] (λi σ H' _ ⟨_,_,_,_,_,_,_,_,q,_⟩=>.of q) ?_ ?_]
 ·rintro i x σ H4 hx ⟨v4,v5,v6,ys,ps,rfl,b4,fq,Fo,tj,BC,Oy,gp,en⟩;let#[n,hn,rfl]:=jP hx;have hi:i<ns.length:=(cw.mp hn).1;apply#[_,Z,_,_,Z,Z,#[by decide,by decide,by decide],zl,λp hp=>?_];let s5:=aa.new (o:=.lst [.int 3,.int 100,.int ((10:Int) ^ (9:Int).toNat)]) hp
  have pl:p≠l:=by
   let#[xs,e]:=fq.some;exact (bu e hp).symm
  apply#[_,Z,l,3,Z,by decide,by decide,fq.same s5,λr1 H6 q0 q1 b6 gS=>?_];let#[y,hy,bb,eb,e1,e2]:=FK (p:=λy:V=>∃n:Int,y=.int n/\0<n/\n<=1000000000) (a:=V.int 3) (b:=.int 100) (c:=.int ((10:Int) ^ (9:Int).toNat)) q0 q1 #[3,Z,by decide,by decide] #[100,Z,by decide,by decide] #[_,Z,by decide,by decide];subst eb;apply#[p,_,_,_,Z,Z,.of (b6 _ _ ao pl),hy,l,bb,Z,e1,by omega,gS,λr2 H7 q2 q3 b7 mJ=>#[_,_,Z,Z,?_]];have K2:aN l H4 H7:=(aN.of s5).trans (b6.trans b7);let B2:=K2 _ _ tj jD.symm;let Nf:=(b4.trans K2) _ _ dG pI;let Lo:=jd tu (b4.trans K2) uw;apply#[_,Z,.inl #[Z,_,.of B2],_,Z,_,Z,_,Z,_,Z,l,lt,zs,ts,Z,mJ,Nf,Lo,pI,bU,good,nd,λv o H8 b8 Y8 wy fresh gw=>?_];let Io:=K2.trans b8;let B1:=b8 _ _ B2 jD.symm;let hn8:=Io _ _ Fo zQ;apply#[zl,λt ht=>?_];let s9:=aa.new (o:=.tup [.str n,.int (1+r2),v]) ht
  have va:v≠.ref a:=λz=>by
   have:=fresh a z;rw[B2] at this;cases this
  let ly:=bP BC;let lp:=eI List.length en;rw[ay,dP] at lp;let hlen:=N.len;have ta:t≠a:=(bu B1 ht).symm;apply#[a,_,_,Z,Z,s9 _ _ B1,by omega,?_];apply#[_,_,_,_,ps++[(n,1+r2,o)],Z,λb' o' e ne=>?_,?_,?_,ao,?_,?_,?_,?_]
  ·rw[az (bu e ha)];exact s9 _ _ ((b4.trans Io) _ _ e ne)
  ·unfold cZ;rw[az jD];exact Y8.same s9
  ·rw[az MA];exact s9 _ _ hn8
  ·have old:tL K (upd (upd H8 t (.tup [.str n,.int (1+r2),v])) a (.lst (ys++[.ref t]))) ys ps:=by
    have gen:∀(yW:ag) (Ma:List Pc),(∀y∈yW,y∈ys)->tL K H4 yW Ma->tL K (upd (upd H8 t (.tup [.str n,.int (1+r2),v])) a (.lst (ys++[.ref t]))) yW Ma:=λyW Ma sub h=>by
     induction h with
     |nil=>exact .nil
     |@cons y q ys1 ps1 h _ ih=>
      apply .cons ?_ (ih λz hz=>sub z (eA _ hz));let#[t',v',e,nE,MW]:=h;let nv:=Oy y v' (sub y eP) t' _ _ e nE;let#[XO,BW]:=fq.some;let E6:=s9 _ _ (Io _ _ nE (cy nE BW nofun));exact#[t',v',e,by rw[az (cy E6 (s9 _ _ B1) nofun)];exact E6,((MW.but Io fq).same s9).put (s9 _ _ B1) nv]
    exact gen ys ps (λ_ h=>h) BC
   exact kj old (.cons #[t,v,Z,by rw[az ta];exact ao,(wy.same s9).put (s9 _ _ B1) va] .nil)
  ·intro y v' hy' t' n' q' e nE;rcases fB.mp hy' with hy'|hy'
   ·let#[j,hj,ej]:=mm hy';let#[t2,v2,J4,E_,_]:=gY BC j hj Z1;rw[ej] at J4;subst J4;cases e;let#[XO,BW]:=fq.some;let E6:=s9 _ _ (Io _ _ E_ (cy E_ BW nofun));rw[az (cy E6 (s9 _ _ B1) nofun),E6] at nE;let z:=HO.tup.inj (d5 nE);have:v2=v':=(List.cons.inj (List.cons.inj (List.cons.inj z).2).2).1;subst this;exact Oy _ v2 hy' _ _ _ Z E_
   obtain rfl:y=.ref t:=⇑hy'
   cases e;rw[az ta,ao] at nE;let z:=HO.tup.inj (d5 nE);have:v=v':=(List.cons.inj (List.cons.inj (List.cons.inj z).2).2).1;subst this;exact va
  ·intro q hq;rcases fB.mp hq with hq|hq
   ·exact gp q hq
   obtain rfl:q=(n,1+r2,o):=⇑hq
   exact#[N.ok n (dC hn),by show 1<=1+r2;omega,by show 1+r2<=1000000000;omega,gw]
  rw[dD,en,ig,hn];rfl
 rintro σ H4 ⟨v4,v5,v6,ys,ps,rfl,b4,fq,Fo,tj,BC,Oy,gp,en⟩;rw[ay,eX] at en;let ly:=bP BC;let lp:=eI List.length en;rw[ay] at lp;let hlen:=N.len;apply#[_,Z,_,Z,a,_,Z,.inl (.of tj),_,_,Z,Z,l,_,Z,by show (0:Int)<(ys.length:Int)+1;omega,by show (ys.length:Int)+1<1073741824;omega,fq,λtn H5 q0 q1 b5 gT=>?_];let#[tn,rfl]:=p_ q0;let JD:=b5 _ _ tj jD.symm;apply#[_,Z,_,Z,_,Z,a,_,Z,.of JD,λp1 x_=>?_];rw[VP];let s6:=aa.new (o:=.lst (ys.drop tn)) x_;apply#[_,Z,_,Z,_,Z,a,_,Z,.of (s6 _ _ JD),λp2 iZ=>?_];rw[Kz];let s7:=aa.new (o:=.lst (ys.take tn)) iZ;apply#[p1,p2,_,_,Z,Z,s7 _ _ ao,ao,by rw[wX,dP];omega,λp3 Ac=>?_];let xE:=s6.trans s7;let s8:=aa.new (o:=.lst (ys.drop tn++ys.take tn)) Ac;let Xj:=b4.trans b5;let perm:=U0 ps tn;let pm:=perm.map (·.1);let all:=xE.trans s8;apply k p3 _ (ps.drop tn++ps.take tn) _ (Xj.trans (aN.of all)) (gT.same all) ((Xj.trans (aN.of xE)).free (gT.same xE) Ac) ao ?_ (λq hq=>gp q (perm.mem_iff.mp hq)) ?_ ?_ λq hq=>?_
 ·have h5:tL K _ ys ps:=Paired.bQ BC λy q h=>(h.but b5 fq).same all;exact kj (Re tn h5) (KS tn h5)
 ·apply pm.nodup_iff.mpr ?_;rw[en];exact N.nd
 ·rw[perm.length_eq];omega
 let hm:=perm.mem_iff.mp hq
 have:q.1∈ns:=by
  rw[<- en];exact bN.mpr #[q,hm,Z]
 rcases N.end_ _ this with z|⟨kk,h1,h2⟩
 ·exact .inl z
 exact .inr #[kk,by omega,h2]
end
end Ev
abbrev aL:=List Ev.Pc
namespace L2
open PySem PySem.Spec PyProof.Rows PySem.W
section
variable{X:Cx}
end
end L2
namespace Ev
open PySem L2
theorem FJ{α:Type}{p:α->Prop}{xs:List α}{r:Int}{n:Nat}(hn:xs.length=n)(h0:0<=r)(h1:r<(n:Int))(h:∀v∈xs,p v):∃v,eO xs r\v/\p v:=by
 have hl:r.toNat<xs.length:=by omega
 apply#[xs[r.toNat],?_,h _ (ml hl)];rw[gc h0 Z1,cg hl]
theorem kP{t u:TS}{D:Ends}{σ:St}{H:Hp}(R:jX)(later:∀σ H,R σ H->u D σ H)(now:∀N:St->Hp->Prop,(∀σ H,R σ H->N σ H)->t { D with nx:=N } σ H):iy t u D σ H:=now (u D) later
theorem setG{i:Nat}{v:V}{σ:St}{H:Hp}{N:jX}(h:N (σ.set i (some v)) H):gN i v σ H N:=h
theorem cZ.ne{H:Hp}{l a:Addr}(h:cZ H l)(e:H a=none):a≠l:=by
 rintro rfl;let#[xs,h]:=h.some;rw[e] at h;cases h
end Ev
local macro_rules|`(tactic|lk)=>`(tactic|(refine Ev.setG ?_;dsimp only))
namespace Ev
open PySem L2
theorem VW{α:Type}{ps:List (Str × α)}(nd:(ps.map (·.1)).Nodup){a b:Str × α}(ha:a∈ps)(hb:b∈ps)(e:a.1=b.1):a=b:=by
 induction ps with
 |nil=>cases ha
 |cons p ps ih=>
  rw[fi,p7] at nd;rcases cq.mp ha with za|ha
  ·rcases cq.mp hb with zb|hb
   ·rw[za,zb]
   rw[za] at e;exact absurd (show p.1∈ps.map (·.1) from bN.mpr #[b,hb,e.symm]) nd.1
  rcases cq.mp hb with zb|hb
  ·rw[zb] at e;exact absurd (show p.1∈ps.map (·.1) from bN.mpr #[a,ha,e]) nd.1
  exact ih nd.2 ha hb
def strOf(hs:Xa)(n:Str):Int:=((hs.find? λh=>decide (h.1=n)).map (·.2)).getD 0
theorem yI{hs:Xa}{n:Str}(h:n∈hs.map (·.1)):(n,strOf hs n)∈hs:=by
 unfold strOf;let#[x,hx,e]:=bN.mp h;cases q:hs.find? λh=>decide (h.1=n) with
 |none=>
  have:=List.find?_eq_none.mp q x hx;simp[e] at this
 |some y=>
  let m:=List.mem_of_find?_eq_some q;have:=List.find?_some q;have e2:y.1=n:=⇑this
  show (n,y.2)∈hs;rw[<- e2];exact m
theorem j1_{hs:Xa}(nd:(hs.map (·.1)).Nodup){n:Str}{s:Int}(h:(n,s)∈hs):strOf hs n=s:=by
 let m:=yI (bN.mpr #[_,h,Z]:n∈hs.map (·.1));exact eI Prod.snd (VW nd m h Z)
theorem iP_{a b:Int}(ha:0<=a)(h:0<b):Int.gcd b (a % b)=Int.gcd a b:=by
 let#[m,rfl]:=p_ ha;let#[n,rfl]:=p_ (Int.le_of_lt h);rw[<- Int.natCast_emod];show Nat.gcd n (m % n)=Nat.gcd m n;rw[Nat.gcd_comm n,<- Nat.gcd_rec,Nat.gcd_comm]
theorem _Z{a b:Int}(hb:0<b)(nM:b<=2000000):0<(Int.gcd a b:Int)/\(Int.gcd a b:Int)<1073741824:=by
 have h1:0<Int.gcd a b:=Int.gcd_pos_of_ne_zero_right a Z1;have h2:(Int.gcd a b:Int) ∣ b:=Int.gcd_dvd_right a b;let h3:=Int.le_of_dvd hb h2;omega
section v
theorem oO:bw ["one","other","rest","divisor","left"] pS (aY LX):=bD
def Dt:Sp:=λvs H Q _=>∃a b:Int,vs=[.int a,.int b]/\0<=a/\0<b/\Q (.int (Int.gcd a b)) H
theorem ld_{f:Addr}{fd:Ae}(F:bh K "greatest_divisor" "greatest_divisor" LX f fd):!ak a9 1 f fd pS Dt:=by
 exists F.bG oO;let#[a,b,rfl,ha,hb,k]:=h;refine' #[_,ax ?s1 (ax ?s2 (ax ?s3 ?s4)),?kk]
 case s1=>exact bx 2 oO.nd (pv 0)
 case s2=>exact bx 3 oO.nd (pv 1)
 case s3=>exact Vg eh (dm tJ (pv 2) au) (ax (bx 4 oO.nd (bI uM (pv 3) (pv 2))) (ax (bx 3 oO.nd (pv 2)) (aF (bx 2 oO.nd (pv 4)))))
 case s4=>exact aF (aZ (pv 3))
 apply#[_,Z,_,Z,?_];apply iS_ (λσ H'=>H'=H/\∃(r d:Int) (v4:aI),σ=[some (.int a),some (.int b),some (.int r),some (.int d),v4]/\0<=r/\0<d/\Int.gcd r d=Int.gcd a b) (λσ _=>match σ with | [_,_,some (.int r),_,_]=>r.toNat|_=>0) #[Z,a,b,none,Z,ha,hb,Z] ?_ ?_
 ·rintro σ H' ⟨rfl,r,d,v4,rfl,hr0,hd,e⟩;apply#[_,Z,Z,_,Z,?_];apply a_ (λc=>?_) (λc=>?_)
  ·have iG:0<r:=by
    have:r≠0:=by
     intro z;subst z;simp at c
    omega
   apply#[_,Z,_,Z,_,_,Z,Z,iG,_,Z,_,Z,?_];let h1:=Int.emod_nonneg d (Int.ne_of_gt iG);let h2:=Int.emod_lt_of_pos d iG;apply#[#[Z,_,_,_,Z,h1,iG,?_],?_]
   ·rw[<- e,Int.gcd_comm (d % r) r,iP_ (Int.le_of_lt hd) iG,Int.gcd_comm]
   show (d % r).toNat<r.toNat;omega
  have iG:r=0:=⇑c
  subst iG;apply#[_,Z,?_]
  have e2:(Int.gcd a b:Int)=d:=by
   rw[<- e,Int.gcd_zero_left];omega
  rw[<- e2];exact k
 intro σ H' Q1 Q2 hq h;let#[x,e,h1,c,h2,h3]:=h;exact#[x,e,h1,c,h2,hq _ _ h3]
end
end Ev
namespace L2
open PySem PySem.Spec PyProof.Rows
def J1(w:Af)(l:List (Str × Tok × Aa)):List DictEntry:=l.map λx=>#[hashStr w x.1,.str x.1 x.2.1,x.2.2]
def jY(K:af)(w:Af)(d:Addr)(kvs:List (Str × V)):Prop:=
 (d == sysModules)=false/\(kvs.map (·.1)).Nodup/\∃(l:List (Str × Tok × Aa)) (o:Obj) (es:Array DictEntry) (ep:Nat),K.lookup d\o/\o.ExactDict/\o.data=.dict es ep/\es.toList=J1 w l/\Paired (λ(p:Str × V) (x:Str × Tok × Aa)=>p.1=x.1/\RelV p.2 x.2.2) kvs l
theorem VS{P:Ad}{w:Af}:∀{l:List (Str × Tok × Aa)},Pairs (eZ P w) (J1 w l) (l.map λx=>((Sum.inr x.1:Key),x.2.2))
 |[]=>.nil
 |x::l=>.cons (Rc P w x.1 x.2.1) Z (VS (l:=l))
theorem Vo{kvs:List (Str × V)}{l:List (Str × Tok × Aa)}(h:Paired (λ(p:Str × V) (x:Str × Tok × Aa)=>p.1=x.1/\RelV p.2 x.2.2) kvs l):kvs.map (·.1)=l.map (·.1):=by
 induction h with
 |nil=>rfl
 |cons a _ ih=>rw[fi,fi,ih,a.1]
theorem jY.of{P:Ad}{K:af}{w:Af}{d:Addr}{kvs:List (Str × V)}{h:Heap}(k:jY K w d kvs)(X:K.In h):∃l:List (Str × Tok × Aa),Paired (λ(p:Str × V) (x:Str × Tok × Aa)=>p.1=x.1/\RelV p.2 x.2.2) kvs l/\h.DictOf (eZ P w) d (l.map λx=>((Sum.inr x.1:Key),x.2.2)):=by
 let#[_,nd,l,o,es,ep,ho,hx,hd,he,hp]:=k;apply#[l,hp,o,es,ep,X _ _ ho,hx,hd,λe m=>?_,?_,?_]
 ·have m:e∈J1 w l:=by
   rw[<- he];simpa using m
  let#[x,_,rfl]:=bN.mp m;exact#[Sum.inr x.1,Rc P w x.1 x.2.1,Z]
 ·rw[he];exact VS
 rw[Vo hp] at nd;rw[ck,w_,tX];rw[w_,tX] at nd;exact nd.imp λn e=>n (gO e)
theorem k7_{kvs:List (Str × V)}{l:List (Str × Tok × Aa)}(h:Paired (λ(p:Str × V) (x:Str × Tok × Aa)=>p.1=x.1/\RelV p.2 x.2.2) kvs l)(nd:(kvs.map (·.1)).Nodup){z:Str}{v:V}(m:(z,v)∈kvs):∃u,valueAt (l.map λx=>((Sum.inr x.1:Key),x.2.2)) (Sum.inr z)\u/\RelV v u:=by
 unfold valueAt
 induction h with
 |nil=>cases m
 |@cons p x kvs l a _ ih=>
  rw[fi] at nd ⊢;rw[List.find?_cons];let#[n1,n2]:=p7.mp nd;by_cases e:x.1=z
  ·rcases cq.mp m with m|m
   ·subst m;apply#[x.2.2,?_,a.2];simp[e]
   exact absurd (by rw[a.1,e];exact bN.mpr #[_,m,Z]) n1
  rcases cq.mp m with m|m
  ·subst m;exact absurd a.1.symm e
  have:=ih n2 m;simp[e];simpa using this
theorem hY_{kvs:List (Str × V)}{l:List (Str × Tok × Aa)}(h:Paired (λ(p:Str × V) (x:Str × Tok × Aa)=>p.1=x.1/\RelV p.2 x.2.2) kvs l)(z:Str):(valueAt (l.map λx=>((Sum.inr x.1:Key),x.2.2)) (Sum.inr z)).isSome=decide (z∈kvs.map (·.1)):=by
 rw[Vo h];unfold valueAt;rw[Option.isSome_map,List.isSome_find?];rw[Bool.eq_iff_iff,List.any_eq_true,decide_eq_true_iff];constructor
 ·rintro⟨kv,hm,e⟩;let#[x,hx,rfl]:=bN.mp hm;have e:(Sum.inr x.1:Key)=Sum.inr z:=⇑e
  exact bN.mpr #[x,hx,gO e]
 intro m;let#[x,hx,e]:=bN.mp m;exact#[_,bN.mpr #[x,hx,Z],by simp[e]]
section
variable{X:Cx}{o i:Expr}{pos:Pos}{td ty:TE}
inductive xp (K:af) (w:Af) (Q:VK) (y:V) (x:V) (H2:Hp):Prop
 |mk:∀d kvs z,x=.ref d->jY K w d kvs->y=.str z->Q (.bl (decide (z∈kvs.map (·.1)))) H2->xp K w Q y x H2
def LA(K:af)(w:Af)(ty td:TE):TE:=λσ H Q=>ty σ H λy H1=>td σ H1 λx H2=>xp K w Q y x H2
theorem kS_(hi:PE X i ty)(ho:PE X o td):PC X .In i o (LA X.K X.w ty td):=by
 intro pins s σ H Q I h;apply aV (hi pins s σ H _ I h) λiv s1 ⟨y,H1,I1,ry,q1⟩=>aV (ho pins s1 σ H1 _ I1 q1) λu s2 ⟨x,H2,I2,rx,d,kvs,z,ex,kd,ey,q2⟩=>?_;subst ex;subst ey;obtain rfl:u=Value.ref d:=rx;let#[l,hp,dd]:=kd.of (P:=X.prog) I2.fR;apply wpAny_in_of (wo (k:=Sum.inr z) ry) kd.1 dd.mapOf ?_;rw[hY_ hp];exact#[.bl _,H2,I2.tok _,Z,q2]
inductive qt (K:af) (w:Af) (Q:VK) (x:V) (y:V) (H2:Hp):Prop
 |mk:∀d kvs z v,x=.ref d->jY K w d kvs->y=.str z->(z,v)∈kvs->Q v H2->qt K w Q x y H2
def Dj(K:af)(w:Af)(td ty:TE):TE:=λσ H Q=>td σ H λx H1=>ty σ H1 λy H2=>qt K w Q x y H2
theorem jR_(ho:PE X o td)(hi:PE X i ty)(hs:Bu i):PE X (.Subscript o i pos) (Dj X.K X.w td ty):=by
 intro pins s σ H Q I h;apply Uv PySem.F.slot_dict_getitem.lookup hs (aV (ho pins s σ H _ I h) λu s1 ⟨x,H1,I1,rx,q1⟩=>aV (hi pins s1 σ H1 _ I1 q1) λiv s2 ⟨y,H2,I2,ry,d,kvs,z,v,ex,kd,ey,hm,q2⟩=>?_);subst ex;subst ey;obtain rfl:u=Value.ref d:=rx;let#[l,hp,dd]:=kd.of (P:=X.prog) I2.fR;let#[w',hw,jq]:=k7_ hp kd.2.1 hm;exact#[dd.mapOf.typeIs,wpAny_getItem_of (wo (k:=Sum.inr z) ry) dd.mapOf hw #[v,H2,I2.tok _,jq,q2]]
end
end L2
namespace Ev
open PySem L2
abbrev Rl:=Str × Str × Str × Option Str
def rl:List Rl:=[("least one high","least","one",some "high"),("least one fall","least","one",some "fall"),("least one calm","least","one",some "calm"),("least all high","least","all",some "high"),("least all fall","least","all",some "fall"),("least all calm","least","all",some "calm"),("below one high","below","one",some "high"),("below one fall","below","one",some "fall"),("below one calm","below","one",some "calm"),("below all high","below","all",some "high"),("below all fall","below","all",some "fall"),("below all calm","below","all",some "calm"),("shares one","shares","one",none),("shares all","shares","all",none),("turns high","turns","all",some "high"),("turns fall","turns","all",some "fall"),("turns calm","turns","all",some "calm")]
def se:Option Str->V
 |some x=>.str x
 |none=>.non
def lL:ae:=rl.map (·.1)
theorem hz_:lL.Nodup:=by decide +kernel
def Sn(as:ai):List (Str × V):=List.zipWith (λ(r:Rl) a=>(r.1,V.ref a)) rl as
structure Ka (K:af) (w:Af) (mg:Str->Option Aa) (d:Addr) (as:ai):Prop where
 mg:mg "RULES"\.ref d
 len:as.length=17
 kd:jY K w d (Sn as)
 tup:Paired (λa (r:Rl)=>∀H,gB K H a [.str r.2.1,.str r.2.2.1,se r.2.2.2]) as rl
theorem WH{as:ai}(h:as.length=17):(Sn as).map (·.1)=lL:=by
 have:∀(rs:List Rl) (as:ai),as.length=rs.length->(List.zipWith (λ(r:Rl) a=>(r.1,V.ref a)) rs as).map (·.1)=rs.map (·.1):=by
  intro rs
  induction rs with
  |nil=>intro as _;rfl
  |cons r rs ih=>
   intro as e;cases as with
   |nil=>cases e
   |cons a as=>
    rw[List.zipWith_cons_cons,fi,fi,ih as ⇑e]
 exact this rl as h
theorem Te{K:af}:∀{rs:List Rl} {as:ai},Paired (λa (r:Rl)=>∀H,gB K H a [.str r.2.1,.str r.2.2.1,se r.2.2.2]) as rs->∀r∈rs,∃a,(r.1,V.ref a)∈List.zipWith (λ(r:Rl) a=>(r.1,V.ref a)) rs as/\∀H,gB K H a [.str r.2.1,.str r.2.2.1,se r.2.2.2]
 |_,_,.nil,r,h=>by cases h
 |r0::rs,a::as,.cons h t,r,m=>by
  rw[List.zipWith_cons_cons];rcases cq.mp m with rfl|m
  ·exact#[a,eP,h]
  let#[b,hb,hs]:=Te t r m;exact#[b,eA _ hb,hs]
def EY(ns:ae):Option Str->Bool
 |some x=>decide (x∈ns)
 |none=>false
section v
theorem qT:bw fu fu (aY Qd):=bD
def V7:Sp:=λvs H Q _=>∃r∈rl,vs=[.str r.1]/\Q (.bl true) H
theorem ha_{f d:Addr}{as:ai}{fd:Ae}(F:bh K "is_rule" "is_rule" Qd f fd)(B:Bi mg)(R:Ka K w mg d as):!ak a9 1 f fd fu V7:=by
 exists F.bG qT;let#[r,dg,rfl,k]:=h;apply#[_,aF (aZ (j_ (cu iS (by rfl) B.ia ik %[0,iR (v:=.ty "str") (by rfl) B.str Cj Z|0]) (j9 (GT (kS_ (pv 0) (wJ (v:=.ref d) (by rfl) R.mg Z)))))),?_];apply#[_,Z,_,_,_,_,Z,.str r.1,Z,_,Z,bO #[_,Z,d,_,r.1,Z,R.kd,Z,?_]];rw[WH R.len,show decide (r.1∈lL)=true from cb (bN.mpr #[r,dg,Z])];exact k
theorem vj:bw ["rule"] ["rule"] (aY kX):=bD
def Hq(K:af):Sp:=λvs H Q _=>∃r∈rl,vs=[.str r.1]/\∀a,(∀H',gB K H' a [.str r.2.1,.str r.2.2.1,se r.2.2.2])->Q (.ref a) H
theorem ix_{f d:Addr}{as:ai}{fd:Ae}(F:bh K A3 A3 kX f fd)(R:Ka K w mg d as)(cI:!bg 1 "is_rule" fu V7):!ak a9 2 f fd ["rule"] (Hq K):=by
 exists F.bG vj;let#[r,dg,rfl,k]:=h;apply#[_,ax (bL (eQ (dR (aR cI hr %[0|0]))) (aF ir_) bM) (aF (aZ (jR_ (wJ (v:=.ref d) (by rfl) R.mg Z) (pv 0) (λ_ _=>rfl)))),?_];let#[a,ha,hs]:=Te R.tup r dg;exact#[_,Z,r,dg,Z,_,Z,aO #[_,Z,d,_,r.1,.ref a,Z,R.kd,Z,ha,k a hs]]
end
end Ev
namespace Ev
open PySem L2
def jV(K:af)(H:Hp)(v:V):Option Str->Prop
 |some x=>v=.str x
 |none=>∃t,dE K H v t/\PySem.W.kitOne K t (.type "str")\false
def jf(hs:Xa)(ts:Xb):Option Str->Option Str->Bool
 |some x,some y=>decide (x∈hs.map (·.1))&&(decide (y∈hs.map (·.1))&&decide (y∈near (aD hs) (aP ts) x))
 |_,_=>false
theorem Qi(hs:Xa)(ts:Xb)(x y:Str):jf hs ts (some x) (some y)=(decide (x∈hs.map (·.1))&&(decide (y∈hs.map (·.1))&&decide (y∈near (aD hs) (aP ts) x))):=rfl
section v
inductive kL (K:af) (C:Addr) (vs:ag) (H:Hp) (Q:VK) (E:XK):Prop
 |mk:∀(p:Addr) (v:V) (x:Option Str) (hs:Xa) (ts:Xb) (fp:ai),vs=[.ref p,v]->eV K C H p hs ts fp->jV K H v x->Q (.bl (EY (hs.map (·.1)) x)) H->kL K C vs H Q E
theorem kc_{f C:Addr}{fd:Ae}(F:bh K "has_hand" "Web.has_hand" vy f fd)(T:Txt K mg C)(B:Bi mg):!ak a9 1 f fd nX (kL K C):=by
 exists F.bG xC;let#[p,v,x,hs,ts,fp,rfl,W,sv,k]:=h;let hu:=fZ hr;let#[dx,d1,l2,d3,zs,as,rfl,h1,h2,h3,h4,h5,h6,h7]:=W.ex;apply#[_,aF (aZ (j_ (cu iS (by rfl) B.ia ik %[1,iR (v:=.ty "str") (by rfl) B.str Cj Z|0]) (j9 (GT (Ck hu (pv 1) (dA (pv 0) Z)))))),?_];cases x with
 |some x=>
  cases (show v=.str x from sv);apply#[_,Z,_,_,_,_,Z,.str x,Z,_,Z,bO ?_];apply#[_,Z,_,Z,p,C,dx,_,_,Z,h1,T.cl,T.nS,JM _ _ _,d1,_,Z,.k (k:=Sum.inr x) h2,?_];rw[Ko];exact k
 |none=>
  let#[t,ty,e]:=sv;exact#[_,Z,_,_,_,_,Z,ty,e,_,Z,aO k]
inductive Ki (K:af) (C:Addr) (vs:ag) (H:Hp) (Q:VK) (E:XK):Prop
 |mk:∀(p:Addr) (v u:V) (x y:Option Str) (hs:Xa) (ts:Xb) (fp:ai),vs=[.ref p,v,u]->eV K C H p hs ts fp->(aD hs).Nodup->jV K H v x->jV K H u y->Q (.bl (jf hs ts x y)) H->Ki K C vs H Q E
theorem iV_{f C:Addr}{fd:Ae}(F:bh K "are_tied" "Web.are_tied" rj f fd)(T:Txt K mg C)(cH:!bo C 1 "has_hand" nX (kL K C)):!ak a9 2 f fd kb (Ki K C):=by
 exists F.bG zh;let#[p,v,u,x,y,hs,ts,fp,rfl,W,nd,sv,su,k]:=h;let hu:=fZ hr;let#[dx,d1,l2,d3,zs,as,rfl,h1,h2,h3,h4,h5,h6,h7]:=id W.ex;have nI:(cQ d1 l2 d3).lookup ("has_hand":Str)=none:=ip _ _ _ Z0 Z0 Z0;apply#[_,aF (aZ (j_ (eW cH T.cl hr (pv 0) %[1|0]) (j_ (eW cH T.cl hr (pv 0) %[2|0]) (j9 (oi (NM hV (oo hr 0)) (pv 2) (ko hu (dA (pv 0) Z) (pv 1)) (by with_unfolding_all rfl)))))),?_];apply#[_,Z,p,dx,_,Z,h1,nI,_,Z,p,v,x,hs,ts,_,Z,W,sv,_,Z,?_];cases x with
 |none=>exact aO k
 |some x=>
  cases (show v=.str x from sv);apply a_ (λc=>?_) (λc=>?_)
  ·have hx:x∈hs.map (·.1):=wF c;let#[a,e1,ha]:=SZ nd hx h6 h7;apply#[_,Z,p,dx,_,Z,h1,nI,_,Z,p,u,y,hs,ts,_,Z,W,su,_,Z,?_];cases y with
   |none=>exact aO k
   |some y=>
    cases (show u=.str y from su);rw[Qi,cb hx,Bool.true_and] at k;apply a_ (λc2=>?_) (λc2=>?_)
    ·have hy:y∈hs.map (·.1):=wF c2;rw[cb hy,Bool.true_and] at k;apply#[_,Z,_,Z,p,C,dx,_,_,Z,h1,T.cl,T.nN,N6 _ _ _,_,Z,d3,.ref a,Z,?_,y,_,Z,#[a,_,Z,.of ha,Hl _],k];rw[<- e1];exact .k (k:=Sum.inr x) h5
    have hy:¬y∈hs.map (·.1):=λz=>c2 (cb z);rw[dM hy,Bool.false_and] at k;exact k
  have hx:¬x∈hs.map (·.1):=λz=>c (cb z);cases y with
  |none=>exact k
  |some y=>
   rw[Qi,dM hx,Bool.false_and] at k;exact k
theorem i5_{hs:Xa}{ts ws:Xb}(G:Good hs ts)(W:GZ ts ws){t:Str × Str}(ht:t∈aP ws):jf hs ts (some t.1) (some t.2)=true:=by
 let#[x,hx,ex]:=PB.mp ht;let#[u,hu,eu]:=bN.mp (W.EW x hx);have eo:aQ u.1 u.2=t:=(GU eu).trans ex
 have both:t.1∈hs.map (·.1)/\t.2∈hs.map (·.1)/\aQ t.1 t.2=t:=by
  let#[g1,g2]:=G.IJ u hu;rcases J5 u.1 u.2 with e|e
  ·rw[<- eo,e];exact#[g1,g2,e]
  rw[<- eo,e];exact#[g2,g1,(WB _ _).trans e]
 let#[m1,m2,m3]:=both;have m4:t.2∈near (aD hs) (aP ts) t.1:=List.mem_filter.mpr #[(hX hs).mem_iff.mpr m2,cb (by rw[m3];exact PB.mpr #[u,hu,eo])];rw[Qi,cb m1,cb m2,cb m4];rfl
theorem J8:bw ["web","ways","found","one","other"] ["web","ways"] (aY lK):=bD
inductive OQ (K:af) (C:Addr) (vs:ag) (H:Hp) (Q:VK) (E:XK):Prop
 |mk:∀(p:Addr) (v:V) (o:Option (Xb)) (hs:Xa) (ts:Xb) (fp:ai),vs=[.ref p,v]->eV K C H p hs ts fp->Good hs ts->cj K H v o->(∀ws,o\ws->GZ ts ws)->(∀v' H',aa H H'->cj K H' v' (o.map aP)->(∀a,v'=.ref a->H a=none)->Q v' H')->OQ K C vs H Q E
theorem iZ_{f C:Addr}{fd:Ae}(F:bh K "checked_ways" "checked_ways" lK f fd)(T:Txt K mg C)(cS:!bg 3 "sorted_ties" ["ties"] (P1 K))(cT:!bo C 2 "are_tied" kb (Ki K C)):!ak a9 4 f fd ["web","ways"] (OQ K C):=by
 exists F.bG J8;let#[p,v,o,hs,ts,fp,rfl,W,G,wy,gw,k]:=h;let hu:=fZ hr;have sO:ba 2 _:=hr.mono (by decide)
 apply#[_,ax (bL (yB (JJ (pv 1))) (aF (aZ pU)) bM)
  (ax (bx 2 J8.nd (aR cS hr %[1|0]))
  (ax (bL (yB (JJ (pv 2))) eB bM)
  (ax (eR eh Z (dO (pv 2)) (o9 Z (dZ (cY 3 J8.nd) (dZ (cY 4 J8.nd) kq)))
   (aF (bL (eQ (dR (eW cT T.cl sO (pv 0) %[3,4|0]))) eB bM)))
  (aF (aZ (pv 2)))))),?_]
 cases o with
 |none=>
  cases (show v=.non from wy);exact#[_,Z,_,Z,bO (k .non H (aa.refl H) Z (λa z=>by cases z))]
 |some ws=>
  let#[a,ys,rfl,ha,tu]:=wy;let Wo:=gw ws Z;apply#[_,Z,_,Z,aO ?_];apply#[_,Z,a,ys,ws,Z,ha,tu,Wo.good,Wo.nd,by have:=Wo.len;have:=G.vg;omega,λl' zs H1 s1 hf fY tz=>?_];apply#[_,Z,_,Z,aO ?_];let W1:=W.same s1;let#[dx,d1,l2,d3,je,as,rfl,h1,h2,h3,h4,h5,h6,h7]:=id W1.ex;have nI:(cQ d1 l2 d3).lookup ("are_tied":Str)=none:=ip _ _ _ Z0 Z0 Z0;rw[<- KC] at tz;apply#[_,Z,l',Z,#[_,.of fY],gQ (K:=K) (a:=l') (xs:=zs) (λi σ H2=>∃(v3 v4:aI),σ=[some (.ref p),some (.ref a),some (.ref l'),v3,v4]/\H2=H1) #[none,none,Z,Z] (λi σ H2 _ ⟨_,_,_,e⟩=>by subst e;exact .of fY) ?_ ?_]
  ·rintro i y σ H2 hy ⟨v3,v4,rfl,rfl⟩;let#[t,ht,q,rfl,hq]:=ou tz hy;apply#[q,_,Z,.of (xZ hq),Z,_,_,Z,_,_,Z,Z,?_];apply#[_,Z,p,dx,_,Z,h1,nI,_,Z,_,Z,p,_,_,some t.1,some t.2,hs,ts,_,Z,W1,G.sy,Z,Z,_,Z,?_];rw[i5_ G Wo (dC ht)];apply aO ?_;exact#[_,_,Z,Z]
  rintro σ H2 ⟨v3,v4,rfl,rfl⟩;exact#[_,Z,k (.ref l') _ s1 #[l',zs,Z,fY,tz] (λc z=>by cases z;exact hf)]
def BE(p:Pc):Pc:=(p.1,p.2.1,p.2.2.map aP)
def pQ(K:af)(H0 H:Hp)(y:V)(p:Pc):Prop:=∃t v,y=.ref t/\H t\.tup [.str p.1,.int p.2.1,v]/\cj K H v p.2.2/\∀a,v=.ref a->H0 a=none
theorem pQ.same{K:af}{H0 H H':Hp}{y:V}{p:Pc}(h:pQ K H0 H y p)(s:aa H H'):pQ K H0 H' y p:=by
 let#[t,v,e,ht,hv,hn]:=h;exact#[t,v,e,s _ _ ht,hv.same s,hn]
theorem cj.up{K:af}{H:Hp}{D:Addr}{u:HO}{v:V}{o:Option (Xb)}(h:cj K H v o)(n1:∀xs,H D≠some (.lst xs))(n2:∀xs,H D≠some (.tup xs)):cj K (upd H D u) v o:=by
 cases o with
 |none=>exact h
 |some ws=>
  let#[a,ys,e,ha,t]:=h;exact#[a,ys,e,by rw[az (λz:a=D=>n1 ys (z▸ha))];exact ha,Paired.bQ t λy k ⟨b,z,q⟩=>#[b,z,by rw[az (λz:b=D=>n2 _ (z▸q))];exact q]]
theorem pQ.up{K:af}{H0 H:Hp}{D:Addr}{u:HO}{y:V}{p:Pc}(h:pQ K H0 H y p)(n1:∀xs,H D≠some (.lst xs))(n2:∀xs,H D≠some (.tup xs)):pQ K H0 (upd H D u) y p:=by
 let#[t,v,e,ht,hv,hn]:=h;exact#[t,v,e,by rw[az (λz:t=D=>n2 _ (z▸ht))];exact ht,hv.up n1 n2,hn]
theorem Pn{ps:aL}{cs:ag}(nd:(ps.map (·.1)).Nodup)(hl:cs.length=ps.length):∀{j:Nat} {q:Pc} {c:V},ps[j]? = some q->cs[j]? = some c->bH ((ps.zip cs).map λq=>((Sum.inr q.1.1:Key),q.2)) (Sum.inr q.1)\c:=by
 induction ps generalizing cs with
 |nil=>
  intro j q c h;simp at h
 |cons p ps ih=>
  intro j q c h1 h2;cases cs with
  |nil=>cases hl
  |cons b cs=>
   rw[fi] at nd;let#[n1,n2]:=p7.mp nd;cases j with
   |zero=>
    have e1:p=q:=⇑h1
    have e2:b=c:=⇑h2
    subst e1 e2;exact Be Z
   |succ j=>
    have h1:ps[j]? = some q:=⇑h1
    have h2:cs[j]? = some c:=⇑h2
    show bH ((Sum.inr p.1,b)::((ps.zip cs).map λq=>((Sum.inr q.1.1:Key),q.2))) (Sum.inr q.1)=_;rw[Bg λe=>n1 (by rw[show p.1=q.1 from gO e];exact bN.mpr #[q,dC h1,Z])];exact ih n2 ⇑hl h1 h2
theorem qY:bw ["web","piece"] ["web","piece"] (aY OM):=bD
inductive Pj (K:af) (C:Addr) (vs:ag) (H:Hp) (Q:VK) (E:XK):Prop
 |mk:∀(p:Addr) (y:V) (q:Pc) (hs:Xa) (ts:Xb) (fp:ai),vs=[.ref p,y]->eV K C H p hs ts fp->Good hs ts->jW K H y q->AY ts q->(∀y' H',aa H H'->pQ K H H' y' (BE q)->Q y' H')->Pj K C vs H Q E
theorem hV_{f C:Addr}{fd:Ae}(F:bh K "checked_piece" "checked_piece" OM f fd)(B:Bi mg)(cN:!bg 1 "is_name" fu J3)(cW:!bg 2 "is_whole_within" jR OA)(cC:!bg 4 "checked_ways" ["web","ways"] (OQ K C)){tk:Tok}(mW:mg "MOST_WEIGHT"\.int 1000000000 tk) :
  ak P w K mg base a9 5 f fd ["web","piece"] (Pj K C):=by
 exists F.bG qY;let#[p,y,q,hs,ts,fp,rfl,W,G,#[t,v,rfl,ht,wy],gp,k]:=h
 apply#[_,ax (bL (uz (eQ (dR (cu iS (by rfl) B.ia ik %[1,iR (v:=.ty "tuple") (by rfl) B.tuple Bm Z|0])))
   (uN (dm tJ (cu gZ (by rfl) B.len gz %[1|0]) au))).pt eB bM)
  (ax (bL (eQ (dR (aR cN hr %[bE dh (pv 1) au|0]))) eB bM)
  (ax (bL (eQ (dR (aR cW hr %[bE dh (pv 1) au,au,wJ (v:=.int 1000000000) (by rfl) mW #[tk,Z]|0]))) eB bM)
  (aF (aZ (bC %[bE dh (pv 1) au,bE dh (pv 1) au,aR cC hr %[0,bE dh (pv 1) au|0]|0]))))),?_]
 apply#[_,Z,_,_,_,_,Z,.tup ht,Z,_,Z,aO ?_];apply#[_,Z,t,_,Z,.inr (.of ht),Z,_,Z,?_];apply sI (show V.int ((3:Nat):Int)=V.int 3 from Z) ?_;apply#[_,Z,t,_,_,_,Z,Z,.of ht,Z,q.1,Z,by have:=Ky gp.nm;omega,λH1 s1=>#[_,Z,?_]];rw[gp.nm];apply aO ?_;let xX:=s1 _ _ ht;apply#[_,Z,t,_,_,_,Z,Z,.of xX,Z,q.2.1,1,1000000000,Z,_,Z,?_];rw[cb gp.w1,cb gp.w2];apply aO ?_;apply#[_,Z,t,_,_,_,Z,Z,.of xX,Z,_,Z,t,_,_,_,Z,Z,.of xX,Z,_,Z,_,Z,t,_,_,_,Z,Z,.of xX,Z,p,v,q.2.2,hs,ts,fp,Z,W.same s1,G,wy.same s1,gp.ws,λv' H2 s2 X5 hf=>?_];apply#[zl,λt' nE=>?_];exact k (.ref t') _ (s1.trans (s2.trans (aa.new nE))) #[t',v',Z,ao,X5.same (aa.new nE),λa z=>s1.free (hf a z)]
theorem Kw:bw ["web","pieces","found","piece","checked"] ["web","pieces"] (aY PP):=bD
structure Qs (ps qs:aL):Prop where
 EC:qs.map (·.1)=ma (ps.map (·.1))
 mem:∀q∈qs,∃p∈ps,q=BE p
inductive QF (K:af) (C:Addr) (vs:ag) (H:Hp) (Q:VK) (E:XK):Prop
 |mk:∀(p l:Addr) (ys:ag) (ps:aL) (hs:Xa) (ts:Xb) (fp:ai),vs=[.ref p,.ref l]->eV K C H p hs ts fp->Good hs ts->H l\.lst ys->tL K H ys ps->(∀q∈ps,AY ts q)->(ps.map (·.1)).Nodup->ps.length<64->(∀l' zs qs H',aa H H'->H' l'\.lst zs->Paired (pQ K H H') zs qs->Qs ps qs->Q (.ref l') H')->QF K C vs H Q E
theorem bj{H:Hp}{a:Addr}{o:HO}(n:H a=none):aa H (upd H a o)/\upd H a o a\o:=⟨aa.new n,ao⟩
theorem fY_{f C:Addr}{fd:Ae}(F:bh K "checked_pieces" "checked_pieces" PP f fd)(B:Bi mg)(cP:!bg 5 "checked_piece" ["web","piece"] (Pj K C)):!ak a9 6 f fd ["web","pieces"] (QF K C):=by
 exists F.bG Kw;let#[p,l,ys,ps,hs,ts,fp,rfl,W,G,hl,pc,gp,nd,bU,k]:=h;let hu:=fZ hr;let sz:=b_;let le:=bP pc
 apply#[_,ax (bL (eQ (dR (cu iS (by rfl) B.ia ik %[1,iR (v:=.ty "list") (by rfl) B.list uK Z|0]))) eB bM)
  (ax (bx 2 Kw.nd Bf)
  (ax (eR eh Z (dO (pv 1)) (cY 3 Kw.nd)
   (ax (bx 4 Kw.nd (aR cP hr %[0,3|0]))
   (ax (bL (yB (Ck hu (bE dh (pv 4) au) (pv 2))) eB bM)
   (aF (wM hu (pv 2) (bE dh (pv 4) au) (pv 4) Z)))))
  (aF (aZ (md ["name","found"] 1 [2] (dO (cu (ew_ Z) (by rfl) B.sorted Kv %[2|0])) (λfp s H=>fM (i:=0) (show (["name","found"]:ae).Nodup by decide +kernel) Z (Or.inl Z)) (λfp s H=>jb)
   (λfp s H=>ko hu (pv 1) (pv 0))))))),?_]
 apply#[_,Z,_,_,_,_,Z,.lst hl,Z,_,Z,aO ?_];intro d hd;have s0:aa H (upd H d (.dK [])):=aa.new hd;apply#[_,Z,l,Z,#[_,.of (s0 _ _ hl)],gQ (K:=K) (a:=l) (xs:=ys) (λi σ H2=>∃(v3 v4:aI) (cs:ag),σ=[some (.ref p),some (.ref l),some (.ref d),v3,v4]/\aa H H2/\Paired (pQ K H H2) cs ((ps.take i).map BE)/\H2 d\.dK (((ps.take i).zip cs).map λq=>(Sum.inr q.1.1,q.2))) #[none,none,[],Z,s0,.nil,ao] (λi σ H2 _ ⟨_,_,_,_,s2,_⟩=>.of (s2 _ _ hl)) ?_ ?_]
 ·rintro i y σ H2 hy ⟨v3,v4,cs,rfl,s2,pn,hd2⟩;have hi:i<ys.length:=(cw.mp hy).1;have hq:ps[i]? = some (ps[i]' Z1):=cg Z1;let py:=gY pc i hi Z1;rw[(cw.mp hy).2] at py;generalize ps[i]' Z1=q at hq py;apply#[_,Z,_,Z,p,y,q,hs,ts,fp,Z,W.same s2,G,py.same s2,gp q (dC hq),λy' H3 s3 pw=>?_];let#[t,v,rfl,ht,wy,hf]:=pw;let lV:=s3 _ _ hd2;let lc:=bP pn;rw[ay,dP] at lc
  have keys:((((ps.take i).zip cs).map λq=>((Sum.inr q.1.1:Key),q.2)).map (·.1))=((ps.take i).map (·.1)).map Sum.inr:=by
   rw[ck];have:((λx:Key × V=>x.1) ∘ λq:Pc × V=>((Sum.inr q.1.1:Key),q.2))=(λp:Pc=>(Sum.inr p.1:Key)) ∘ Prod.fst:=rfl;rw[this,<- ck,List.map_fst_zip (by rw[dP];omega),ck];rfl
  have ur:bH (((ps.take i).zip cs).map λq=>((Sum.inr q.1.1:Key),q.2)) (Sum.inr q.1)=none:=yR (by
   rw[keys];intro m;let#[x,hx,e]:=bN.mp m;cases e;exact Ia (g:=λp:Pc=>p.1) nd hq hx)
  apply#[_,Z,t,_,_,_,Z,Z,.of ht,Z,_,Z,d,_,Z,.k (k:=Sum.inr q.1) lV,_,Z,?_];rw[ur];apply aO ?_;apply#[_,Z,_,Z,_,Z,t,_,_,_,Z,Z,.of ht,Z,d,_,Z,.k (k:=Sum.inr q.1) lV (by rw[ay,List.length_zip,dP];omega),?_];let zD:=s2.trans s3;have n1:∀xs,H3 d≠some (.lst xs):=λxs z=>by rw[lV] at z;cases z
  have n2:∀xs,H3 d≠some (.tup xs):=λxs z=>by rw[lV] at z;cases z
  apply#[_,_,cs++[.ref t],Z,λc o e=>?_,?_,?_]
  ·rw[az (bu e hd)];exact zD _ _ e
  ·rw[ig,hq,dD];exact kj (Paired.bQ pn λy q h=>(h.same s3).up n1 n2) (.cons (pQ.up #[t,v,Z,ht,wy,λa z=>s2.free (hf a z)] n1 n2) .nil)
  rw[ao,CJ _ ur,ig,hq,List.zip_append (by rw[dP];omega),dD];rfl
 rintro σ H2 ⟨v3,v4,cs,rfl,s2,pn,hd2⟩;rw[le,eX] at pn hd2;let lc:=bP pn;rw[ay] at lc
 have keys:(((ps.zip cs).map λq=>((Sum.inr q.1.1:Key),q.2)).map (·.1))=(ps.map (·.1)).map Sum.inr:=by
  rw[ck];have:((λx:Key × V=>x.1) ∘ λq:Pc × V=>((Sum.inr q.1.1:Key),q.2))=(λp:Pc=>(Sum.inr p.1:Key)) ∘ Prod.fst:=rfl;rw[this,<- ck,List.map_fst_zip Z1,ck];rfl
 apply#[_,Z,d,_,ps.map (·.1),Z,hd2,keys,by rw[ay];exact bU,λls Jv=>?_];let#[s3,sT]:=bj (o:=.lst ((ma (ps.map (·.1))).map V.str)) Jv;apply#[ls,Z,#[_,.of sT],λD hD=>?_];generalize upd H2 ls (.lst ((ma (ps.map (·.1))).map V.str))=H3 at s3 sT hD ⊢;have lss:(ma (ps.map (·.1))).length=ps.length:=by rw[(yM _).length_eq,ay]
 apply ku (own:=1) (fv:=[some (.ref d)]) (xs:=(ma (ps.map (·.1))).map V.str) Z eL (λi out H'=>∃qs:aL,aa H3 H'/\H' D\.lst out/\Paired (pQ K H H2) out qs/\qs.map (·.1)=(ma (ps.map (·.1))).take i/\∀q∈qs,∃p∈ps,q=BE p) #[[],aa.new hD,ao,.nil,Z,by simp] (λi out H' _ ⟨_,sm,_⟩=>.of (sm _ _ sT)) (λzs H4 ⟨qs,s4,pM,pq,en,mem⟩=>?_) (λi x out H' hx ⟨qs,sm,ee,pq,en,mem⟩=>?_)
 ·rw[ay,eX] at en;exact k D zs qs H4 (s2.trans (s3.trans s4)) pM (Paired.bQ pq λy q h=>h.same (s3.trans s4)) #[en,mem]
 let#[n,hn,rfl]:=jP hx;have hm:n∈ps.map (·.1):=(yM _).mem_iff.mp (dC hn);let#[q,hq,eq]:=bN.mp hm;let#[j,hj,ej]:=mm hq;have hqj:ps[j]? = some q:=by rw[cg hj,ej]
 have Uj:cs[j]? = some (cs[j]' Z1):=cg Z1;let hv:=Pn nd lc hqj Uj;let pj:=gY pn j Z1 (by rw[ay];omega);rw[List.getElem_map,ej] at pj;generalize cs[j]' Z1=c at Uj hv pj;rw[eq] at hv;let lo:=bP pq;let lq:=eI List.length en;rw[ay,dP] at lq;have hi:i<(ma (ps.map (·.1))).length:=(cw.mp hn).1;apply#[_,Z,Z,λNx hN=>d6 ?_];apply#[_,Z,_,Z,d,c,Z,?_,out,ee,by omega,hN _ _ #[qs++[BE q],g6 sm hD,ao,?_,?_,?_]]
 ·rw[<- hv];exact .k (k:=Sum.inr n) (sm _ _ (s3 _ _ hd2))
 ·exact kj pq (.cons pj .nil)
 ·rw[dD,en,ig,hn,<- eq];rfl
 intro q' hq';rcases fB.mp hq' with hq'|hq'
 ·exact mem q' hq'
 obtain rfl:q'=BE q:=⇑hq'
 exact#[q,hq,Z]
end
end Ev
namespace Ev
open PySem L2
abbrev lG:Stmt:=i9 G_ 0
abbrev rN:Stmt:=i9 G_ 1
abbrev OB:Stmt:=i9 G_ 2
abbrev PV:Stmt:=i9 G_ 3
abbrev rM:Stmt:=i9 G_ 5
def bV(p dw dy:Addr):List (Str × V):=aB A2 (.ref dy) (aB pO (.ref dw) (aB "web" (.ref p) []))
theorem g12:¬(("web":Str)=pO):=by decide +kernel
theorem g13:¬(("web":Str)=A2):=by decide +kernel
theorem g23:¬((pO:Str)=A2):=by decide +kernel
theorem ki(p dw dy:Addr):(bV p dw dy).lookup ("web":Str)\.ref p:=by
 unfold bV;rw[eK,aE g13,eK,aE g12,eK,aJ Z]
theorem O4(p dw dy:Addr):(bV p dw dy).lookup (pO:Str)\.ref dw:=by
 unfold bV;rw[eK,aE g23,eK,aJ Z]
theorem kt_(p dw dy:Addr):(bV p dw dy).lookup (A2:Str)\.ref dy:=by
 unfold bV;rw[eK,aJ Z]
theorem uQ(p dw dy:Addr){m:Str}(h1:¬m="web")(h2:¬m=pO)(h3:¬m=A2):(bV p dw dy).lookup m=none:=by
 unfold bV;rw[eK,aE h3,eK,aE h2,eK,aE h1]
 all_goals rfl
def kA(qs:aL):List (Key × V):=qs.map λq=>(Sum.inr q.1,V.int q.2.1)
def uW(qs:aL)(vs:ag):List (Key × V):=(qs.zip vs).map λx=>(Sum.inr x.1.1,x.2)
theorem V0(qs:aL):(kA qs).map (·.1)=(qs.map (·.1)).map Sum.inr:=by
 unfold kA;rw[ck,ck];rfl
theorem iD_{qs:aL}{vs:ag}(h:vs.length=qs.length):(uW qs vs).map (·.1)=(qs.map (·.1)).map Sum.inr:=by
 unfold uW;rw[ck];have:((λx:Key × V=>x.1) ∘ λq:Pc × V=>((Sum.inr q.1.1:Key),q.2))=(λp:Pc=>(Sum.inr p.1:Key)) ∘ Prod.fst:=rfl;rw[this,<- ck,List.map_fst_zip Z1,ck];rfl
structure gf (K:af) (CG CW:Addr) (H:Hp) (g p:Addr) (hs:Xa) (ts:Xb) (qs:aL) (fp:ai):Prop where
 ex:∃(dx dw dy:Addr) (vs:ag) (bS:ai),H g\.ins CG dx (bV p dw dy)/\eV K CW H p hs ts bS/\H dw\.dK (kA qs)/\H dy\.dK (uW qs vs)/\Paired (λv (q:Pc)=>cj K H v q.2.2) vs qs /\
  g∈fp/\dw∈fp/\dy∈fp/\(∀b∈bS,b∈fp)/\∀v∈vs,∀a,v=.ref a->a∈fp
theorem Rb{α β:Type}{F G:α->β->Prop}:∀{l:List α} {m:List β},Paired F l m->(∀a∈l,∀b,F a b->G a b)->Paired G l m
 |_,_,.nil,_=>.nil
 |_,_,.cons h t,f=>.cons (f _ eP _ h) (Rb t λa ha=>f a (eA _ ha))
theorem cj.keep{K:af}{H H':Hp}{v:V}{o:Option (Xb)}(h:cj K H v o)(k:∀a,v=.ref a->∀u,H a\u->H' a\u)(kt:∀b xs,H b\.tup xs->H' b\.tup xs):cj K H' v o:=by
 cases o with
 |none=>exact h
 |some ws=>
  let#[a,ys,e,ha,t]:=h;exact#[a,ys,e,k a e _ ha,Paired.bQ t λy q ⟨b,z,hb⟩=>#[b,z,kt _ _ hb]]
theorem gf.keep{K:af}{CG CW:Addr}{H H':Hp}{g p:Addr}{hs:Xa}{ts:Xb}{qs:aL}{fp:ai}(G:gf K CG CW H g p hs ts qs fp)(k:∀b∈fp,∀o,H b\o->H' b\o)(kt:∀b xs,H b\.tup xs->H' b\.tup xs):gf K CG CW H' g p hs ts qs fp:=by
 let#[dx,dw,dy,vs,bS,h1,h2,h3,h4,h5,m1,m2,m3,m4,m5]:=G.ex;exact#[dx,dw,dy,vs,bS,k _ m1 _ h1,h2.keep (λb hb o e=>k b (m4 b hb) o e) kt,k _ m2 _ h3,k _ m3 _ h4,Rb h5 λv hv q h=>h.keep (λa z u e=>k a (m5 v hv a z) u e) kt,m1,m2,m3,m4,m5]
theorem gf.same{K:af}{CG CW:Addr}{H H':Hp}{g p:Addr}{hs:Xa}{ts:Xb}{qs:aL}{fp:ai}(G:gf K CG CW H g p hs ts qs fp)(s:aa H H'):gf K CG CW H' g p hs ts qs fp:=G.keep (λb _ o e=>s b o e) λb xs e=>s b _ e
structure dF (K:af) (CG:Addr):Prop where
 cl:mB K CG
 nW:j7 K CG "web"
 nG:j7 K CG pO
 nY:j7 K CG A2
structure IA (K:af) (C:Addr):Prop where
 ha:PySem.W.findIn K (.ref C) "__class__"\some (.builtin "object.__class__")
 hn:PySem.W.specialIn K (.builtin "object.__class__") "__get__"\some (.builtin "getset_descriptor.__get__")
 tk:PySem.W.takesIn K (.builtin "object.__class__")\true
 mo:PySem.W.mroIn K C (.type "object")\true
theorem i1_(K:af)(c:Aa):PySem.W.kitOne K c c\true:=by
 unfold PySem.W.kitOne;rw[aJ (beq_self_eq_true c)]
theorem Vw{K:af}{H0 H:Hp}:∀{zs:ag} {qs:aL},Paired (pQ K H0 H) zs qs->∃vs:ag,vs.length=qs.length/\Paired (λz (x:Pc × V)=>∃t,z=.ref t/\H t\.tup [.str x.1.1,.int x.1.2.1,x.2]) zs (qs.zip vs)/\Paired (λv (q:Pc)=>cj K H v q.2.2) vs qs/\∀v∈vs,∀a,v=.ref a->H0 a=none
 |_,_,.nil=>#[[],Z,.nil,.nil,by simp]
 |_,_,.cons ⟨t,v,e,ht,wy,hn⟩ r=>by
  let#[vs,h1,h2,h3,h4]:=Vw r;apply#[v::vs,by simp[h1],.cons #[t,e,ht] h2,.cons wy h3,λu hu=>?_];rcases cq.mp hu with rfl|hu
  ·exact hn
  exact h4 u hu
theorem Vt{K:af}{l D:Addr}{zs:ag}{xs:List (Pc × V)}{H:Hp}{Q:VK}{oK:St}{j:Nat}(sel:Pc × V->V)(hj:∀x:Pc × V,[some (V.str x.1.1),some (V.int x.1.2.1),some x.2][j]? = some (some (sel x)))(vN:oK=[none,none,none])(hl:H l\.lst zs)
  (pz:Paired (λz (x:Pc × V)=>∃t,z=.ref t/\H t\.tup [.str x.1.1,.int x.1.2.1,x.2]) zs xs) (yn:xs.length<=1000) (hD:H D=none)
  (q:∀H' out,aa H H'->H' D\.lst out->og K H' out (xs.map λx=>(Sum.inr x.1.1,sel x))->Q (.ref D) H') :
  Cg (Bw K l) (iI K 3 (uF (gN 0) (uF (gN 1) (uF (gN 2) wa)))) vd (oN (pN (g8 0) (pN (g8 j) gi))) oK D H Q:=by
 let sz:=b_;let le:=bP pz;apply ku (own:=3) (fv:=[]) (xs:=zs) vN N7 (λi out H'=>aa H H'/\H' D\.lst out/\og K H' out ((xs.take i).map λx=>(Sum.inr x.1.1,sel x))) #[aa.new hD,ao,.nil] (λi out H' _ ⟨sm,_,_⟩=>.of (sm _ _ hl)) (λout H4 ⟨sm,pM,eo⟩=>?_) (λi y out H' hy ⟨sm,ee,eo⟩=>?_)
 ·rw[le,eX] at eo;exact q _ _ sm pM eo
 have hi:i<zs.length:=(cw.mp hy).1;have hx:xs[i]? = some (xs[i]' Z1):=cg Z1;let#[t,et,ht]:=gY pz i hi Z1;rw[(cw.mp hy).2] at et;subst et;generalize xs[i]' Z1=x at hx ht;let lo:=bP eo;rw[ay,dP] at lo;apply#[_,#[t,_,_,_,Z,.of (sm _ _ ht),Z],Z,λNx hN=>d6 ?_];apply#[_,Z,_,hj x,zl,λp hp=>?_];let s2:=aa.new (o:=.tup [.str x.1.1,sel x]) hp;apply#[out,s2 _ _ ee,by omega,hN _ _ #[g6 (sm.trans s2) hD,ao,?_]];rw[CM _ hx];have pD:∀{b:Addr} {ys:ag},upd H' p (.tup [.str x.1.1,sel x]) b\.tup ys->b≠D:=λhb=>cy hb (s2 _ _ ee) nofun;apply kj (Paired.bQ eo λy kv ⟨b,z,hb⟩=>#[b,z,by rw[az (pD (s2 _ _ hb))];exact s2 _ _ hb]) (.cons #[p,Z,?_] .nil);have iZ:upd H' p (.tup [.str x.1.1,sel x]) p\.tup [.str x.1.1,sel x]:=ao;rw[az (pD iZ)];exact iZ
section v
theorem mV:bw ["self","web","pieces","checked"] oz (aY lG):=bD
inductive HS (K:af) (CG CW:Addr) (vs:ag) (H:Hp) (Q:VK) (E:XK):Prop
 |mk:∀(g dx p l:Addr) (ys:ag) (ps:aL) (hs:Xa) (ts:Xb) (bS:ai),vs=[.ref g,.ref p,.ref l]->H g\.ins CG dx []->eV K CW H p hs ts bS->g∉bS->Good hs ts->H l\.lst ys->tL K H ys ps->(∀q∈ps,AY ts q)->(ps.map (·.1)).Nodup->ps.length<64->(∀qs fp H',(∀b o,H b\o->b≠g->H' b\o)->gf K CG CW H' g p hs ts qs fp->Qs ps qs->(∀b∈fp,b=g∨b∈bS∨H b=none)->Q .non H')->HS K CG CW vs H Q E
theorem ie_{f CG CW:Addr}{fd:Ae}(F:bh K "__init__" "Goods.__init__" lG f fd)(T:dF K CG)(TW:Txt K mg CW)(IW:IA K CW)(B:Bi mg)(Mw:mg "Web"\.ref CW)(cP:!bg 6 "checked_pieces" ["web","pieces"] (QF K CW)):!ak a9 7 f fd oz (HS K CG CW):=by
 exists F.bG mV;let#[g,dx,p,l,ys,ps,hs,ts,bS,rfl,hg,W,gw,G,hl,pc,gp,nd,bU,k]:=h
 apply#[_,ax (bL (eQ (dR (cu h7_ (by rfl) B.ia ik %[1,wJ (v:=.ref CW) (by rfl) Mw Z|0]))) eB bM)
  (ax (bx 3 mV.nd (aR cP hr %[1,2|0]))
  (ax (uO (pv 0) (pv 1) Z)
  (ax (uO (pv 0) (iP (CK Z) (by rfl) B.dict uJ %[md yw 3 [] (dO (pv 3)) (λfp s H=>Kh (n:=3) (dZ (fM (i:=0) (show (yw:ae).Nodup by decide +kernel) Z (Or.inl Z)) (dZ (fM (i:=1) (show (yw:ae).Nodup by decide +kernel) Z (Or.inl Z)) (dZ (fM (i:=2) (show (yw:ae).Nodup by decide +kernel) Z (Or.inl Z)) kq)))) (λfp s H=>jb) (λfp s H=>bC %[0,1|0])|0]) Z)
  (aF (uO (pv 0) (iP (CK Z) (by rfl) B.dict uJ %[md yw 3 [] (dO (pv 3)) (λfp s H=>Kh (n:=3) (dZ (fM (i:=0) (show (yw:ae).Nodup by decide +kernel) Z (Or.inl Z)) (dZ (fM (i:=1) (show (yw:ae).Nodup by decide +kernel) Z (Or.inl Z)) (dZ (fM (i:=2) (show (yw:ae).Nodup by decide +kernel) Z (Or.inl Z)) kq)))) (λfp s H=>jb) (λfp s H=>bC %[0,2|0])|0]) Z))))),?_]
 let#[eU,d1,l2,d3,je,as,ef,w1,_]:=id W.ex;apply#[_,Z,_,_,_,_,Z,.ins w1 TW.cl IW.ha IW.hn IW.tk IW.mo,i1_ _ _,_,Z,aO ?_];apply#[_,Z,_,Z,p,l,ys,ps,hs,ts,bS,Z,W,G,hl,pc,gp,nd,bU,λlc zs qs H1 s1 Fy pn Qq=>?_];let#[vs,lv,pz,X4,CZ]:=Vw pn;let FO:=s1 _ _ hg
 have lq:qs.length=ps.length:=by
  have:=eI List.length Qq.EC;rw[ay,(yM _).length_eq,ay] at this;exact this
 have ZJ:(qs.map (·.1)).Nodup:=by
  rw[Qq.EC];exact (yM _).nodup_iff.mpr nd
 apply#[_,Z,_,Z,g,CG,dx,[],Z,FO,T.cl,T.nW,by show 0<1000;decide,?_];have up1:∀{b o},H1 b\o->b≠g->upd H1 g (.ins CG dx (aB "web" (.ref p) [])) b\o:=λe ne=>by rw[az ne];exact e
 have NA:upd H1 g (.ins CG dx (aB "web" (.ref p) [])) g\.ins CG dx (aB "web" (.ref p) []):=ao
 have B9:∀{b},upd H1 g (.ins CG dx (aB "web" (.ref p) [])) b=none->H1 b=none:=λ{b} e=>by
  by_cases z:b=g
  ·rw[z,ao] at e;cases e
  rw[az z] at e;exact e
 generalize upd H1 g (.ins CG dx (aB "web" (.ref p) []))=H2 at up1 NA B9 ⊢;have Jm:lc≠g:=cy Fy FO nofun;have ZO:Paired (λz (x:Pc × V)=>∃t,z=.ref t/\H2 t\.tup [.str x.1.1,.int x.1.2.1,x.2]) zs (qs.zip vs):=Paired.bQ pz λz x ⟨t,e,ht⟩=>#[t,e,up1 ht (cy ht FO nofun)];have mD:(qs.zip vs).length<=1000:=by rw[List.length_zip];omega
 apply#[_,Z,lc,Z,#[_,.of (up1 Fy Jm)],λD hD=>?_];apply Vt (λx=>.int x.1.2.1) (λx=>rfl) Z (up1 Fy Jm) ZO mD hD λH3 out s3 hD3 ZV=>?_;apply#[D,out,_,Z,hD3,ZV,by rw[ay];exact mD,λdw NI=>?_]
 have ekv:((qs.zip vs).map λx:Pc × V=>((Sum.inr x.1.1:Key),V.int x.1.2.1))=kA qs:=by
  unfold kA;have:(λx:Pc × V=>((Sum.inr x.1.1:Key),V.int x.1.2.1))=(λq:Pc=>((Sum.inr q.1:Key),V.int q.2.1)) ∘ Prod.fst:=rfl;rw[this,<- ck,List.map_fst_zip Z1]
 have xP:(qs.map (·.1)).map (Sum.inr:Str->Key) |>.Nodup:=by
  rw[w_,tX];exact ZJ.imp λn e=>n (gO e)
 rw[ekv,CF (by rw[V0];exact xP)];let s4:=aa.new (o:=.dK (kA qs)) NI;let Uc:=s4 _ _ (s3 _ _ NA);apply#[_,Z,g,CG,dx,_,Z,Uc,T.cl,T.nG,by show 1<1000;decide,?_];let I_:=s3.trans s4;have FU:upd H3 dw (.dK (kA qs)) dw\.dK (kA qs):=ao;have Wi:dw≠g:=(bu (s3 _ _ NA) NI).symm;have fr4:∀{b},upd H3 dw (.dK (kA qs)) b=none->H2 b=none:=λe=>I_.free e;have dwn:H2 dw=none:=s3.free NI;generalize upd H3 dw (.dK (kA qs))=H4 at s4 Uc I_ FU fr4 ⊢;have uk:∀{b o},H4 b\o->b≠g->upd H4 g (.ins CG dx (aB pO (.ref dw) (aB "web" (.ref p) []))) b\o:=λe ne=>by rw[az ne];exact e
 have Nz:upd H4 g (.ins CG dx (aB pO (.ref dw) (aB "web" (.ref p) []))) g\.ins CG dx (aB pO (.ref dw) (aB "web" (.ref p) [])):=ao
 have nR:∀{b},upd H4 g (.ins CG dx (aB pO (.ref dw) (aB "web" (.ref p) []))) b=none->H4 b=none:=λ{b} e=>by
  by_cases z:b=g
  ·rw[z,ao] at e;cases e
  rw[az z] at e;exact e
 generalize upd H4 g (.ins CG dx (aB pO (.ref dw) (aB "web" (.ref p) [])))=H5 at uk Nz nR ⊢;have uX:∀{b o},H1 b\o->b≠g->H5 b\o:=λe ne=>uk (I_ _ _ (up1 e ne)) ne;have ZN:Paired (λz (x:Pc × V)=>∃t,z=.ref t/\H5 t\.tup [.str x.1.1,.int x.1.2.1,x.2]) zs (qs.zip vs):=Paired.bQ pz λz x ⟨t,e,ht⟩=>#[t,e,uX ht (cy ht FO nofun)];apply#[_,Z,lc,Z,#[_,.of (uX Fy Jm)],λD2 ym=>?_];apply Vt (λx=>x.2) (λx=>rfl) Z (uX Fy Jm) ZN mD ym λH6 fO s6 JF ZU=>?_;apply#[D2,fO,_,Z,JF,ZU,by rw[ay];exact mD,λdy NH=>?_];rw[show ((qs.zip vs).map λx:Pc × V=>((Sum.inr x.1.1:Key),x.2))=uW qs vs from Z,CF (by rw[iD_ lv];exact xP)];let s7:=aa.new (o:=.dK (uW qs vs)) NH;let xE:=s6.trans s7;let Ub:=xE _ _ Nz;apply#[_,Z,g,CG,dx,_,Z,Ub,T.cl,T.nY,by show 2<1000;decide,?_];have FT:upd H6 dy (.dK (uW qs vs)) dy\.dK (uW qs vs):=ao;have dyg:dy≠g:=(bu (s6 _ _ Nz) NH).symm;have dyn:H5 dy=none:=s6.free NH;generalize upd H6 dy (.dK (uW qs vs))=H7 at s7 xE Ub FT ⊢
 have fin:∀{b o},H1 b\o->b≠g->upd H7 g (.ins CG dx (bV p dw dy)) b\o:=λe ne=>by
  rw[az ne];exact xE _ _ (uX e ne)
 have C1:∀b xs,H1 b\.tup xs->upd H7 g (.ins CG dx (bV p dw dy)) b\.tup xs:=λb xs e=>fin e (cy e FO nofun);have nH:∀{b},H1 b=none->H b=none:=λe=>s1.free e;apply k qs (g::dw::dy::(bS++vs.filterMap λv=>match v with | .ref a=>some a|_=>none)) _ (λb o e ne=>fin (s1 _ _ e) ne) #[dx,dw,dy,vs,bS,ao,?_,?_,?_,?_,by simp,by simp,by simp,λb hb=>by simp[hb],λv hv a z=>?_] Qq λb hb=>?_
 ·exact W.keep (λb hb o e=>fin (s1 _ _ e) (λz=>gw (z▸hb))) λb xs e=>C1 b xs (s1 _ _ e)
 ·rw[az Wi];exact xE _ _ (uk FU Wi)
 ·rw[az dyg];exact FT
 ·exact Rb X4 λv hv q h=>h.keep (λa z u e=>fin e (λzz=>by
   subst zz;have:=CZ v hv _ z;rw[hg] at this;cases this)) λb xs e=>C1 b xs e
 ·apply eA _ (eA _ (eA _ (km _ (wZ.mpr #[v,hv,?_]))));rw[z]
 simp only[cq,fB,wZ] at hb;rcases hb with rfl|rfl|rfl|hb|⟨v,hv,e⟩
 ·exact .inl Z
 ·exact .inr (.inr (nH (B9 dwn)))
 ·exact .inr (.inr (nH (B9 (I_.free (nR dyn)))))
 ·exact .inr (.inl hb)
 cases v with
 |ref a=>
  cases e;exact .inr (.inr (CZ _ hv _ Z))
 |_=>cases e
end
end Ev
namespace L2
open PySem
end L2
namespace Ev
open PySem L2
theorem eR_{kvs:List (Key × V)}{ns:ae}(h:kvs.map (·.1)=ns.map Sum.inr)(x:Str):(bH kvs (Sum.inr x)).isSome=decide (x∈ns):=by
 by_cases hx:x∈ns
 ·rw[cb hx];apply V9 ?_;rw[h];exact bN.mpr #[x,hx,Z]
 rw[dM hx,yR]
 ·rfl
 rw[h];intro m;let#[y,hy,e]:=bN.mp m;cases e;exact hx hy
theorem l0_{qs:aL}(nd:(qs.map (·.1)).Nodup){q:Pc}(hq:q∈qs):bH (kA qs) (Sum.inr q.1)\.int q.2.1:=by
 let#[j,hj,e]:=mm hq;have:=Pn (ps:=qs) (cs:=qs.map λq=>V.int q.2.1) nd (by rw[ay]) (j:=j) (q:=q) (c:=.int q.2.1) (by rw[cg hj,e]) (by rw[dQ,cg hj,e];rfl)
 have e2:((qs.zip (qs.map λq=>V.int q.2.1)).map λq=>((Sum.inr q.1.1:Key),q.2))=kA qs:=by
  unfold kA;rw[List.zip_map_right,ck]
  have:qs.zip qs=qs.map λq=>(q,q):=by
   clear nd hq this hj e j
   induction qs with
   |nil=>rfl
   |cons a l ih=>rw[List.zip_cons_cons,ih,fi]
  rw[this,ck];rfl
 rwa [e2] at this
theorem kR_{qs:aL}{vs:ag}(nd:(qs.map (·.1)).Nodup){K:af}{H:Hp}(h:Paired (λv (q:Pc)=>cj K H v q.2.2) vs qs){q:Pc}(hq:q∈qs):∃v∈vs,bH (uW qs vs) (Sum.inr q.1)\v/\cj K H v q.2.2:=by
 let#[j,hj,e]:=mm hq;let hl:=bP h;have hv:j<vs.length:=by omega
 let p:=gY h j hv hj;rw[e] at p;exact#[vs[j],ml hv,Pn nd Z1 (by rw[cg hj,e]) (cg hv),p]
def B7(hs:Xa)(ts:Xb)(o:Option (Xb))(x y:Option Str):Bool:=
 jf hs ts x y&&match o,x,y with
  |none,_,_=>true
  |some ws,some a,some b=>decide (aQ a b∈ws)
  |_,_,_=>false
section v
theorem zt:bw nX nX (aY rN):=bD
inductive Hc (K:af) (CG CW:Addr) (vs:ag) (H:Hp) (Q:VK) (E:XK):Prop
 |mk:∀(g p:Addr) (v:V) (x:Option Str) (hs:Xa) (ts:Xb) (qs:aL) (fp:ai),vs=[.ref g,v]->gf K CG CW H g p hs ts qs fp->jV K H v x->Q (.bl (EY (qs.map (·.1)) x)) H->Hc K CG CW vs H Q E
theorem kh_{f CG CW:Addr}{fd:Ae}(F:bh K "has_piece" "Goods.has_piece" rN f fd)(T:dF K CG)(B:Bi mg):!ak a9 1 f fd nX (Hc K CG CW):=by
 exists F.bG zt;let#[g,p,v,x,hs,ts,qs,fp,rfl,G,sv,k]:=h;let hu:=fZ hr;let#[dx,dw,dy,vs,bS,h1,h2,h3,h4,h5,m1,m2,m3,m4,m5]:=G.ex;apply#[_,aF (aZ (j_ (cu iS (by rfl) B.ia ik %[1,iR (v:=.ty "str") (by rfl) B.str Cj Z|0]) (j9 (GT (Ck hu (pv 1) (dA (pv 0) Z)))))),?_];cases x with
 |some x=>
  cases (show v=.str x from sv);apply#[_,Z,_,_,_,_,Z,.str x,Z,_,Z,bO ?_];apply#[_,Z,_,Z,g,CG,dx,_,_,Z,h1,T.cl,T.nG,O4 _ _ _,dw,_,Z,.k (k:=Sum.inr x) h3,?_];rw[eR_ (V0 qs)];exact k
 |none=>
  let#[t,ty,e]:=sv;exact#[_,Z,_,_,_,_,Z,ty,e,_,Z,aO k]
theorem qV:bw gy gy (aY OB):=bD
inductive Px (K:af) (CG CW:Addr) (vs:ag) (H:Hp) (Q:VK) (E:XK):Prop
 |mk:∀(g p:Addr) (hs:Xa) (ts:Xb) (qs:aL) (fp:ai),vs=[.ref g]->gf K CG CW H g p hs ts qs fp->(∀l,H l=none->Q (.ref l) (upd H l (.lst ((qs.map (·.1)).map V.str))))->Px K CG CW vs H Q E
theorem h8_{f CG CW:Addr}{fd:Ae}(F:bh K "names" "Goods.names" OB f fd)(T:dF K CG)(B:Bi mg):!ak a9 1 f fd gy (Px K CG CW):=by
 exists F.bG qV;let#[g,p,hs,ts,qs,fp,rfl,G,k]:=h;let#[dx,dw,dy,vs,bS,h1,h2,h3,h4,h5,m1,m2,m3,m4,m5]:=G.ex;apply#[_,aF (aZ (iP (Qw Z) (by rfl) B.list uK %[dA (pv 0) Z|0])),?_];apply#[_,Z,g,CG,dx,_,_,Z,h1,T.cl,T.nG,O4 _ _ _,dw,_,Z,.inl h3,λl hl=>?_]
 have e:((kA qs).map λkv=>kV kv.1)=(qs.map (·.1)).map V.str:=by
  unfold kA;rw[ck,ck];rfl
 rw[e];exact k l hl
structure Ref (K:af) (mg:Str->Option Aa) (x:Str) (C:Addr):Prop where
 mg:mg x\.ref C
 ex:PySem.W.excIn K C [.type "ValueError",.type "Exception",.type "BaseException",.type "object"] "ValueError.__new__"=true
theorem oP:bw yy yy (aY PV):=bD
inductive Bn (K:af) (CG CW CP:Addr) (vs:ag) (H:Hp) (Q:VK) (E:XK):Prop
 |mk:∀(g p:Addr) (v:V) (x:Option Str) (hs:Xa) (ts:Xb) (qs:aL) (fp:ai),vs=[.ref g,v]->gf K CG CW H g p hs ts qs fp->(qs.map (·.1)).Nodup->jV K H v x->((∃q∈qs,x\q.1/\Q (.int q.2.1) H)∨False)->Bn K CG CW CP vs H Q E
theorem fF_{f CG CW CP:Addr}{fd:Ae}(F:bh K "weight" "Goods.weight" PV f fd)(T:dF K CG)(cH:!bo CG 1 "has_piece" nX (Hc K CG CW)):!ak a9 2 f fd yy (Bn K CG CW CP):=by
 exists F.bG oP;let#[g,p,v,x,hs,ts,qs,fp,rfl,G,nd,sv,k]:=h;let hu:=fZ hr;let#[dx,dw,dy,vs,bS,h1,h2,h3,h4,h5,m1,m2,m3,m4,m5]:=id G.ex;have nI:(bV p dw dy).lookup ("has_piece":Str)=none:=uQ _ _ _ Z0 Z0 Z0;apply#[_,ax (bL (eQ (dR (eW cH T.cl hr (pv 0) %[1|0]))) eB bM) (aF (aZ (ko hu (dA (pv 0) Z) (pv 1)))),?_];apply#[_,Z,g,dx,_,Z,h1,nI,_,Z,g,p,v,x,hs,ts,qs,fp,Z,G,sv,_,Z,?_];rcases k with⟨q,hq,rfl,k⟩|k
 ·cases (show v=.str q.1 from sv);rw[show EY (qs.map (·.1)) (some q.1)=true from cb (bN.mpr #[q,hq,Z])];apply aO ?_;apply#[_,Z,g,CG,dx,_,_,Z,h1,T.cl,T.nG,O4 _ _ _,_,Z,dw,_,Z,?_,k];rw[<- l0_ nd hq];exact .k (k:=Sum.inr q.1) h3
 exact k.elim
theorem qW:bw ["self","piece","one","other","ties"] oG (aY rM):=bD
inductive JX (K:af) (CG CW CP:Addr) (vs:ag) (H:Hp) (Q:VK) (E:XK):Prop
 |mk:∀(g p:Addr) (v u1 u2:V) (x y1 y2:Option Str) (hs:Xa) (ts:Xb) (qs:aL) (fp:ai),vs=[.ref g,v,u1,u2]->gf K CG CW H g p hs ts qs fp->(qs.map (·.1)).Nodup->(aD hs).Nodup->jV K H v x->((∃q∈qs,x\q.1/\jV K H u1 y1/\jV K H u2 y2/\∀H',aa H H'->Q (.bl (B7 hs ts q.2.2 y1 y2)) H')∨False)->JX K CG CW CP vs H Q E
theorem jw_{f CG CW CP:Addr}{fd:Ae}(F:bh K "may_go" "Goods.may_go" rM f fd)(T:dF K CG)(TW:Txt K mg CW)(cH:!bo CG 1 "has_piece" nX (Hc K CG CW))(cT:!bo CW 2 "are_tied" kb (Ki K CW))(cL:!bg 1 "lesser_first" pS Ks) :
  ak P w K mg base a9 3 f fd oG (JX K CG CW CP):=by
 exists F.bG qW;let#[g,p,v,u1,u2,x,y1,y2,hs,ts,qs,fp,rfl,G,nd,sy,sv,k]:=h;let hu:=fZ hr;have iG:ba 1 _:=hr.mono (by decide);let#[dx,dw,dy,vs,bS,h1,h2,h3,h4,h5,m1,m2,m3,m4,m5]:=id G.ex;have nI:(bV p dw dy).lookup ("has_piece":Str)=none:=uQ _ _ _ Z0 Z0 Z0;let#[eU,d1,l2,d3,je,as,ef,w1,_]:=id h2.ex;have gJ:(cQ d1 l2 d3).lookup ("are_tied":Str)=none:=ip _ _ _ Z0 Z0 Z0
 apply#[_,ax (bL (eQ (dR (eW cH T.cl iG (pv 0) %[1|0]))) eB bM)
  (ax (bL (eQ (dR (eW cT TW.cl hr (dA (pv 0) Z) %[2,3|0]))) (aF (aZ ke)) bM)
  (ax (bx 4 qW.nd (ko hu (dA (pv 0) Z) (pv 1)))
  (aF (aZ (SQ (GT (JJ (pv 4))) (j9 (oi (NM (Hf hV hV) (oo hr _)) (aR cL hr %[2,3|0]) (pv 4) (by with_unfolding_all rfl)))))))),?_]
 apply#[_,Z,g,dx,_,Z,h1,nI,_,Z,g,p,v,x,hs,ts,qs,fp,Z,G,sv,_,Z,?_];rcases k with⟨q,hq,rfl,s1,s2,k⟩|k
 ·cases (show v=.str q.1 from sv);rw[show EY (qs.map (·.1)) (some q.1)=true from cb (bN.mpr #[q,hq,Z])];apply aO ?_;apply#[_,Z,g,CG,dx,_,_,Z,h1,T.cl,T.nW,ki _ _ _,p,eU,_,Z,w1,gJ,_,Z,_,Z,p,u1,u2,y1,y2,hs,ts,bS,Z,h2,sy,s1,s2,_,Z,?_];cases tb:jf hs ts y1 y2 with
  |false=>
   apply bO ?_;have:=k H (aa.refl H);unfold B7 at this;rw[tb,Bool.false_and] at this;exact this
  |true=>
   apply aO ?_;let#[u,hu',eu,wy]:=kR_ nd h5 hq;apply#[_,Z,g,CG,dx,_,_,Z,h1,T.cl,T.nY,kt_ _ _ _,_,Z,dy,u,Z,?_,?_]
   ·rw[<- eu];exact .k (k:=Sum.inr q.1) h4
   apply#[_,Z,_,Z,?_];unfold B7 at k;rw[tb] at k;cases e:q.2.2 with
   |none=>
    rw[e] at wy k;cases (show u=.non from wy);exact bO (k H (aa.refl H))
   |some ws=>
    rw[e] at wy k;let#[a,ys,rfl,ha,tu]:=wy;cases y1 with
    |none=>cases tb
    |some a1=>
     cases y2 with
     |none=>cases tb
     |some a2=>
      cases (show u1=.str a1 from s1);cases (show u2=.str a2 from s2);apply aO #[_,Z,_,Z,a1,a2,Z,λt ht=>?_];have s3:aa H (upd H t (.tup [.str (aQ a1 a2).1,.str (aQ a1 a2).2])):=aa.new ht;apply#[_,Z,aQ a1 a2,ws,#[t,_,_,Z,.of ao,Z,Z],#[a,ys,Z,.of (s3 _ _ ha),Oz (tu.same s3)],?_];let z:=k _ s3;rw[Bool.true_and] at z;rw[aE f_];show Q (.bl _) _;have z:Q (.bl (decide (aQ a1 a2∈ws))) (upd H t (.tup [.str (aQ a1 a2).1,.str (aQ a1 a2).2])):=z;generalize upd H t (.tup [.str (aQ a1 a2).1,.str (aQ a1 a2).2])=Hz at z ⊢;by_cases hm:aQ a1 a2∈ws
      ·simpa [hm] using z
      simpa [hm] using z
 exact k.elim
end
end Ev
namespace L2
open PySem PySem.Spec PyProof.Rows PySem.W
theorem jM_{P:Ad}{w:Af}{k:Key}{key:Aa}(h:(eZ P w).is k key=true):RelV (kV k) key:=by
 have e2:wu k key=true:=h;rcases p9 e2 with⟨i,t,rfl,rfl⟩|⟨x,t,rfl,rfl⟩
 ·exact#[t,Z]
 exact#[t,Z]
def Itm(d:Addr)(o:Obj)(kvs:List (Key × V)):It:=#[λi H=>H d\.frz o (.dK kvs)/\i<kvs.length,λi H y H'=>∃t k x,y=.ref t/\H t=none/\kvs[i]? = some (k,x)/\H'=upd H t (.tup [kV k,x]),λi H=>H d\.frz o (.dK kvs)/\kvs.length<=i]
theorem g0_{P:Ad}{w:Af}{K:af}{elts:List Expr}{kk:Nat}{pos:Pos}(d it:Addr)(o:Obj)(kvs:List (Key × V)){es:Array DictEntry}{ep:Nat}(ho:o.data=.dict es ep):Turn P w K (.Tuple elts kk pos) (Itm d o kvs) [it] it (λi h=>∃ok ov,IsItemIter h it d i kvs.length ep ok ov) where
 mem:=by simp
 obj:=λi h st b hb=>by
  obtain rfl:b=it:=⇑hb
  let#[ok,ov,q]:=st;exact#[_,q,λv z=>by cases z]
 keep:=λi h h' st k=>by
  let#[ok,ov,q]:=st;exact#[ok,ov,k it Z2 _ q]
 item:=by
  intro X hP hw hK hc i pins s σ H E I hf st hg;subst hP hw hK;let#[hd,hi]:=hg;let#[vs,rel,dat]:=KY I hd ho;obtain⟨⟨k,x⟩,hx⟩:∃p,kvs[i]? = some p:=#[kvs[i],by simp[hi]];let#[u,hu,ru]:=Ta rel i hx;let#[ok,ov,st]:=st;have itl:it<s.heap.objs.size:=cm st;rw[rel.length] at st;apply wpAny_pyNext_items_item st dat hu λkey h' hk out ht sz kp=>?_;apply#[_,Z,wpAny_letOwnedTupleGo_items (s:={ s with heap:=h' }) out λh2 dB sb=>?_];have nT:s.heap.objs.size≠it:=uT itl;have I1:Inv X pins σ (upd H s.heap.objs.size (.tup [kV k,x])) { s with heap:=h2 }:=I.mE (t':=s.toks) (fp:=[it]) (its:=[key,u]) (λb o hb q=>(sb.2 b ⇑hb).trans (kp b o ⇑hb q)) hf (br _) (zl) (.cons (jM_ hk) (.cons ru .nil)) #[#[_,(sb.2 _ nT).trans ht,Z,_,Z],_,(sb.2 _ nT).trans ht,Z];apply#[.ref _,_,I1,Z,#[_,k,x,Z,I.aH.fresh (br _),hx,Z],#[_,_,by rw[rel.length];exact dB],λb hb=>?_];have e:b=it:=⇑hb
  rw[az (λz=>nT (z.symm.trans e))];exact (hf b hb).1
 done:=by
  intro X hP hw hK hc i pins s σ H E I hf st hg;subst hP hw hK;let#[hd,hi]:=hg;let#[vs,rel,dat]:=KY I hd ho;let#[f0,f1,f2,f3,f4,f5]:=hf it Z2;let#[ok,ov,st]:=st;rw[rel.length] at st hi;exact wpAny_pyNext_items_end (I.ok.hd hc) st dat (by simp;omega) λh' eb=>#[Z,I.turned (t':=s.toks) (λb o hb e=>eb b o hb e) f0 f1 f3 f4 f5]
 self:=λA i s Q E st h=>by
  let#[ok,ov,q]:=st;exact kcp_self q h
inductive nB (R:It->Hp->Prop) (x:V) (H1:Hp):Prop
 |mk:∀v d kvs,x=.ref v->H1 v\o_ v d->H1 d\.dK kvs->(∀o,R (Itm d o kvs) (upd H1 d (.frz o (.dK kvs))))->nB R x H1
def zV(tv:TE):TI:=λσ H R=>tv σ H λx H1=>nB R x H1
theorem KL{X:Cx}{elts:List Expr}{kk:Nat}{p2:Pos}{e:Expr}{tv:TE}(he:PE X e tv):PI X (.Tuple elts kk p2) e (zV tv):=by
 intro pins s σ H R I h;apply aV (he pins s σ H _ I h) λu s1 ⟨x,H1,I1,r1,v,d,kvs,ex,hv,hd,q⟩=>?_;subst ex;cases r1;let#[iv,_,_]:=I1.aH v _ hv;let#[o,ho,I2]:=I1.freeze hd;let#[z,_,vs,rel,o',es,ep,jB,c',dt,r]:=AM I1.aH hd;rw[ho] at jB;cases jB;apply wpAny_pyIter_items (knd:=eZ X.prog X.w) (kvs:=vs) (ep:=ep) iv #[o,es,ho,c',dt,r] ?_;apply#[s1.heap.objs.size,[s1.heap.objs.size],_,_,_,Z,I2.kept (t':=s1.toks) λb o e=>cc _ e,g0_ d _ o kvs dt,?_,λb hb=>?_,q o]
 ·rw[rel.length];exact#[.none,.none,eJ _ Z]
 obtain rfl:b=s1.heap.objs.size:=⇑hb
 exact I2.jF (br _) (I2.aH.fresh (br _))
theorem QY{d:Addr}{o:Obj}{kvs:List (Key × V)}{g:TG}{tb:TS}{D:Ends}{σ:St}{H:Hp}(Pv:Nat->St->Hp->Prop)(h0:Pv 0 σ H)(hl:∀i σ H,i<=kvs.length->Pv i σ H->H d\.frz o (.dK kvs))
  (hs:∀i k x σ H,kvs[i]? = some (k,x)->Pv i σ H->∀t,H t=none->g (.ref t) σ (upd H t (.tup [kV k,x])) λgC H2=>tb { D with nx:=Pv (i+1),ct:=Pv (i+1),bk:=D.nx } gC H2) (hd:∀σ H,Pv kvs.length σ H->D.nx σ H) :
  ∃W:Nat->Nat->St->Hp->Prop,(∃m,W 0 m σ H)/\∀i m σ H,W i m σ H->
   ((Itm d o kvs).stop i H/\D.nx σ H)∨((Itm d o kvs).go i H/\∃N:St->Hp->Prop,(∀bq H',N bq H'->∃m',m'<m/\W (i+1) m' bq H')/\∀x H',(Itm d o kvs).xf i H x H'->g x σ H' λgC H2=>tb { D with nx:=N,ct:=N,bk:=D.nx } gC H2):=by
 apply#[λi m σ H=>m=kvs.length - i/\i<=kvs.length/\Pv i σ H,#[kvs.length,by simp,gA _,h0],?_];rintro i m σ H ⟨rfl,hi,p⟩;let q:=hl i σ H hi p;by_cases dG:i<kvs.length
 ·apply .inr #[#[q,dG],Pv (i+1),λbq H' p'=>#[kvs.length - (i+1),by omega,Z,dG,p'],λx H' y=>?_];let#[t,k,x,rfl,ht,hx,rfl]:=y;exact hs i k x σ H hx p t ht
 have e:i=kvs.length:=by omega
 subst e;exact .inl #[#[q,br _],hd σ H p]
inductive qj (t:TS) (D:Ends) (σ:St) (H:Hp):Prop
 |mk:∀d kvs,H d\.dK kvs->t { nx:=λmC H1=>∃o,H1 d\.frz o (.dK kvs)/\D.nx mC (upd H1 d (.dK kvs)),rt:=λv H1=>∃o,H1 d\.frz o (.dK kvs)/\D.rt v (upd H1 d (.dK kvs)) } σ H->qj t D σ H
theorem UR{X:Cx}{st:Stmt}{t:TS}(h:PS X st t):PS X st (qj t):=by
 intro pins s σ H D I q;let#[d,kvs,hd,q]:=q
 have nf:∀o u,X.iT d≠some (.frz o u):=λo u z=>by
  have:=I.base.fG _ _ _ z;rw[hd] at this;cases this
 apply aV (h pins s σ H _ I q) λf s' p=>?_;cases f with
 |next=>
  let#[mC,H1,I1,o,hf,q1]:=p;exact#[mC,_,I1.oM hf nf,q1]
 |brk=>
  let#[mC,H1,I1,q1]:=p;exact False.elim q1
 |cont=>
  let#[mC,H1,I1,q1]:=p;exact False.elim q1
 |ret u=>
  let#[v,mC,H1,I1,r,o,hf,q1]:=p;exact#[v,mC,_,I1.oM hf nf,r,q1]
theorem Wk:∀{ns:List Int} {its:aj},Vals (ns.map V.int) its->∃xs:List (Int × Tok),its.toArray=intItems xs.toArray/\xs.map (·.1)=ns
 |[],_,.nil=>#[[],by unfold intItems;simp,Z]
 |n::ns,_,.cons ⟨t,e⟩ r=>by
  let#[xs,h1,h2]:=Wk r;apply#[(n,t)::xs,?_,by simp[h2]];subst e;apply Array.ext' ?_;let h3:=eI Array.toList h1;unfold intItems at h3 ⊢;simp at h3 ⊢;exact h3
theorem W0{xs:List (Int × Tok)}:∀n,n<=xs.length->preSum (numAt xs.toArray) n=((xs.map (·.1)).take n).sum
 |0,_=>by simp[preSum]
 |n+1,h=>by
  let ih:=W0 (xs:=xs) n Z1;show preSum (numAt xs.toArray) n+numAt xs.toArray n=_;rw[ih,ig,List.sum_append];congr 1;unfold numAt;rw[List.getElem?_toArray,dQ,cg Z1];simp
inductive xG (K:af) (xs:ag) (H:Hp) (Q:VK):Prop
 |mk:∀(l:Addr) (ns:List Int),xs=[.ref l]->dN K H l (ns.map V.int)->Q (.int ns.sum) H->xG K xs H Q
theorem hT_{X:Cx}(hc:X.calm=true):gq X (.builtin "sum") (xG X.K):=by
 intro pins s σ H xs us Q I r h;let#[l,ns,rfl,hl,q]:=h;let#[u,rfl,ru]:=vals1 r;cases ru;let#[its,rv,p,hz]:=I.list hl;let#[zs,e1,e2]:=Wk rv;let il:=p.isList;rw[e1] at il;apply sum_intListG (I.ok.hd hc) il λh' tk t' k=>?_;apply#[.int ns.sum,H,I.kept (t':=tk) k,#[t',?_],q]
 have:preSum (numAt zs.toArray) zs.toArray.size=ns.sum:=by
  rw[cX,W0 _ (br _),<- e2,w9 Z2]
 rw[this]
end L2
namespace Ev
open PySem L2
structure Fz (d:Addr) (o:Obj) (kvs:List (Key × V)) (H H':Hp):Prop where
 at_:H' d\.frz o (.dK kvs)
 sm:∀b u,b≠d->H b\u->H' b\u
section
variable{d:Addr}{o:Obj}{kvs:List (Key × V)}{H H' H2:Hp}
theorem Fz.start:Fz d o kvs H (upd H d (.frz o (.dK kvs))):=#[ao,λb u ne e=>by rw[az ne];exact e]
theorem Fz.step(f:Fz d o kvs H H')(s:aa H' H2):Fz d o kvs H H2:=#[s _ _ f.at_,λb u ne e=>s _ _ (f.sm b u ne e)]
theorem Fz.oM(f:Fz d o kvs H H')(hd:H d\.dK kvs):aa H (upd H' d (.dK kvs)):=λb u e=>by
 by_cases z:b=d
 ·subst z;rw[hd] at e;cases e;exact ao
 rw[az z];exact f.sm b u z e
theorem Fz.yq{K:af}{CG CW g p:Addr}{hs:Xa}{ts:Xb}{qs:aL}{fp:ai}(f:Fz d o kvs H H')(hd:H d\.dK kvs)(G:gf K CG CW H g p hs ts qs fp)(nd:d∉fp):gf K CG CW H' g p hs ts qs fp:=
 G.keep (λb hb u e=>f.sm b u (λz=>nd (z▸hb)) e) λb xs e=>f.sm b _ (cy e hd nofun) e
end
def dI(ns:ae)(g:Str->V):List (Key × V):=ns.map λn=>(Sum.inr n,g n)
theorem KI(ns:ae)(g:Str->V):(dI ns g).map (·.1)=ns.map Sum.inr:=by
 unfold dI;rw[ck];rfl
theorem kg(ns:ae)(g:Str->V):(dI ns g).length=ns.length:=ay _
theorem HR{ns:ae}{g:Str->V}{n:Str}(h:n∈ns):bH (dI ns g) (Sum.inr n)\g n:=by
 induction ns with
 |nil=>cases h
 |cons m ns ih=>
  by_cases e:m=n
  ·subst e;exact Be Z
  have:bH (dI (m::ns) g) (Sum.inr n)=bH (dI ns g) (Sum.inr n):=Bg λz=>e (gO z);rw[this];rcases cq.mp h with z|z
  ·exact absurd z.symm e
  exact ih z
theorem KD{ns:ae}{g k:Str->V}(h:∀n∈ns,g n=k n):dI ns g=dI ns k:=uR λn hn=>by rw[h n hn]
theorem Us{ns:ae}{g:Str->V}{n:Str}{v:V}(h:n∈ns):putK (dI ns g) (Sum.inr n) v=dI ns λm=>if m=n then v else g m:=by
 unfold putK;rw[aJ]
 ·unfold dI;rw[ck];apply uR λm _=>?_;by_cases e:m=n
  ·subst e;simp
  have:¬((Sum.inr m:Key)=Sum.inr n):=λz=>e (gO z);simp[e]
 apply List.any_eq_true.mpr #[(Sum.inr n,g n),bN.mpr #[n,h,Z],by simp]
theorem Ux{ns:ae}{g:Str->V}{n:Str}{v:V}(h:n∉ns):putK (dI ns g) (Sum.inr n) v=dI (ns++[n]) λm=>if m=n then v else g m:=by
 rw[CJ _ (yR (by
  rw[KI];intro m;let#[x,hx,e]:=bN.mp m;exact h (gO e▸hx)))]
 unfold dI;rw[dD];congr 1
 ·apply uR λm hm=>?_;have e:¬m=n:=λz=>h (z▸hm);simp[e]
 simp
theorem JN{ns:ae}{g:Str->V}{i:Nat}{k:Key}{x:V}(h:(dI ns g)[i]? = some (k,x)):∃n,ns[i]? = some n/\k=Sum.inr n/\x=g n:=by
 unfold dI at h;rw[dQ] at h;cases e:ns[i]? with
 |none=>rw[e] at h;cases h
 |some n=>
  rw[e] at h;let h:=d5 h;exact#[n,Z,(eI Prod.fst h).symm,(eI Prod.snd h).symm]
theorem PU{ns:ae}(nd:ns.Nodup){i:Nat}{n:Str}(h:ns[i]? = some n):n∉ns.take i:=by
 let q:=Ia (g:=id) (ts:=ns) (by rw[List.map_id];exact nd) h;rwa [List.map_id] at q
theorem jQ{ns:ae}{i:Nat}{n:Str}(h:ns[i]? = some n):ns.take (i+1)=ns.take i++[n]:=by
 rw[ig,h];rfl
abbrev dk(ns:ae)(f:aq):List (Key × V):=dI ns λn=>.str (f n)
def fW(q:Pc):Str × Int:=(q.1,q.2.1)
def ld(f:aq)(ws:Xa)(h:Str):Int:=((ws.filter λx=>decide (f x.1=h)).map (·.2)).sum
theorem kr_(f:aq)(ws:Xa)(x:Str × Int)(h:Str):ld f (ws++[x]) h=if h=f x.1 then ld f ws h+x.2 else ld f ws h:=by
 unfold ld;rw[List.filter_append];by_cases e:f x.1=h
 ·rw[aJ e.symm,dD,List.sum_append];simp[e]
 rw[aE λz=>e z.symm];simp[e]
theorem Ug:∀{l:List Int},(∀x∈l,0<=x)->0<=l.sum
 |[],_=>by simp
 |x::l,h=>by
  rw[List.sum_cons];have:=h x eP;have:=Ug (l:=l) λy hy=>h y (eA _ hy);omega
theorem kI_{f:aq}{ws:Xa}{h:Str}(p:∀x∈ws,0<=x.2):0<=ld f ws h:=Ug λx hx=>by
 let#[y,hy,rfl]:=bN.mp hx;exact p y (List.mem_filter.mp hy).1
theorem Qs.nd{ps qs:aL}(Q:Qs ps qs)(nd:(ps.map (·.1)).Nodup):(qs.map (·.1)).Nodup:=by
 rw[Q.EC];exact (yM _).nodup_iff.mpr nd
theorem Qs.len{ps qs:aL}(Q:Qs ps qs):qs.length=ps.length:=by
 have:=eI List.length Q.EC;rw[ay,(yM _).length_eq,ay] at this;exact this
end Ev
namespace Ev
open PySem L2
section v
structure oI (hs:Xa) (qs:aL) (ns:ae) (f:aq):Prop where
 perm:ns.Perm (qs.map (·.1))
 at_:∀n∈ns,f n∈hs.map (·.1)
theorem Kt:bw ["goods","stand","piece","hand","names"] yz (aY O5):=bD
inductive Im (K:af) (CG CW:Addr) (vs:ag) (H:Hp) (Q:VK) (E:XK):Prop
 |mk:∀(g p d:Addr) (hs:Xa) (ts:Xb) (qs:aL) (fp:ai) (ns:ae) (f:aq),vs=[.ref g,.ref d]->gf K CG CW H g p hs ts qs fp->d∉fp->H d\.dK (dk ns f)->oI hs qs ns f->(qs.map (·.1)).Nodup->qs.length<64->(∀d' H',aa H H'->H d'=none->H' d'\.dK (dk (qs.map (·.1)) f)->Q (.ref d') H')->Im K CG CW vs H Q E
theorem gw_{f CG CW:Addr}{fd:Ae}(F:bh K "checked_stand" "checked_stand" O5 f fd)(B:Bi mg)(T:dF K CG)(TW:Txt K mg CW)(cH:!bo CG 1 "has_piece" nX (Hc K CG CW))(cW:!bo CW 1 "has_hand" nX (jj K CW))(cN:!bo CG 1 "names" gy (Px K CG CW)) :
  ak P w K mg base a9 2 f fd yz (Im K CG CW):=by
 exists F.bG Kt;let#[g,p,d,hs,ts,qs,fp,ns,f,rfl,G,i7,hd,so,nd,bU,k]:=h;let hu:=fZ hr;let sz:=b_;refine' #[_,?r0,?kk]
 case' r0=>refine' ax ?s1 ?r1
 case s1=>exact bL (eQ (dR (cu iS (by rfl) B.ia ik %[1,iR (v:=.ty "dict") (by rfl) B.dict uJ Z|0]))) eB bM
 case' r1=>refine' ax ?s2 ?r2
 case' s2=>refine' UR (eR eh Z ?i2 ?g2 ?b2)
 case i2=>exact KL (HZ (pv 1))
 case g2=>exact o9 Z (dZ (cY 2 Kt.nd) (dZ (cY 3 Kt.nd) kq))
 case b2=>exact ax (bL (eQ (dR (eW cH T.cl hr (pv 0) %[2|0]))) eB bM) (aF (bL (eQ (dR (eW cW TW.cl hr (dA (pv 0) Z) %[3|0]))) eB bM))
 case' r2=>refine' ax ?s3 ?r3
 case s3=>exact bx 4 Kt.nd (wI cN T.cl hr (pv 0))
 case' r3=>refine' ax ?s4 (aF ?s5)
 case s4=>exact bL (dm tJ (cu hx_ (by rfl) B.len gz %[1|0]) (cu gZ (by rfl) B.len gz %[4|0])) eB bM
 case s5=>exact aZ (iP (CK Z) (by rfl) B.dict uJ %[md ["piece","stand"] 1 [1] (dO (pv 4)) (λfp s H=>fM (i:=0) (show (["piece","stand"]:ae).Nodup by decide +kernel) Z (Or.inl Z)) (λfp s H=>jb) (λfp s H=>bC %[0,ko hu (pv 1) (pv 0)|0])|0])
 have _O:ns.length=qs.length:=by rw[so.perm.length_eq,ay]
 apply#[_,Z,_,_,_,_,Z,.dK hd,Z,_,Z,aO ?_];apply#[d,_,hd,?_];apply#[_,Z,d,_,Z,hd,λv hv=>?_];let#[s1,nC]:=bj (o:=o_ v d) hv;let G1:=G.same s1;let ux:=s1 _ _ hd;generalize upd H v (o_ v d)=H1 at s1 nC G1 ux ⊢;apply#[v,d,_,Z,nC,ux,λo=>?_];apply QY (λi σ H'=>∃(v2 v3:aI),σ=[some (.ref g),some (.ref d),v2,v3,none]/\Fz d o (dk ns f) H1 H') #[none,none,Z,Fz.start] (λi σ H' _ ⟨_,_,_,z⟩=>z.at_) ?_ ?_
 ·rintro i ky x σ H2 hx ⟨v2,v3,rfl,fz⟩ t ht;let#[n,hn,rfl,rfl]:=JN hx;let nm:=dC hn;let s2:=aa.new (o:=.tup [.str n,.str (f n)]) ht;let AE:=fz.step s2;have e2:upd H2 t (.tup [.str n,.str (f n)]) t\.tup [.str n,.str (f n)]:=ao;show iI _ _ _ _ _ (upd H2 t (.tup [.str n,.str (f n)])) _;generalize upd H2 t (.tup [.str n,.str (f n)])=H3 at s2 AE e2 ⊢;apply#[t,_,Z,.of e2,Z,_,_,Z,_,_,Z,Z,?_];let G3:=AE.yq ux G1 i7;let#[dx,dw,dy,vs,bS,h1,h2,h3,h4,h5,m1,m2,m3,m4,m5]:=id G3.ex;let#[eU,d1,l2,d3,je,as,ef,w1,_]:=id h2.ex;have nI:(bV p dw dy).lookup ("has_piece":Str)=none:=uQ _ _ _ Z0 Z0 Z0;have gJ:(cQ d1 l2 d3).lookup ("has_hand":Str)=none:=ip _ _ _ Z0 Z0 Z0;apply#[_,Z,g,dx,_,Z,h1,nI,_,Z,g,p,.str n,some n,hs,ts,qs,fp,Z,G3,Z,_,Z,?_];rw[show EY (qs.map (·.1)) (some n)=true from cb (so.perm.mem_iff.mp nm)];apply aO ?_;apply#[_,Z,g,CG,dx,_,_,Z,h1,T.cl,T.nW,ki _ _ _,p,eU,_,Z,w1,gJ,_,Z,p,f n,hs,ts,bS,Z,h2,_,Z,?_];rw[cb (so.at_ n nm)];exact aO #[_,_,Z,AE]
 rintro σ H2 ⟨v2,v3,rfl,fz⟩;apply#[o,fz.at_,?_];let s2:=s1.trans (fz.oM ux);have hd2:upd H2 d (.dK (dk ns f)) d\.dK (dk ns f):=ao;generalize upd H2 d (.dK (dk ns f))=H3 at s2 hd2 ⊢;let G3:=G.same s2;let#[dx,dw,dy,vs,bS,h1,h2,h3,h4,h5,m1,m2,m3,m4,m5]:=id G3.ex;apply#[_,Z,g,dx,_,Z,h1,uQ _ _ _ Z0 Z0 Z0,g,p,hs,ts,qs,fp,Z,G3,λln An=>?_];let#[s3,e3]:=bj (o:=.lst ((qs.map (·.1)).map V.str)) An;let lV:=s3 _ _ hd2;generalize upd H3 ln (.lst ((qs.map (·.1)).map V.str))=H4 at s3 e3 lV ⊢;apply#[_,Z,d,_,Z,lV,_,Z,ln,_,Z,.inl (.of e3),Z,_,Z,?_];rw[kg,ay,ay,_O];simp only[bne_self_eq_false,decide_true,Bool.not_true];apply aO ?_;let DC:=s2.trans s3;apply#[_,Z,ln,Z,#[_,.of e3],λD hD=>?_];apply ku (own:=1) (fv:=[some (.ref d)]) (xs:=(qs.map (·.1)).map V.str) Z eL (λi out H'=>aa H4 H'/\H' D\.lst out/\og K H' out (dk ((qs.map (·.1)).take i) f)) #[aa.new hD,ao,.nil] (λi out H' _ ⟨sm,_,_⟩=>.of (sm _ _ e3)) (λout H5 ⟨sm,tm,pa⟩=>?_) (λi y out H' hy ⟨sm,ee,pa⟩=>?_)
 ·rw[ay,eX] at pa;apply#[D,out,_,Z,tm,pa,by rw[kg,ay];omega,λd' jE=>?_]
  have xP:((dk (qs.map (·.1)) f).map (·.1)).Nodup:=by
   rw[KI,w_,tX];exact nd.imp λn e=>n (gO e)
  rw[CF xP];exact k d' _ ((DC.trans sm).trans (aa.new jE)) (DC.free (sm.free jE)) ao
 let#[n,hn,rfl]:=jP hy;have hi:i<(qs.map (·.1)).length:=(cw.mp hn).1;rw[ay] at hi;have nm:n∈ns:=so.perm.mem_iff.mpr (dC hn);apply#[_,Z,Z,λNx hN=>d6 ?_];apply#[_,Z,_,Z,_,Z,d,.str (f n),Z,?_,zl,λt ht=>?_]
 ·rw[<- HR (g:=λn=>V.str (f n)) nm];exact .k (k:=Sum.inr n) (sm _ _ lV)
 let s5:=aa.new (o:=.tup [.str n,.str (f n)]) ht;let lo:=bP pa;rw[kg,dP,ay] at lo;apply#[out,s5 _ _ ee,by omega,hN _ _ #[g6 (sm.trans s5) hD,ao,?_]];have E7:upd H' t (.tup [.str n,.str (f n)]) t\.tup [.str n,.str (f n)]:=ao;have pD:∀{b:Addr} {ys:ag},upd H' t (.tup [.str n,.str (f n)]) b\.tup ys->b≠D:=λhb=>cy hb (s5 _ _ ee) nofun;rw[jQ hn];show og K _ _ (((qs.map (·.1)).take i++[n]).map _);rw[dD];exact kj (Paired.bQ pa λy kv ⟨b,z,hb⟩=>#[b,z,by rw[az (pD (s5 _ _ hb))];exact s5 _ _ hb]) (.cons #[t,Z,by rw[az (pD E7)];exact E7] .nil)
end
end Ev
namespace Ev
open PySem L2
theorem eV.has{K:af}{C:Addr}{H:Hp}{p:Addr}{hs:Xa}{ts:Xb}{fp:ai}(W:eV K C H p hs ts fp){b:Addr}(hb:b∈fp):∃o,H b\o:=by
 let#[dx,d1,l2,d3,zs,as,rfl,h1,h2,h3,h4,h5,h6,h7]:=W.ex;simp only[cq] at hb;rcases hb with rfl|rfl|rfl|rfl|hb
 ·exact#[_,h1]
 ·exact#[_,h2]
 ·exact#[_,h3]
 ·exact#[_,h5]
 let#[i,hi,e]:=mm hb;exact#[_,h7 i ((aD hs)[i]' Z1) b (cg Z1) (by rw[<- e];exact cg hi)]
section
variable{d d2:Addr}{o:Obj}{kvs:List (Key × V)}{H H' H1:Hp}{u:HO}
theorem Fz.ze(s:aa H H1):Fz d o kvs H (upd H1 d (.frz o (.dK kvs))):=#[ao,λb u ne e=>by rw[az ne];exact s _ _ e]
theorem Fz.put(f:Fz d o kvs H H')(hn:H d2=none)(ne:d2≠d):Fz d o kvs H (upd H' d2 u):=#[by rw[az ne.symm];exact f.at_,λb u nb e=>by rw[az (bu e hn)];exact f.sm b u nb e]
end
section v
theorem KA:bw ["goods","placed","hand","found","piece"] jN (aY PQ):=bD
structure pe (K:af) (CG CW:Addr) (H:Hp) (g p d:Addr) (hs:Xa) (ts:Xb) (qs:aL) (fp:ai) (f:aq):Prop where
 G:gf K CG CW H g p hs ts qs fp
 Gd:Good hs ts
 i7:d∉fp
 hd:H d\.dK (dk (qs.map (·.1)) f)
 at_:∀n∈qs.map (·.1),f n∈hs.map (·.1)
 nd:(qs.map (·.1)).Nodup
 bU:qs.length<64
abbrev vM(hs:Xa)(qs:aL)(f:aq):List (Key × V):=dI (aD hs) λh=>.int (ld f (qs.map fW) h)
inductive Ih (K:af) (CG CW:Addr) (vs:ag) (H:Hp) (Q:VK) (E:XK):Prop
 |mk:∀(g p d:Addr) (hs:Xa) (ts:Xb) (qs:aL) (fp:ai) (f:aq),vs=[.ref g,.ref d]->pe K CG CW H g p d hs ts qs fp f->(∀d' H',aa H H'->H d'=none->H' d'\.dK (vM hs qs f)->Q (.ref d') H')->Ih K CG CW vs H Q E
theorem fQ_{f CG CW CP:Addr}{fd:Ae}(F:bh K "loads_at" "loads_at" PQ f fd)(B:Bi mg)(T:dF K CG)(TW:Txt K mg CW)(cH:!bo CW 1 "hands" gy (Ct K CW))(cW:!bo CG 2 "weight" yy (Bn K CG CW CP)) :
  ak P w K mg base a9 3 f fd jN (Ih K CG CW):=by
 exists F.bG KA;let#[g,p,d,hs,ts,qs,fp,f,rfl,Pl,k]:=h;let hu:=fZ hr;let sz:=b_;have iG:ba 1 _:=hr.mono (by decide);refine' #[_,?r0,?kk]
 case' r0=>refine' ax ?s1 ?r1
 case s1=>exact bx 3 KA.nd (iP (CK Z) (by rfl) B.dict uJ %[md ["hand"] 1 [] (dO (wI cH TW.cl iG (dA (pv 0) Z))) (λfp s H=>fM (i:=0) (show (["hand"]:ae).Nodup by decide +kernel) Z (Or.inl Z)) (λfp s H=>jb) (λfp s H=>bC %[0,au|0])|0])
 case' r1=>refine' ax ?s2 ?r2
 case' s2=>refine' UR (eR eh Z ?i2 ?g2 (aF ?b2))
 case i2=>exact KL (HZ (pv 1))
 case g2=>exact o9 Z (dZ (cY 4 KA.nd) (dZ (cY 2 KA.nd) kq))
 case b2=>exact wM hu (pv 3) (pv 2) (bI g5 (ko hu (pv 3) (pv 2)) (eW cW T.cl hr (pv 0) %[4|0])) Z
 case r2=>exact aF (aZ (pv 3))
 let nl:=Pl.Gd.fD;let h8:=Pl.Gd.h8;let#[dx,dw,dy,vs,bS,h1,h2,h3,h4,h5,m1,m2,m3,m4,m5]:=id Pl.G.ex;let#[eU,d1,l2,d3,je,as,ef,w1,_]:=id h2.ex;have gJ:(cQ d1 l2 d3).lookup ("hands":Str)=none:=ip _ _ _ Z0 Z0 Z0;apply#[_,Z,g,CG,dx,_,_,Z,h1,T.cl,T.nW,ki _ _ _,p,eU,_,Z,w1,gJ,p,hs,ts,bS,Z,h2,λlh o5=>?_];let#[s1,e1]:=bj (o:=.lst ((aD hs).map V.str)) o5;generalize upd H lh (.lst ((aD hs).map V.str))=H1 at s1 e1 ⊢;apply#[lh,Z,#[_,.of e1],λD hD=>?_];apply ku (own:=1) (fv:=[]) (xs:=(aD hs).map V.str) Z eL (λi out H'=>aa H1 H'/\H' D\.lst out/\og K H' out (dI ((aD hs).take i) λ_=>.int 0)) #[aa.new hD,ao,.nil] (λi out H' _ ⟨sm,_,_⟩=>.of (sm _ _ e1)) (λout H5 ⟨sm,tm,pa⟩=>?_) (λi y out H' hy ⟨sm,ee,pa⟩=>?_);rotate_left 1
 ·let#[n,hn,rfl]:=jP hy;have hi:i<(aD hs).length:=(cw.mp hn).1;apply#[_,Z,Z,λNx hN=>d6 ?_];apply#[_,Z,zl,λt ht=>?_];let s5:=aa.new (o:=.tup [.str n,.int 0]) ht;let lo:=bP pa;rw[kg,dP] at lo;apply#[out,s5 _ _ ee,by omega,hN _ _ #[g6 (sm.trans s5) hD,ao,?_]];have E7:upd H' t (.tup [.str n,.int 0]) t\.tup [.str n,.int 0]:=ao;have pD:∀{b:Addr} {ys:ag},upd H' t (.tup [.str n,.int 0]) b\.tup ys->b≠D:=λhb=>cy hb (s5 _ _ ee) nofun;rw[jQ hn];show og K _ _ (((aD hs).take i++[n]).map _);rw[dD];exact kj (Paired.bQ pa λy kv ⟨b,z,hb⟩=>#[b,z,by rw[az (pD (s5 _ _ hb))];exact s5 _ _ hb]) (.cons #[t,Z,by rw[az (pD E7)];exact E7] .nil)
 rw[ay,eX] at pa;apply#[D,out,_,Z,tm,pa,by rw[kg];omega,λd2 hd2=>?_]
 have xP:((dI (aD hs) λ_=>V.int 0).map (·.1)).Nodup:=by
  rw[KI,w_,tX];exact Pl.Gd.sy.imp λn e=>n (gO e)
 rw[CF xP];let s2:=(s1.trans sm).trans (aa.new (o:=.dK (dI (aD hs) λ_=>V.int 0)) hd2);have e2:upd H5 d2 (.dK (dI (aD hs) λ_=>V.int 0)) d2\.dK (dI (aD hs) λ_=>V.int 0):=ao;have n2:H d2=none:=s1.free (sm.free hd2);show iy _ _ _ _ (upd H5 d2 (.dK (dI (aD hs) λ_=>V.int 0)));generalize upd H5 d2 (.dK (dI (aD hs) λ_=>V.int 0))=H6 at s2 e2 ⊢;have Qg:d2≠d:=(bu Pl.hd n2).symm;apply#[d,_,s2 _ _ Pl.hd,?_];apply#[_,Z,d,_,Z,s2 _ _ Pl.hd,λv hv=>?_];let#[s3,nC]:=bj (o:=o_ v d) hv;let e3:=s3 _ _ e2;let vB:=s2.trans s3;generalize upd H6 v (o_ v d)=H7 at s3 nC e3 vB ⊢;apply#[v,d,_,Z,nC,vB _ _ Pl.hd,λo=>?_];apply QY (λi σ H'=>∃(v2 v4:aI),σ=[some (.ref g),some (.ref d),v2,some (.ref d2),v4]/\Fz d o (dk (qs.map (·.1)) f) H H'/\H' d2\.dK (dI (aD hs) λh=>.int (ld f ((qs.take i).map fW) h))) #[none,none,Z,Fz.ze vB,by rw[az Qg];exact e3] (λi σ H' _ ⟨_,_,_,z,_⟩=>z.at_) ?_ ?_
 ·rintro i ky x σ H8 hx ⟨v2,v4,rfl,fz,e8⟩ t ht;let#[n,hn,rfl,rfl]:=JN hx
  have hi:i<qs.length:=by
   have:=(cw.mp hn).1;rwa [ay] at this
  have hq:qs[i]? = some (qs[i]'hi):=cg hi
  have en:n=(qs[i]'hi).1:=by
   rw[dQ,hq] at hn;exact (d5 hn).symm
  have fm:f n∈aD hs:=(hX hs).mem_iff.mpr (Pl.at_ n (dC hn));generalize qs[i]'hi=q at hq en;let s8:=aa.new (o:=.tup [.str n,.str (f n)]) ht;let AE:=fz.step s8;let e9:=s8 _ _ e8;have et:upd H8 t (.tup [.str n,.str (f n)]) t\.tup [.str n,.str (f n)]:=ao;show iI _ _ _ _ _ (upd H8 t (.tup [.str n,.str (f n)])) _;generalize upd H8 t (.tup [.str n,.str (f n)])=H9 at s8 AE e9 et ⊢;apply#[t,_,Z,.of et,Z,_,_,Z,_,_,Z,Z,?_];let G9:=AE.yq Pl.hd Pl.G Pl.i7;let#[dx,dw,dy,vs,bS,h1,h2,h3,h4,h5,m1,m2,m3,m4,m5]:=id G9.ex;have nI:(bV p dw dy).lookup ("weight":Str)=none:=uQ _ _ _ Z0 Z0 Z0;apply#[_,Z,_,Z,d2,.int (ld f ((qs.take i).map fW) (f n)),Z,?_,_,Z,g,dx,_,Z,h1,nI,_,Z,g,p,.str n,some n,hs,ts,qs,fp,Z,G9,Pl.nd,Z,.inl #[q,dC hq,eI some en,?_]]
  ·rw[<- HR (g:=λh=>V.int (ld f ((qs.take i).map fW) h)) fm];exact .k (k:=Sum.inr (f n)) e9
  apply#[_,_,Z,Z,_,Z,_,Z,d2,_,Z,.k (k:=Sum.inr (f n)) e9 (by rw[kg];omega),?_];apply#[_,_,Z,AE.put n2 Qg,?_];rw[ao,Us fm];congr 2;apply KD λm _=>?_
  have e5:(qs.take (i+1)).map fW=(qs.take i).map fW++[fW q]:=by
   rw[ig,hq,dD];rfl
  rw[e5,kr_];show (if m=f n then V.int (ld f ((qs.take i).map fW) (f n)+q.2.1) else V.int (ld f ((qs.take i).map fW) m))=V.int (if m=f q.1 then _ else _);rw[<- en];by_cases z:m=f n
  ·rw[aJ z,aJ z,z];rfl
  rw[aE z,aE z]
 rintro σ H8 ⟨v2,v4,rfl,fz,e8⟩;apply#[o,fz.at_,?_];rw[kg,ay,eX] at e8;exact#[_,Z,k d2 _ (fz.oM Pl.hd) n2 (by rw[az Qg];exact e8)]
end
end Ev
namespace L2
open PySem PySem.Spec PyProof.Rows PySem.W
theorem fM_{d:Addr}{o:Obj}{kvs:List (Key × V)}{g:TG}{tc:TT}{te:TE}{own:Nat}{fv:List aI}{dec:V->Hp->List aI->Prop}{D:Addr}{H:Hp}{Q:VK}{oK:St}(vN:oK=List.replicate own none++fv)(G:CU g own fv dec)(Pv:Nat->ag->Hp->Prop)
  (h0:Pv 0 [] (upd H D (.lst []))) (hl:∀i out H',i<=kvs.length->Pv i out H'->H' d\.frz o (.dK kvs)) (hd:∀out H',Pv kvs.length out H'->Q (.ref D) H')
  (FN:∀i k x out H',kvs[i]? = some (k,x)->Pv i out H'->∀t,H' t=none->∃o3,dec (.ref t) (upd H' t (.tup [kV k,x])) o3/\o3.length=own/\∀Nx:Hp->Prop,(∀lN H2,Pv (i+1) lN H2->Nx H2)->
   tc (o3++fv) (upd H' t (.tup [kV k,x])) λb H4=>if b=true then te (o3++fv) H4 λy H5=>∃fO,H5 D\.lst fO/\fO.length<sizeLine/\Nx (upd H5 D (.lst (fO++[y]))) else Nx H4) :
  Cg (Itm d o kvs) g tc te oK D H Q:=by
 apply Kf vN G kvs.length Pv h0 (λout H' p=>#[#[hl _ _ _ (br _) p,br _],hd out H' p]) λi out H' hi p=>?_;let q:=hl i out H' (Nat.le_of_lt hi) p;apply#[#[q,hi],λx H2 y=>?_];let#[t,k,v,rfl,ht,hx,rfl]:=y;exact FN i k v out H' hx p t ht
section
variable{X:Cx}
inductive r9 (xs:ag) (H:Hp) (Q:VK):Prop
 |mk:∀a kvs,xs=[.ref a]->Rd H a (.dK kvs)->(∀p,H p=none->Q (.ref p) (upd H p (.dK kvs)))->r9 xs H Q
theorem Ql:gq X (.type "dict") r9:=by
 intro pins s σ H xs us Q I r h;let#[a,kvs,rfl,hd,q]:=h;let#[u,rfl,ru]:=vals1 r;cases ru;exact i6_ I hd λp s' hp I'=>#[.ref p,_,I',Z,q p hp]
inductive rY (K:af) (x:V) (y:V) (H:Hp) (Q:VK):Prop
 |mk:∀a b xs,x=.ref a->y=.ref b->dN K H a xs->dN K H b []->Q (.bl (!xs.isEmpty)) H->rY K x y H Q
theorem U_(hu:X.A.units+0+1<cLine):dS X (compareOp .NotEq) (rY X.K):=by
 intro pins s σ H x y v u Q I rx ry h;let#[a,b,xs,rfl,rfl,t,t',hq]:=h;cases xs with
 |nil=>exact kJ_ hV hu pins s σ H (.ref a) (.ref b) v u Q I rx ry #[[],[],#[a,[],Z,t,.nil],#[b,[],Z,t',.nil],hq]
 |cons z zs=>
  cases rx;cases ry;let#[us,r,pl,_]:=I.list t;let#[vs,r',r_,_]:=I.list t';let l1:=r.length;let l2:=r'.length;exact K8.gG pl.isList r_.isList (by simp only[cX,bne_iff_ne];simp at l1 l2;omega) Z1 #[.bl true,H,I,Z,hq]
end
end L2
namespace Ev
open PySem L2
theorem Uu{A:Ag}{s:Ab}{ns:ae}{f g:aq}{vb:List (Key × Aa)}(rb:KV (dk ns g) vb):∀(ms:ae) (va:List (Key × Aa)),KV (dk ms f) va->(∀m∈ms,m∈ns)->PySem.W.KeqHits A s vb va (ms.all λn=>decide (f n=g n))
 |[],va,r,_=>by
  cases r;exact .nil
 |m::ms,va,r,h=>by
  cases r with
  |@cons _ q _ Yh h1 r=>
   let hm:=h m eP;let#[y,hy,ry]:=eC.some_of (v:=.str (g m)) (o:=valueAt vb (Sum.inr m)) (by rw[<- HR (g:=λn=>V.str (g n)) hm];exact rb.val _);let#[k,v]:=q;let#[e1,e2]:=h1;have e1:(Sum.inr m:Key)=k:=e1;subst e1;let#[t,rfl]:=(show ∃t,v=Value.str (f m) t from e2);let#[u,rfl]:=(show ∃t,y=Value.str (g m) t from ry);let q:=SeqAt.EqAt.str_str (A:=A) (s:=s) (f m) t (g m) u;rw[show (f m == g m)=decide (f m=g m) by by_cases z:f m=g m<;>simp[z]] at q
   exact .hit hy q (Uu rb ms Yh r λx hx=>h x (eA _ hx))
def lQ(a n:Int):Int:=a / (Int.gcd a n:Int) * n
theorem k4_{a n:Int}(ha:0<a)(hn:0<n):lQ a n=(Int.lcm a n:Int):=by
 let#[p,rfl]:=p_ (Int.le_of_lt ha);let#[q,rfl]:=p_ (Int.le_of_lt hn);show ((p:Int) / ((Nat.gcd p q:Nat):Int)) * (q:Int)=((Nat.lcm p q:Nat):Int);rw[<- Int.natCast_ediv,<- Int.natCast_mul,Nat.div_mul_right_comm (Nat.gcd_dvd_left p q)];rfl
def lP(ns:List Int):Int:=ns.foldl lQ 1
theorem U1:∀(ns:List Int) (a:Int),0<a->(∀n∈ns,0<n)->0<ns.foldl lQ a/\∀x:Int,0<=x->(ns.foldl lQ a ∣ x ↔ a ∣ x/\∀n∈ns,n ∣ x)
 |[],a,ha,_=>#[ha,λx _=>by simp]
 |n::ns,a,ha,h=>by
  let hn:=h n eP;let e:=k4_ ha hn
  have p:0<lQ a n:=by
   rw[e];have:=Nat.lcm_pos (m:=a.natAbs) (n:=n.natAbs) Z1 Z1;have:0<Int.lcm a n:=this;omega
  let#[h1,h2]:=U1 ns (lQ a n) p λm hm=>h m (eA _ hm);apply#[h1,λx hx=>(h2 x hx).trans ?_];let#[z,rfl]:=p_ hx;rw[e,Int.natCast_dvd_natCast,Int.lcm_dvd_iff];constructor
  ·rintro⟨⟨q1,q2⟩,q3⟩
   exact#[q1,λm hm=>by
    rcases cq.mp hm with rfl|hm
    ·exact q2
    exact q3 m hm]
  rintro⟨q1,q2⟩;exact#[#[q1,q2 n eP],λm hm=>q2 m (eA _ hm)]
theorem j0_{ns:List Int}(h:∀n∈ns,0<n):0<lP ns:=(U1 ns 1 (by decide) h).1
theorem jE_(f:aq)(x:Str × Int)(ws:Xa)(h:Str):ld f (x::ws) h=(if f x.1=h then x.2 else 0)+ld f ws h:=by
 unfold ld;by_cases e:f x.1=h
 ·simp[e]
 simp[e]
def sumF(ns:ae)(L c:Str->Int):Int:=(ns.map λh=>L h * (L h * c h)).sum
end Ev
namespace Ev
open PySem L2
theorem SS{f:aq}{h:Str}:∀{ws:Xa},(∀x∈ws,0<=x.2/\x.2<=1000000000)->ld f ws h<=1000000000 * ws.length
 |[],_=>by
  unfold ld;simp
 |x::ws,p=>by
  let h1:=p x eP;let h2:=SS (f:=f) (h:=h) (ws:=ws) λy hy=>p y (eA _ hy);rw[jE_,iO];by_cases z:f x.1=h
  ·rw[aJ z];omega
  rw[aE z];omega
def jv(hs:Xa):Int:=lP ((aD hs).map (strOf hs))
theorem JH{hs:Xa}{ts:Xb}(G:Good hs ts){n:Str}(h:n∈aD hs):1<=strOf hs n/\strOf hs n<=1000:=(G.aH _ (yI ((hX hs).mem_iff.mp h))).2
section v
theorem vt:bw ["numbers","found","number"] ["numbers"] (aY LW):=bD
def Ds(K:af):Sp:=λvs H Q _=>∃(l:Addr) (ns:List Int),vs=[.ref l]/\dN K H l (ns.map V.int)/\(∀n∈ns,1<=n/\n<=1000)/\Q (.int (lP ns)) H
theorem ip_{ns:List Int}{i:Nat}{n:Int}(h:ns[i]? = some n):lP (ns.take (i+1))=lQ (lP (ns.take i)) n:=by
 unfold lP;rw[ig,h,List.foldl_append];rfl
theorem ey_{ns:List Int}{i:Nat}{y:V}(h:(ns.map V.int)[i]? = some y):∃n,ns[i]? = some n/\y=.int n:=by
 rw[dQ] at h;cases e:ns[i]? with
 |none=>rw[e] at h;cases h
 |some n=>rw[e] at h;exact#[n,Z,(d5 h).symm]
theorem lc_{f:Addr}{fd:Ae}(F:bh K "least_multiple" "least_multiple" LW f fd)(cG:!bg 1 "greatest_divisor" pS Dt):!ak a9 2 f fd ["numbers"] (Ds K):=by
 exists F.bG vt;let#[l,ns,rfl,hl,b,k]:=h;refine' #[_,ax ?s1 (ax ?s2 (aF ?s3)),?kk]
 case s1=>exact bx 1 vt.nd au
 case s2=>exact eR eh Z (dO (pv 0)) (cY 2 vt.nd) (aF (bx 1 vt.nd (bI pW (bI yL (pv 1) (aR cG hr %[1,2|0])) (pv 2))))
 case s3=>exact aZ (pv 1)
 apply#[_,Z,l,Z,#[_,hl],gQ (K:=K) (a:=l) (xs:=ns.map V.int) (λi σ H'=>H'=H/\∃(v2:aI),σ=[some (.ref l),some (.int (lP (ns.take i))),v2]) #[Z,none,Z] (λi σ H' _ ⟨e,_⟩=>by rw[e];exact hl) ?_ ?_]
 ·rintro i y σ H' hy ⟨rfl,v2,rfl⟩;let#[n,hn,rfl]:=ey_ hy;let bn:=b n (dC hn)
  let p:=j0_ (ns:=ns.take i) λm hm=>by
   have:=b m (List.take_subset _ _ hm);omega
  apply#[_,Z,_,Z,_,Z,_,_,Z,Int.le_of_lt p,by omega,_,_,Z,Z,_Z Z1 (Int.le_trans bn.2 (by decide)),_,Z,_,_,Z,Z,.inr #[by omega,by omega],Z,some (.int n),?_];rw[ip_ hn];rfl
 rintro σ H' ⟨rfl,v2,rfl⟩;apply#[_,Z,?_];rw[ay,eX];exact k
theorem zm:bw ["web"] ["web"] (aY rD):=bD
inductive kI (K:af) (C:Addr) (vs:ag) (H:Hp) (Q:VK) (E:XK):Prop
 |mk:∀(p:Addr) (hs:Xa) (ts:Xb) (fp:ai),vs=[.ref p]->eV K C H p hs ts fp->Good hs ts->(∀H',aa H H'->Q (.int (jv hs)) H')->kI K C vs H Q E
theorem jV_{f CW:Addr}{fd:Ae}(F:bh K "multiple_of_strengths" "multiple_of_strengths" rD f fd)(TW:Txt K mg CW)(cL:!bg 2 "least_multiple" ["numbers"] (Ds K))(cH:!bo CW 1 "hands" gy (Ct K CW))(cS:!bo CW 2 "strength" ja (CB K CW)):!ak a9 3 f fd ["web"] (kI K CW):=by
 exists F.bG zm;let#[p,hs,ts,fp,rfl,W,G,k]:=h;let sz:=b_;let nl:=G.fD;let h8:=G.h8;refine' #[_,aF (aZ (aR cL hr %[md ["hand","web"] 1 [0] (dO (wI cH TW.cl (hr.mono (by decide)) (pv 0))) (λfp s H=>fM (i:=0) (show (["hand","web"]:ae).Nodup by decide +kernel) Z (Or.inl Z)) (λfp s H=>jb) (λfp s H=>?e1)|0])),?kk]
 case e1=>exact eW cS TW.cl hr (pv 1) %[0|0]
 let#[eU,d1,l2,d3,je,as,ef,w1,_]:=id W.ex;apply#[_,Z,p,eU,_,Z,w1,ip _ _ _ Z0 Z0 Z0,p,hs,ts,fp,Z,W,λlh o5=>?_];let#[s1,e1]:=bj (o:=.lst ((aD hs).map V.str)) o5;generalize upd H lh (.lst ((aD hs).map V.str))=H1 at s1 e1 ⊢;apply#[lh,Z,#[_,.of e1],λD hD=>?_];apply ku (own:=1) (fv:=[some (.ref p)]) (xs:=(aD hs).map V.str) Z eL (λi out H'=>aa H1 H'/\H' D\.lst out/\out=(((aD hs).take i).map (strOf hs)).map V.int) #[aa.new hD,ao,Z] (λi out H' _ ⟨sm,_,_⟩=>.of (sm _ _ e1)) (λout H5 ⟨sm,tm,eo⟩=>?_) (λi y out H' hy ⟨sm,ee,eo⟩=>?_)
 ·rw[ay,eX] at eo;rw[eo] at tm;apply#[D,_,Z,.of tm,λn hn=>?_,k H5 (s1.trans sm)];let#[m,hm,rfl]:=bN.mp hn;exact JH G hm
 let#[n,hn,rfl]:=jP hy;have hi:i<(aD hs).length:=(cw.mp hn).1;apply#[_,Z,Z,λNx hN=>d6 ?_];let W':=(W.same s1).same sm;let#[eU,d1,l2,d3,je,as,ef,w1,_]:=id W'.ex;apply#[_,Z,p,eU,_,Z,w1,ip _ _ _ Z0 Z0 Z0,_,Z,p,n,strOf hs n,hs,ts,fp,Z,W',G.yb,yI ((hX hs).mem_iff.mp (dC hn)),?_];apply#[out,ee,by rw[eo,ay,ay,dP];omega,hN _ _ #[g6 sm hD,ao,?_]];rw[jQ hn,dD,dD,eo];rfl
theorem Hi:bw ["goods","placed","multiple","found","hand","load"] jN (aY O7):=bD
def uu(hs:Xa)(qs:aL)(f:aq)(h:Str):Int:=ld f (qs.map fW) h * (jv hs / strOf hs h)
inductive KJ (K:af) (CG CW:Addr) (vs:ag) (H:Hp) (Q:VK) (E:XK):Prop
 |mk:∀(g p d:Addr) (hs:Xa) (ts:Xb) (qs:aL) (fp:ai) (f:aq),vs=[.ref g,.ref d]->pe K CG CW H g p d hs ts qs fp f->(∀q∈qs,0<=q.2.1/\q.2.1<=1000000000)->(∀d' H',aa H H'->H d'=none->H' d'\.dK (dI (aD hs) λh=>.int (uu hs qs f h))->Q (.ref d') H')->KJ K CG CW vs H Q E
theorem Jo{qs:aL}(wp:∀q∈qs,0<=q.2.1/\q.2.1<=1000000000)(bU:qs.length<64)(f:aq)(h:Str):0<=ld f (qs.map fW) h/\ld f (qs.map fW) h<=64000000000:=by
 have p:∀x∈qs.map fW,0<=x.2/\x.2<=1000000000:=λx hx=>by
  let#[q,hq,rfl]:=bN.mp hx;exact wp q hq
 let h1:=SS (f:=f) (h:=h) p;rw[ay] at h1;exact#[kI_ λx hx=>(p x hx).1,by omega]
theorem hp_{f CG CW:Addr}{fd:Ae}(F:bh K "levels_at" "levels_at" O7 f fd)(T:dF K CG)(TW:Txt K mg CW)(cL:!bg 3 "loads_at" jN (Ih K CG CW))(cM:!bg 3 "multiple_of_strengths" ["web"] (kI K CW))(cS:!bo CW 2 "strength" ja (CB K CW)) :
  ak P w K mg base a9 4 f fd jN (KJ K CG CW):=by
 exists F.bG Hi;let#[g,p,d,hs,ts,qs,fp,f,rfl,Pl,wp,k]:=h;let hu:=fZ hr;let sz:=b_;have sO:ba 2 _:=hr.mono (by decide);refine' #[_,?r0,?kk]
 case' r0=>refine' ax ?s0 (ax ?s1 (ax ?s2 ?r2))
 case s0=>exact bx 2 Hi.nd (aR cM hr %[dA (pv 0) Z|0])
 case s1=>exact bx 3 Hi.nd Bf
 case' s2=>refine' eR eh Z ?i2 ?g2 (aF ?b2)
 case i2=>exact KL (HZ (aR cL hr %[0,1|0]))
 case g2=>exact o9 Z (dZ (cY 4 Hi.nd) (dZ (cY 5 Hi.nd) kq))
 case b2=>exact wM hu (pv 3) (pv 4) (bI pW (pv 5) (bI yL (pv 2) (eW cS TW.cl sO (dA (pv 0) Z) %[4|0]))) Z
 case r2=>exact aF (aZ (pv 3))
 let nl:=Pl.Gd.fD;let h8:=Pl.Gd.h8;let#[dx,dw,dy,vs,bS,h1,h2,_]:=id Pl.G.ex;apply#[_,Z,g,CG,dx,_,_,Z,h1,T.cl,T.nW,ki _ _ _,p,hs,ts,bS,Z,h2,Pl.Gd,λH0 s0=>?_];intro d2 hd2;let s1:=s0.trans (aa.new (o:=.dK []) hd2);have e1:upd H0 d2 (.dK []) d2\.dK []:=ao;have n2:H d2=none:=s0.free hd2;show iy _ _ _ _ (upd H0 d2 (.dK []));generalize upd H0 d2 (.dK [])=H1 at s1 e1 ⊢;have Rv:pe K CG CW H1 g p d hs ts qs fp f:=#[Pl.G.same s1,Pl.Gd,Pl.i7,s1 _ _ Pl.hd,Pl.at_,Pl.nd,Pl.bU];apply#[_,Z,_,Z,g,p,d,hs,ts,qs,fp,f,Z,Rv,λdl H2 s2 JA e2=>?_];apply#[dl,_,Z,e2,λv hv=>?_];let#[s3,nC]:=bj (o:=o_ v dl) hv;let e3:=s3 _ _ e2;let pF:=s2.trans s3;generalize upd H2 v (o_ v dl)=H3 at s3 nC e3 pF ⊢;have BJ:H dl=none:=s1.free JA;have WN:d2≠dl:=bu e1 JA;apply#[v,dl,_,Z,nC,e3,λo=>?_];apply QY (λi σ H'=>∃(v4 v5:aI),σ=[some (.ref g),some (.ref d),some (.int (jv hs)),some (.ref d2),v4,v5]/\aa H H'/\H' dl\.frz o (.dK (vM hs qs f))/\H' d2\.dK (dI ((aD hs).take i) λh=>.int (uu hs qs f h))) #[none,none,Z,g6 (s1.trans pF) BJ,ao,by rw[az WN];exact pF _ _ e1] (λi σ H' _ ⟨_,_,_,_,z,_⟩=>z) ?_ ?_
 ·rintro i ky x σ H8 hx ⟨v4,v5,rfl,s8,f8,e8⟩ t ht;let#[n,hn,rfl,rfl]:=JN hx;have hi:i<(aD hs).length:=(cw.mp hn).1;have nm:n∈hs.map (·.1):=(hX hs).mem_iff.mp (dC hn);let sm:=yI nm;let sg:=JH Pl.Gd (dC hn);let lo:=Jo wp Pl.bU f n;let ss:=aa.new (o:=.tup [.str n,.int (ld f (qs.map fW) n)]) ht;let s9:=s8.trans ss;let e9:=ss _ _ e8;let f9:=ss _ _ f8;have et:upd H8 t (.tup [.str n,.int (ld f (qs.map fW) n)]) t\.tup [.str n,.int (ld f (qs.map fW) n)]:=ao;show iI _ _ _ _ _ (upd H8 t (.tup [.str n,.int (ld f (qs.map fW) n)])) _;generalize upd H8 t (.tup [.str n,.int (ld f (qs.map fW) n)])=H9 at ss s9 e9 f9 et ⊢;apply#[t,_,Z,.of et,Z,_,_,Z,_,_,Z,Z,?_];let G9:=Pl.G.same s9;let#[dx,dw,dy,vs,bS,h1,h2,h3,h4,h5,m1,m2,m3,m4,m5]:=id G9.ex;let#[eU,d1,l2,d3,je,as,ef,w1,_]:=id h2.ex;have gJ:(cQ d1 l2 d3).lookup ("strength":Str)=none:=ip _ _ _ Z0 Z0 Z0;apply#[_,Z,_,Z,_,Z,g,CG,dx,_,_,Z,h1,T.cl,T.nW,ki _ _ _,p,eU,_,Z,w1,gJ,_,Z,p,n,strOf hs n,hs,ts,bS,Z,h2,Pl.Gd.yb,sm,?_];apply#[_,_,Z,Z,#[by omega,by omega],_,_,Z,Z,.inl #[by omega,by omega],_,Z,_,Z,d2,_,Z,.k (k:=Sum.inr n) e9 (by rw[kg,dP];omega),?_];apply#[_,_,Z,g6 s9 n2,by rw[az WN.symm];exact f9,?_];rw[ao,jQ hn,Ux (PU Pl.Gd.sy hn)];congr 2;apply KD λm _=>?_;by_cases z:m=n
  ·subst z;simp[uu]
  simp[z]
 rintro σ H8 ⟨v4,v5,rfl,s8,f8,e8⟩;rw[kg,eX] at e8;exact#[_,Z,k d2 H8 s8 n2 e8]
end
end Ev
namespace L2
open PySem PySem.Spec PyProof.Rows
section
variable{M:Model}{A:Ag}{E:Aa->Ab->Prop}{s:Ab}
end
section
variable{X:Cx}{E:XK}
end
section v
section
variable{N:ae}{qual:Str}{scope:Scope}{f:Addr}{cd:Aa}{A:Ag}{outer:List Env}{s:Ab}{H:Hp}{E:XK}
end
end
end L2
namespace L2
open PySem PySem.Spec PySem.Calls PyProof.Rows PySem.W
section
variable{M:Model}{A:Ag}{E:Aa->Ab->Prop}{s:Ab}{base:Heap}{env:Env}{outer:List Env}{L e:Addr}{cls a0:Aa}{Q:Unit->Ab->Prop}
def oy(h base:Heap)(e:Addr)(cls a0:Aa)(dd:Option Addr):Prop:=∃oe vs T oT ts,h.get? e\oe/\(oe.cls=cls/\vs[0]? = some a0)/\oe.data=Data.fields vs/\vs[1]? = some (Value.ref T)/\base.get? T=none/\T≠e/\h.get? T\oT/\oT.data=Data.fields ts/\ts[3]? = some Value.none/\oe.dict=dd
def wO(base:Heap)(l:List Env)(e:Addr)(cls a0:Aa)(dd:Option Addr)(h:Heap):Prop:=base.StaysIn h/\base.get? e=none/\h.FunFrames base l/\oy h base e cls a0 dd
theorem oS{oe:Obj}{vs:Array Aa}{head:Aa}{vZ:Bool}(FP:A.frames\(env::outer))(hl:s.heap.FunFrames base (env::outer))(hf:env.frame\L)(he:s.heap.get? e\oe)(T3:base.StaysIn s.heap)(hen:base.get? e=none)(hd:oe.data=Data.fields vs)(hsz:1<vs.size)(h0:vs[0]? = some a0)
  (h:∀h',base.StaysIn h'->h'.FunFrames base (env::outer)->oy h' base e oe.cls a0 oe.dict->s.heap.UpToSlots h'->Q () { s with heap:=h' }) :
  wpAny M A (do
   let a <- PySem.frameOf env
   let pl <- entryPlaceOf L vZ
   let b <- EntryCells.newEntry head a Value.none (rawInt L) Value.none pl
   setField (Value.ref e) 1 b) (λ_ s'=>wpAny M A (setFlight (Value.ref e) none) Q E s') E s:=by
 have NF:e∉List.filterMap (λx=>x.frame) (env::outer):=λhm=>by
  let#[_,o,ho,hnf]:=Heap.FunFrames.mem hl hm;rw[he] at ho;cases ho;exact hnf vs hd
 apply aC (wpAny_frameOf_fun FP hl hf λbY nF=>aC (wpAny_entryPlaceOf λpl iY=>?_));unfold EntryCells.newEntry newFields;have MY:bY.objs.size=s.heap.objs.size:=nF.1;let FS:=(nF.right.left e NF).trans he;have dG:∀b o,s.heap.get? b\o->b≠bY.objs.size:=λb o q=>dY (by rw[MY];exact cm q)
 have Ul:base.get? bY.objs.size=none:=by
  cases q:base.get? bY.objs.size with
  |none=>rfl
  |some o=>exact absurd Z (dG _ o (T3 _ o q))
 have gL:∀b o,base.get? b\o->bY.get? b\o:=λb o q=>(nF.right.left b (λhm=>by
  have:=(Heap.FunFrames.mem hl hm).1;rw[q] at this;cases this)).trans (T3 b o q)
 obtain⟨pC,BN,Jr⟩:∃pC:Array Aa,([head,Value.ref L,Value.none,rawInt ↑L,Value.none]++if pl.isEmpty=true then List.replicate 6 Value.none else pl).toArray=pC/\3<pC.size:=#[_,Z,by simp]
 have E5:pC.size<=sizeLine+2:=by
  rw[<- BN];rcases iY with rfl|⟨a,b,c,d,c9,oq,_,rfl⟩
  ·show 11<=sizeLine+2;decide
  show 11<=sizeLine+2;decide
 apply aC (uB ?_ (by rw[BN];exact E5));rw[BN];have yi:(bY.push { cls:=Value.type "traceback",data:=Data.fields pC }).get? e\oe:=cc _ FS;have Fn:(bY.push { cls:=Value.type "traceback",data:=Data.fields pC }).get? bY.objs.size=some { cls:=Value.type "traceback",data:=Data.fields pC }:=eJ bY Z;have FZ:bY.objs.size≠e:=(dG e oe he).symm;apply wpAny_setField yi hd hsz ?_;let sU:=Obj.data_mapFields hd λx=>x.setIfInBounds 1 (Value.ref bY.objs.size);let yg:=Heap.get?_update_self (Obj.mapFields λx=>x.setIfInBounds 1 (Value.ref bY.objs.size)) yi (Obj.isFreed_of_fields sU);let ya:=(l8 (bY.push { cls:=Value.type "traceback",data:=Data.fields pC }) (Obj.mapFields λx=>x.setIfInBounds 1 (Value.ref bY.objs.size)) FZ.symm).trans Fn;unfold setFlight;apply aC (wpAny_field (x:=.ref bY.objs.size) yg sU (by simp[hsz]) ?_);rw[aJ Z2];apply wpAny_setField ya Z Jr ?_;let yj:=Obj.data_mapFields (o:={ cls:=Value.type "traceback",data:=Data.fields pC }) Z λx=>x.setIfInBounds 3 Value.none;let Fm:=Heap.get?_update_self (Obj.mapFields λx=>x.setIfInBounds 3 Value.none) ya (Obj.isFreed_of_fields yj);let FQ:=(l8 ((bY.push { cls:=Value.type "traceback",data:=Data.fields pC }).update e (Obj.mapFields λx=>x.setIfInBounds 1 (Value.ref bY.objs.size))) (Obj.mapFields λx=>x.setIfInBounds 3 Value.none) FZ).trans yg
 have xN:∀b o,b≠e->b≠bY.objs.size->bY.get? b\o->(((bY.push { cls:=Value.type "traceback",data:=Data.fields pC }).update e (Obj.mapFields λx=>x.setIfInBounds 1 (Value.ref bY.objs.size))).update bY.objs.size (Obj.mapFields λx=>x.setIfInBounds 3 Value.none)).get? b\o:=λb o n1 n2 q=>
  (l8 _ _ n2.symm).trans ((l8 _ _ n1.symm).trans (cc _ q))
 have Ue:((Obj.mapFields λx=>x.setIfInBounds 1 (Value.ref bY.objs.size)) oe).cls=oe.cls/\((Obj.mapFields λx=>x.setIfInBounds 1 (Value.ref bY.objs.size)) oe).dict=oe.dict:=by
  let#[c,dt,da,sl]:=oe;have:da=Data.fields vs:=hd;subst this;exact#[Z,Z]
 have ups:∀b o,s.heap.get? b\o->(∀vs,o.data≠Data.fields vs)->∃sl,(((bY.push { cls:=Value.type "traceback",data:=Data.fields pC }).update e (Obj.mapFields λx=>x.setIfInBounds 1 (Value.ref bY.objs.size))).update bY.objs.size (Obj.mapFields λx=>x.setIfInBounds 3 Value.none)).get? b=some { cls:=o.cls,dict:=o.dict,data:=o.data,slots:=sl }:=λb o q nf=>by
  let#[sl,q1]:=nF.right.right b o q;apply#[sl,xN b _ (λz=>?_) (dG b o q) q1];subst z;rw[he] at q;cases q;exact nf vs hd
 apply h _ (λb o q=>xN b o (λz=>?_) (λz=>?_) (gL b o q)) (Heap.FunFrames.of_keeps (λb o q nf=>?_) hl) #[_,_,bY.objs.size,_,_,FQ,#[Ue.1,?_],sU,?_,Ul,FZ,Fm,yj,?_,Ue.2] ups
 ·subst z;rw[hen] at q;cases q
 ·subst z;rw[Ul] at q;cases q
 ·let#[sl,q1]:=ups b o q nf;exact#[_,q1,Z]
 ·rw[Array.getElem?_setIfInBounds];simpa using h0
 ·simp[hsz]
 simp[Jr]
theorem wO.less{dd:Option Addr}{h:Heap}(f:wO base (env::outer) e cls a0 dd h):wO base outer e cls a0 dd h:=#[f.1,f.2.1,f.2.2.1.2.2,f.2.2.2]
theorem dN_{dd:Option Addr}(FP:A.frames\(env::outer))(hf:env.frame\L)(vV:wO base (env::outer) e cls a0 dd s.heap)
  (hQ:∀h',wO base (env::outer) e cls a0 dd h'->s.heap.UpToSlots h'->Q () { s with heap:=h' }):wpAny M A (noteFrame (Value.ref e) env) (λ_ g9=>wpAny M A (setFlight (Value.ref e) none) Q E g9) E s:=by
 let#[f1,f2,f3,oe,vs,T,oT,ts,he,#[hc,h0],hd,h1,hnT,FZ,hT,NN,h3,As]:=vV;unfold noteFrame;rw[hf];dsimp only;apply aC (wpAny_field he hd h1 ?_);rw[aJ Z2];apply aC (wpAny_field hT NN h3 ?_);rw[aE (by simp[rawInt])];apply aC (wpAny_setField hT NN (Array.getElem?_eq_some_iff.mp h3).1 ?_);have other:∀b,b≠T->(s.heap.update T (Obj.mapFields λx=>x.setIfInBounds 3 Value.none)).get? b=s.heap.get? b:=λb hb=>l8 _ _ hb.symm
 have Ez:∀b o,s.heap.get? b\o->(∀vs,o.data≠Data.fields vs)->b≠T:=λb o q nf z=>by
  subst z;rw[hT] at q;cases q;exact nf ts NN
 apply oS (base:=base) (s:={ s with heap:=s.heap.update T (Obj.mapFields λx=>x.setIfInBounds 3 Value.none) }) FP (Heap.FunFrames.of_keeps (λb o q nf=>#[o,(other b (Ez b o q nf)).trans q,Z]) f3) hf ((other e FZ.symm).trans he) (λb o q=>(other b (λz=>?_)).trans (f1 b o q)) f2 hd (Array.getElem?_eq_some_iff.mp h1).1 h0 λh' g1 g2 g3 g4=>?_
 ·subst z;rw[hnT] at q;cases q
 apply hQ h' #[g1,f2,g2,?_] λb o q nf=>g4 b o ((other b (Ez b o q nf)).trans q) nf;rw[hc,As] at g3;exact g3
theorem fE_{dd:Option Addr}(FP:A.frames\(env::outer))(hf:env.frame\L)(vV:wO base (env::outer) e cls a0 dd s.heap)
  (hQ:∀h',wO base outer e cls a0 dd h'->s.heap.UpToSlots h'->Q () { s with heap:=h' }):wpAny M A (leaving env (Value.ref e)) Q E s:=by
 unfold leaving;exact aC (dN_ FP hf vV λh' f u=>hQ h' f.less u)
end
end L2
namespace L2
open PySem PySem.Spec PySem.Calls PyProof.Rows PySem.W
section
variable{prog:Ad}{w:Af}{A:Ag}{E:Aa->Ab->Prop}{h:Heap}{g:Array GenState}{d:Drawn}{t:Nat}{os:OsState}{nm q:Str}{C N f:Addr}{bs bm Xg:aj}{NL:Bool}{sn:ae}{sub:aj}{ab:Bool}{col:Option Bool}{dd:Option Addr}{k0 k1 k2 k3 k5:Option Aa}{B newId zU:String}{K:af}{rest:aj}
end
end L2
namespace L2
open PySem PySem.Spec PySem.Calls PyProof.Rows PySem.W Builtin Builtin.ObjectAttr
def AI(C CE:Addr):aj:=[.ref C,.ref CE,.type "ValueError",.type "Exception",.type "BaseException",.type "object"]
section
variable{prog:Ad}{w:Af}{A:Ag}{E:Aa->Ab->Prop}{s:Ab}{K:af}{x C CE:Addr}{ox:Obj}{od:Option Obj}{name:Str}{tk:Tok}{v:Aa}{cd:ClassData}
end
end L2
namespace L2
open PySem PySem.Spec PySem.Calls PyProof.Rows PySem.W
section
variable{M:Model}{A:Ag}{E:Aa->Ab->Prop}{s:Ab}{env:Env}{nm q:Str}{C N:Addr}{bs bm:aj}{NL:Bool}{sn:ae}{sub:aj}{ab:Bool}{col:Option Bool}{dd:Option Addr}{k0 k1 k2 k3 k5:Option Aa}{newId:String}
end
end L2
namespace L2
open PySem PySem.Spec PySem.Calls PyProof.Rows PySem.W
def AJ(K:af)(C:Addr)(Xg:aj)(newId:String):Bool:=
 match K.lookup C with
 |some ⟨.type "type",_,.cls cd,sl⟩=>
  match cd.mro,sl.toList with
  |.ref C'::bm,[_,_,_,_,some (.builtin n),_]=>C' == C&&n == newId&&!cd.hasDel&&tailIn K Xg bm&&nsOkIn K cd.ns
  |_,_=>false
 |_=>false
def Qt(K:af)(C CE:Addr):Bool:=
 match clsIn K C with
 |some cd=>cd.mro == AI C CE&&cd.hasDict
 |none=>false
structure ExO (K:af) (C CE:Addr):Prop where
 kx:Rz K C
 ex:AJ K C bmV "ValueError.__new__"=true
 es:findIn K (.ref C) "__setattr__"\some (.builtin "object.__setattr__")
 cl:Qt K C CE=true
structure ExF (K:af) (C:Addr) (f:Str):Prop where
 tk:takerIn K C f\none
 fd:findIn K (.ref C) f\none
structure ExB (K:af) (CE:Addr):Prop where
 sp:specialIn K (.ref CE) "__getattribute__"\some (.builtin "type.__getattribute__")
 rd:readsIn K CE (.type "type")=true
 fc:findCls K (.ref CE) (.type "type") "__init__"\.val (.builtin "ValueError.__init__")
section
variable{P:Ad}{w:Af}{H:Hp}{h:Heap}{e C a0 d:Addr}{dd:Option Addr}{fs:List (Str × V)}
end
section
variable{X:Cx}{C CE:Addr}{x f:Str}{p apos pos pos':Pos}{o e value:Expr}{es:List Expr}{ta tv:TE}{t:TA}
end
end L2
namespace L2
open PySem PySem.Spec PySem.Calls PyProof.Rows PySem.W
def Bx(P:Ad)(w:Af):j2:=λl H s E e s'=>
 ∃a cls H' B a0 dd,e=Value.ref a/\s'.os=s.os/\AllBare s'.gens/\Un (gM l) [] H H' s.heap s'.heap/\eD P w H' s'.heap/\wO B l a cls a0 dd s'.heap/\CQ B l H' s.heap s'.heap/\E cls dd H'
section
variable{X:Cx}{pins:List (Addr × Obj)}{σ:St}{H H':Hp}{s s1:Ab}{B h:Heap}{a:Addr}{cls a0:Aa}{dd:Option Addr}{E:XK}
theorem fV_(I:Inv X pins σ H s)(hex:X.ex=[])(os:s1.os=s.os)(bare:AllBare s1.gens)(un:Un (gM X.stack) [] H H' s.heap h)(aH:eD X.prog X.w H' h)(i:CQ B X.stack H' s.heap h)(ff:h.FunFrames B X.stack)(up:h.UpToSlots s1.heap)
  (fl:wO B X.outer a cls a0 dd s1.heap) (hE:E cls dd H'):Bx X.prog X.w X.outer X.iT X.cz E (.ref a) s1:=by
 let Yp:=iQ_ un ff i fl.1 up;let M6:=hs_ aH (io_ I un) i fl.1;have I1:Inv X pins σ H' s1:=I.yF os Yp M6 bare (λb z=>absurd z Z2);let bs:=I1.base;rw[hex] at bs;apply#[a,cls,H',B,a0,dd,Z,I1.os,I1.bare,bs,I1.aH,fl,λb o e hb c=>?_,hE]
 have nL:b≠X.env.locals:=by
  rcases c with z|⟨o0,z⟩
  ·intro q;rw[q,I1.free] at z;cases z
  exact dY (iQ (cm z) I.ok.above)
 apply ia_ aH un i fl.1 b o e (λhm=>?_) (c.imp id λ⟨o0,z⟩=>I.base.there b o0 z (by rw[hex];simp));rcases cq.mp (I.iz b hm) with z|z
 ·exact nL z
 exact hb z
end
section
variable{P:Ad}{w:Af}{K:af}{mg:Str->Option Aa}{base:Heap}{N:ae}{qual:Str}{scope:Scope}{f:Addr}{cd:Aa}{A:Ag}{outer:List Env}{s:Ab}{H:Hp}{E:XK}
end
section
variable{X:Cx}{x:Str}{C f:Addr}{fd:Ae}{ps:ae}{sp:Sp}{k:Nat}{np cn pos:Pos}{e:Expr}{es:List Expr}{t:TA}{E:XK}
end
end L2
namespace L2
open PySem PySem.Spec PySem.Calls PyProof.Rows PySem.W
section
variable{X:Cx}{i:Nat}{x n:Str}{D C:Addr}{np zZ pos:Pos}{Bd:Stmt}{qy body:List Stmt}{tb:XK->TS}{ts:TS}{rest:List ExceptHandler}
end
end L2
namespace L2
open PySem PySem.Spec PySem.Calls PyProof.Rows PySem.W
section
variable{P:Ad}{w:Af}{K:af}{mg:Str->Option Aa}{base:Heap}{N:ae}{qual:Str}{scope:Scope}{f:Addr}{cd:Aa}{A:Ag}{outer:List Env}{s:Ab}{H:Hp}{E:XK}
end
section
variable{X:Cx}{i:Nat}{x x2 n:Str}{D C D2 C2:Addr}{np zZ np2 TN pos:Pos}{Bd c₀:Stmt}{qy LJ body:List Stmt}{tb:XK->TS}{ts ts2:TS}
end
section
variable{X:Cx}
end
end L2
namespace L2
open PySem PySem.Spec PySem.Calls PyProof.Rows PySem.W
section
variable{X:Cx}{i:Nat}{x n:Str}{D:Addr}{ok:Addr->Prop}{np zZ pos:Pos}{Bd:Stmt}{qy body:List Stmt}{tb:XK->TS}{ts:TS}
end
end L2
namespace L2
open PySem PySem.Spec PySem.Calls PyProof.Rows PySem.W
end L2
namespace L2
open PySem PySem.Spec PyProof.Rows
section
variable{X:Cx}
end
section
variable{X:Cx}{k:Nat}{ps:ae}{x:Str}{p pos:Pos}{e:Expr}{es:List Expr}{tn:TE}{t:TA}
end
end L2
namespace L2
open PySem PySem.Spec PyProof.Rows PySem.W
structure Hk (ps cK:ae) (scope:Scope):Prop where
 nd:(ps++cK).Nodup
 kind:scope.kind=.function
 co:scope.isCoroutine=false
 gen:scope.isGenerator=false
 par:∀p∈ps,scope.names.lookup p\.local
 fv:∀x∈cK,scope.names.lookup x\.free
 all:∀x,scope.names.lookup x\.free->x∈cK
 sx:∀x∈scope.names,x.2≠.cell
def Ca(CX:j2)(P:Ad)(w:Af)(K:af)(mg:Str->Option Aa)(base:Heap)(N:ae)(qual:Str)(scope:Scope)(f:Addr)(cd:Aa)(cl:List (Str × Addr))(A:Ag)(outer:List Env)(s:Ab)(H:Hp)(E:XK):Cx where
 prog:=P
 w:=w
 K:=K
 mg:=mg
 base:=base
 A:=A.deeper (envX qual scope s.heap.objs.size f cd cl)
 N:=N
 cz:=s
 iT:=H
 env:=envX qual scope s.heap.objs.size f cd cl
 outer:=outer
 stack:=envX qual scope s.heap.objs.size f cd cl::outer
 ex:=[]
 calm:=true
 fn:=λ_=>false
 pn:=[]
 xe:=λe s'=>wpAny (model P w) (A.deeper (envX qual scope s.heap.objs.size f cd cl)) (leaving (envX qual scope s.heap.objs.size f cd cl) e) (λ_ pG=>CX outer H s E e pG) (λe' pG=>CX outer H s E e' pG) s'
theorem VA{x:Str}{u:Aa}:∀{l:List (Str × Aa)},(l.map (·.1)).Nodup->(x,u)∈l->l.lookup x\u
 |(y,v)::l,nd,h=>by
  let n:=p7.mp nd;rcases cq.mp h with e|h
  ·cases e;simp[List.lookup]
  have ne:x≠y:=λz=>n.1 (by rw[<- z];exact bN.mpr #[_,h,Z]);have:(x == y)=false:=⇑ne
  rw[tW,this];exact VA n.2 h
theorem UT:∀(ps:ae) (us:aj),((ps.zip us).map (·.1)).Sublist ps
 |[],_=>by simp
 |_::_,[]=>by simp
 |p::ps,u::us=>by
  simp only[List.zip_cons_cons,fi];exact (UT ps us).cons₂ p
theorem d3_{ps:ae}{us:aj}{i:Nat}{x:Str}{u:Aa}(nd:ps.Nodup)(h1:ps[i]? = some x)(h2:us[i]? = some u):(ps.zip us).reverse.lookup x\u:=by
 apply VA ?_ (List.mem_reverse.mpr (dC (i:=i) ?_))
 ·rw[List.map_reverse];apply (List.reverse_perm _).nodup_iff.mpr (nd.sublist ?_);exact UT ps us
 rw[List.getElem?_zip_eq_some];exact#[h1,h2]
structure KQ (cK:ae) (cl:List (Str × Addr)) (gs:ag) (h:Heap):Prop where
 inj:∀x y c,cl.lookup x\c->cl.lookup y\c->x=y
 has:∀x∈cK,∃c,cl.lookup x\c
 all:∀x c,cl.lookup x\c->∃v,h.IsCell c v
 is:∀(i:Nat) x v,cK[i]? = some x->gs[i]? = some v->∃c u,cl.lookup x\c/\RelV v u/\h.IsCell c (some u)
theorem IsCell.keeps{h h':Heap}{c:Addr}{v:Option Aa}(x:h.IsCell c v)(k:∀o,h.get? c\o->h'.get? c\o):h'.IsCell c v:=let #[o,e,d]:=x;#[o,k o e,d]
theorem kf_{CX:j2}{P:Ad}{w:Af}{K:af}{mg:Str->Option Aa}{base:Heap}{ps cK:ae}{qual:Str}{scope:Scope}{f:Addr}{cd:Aa}{cl:List (Str × Addr)}{A:Ag}{outer:List Env}{s:Ab}{H:Hp}{E:XK}{us:aj}{vs gs:ag}{h1:Heap}{tk:Nat}
  (S:Hk ps cK scope) (hd:A.handled=none) (e0:hY P w K mg base A outer s H) (hl:vs.length=ps.length) (hg:gs.length=cK.length) (r:Vals vs us) (C:KQ cK cl gs s.heap) (fc:∀x c,cl.lookup x\c->H c=none)
  (ns:h1.Ns s.heap.objs.size λx=>(ps.zip us).reverse.lookup x) (k:∀b o,s.heap.get? b\o->h1.get? b\o) :
  Inv (Ca CX P w K mg base (ps++cK) qual scope f cd cl A outer s H E) [] (vs.map some++gs.map some) H { s with heap:=h1,toks:=tk }:=by
 have vI:∀b:Addr,b∉(Ca CX P w K mg base (ps++cK) qual scope f cd cl A outer s H E).ex:=λb z=>absurd (show b∈([]:ai) from z) Z2
 apply#[#[e0.mod,S.kind,Z,Z,br _,C.inj,λy hy=>?_,λy c h=>(by cases h),λ_=>hd,Around.frames_deeper e0.frames,.inr #[Z,Z],λb z=>absurd z (vI b),e0.bs,e0.tS,λb _ _=>vI b,λb z=>absurd z (vI b),e0.fF,e0.wb],
  rfl,e0.bare,Un.kept k,#[_,ns,λi y v nQ h2 h3=>?_],λy c h=>?_,e0.aH.fresh (br _),fc,λp hp=>absurd (show p∈([]:List (Addr × Obj)) from hp) Z2,e0.aH.kept k,?_]
 ·have hy:scope.names.lookup y\.cell∨scope.names.lookup y\.free:=hy;rcases hy with hy|hy
  ·exact absurd Z (S.sx _ (pd hy))
  exact C.has y (S.all y hy)
 ·have nQ:(ps++cK)[i]? = some y:=nQ;by_cases hi:i<ps.length
  ·rw[yT hi] at nQ;rw[yT (by simpa [hl] using hi),dQ] at h2;let#[v',hv,e]:=Option.map_eq_some_iff.mp h2;cases e;let#[u,hu,rv]:=r.get hv;apply#[u,rv,.inl #[S.par y (dC nQ),?_]];have Jj:ps.Nodup:=(List.nodup_append.mp S.nd).1;show (ps.zip us).reverse.lookup y\u;exact d3_ Jj nQ hu
  rw[xa Z1] at nQ;rw[xa (by simp[hl];omega),dQ,ay,hl] at h2;let#[v',hv,e]:=Option.map_eq_some_iff.mp h2;cases e;let#[c,u,e1,rv,ce]:=C.is _ _ _ nQ hv;exact#[u,rv,.inr #[.inr (S.fv y (dC nQ)),c,e1,IsCell.keeps ce λo e=>k _ _ e]]
 ·let#[v,ce]:=C.all y c h;exact#[v,IsCell.keeps ce λo e=>k _ _ e]
 show _=(ps++cK).length;rw[dW,dW,ay,ay,hl,hg]
theorem jJ_{CX:j2}{P:Ad}{w:Af}{K:af}{mg:Str->Option Aa}{base:Heap}{k:Nat}{ps cK:ae}{qual:Str}{params:Arguments}{body:PySem.Expr}{scope:Scope}{f c':Addr}{pm jI:Aa}{cl:List (Str × Addr)}{A:Ag}{outer:List Env}{s:Ab}{H:Hp}{Q:VK}{E:XK}{us:aj}{vs gs:ag}{t:TE}
  (S:Hk ps cK scope) (hr:ba (k+1) A) (e0:hY P w K mg base A outer s H) (hf:s.heap.get? f\kla_obj "<lambda>" qual params body scope cl pm c' jI) (gK:s.heap.CodeRec (.ref c') qual)
  (hb:bindArgs (kla_fn "<lambda>" qual params body scope cl pm (.ref c') jI) #[us,[]]=pure (ps.zip us)) (hl:vs.length=ps.length) (hg:gs.length=cK.length) (r:Vals vs us) (C:KQ cK cl gs s.heap) (fc:∀x c,cl.lookup x\c->H c=none)
  (ht:ba k (A.deeper (envX qual scope s.heap.objs.size f (.ref c') cl))->PE (Ca CX P w K mg base (ps++cK) qual scope f (.ref c') cl A outer s H E) body t) (hq:t (vs.map some++gs.map some) H Q) :
  codeAny (model P w) A (.call (.ref f) #[us,[]]) (CR CX outer P w H s Q E) s:=by
 have lim:s.heap.NoLimit:=e0.mod.nolimit.keeps λb o e=>(e0.bs b o e).1;apply kla_callFunE hr.depth hf Z S.co S.gen Z gK ?_;rw[hb];apply bA (wpAny_newFunctionEnv S.sx (λx hx=>?_) (λh1 ns sb=>?_) S.kind)
 ·exact S.par x.1 (List.of_mem_zip hx).1
 have k1:∀b o,s.heap.get? b\o->h1.get? b\o:=λb o e=>sb.extBut b o (dY (cm e)) (cc _ e);apply#[lim.keeps k1,?_];show codeAny _ _ (.expr body (envX qual scope s.heap.objs.size f (.ref c') cl)) _ _;let I:=kf_ (CX:=CX) (qual:=qual) (f:=f) (cd:=.ref c') (E:=E) (tk:=s.toks+(ps.zip us).length) S hr.hd e0 hl hg r C fc ns k1;apply kla_codeExpr (wpAny_mono (ht (hr.deeper _) [] _ _ H _ I hq) (λv s' hs=>?_) λe s' hs=>hs);let#[x,H',J,rv,q]:=hs;exact#[x,H',J.os,J.bare,J.base,J.aH,rv,q]
end L2
namespace L2
open PySem PySem.Spec PyProof.Rows PySem.W
def jA(f:Addr)(qual:Str)(params:Arguments)(body:PySem.Expr)(scope:Scope)(cl:List (Str × Addr))(c':Addr):HO:=.ext λh=>∃pm jI,h.get? f\kla_obj "<lambda>" qual params body scope cl pm c' jI
def A4(c':Addr)(qual:Str):HO:=.ext λh=>∃o vs t,h.get? c'\o/\o.data=.fields vs/\vs[1]? = some (.str qual t)
inductive xo (P:Addr) (qual:Str) (params:Arguments) (body:PySem.Expr) (scope:Scope) (pos:Pos) (cl:List (Str × Addr)) (H:Hp) (Q:VK):Prop
 |mk:∀ps,H P\.tbl ps->TriplesOk ps.toList->((codeAmong pos ps.toList=none/\∀c' f,H c'=none->H f=none->c'≠f->Q (.ref f) (upd (upd (upd H P (.tbl (ps++(List.toArray [rawInt pos.line,rawInt pos.col,.ref c'])))) c' (A4 c' qual)) f (jA f qual params body scope cl c')))∨∃c',codeAmong pos ps.toList\.ref c'/\∀f,H f=none->Q (.ref f) (upd H f (jA f qual params body scope cl c')))->xo P qual params body scope pos cl H Q
def Di(P:Addr)(qual:Str)(params:Arguments)(body:PySem.Expr)(scope:Scope)(pos:Pos)(cl:List (Str × Addr)):TE:=λ_ H Q=>xo P qual params body scope pos cl H Q
theorem S_{X:Cx}{params:Arguments}{body:PySem.Expr}{scope:Scope}{pos:Pos}{cl:List (Str × Addr)}{c P:Addr}(NK:defaultsOf params X.env=([],[]))(vY:closureFor scope X.env=pure cl)(yk:X.env.code=.ref c)(C:CodeHd X.base c P)(sY:X.base.BuiltinsAt X.mg P) :
  PE X (.Lambda params body scope pos) (Di P (X.env.qual++"<lambda>") params body scope pos cl):=by
 intro pins s σ H Q I h;let#[ps,hP,ht,h]:=h;have Ut:s.heap.get? P\tabObj ps:=I.aH P _ hP
 have Ua:H mainGlobals=none:=by
  let#[o,_,_,e,_]:=I.mod.glob;exact (I.bs _ _ e).2
 apply kla_eval NK ?_;rcases h with⟨hn,q⟩|⟨c',hf,q⟩
 ·apply kla_makeFunction vY I.ok.glob (I.mod.glob.keeps I.bk) yk (C.keeps I.bk) Ut ht hn (λz=>by rw[z,hP] at Ua;cases Ua) (sY.keeps I.bk) λc' jI h' tk hx Ny dG M3 BN=>?_;have fz:s.heap.objs.size<=h'.objs.size:=ph Ny (Nat.le_of_lt dG);have nc:H c'=none:=I.aH.fresh Ny;have nf:H h'.objs.size=none:=I.aH.fresh fz;have cf:c'≠h'.objs.size:=dY dG;have Pc:P≠c':=bu hP nc;have Pf:P≠h'.objs.size:=bu hP nf
  have old:∀{b u},H b\u->b≠P->upd (upd (upd H P (.tbl (ps++(List.toArray [rawInt pos.line,rawInt pos.col,.ref c'])))) c' (A4 c' (X.env.qual++"<lambda>"))) h'.objs.size (jA h'.objs.size (X.env.qual++"<lambda>") params body scope cl c') b\u:=λ{b u} e n=>by
   rw[az (bu e nf),az (bu e nc),az n];exact e
  have si:∀{b u},H b\u->(∀ps,u≠.tbl ps)->b≠P:=λ{b u} e n z=>by
   rw[z,hP] at e;cases e;exact n _ Z
  have kp:∀b o,b≠P->s.heap.get? b\o->(h'.push (kla_obj "<lambda>" (X.env.qual++"<lambda>") params body scope cl ((X.mg "__name__").getD .none) c' jI)).get? b\o:=λb o n e=>cc _ (hx b o n e);apply#[.ref h'.objs.size,_,I.un (t':=tk) #[λb o e n _ _=>kp b o (λz=>by rw[z,hP] at n;cases n) e,λb o e n _ _=>#[o.slots,kp b o (λz=>by rw[z,hP] at n;cases n) e],λb o e n _=>?_,λb o e _=>?_,λb xs e=>old e (si e Z2),λb o u e=>old e (si e Z2),λb qs e=>?_] (λb u e=>?_),Z,q c' h'.objs.size nc nf cf]
  ·let lt:=cm e;rw[az (dY (iQ lt fz)),az (dY (iQ lt Ny)),az (λz=>by rw[z,hP] at n;cases n)];exact n
  ·by_cases z:b=P
   ·subst z;exact#[_,cc _ BN]
   exact#[o,kp b o z e]
  ·by_cases z:b=P
   ·subst z;rw[hP] at e;cases e;exact#[_,by rw[az Pf,az Pc,ao]]
   exact#[#[],by rw[Array.append_empty];exact old e z]
  by_cases z1:b=h'.objs.size
  ·subst z1;rw[ao] at e;cases e;exact#[#[_,_,eJ _ Z],#[_,eJ _ Z],λh1 h2 ⟨pm,cv,e1⟩ k=>#[pm,cv,k _ e1]]
  rw[az z1] at e;by_cases z2:b=c'
  ·subst z2;rw[ao] at e;cases e;let#[c2,oc,vs,t,ec,Fl,hd,hv]:=M3;cases ec;exact#[#[oc,vs,t,cc _ Fl,hd,hv],#[_,cc _ Fl],λh1 h2 ⟨o,vs,t,e1,r⟩ k=>#[o,vs,t,k _ e1,r]]
  rw[az z2] at e;by_cases z3:b=P
  ·subst z3;rw[ao] at e;cases e;exact cc _ BN
  rw[az z3] at e;apply (I.aH b u e).dX (λd v hd e1=>kp d v ?_ e1) (λd e1=>old e1 (si e1 Z2)) λd xs e1=>old e1 (si e1 Z2);rcases hd with rfl|hd
  ·exact z3
  exact si hd Z2
 apply kla_makeFunctionHit vY I.ok.glob (I.mod.glob.keeps I.bk) yk (C.keeps I.bk) Ut ht hf (sY.keeps I.bk) λjI h' tk hk hsz=>?_;have nf:H h'.objs.size=none:=I.aH.fresh hsz;apply#[.ref h'.objs.size,_,I.laid (t':=tk) (λb o e=>cc _ (hk b o e)) hsz ?_,Z,q _ nf];exact#[#[_,_,eJ _ Z],#[_,eJ _ Z],λh1 h2 ⟨pm,cv,e1⟩ k=>#[pm,cv,k _ e1]]
end L2
namespace L2
open PySem PySem.Spec PyProof.Rows PySem.W
theorem vE{P:Ad}{w:Af}{K:af}{mg:Str->Option Aa}{base:Heap}{N:ae}{qual:Str}{scope:Scope}{f:Addr}{cd:Aa}{cl:List (Str × Addr)}{A:Ag}{outer:List Env}{s:Ab}{H:Hp}{E:XK}:wD (Bx P w) (Ca (Bx P w) P w K mg base N qual scope f cd cl A outer s H E) E:=by
 intro pins σ H1 s1 e s' I hc;let#[a,cls,H',B,a0,dd,rfl,os,bare,un,aH,fl,i,hE]:=hc;apply fE_ (base:=B) I.ok.frames Z fl λh1 fl1 up=>?_;exact fV_ (s1:={ s' with heap:=h1 }) I Z os bare un aH i fl.2.2.1 up fl1 hE
section
variable{cs:List (Addr × Obj)}{H H':Hp}{b:Addr}{o:Obj}{u:HO}
variable{P:Ad}{w:Af}{h:Heap}
end
section
variable{X:Cx}{pins:List (Addr × Obj)}{σ:St}{H:Hp}{s s':Ab}{cs:List (Addr × Obj)}
def iu(P:Ad)(w:Af)(K:af)(mg:Str->Option Aa)(base:Heap)(k:Nat)(qual:Str)(params:Arguments)(body:PySem.Expr)(scope:Scope)(ps cK:ae)(sp:ag->ag->Hp->VK->XK->Prop):Prop:=
 ∀(A:Ag) (outer:List Env) (s:Ab) (H:Hp) (f c':Addr) (pm jI:Aa) (cl:List (Str × Addr)) (us:aj) (vs gs:ag) (Q:VK) (E:XK),ba k A->hY P w K mg base A outer s H->s.heap.get? f\kla_obj "<lambda>" qual params body scope cl pm c' jI->s.heap.CodeRec (.ref c') qual->
  vs.length=ps.length->gs.length=cK.length->Vals vs us->KQ cK cl gs s.heap->(∀x c,cl.lookup x\c->H c=none)->sp vs gs H Q E->codeAny (model P w) A (.call (.ref f) #[us,[]]) (CR (Bx P w) outer P w H s Q E) s
theorem xT{P:Ad}{w:Af}{K:af}{mg:Str->Option Aa}{base:Heap}{k:Nat}{qual:Str}{params:Arguments}{body:PySem.Expr}{scope:Scope}{ps cK:ae}{sp:ag->ag->Hp->VK->XK->Prop}(S:Hk ps cK scope)
  (hb:∀pm c' jI cl us,us.length=ps.length->bindArgs (kla_fn "<lambda>" qual params body scope cl pm (.ref c') jI) #[us,[]]=pure (ps.zip us))
  (fE:∀(A:Ag) (outer:List Env) (s:Ab) (H:Hp) (f:Addr) (cd:Aa) (cl:List (Str × Addr)) (vs gs:ag) (Q:VK) (E:XK),ba k (A.deeper (envX qual scope s.heap.objs.size f cd cl))->sp vs gs H Q E->wD (Bx P w) (Ca (Bx P w) P w K mg base (ps++cK) qual scope f cd cl A outer s H E) E->
   ∃t,PE (Ca (Bx P w) P w K mg base (ps++cK) qual scope f cd cl A outer s H E) body t/\t (vs.map some++gs.map some) H Q):!iu (k+1) qual params body scope ps cK sp:=by
 intro A outer s H f c' pm jI cl us vs gs Q E hr e0 hf gK hl hg r C fc j4;let#[t,ht,hq]:=fE A outer s H f (.ref c') cl vs gs Q E (hr.deeper _) j4 vE;exact jJ_ S hr e0 hf gK (hb pm c' jI cl us (by rw[<- r.length];exact hl)) hl hg r C fc (λ_=>ht) hq
end
end L2
namespace L2
open PySem PySem.Spec PyProof.Rows PySem.W
structure K9 (cK:ae) (cl:List (Str × Addr)) (cs:List (Addr × Obj)) (gs:ag):Prop where
 len:gs.length=cK.length
 inj:∀x y c,cl.lookup x\c->cl.lookup y\c->x=y
 has:∀x∈cK,∃c,cl.lookup x\c
 all:∀x c,cl.lookup x\c->∃o v,cs.lookup c\o/\o.data=.cell v
 is:∀(i:Nat) x v,cK[i]? = some x->gs[i]? = some v->∃c o u,cl.lookup x\c/\cs.lookup c\o/\o.data=.cell (some u)/\RelV v u
section
variable{X:Cx}{k:Nat}{x:Str}{p pos:Pos}{tn:TE}{qual:Str}{params:Arguments}{body:PySem.Expr}{scope:Scope}{cK ps:ae}{sp':ag->ag->Hp->VK->XK->Prop}{E:XK}
end
section
variable{X:Cx}{k:Nat}{x:Str}{p pos:Pos}{e:PySem.Expr}{es:List PySem.Expr}{ta:TA}{cK ps:ae}{sp:Sp}{f:Addr}{fd:Ae}{cl:List (Str × Addr)}{is:List Nat}
end
end L2
namespace L2
open PySem PySem.Spec PyProof.Rows PySem.W
theorem hc_{P:Ad}{w:Af}{K:af}{mg mb:Str->Option Aa}{CX:j2}{k:Nat}{fa a:Addr}{ts:ai}{fd:Ae}{x:Str}{sp:Sp}{aU:Ab}{vs:aj}{ns:List Int}
  (hT:∀T∈ts,K.lookup T=none) (eT:∀T∈ts,aU.heap.get? T\tabObj #[]) (FV:∀T∈ts,isCodeTable aU.heap T)
  (KX:K.In aU.heap) (Aj:aU.heap.Ns mainGlobals mg) (hb:aU.heap.Ns builtinsNs mb) (hbb:∀x:Str,x≠"__name__"->mb x=bootBuiltins x) (Nl:aU.heap.NoLimit) (hg:aU.gens=#[])
  (ha:aU.heap.get? a=some { cls:=.type "list",data:=.seq vs.toArray }) (hi:IntsAre vs ns) (hl:ns.length<=sizeLine) (hr:ba k callerA)
  (sY:∃bm ob,mg "__builtins__"\.ref bm/\bm≠builtinsNs/\aU.heap.get? bm\ob/\ob.cls=.type "module"/\ob.dict\builtinsNs/\ob.data=.plain)
  (F:∀base:Heap,K.In base->base.Ns mainGlobals mg->(∀T∈ts,base.BuiltinsAt mg T)->!ak CX k fa fd [x] sp) (FW:∀(s:Ab) (u:Aa),BindsTo s fd #[[u],[]] [(x,u)])
  (j4:∀H:Hp,(∀T∈ts,H T\.tbl #[])->dN K H a (ns.map V.int)->sp [.ref a] H (λv _=>v=.bl true) λ_ _ _=>False)
  (NZ:∀H e s',CX [] H aU (λ_ _ _=>False) e s'->False) :
  codeAny (model P w) callerA (.call (.ref fa) #[[.ref a],[]]) (λr s'=>r=.ok (.ret (.bool true))/\OldK aU.heap s'.heap/\s'.os=aU.os/\AllBare s'.gens) aU:=by
 let rv:=We hi;let MG:=hi.length
 have aT:∀{b},b∈ts->b≠a:=λ{b} hb z=>by
  have:=eT b hb;rw[z,ha] at this;cases this
 have core:∀H:Hp,(∀b,H b=none∨(b∈ts/\H b\.tbl #[])∨(b∉ts/\∃o xs,H b\.frz o (.lst xs)))->(∀T∈ts,H T\.tbl #[])->dN K H a (ns.map V.int)->eD P w H aU.heap->(∀b,H b≠none->b=a∨b∈ts)->(H a≠none->K.lookup a=none)->
   codeAny (model P w) callerA (.call (.ref fa) #[[.ref a],[]]) (λr s'=>r=.ok (.ret (.bool true))/\OldK aU.heap s'.heap/\s'.os=aU.os/\AllBare s'.gens) aU:=by
  intro H hO hHT hS aH hA hK;have iN:∀{b:Addr} {o:Obj},aU.heap.get? b\o->H b=none->(hJ aU.heap H).get? b\o:=λe n=>i2_ e n
  have vI:∀{b:Addr} {o:Obj} {es:Array DictEntry} {ep:Nat},aU.heap.get? b\o->o.data=.dict es ep->H b=none:=λ{b o es ep} e d=>by
   cases q:H b with
   |none=>rfl
   |some u=>
    rcases hA b (by rw[q];simp) with e'|e'
    ·subst e';rw[ha] at e;cases e;have d':Data.seq vs.toArray _=Data.dict es ep:=d;cases d'
    rw[eT b e'] at e;cases e;cases d
  have Jf:∀{b:Addr} {m:Str->Option Aa},aU.heap.Ns b m->(hJ aU.heap H).Ns b m:=λ{b m} ⟨o,es,ep,e,d,r⟩=>#[o,es,ep,iN e (vI e d),d,r]
  have Uz:K.In (hJ aU.heap H):=λb o e=>iN (KX b o e) (by
   cases q:H b with
   |none=>rfl
   |some u=>
    rcases hA b (by rw[q];simp) with e'|e'
    ·subst e';rw[hK (by rw[q];simp)] at e;cases e
    rw[hT b e'] at e;cases e)
  have hB:∀T∈ts,(hJ aU.heap H).BuiltinsAt mg T:=λT NW=>by
   let#[bm,ob,h1,h2,h3,h4,h5,h6]:=sY
   have n1:bm≠mainGlobals:=λz=>by
    let#[o,es,ep,e,d,_]:=Aj;rw[z,e] at h3;cases h3;rw[d] at h6;cases h6
   have n2:∀{b},b∈ts->bm≠b:=λ{b} hb z=>by
    rw[z,eT b hb] at h3;cases h3;cases h6
   apply#[bm,ob,h1,h2,n1,n2 NW,iN h3 ?_,h4,h5,h6];cases q:H bm with
   |none=>rfl
   |some u=>
    rcases hA bm (by rw[q];simp) with e'|e'
    ·subst e';rw[ha] at h3;cases h3;cases h6
    exact absurd Z (n2 e')
  have hM:Mod K mg (hJ aU.heap H):=#[Uz,Jf Aj,#[mb,Jf hb,hbb],let #[mc,h1,h2]:=Nl;#[mc,Jf h1,h2]];have e0:hY P w K mg (hJ aU.heap H) callerA [] aU H:=#[Z,hM,λb o e=>kl_ e,Nat.le_of_eq (gH_ _ _),trivial,λb hb=>absurd (show b∈([]:ai) from hb) Z2,aH,.of_eq hg];apply codeAny_mono ((F _ Uz (Jf Aj) hB).run callerA [] aU H #[[.ref a],[]] [.ref a] [.ref a] _ _ hr e0 (FW aU (.ref a)) (.cons Z .nil) (j4 H hHT hS)) λr s' h=>?_;cases r with
  |error e=>exact (NZ H e s' h).elim
  |ok fl=>
   cases fl with
   |next=>exact False.elim h
   |brk=>exact False.elim h
   |cont=>exact False.elim h
   |ret u=>
    let#[v,H',os,bare,un,Fj,r',q]:=h;have q':v=.bl true:=q;subst q';obtain rfl:u=Value.bool true:=r'
    have main:∀b o,aU.heap.get? b\o->s'.heap.get? b\o∨(b∈ts/\o=tabObj #[]/\∃more,s'.heap.get? b\tabObj (#[]++more)):=λb o e=>by
     cases q:H b with
     |none=>exact .inl (un.keep b o e q (by intro z;exact absurd (show b∈([]:ai) from z) Z2) Z2)
     |some u=>
      rcases hO b with z|⟨zT,z⟩|⟨_,ob,xs,z⟩
      ·rw[q] at z;cases z
      ·rw[eT b zT] at e;cases e;let#[more,z]:=un.gg b _ z;exact .inr #[zT,Z,more,Fj b _ z]
      let z2:=un.fG b ob _ z;let#[e1,_]:=aH b _ z;let#[e2,_]:=Fj b _ z2;rw[e] at e1;cases e1;exact .inl e2
    apply#[Z,#[λb o e=>?_,λb o e=>?_],os,bare]
    ·rcases main b o e with z|⟨zT,rfl,more,z⟩
     ·exact .inl z
     exact .inr (.inl #[FV b zT,Z,_,_,Z,z])
    rcases main b o e with z|⟨_,_,more,z⟩
    ·exact#[_,z]
    exact#[_,z]
 cases hk:K.lookup a with
 |some o=>
  let e:=KX a o hk;rw[ha] at e;cases e;apply core (λb=>if b∈ts then some (.tbl #[]) else none) (λb=>?_) (λT h=>aJ h) (.inr #[_,vs.toArray,_,hk,Z,Z,Z,by rw[cX,MG];exact hl,by simpa using rv]) (λb u z=>?_) (λb z=>?_) λz=>absurd (aE λq=>aT q Z) z
  ·by_cases hb:b∈ts
   ·exact .inr (.inl #[hb,aJ hb])
   exact .inl (aE hb)
  ·by_cases hb:b∈ts
   ·let z':=(aJ hb).symm.trans z;cases z';exact eT b hb
   let z':=(aE hb).symm.trans z;cases z'
  ·by_cases hb:b∈ts
   ·exact .inr hb
   ·exact absurd (aE hb) z
 |none=>
  have T2:∀{b:Addr},b∈ts->(λb=>if b∈ts then some (.tbl #[]) else if b=a then some (HO.frz { cls:=.type "list",data:=.seq vs.toArray } (.lst (ns.map V.int))) else none) b\.tbl #[]:=λ{b} hb=>aJ hb;apply core (λb=>if b∈ts then some (.tbl #[]) else if b=a then some (.frz { cls:=.type "list",data:=.seq vs.toArray } (.lst (ns.map V.int))) else none) (λb=>?_) (λT h=>aJ h) (.inl (.inr #[{ cls:=.type "list",data:=.seq vs.toArray },(aE λq=>aT q Z).trans (aJ Z)])) (λb u z=>?_) (λb z=>?_) λ_=>hk
  ·by_cases nM:b∈ts
   ·exact .inr (.inl #[nM,aJ nM])
   by_cases hb:b=a
   ·exact .inr (.inr #[nM,_,_,(aE nM).trans (aJ hb)])
   exact .inl ((aE nM).trans (aE hb))
  ·by_cases nM:b∈ts
   ·let z':=(aJ nM).symm.trans z;cases z';exact eT b nM
   by_cases hb:b=a
   ·let z':=((aE nM).trans (aJ hb)).symm.trans z;cases z';subst hb;exact#[ha,by rw[ay];exact hl,vs,_,rv,ha]
   let z':=((aE nM).trans (aE hb)).symm.trans z;cases z'
  by_cases nM:b∈ts
  ·exact .inr nM
  by_cases hb:b=a
  ·exact .inl hb
  exact absurd ((aE nM).trans (aE hb)) z
theorem fD_{K:af}{T:Addr}(h:T∉K.map (·.1)):K.lookup T=none:=by
 induction K with
 |nil=>rfl
 |cons p K ih=>
  let#[b,o]:=p;simp only[fi,cq,not_or] at h;rw[tW,show (T == b)=false by simpa using h.1];exact ih h.2
theorem qe{l:PySem.W.OpenLaw}{n k:Nat}{q:Ad}{loose:ae}{XP:(Str->Option Aa)->Heap->Prop}{d:DefRec}{K:Params->af}{as ts:ai}{JU:∀P:Params,as=(K P).map (·.1)}{CX:Af->j2}{sp:Af->Sp}{x:Str}
  (hn:l.most\n) (yc:n<=sizeLine) (sV:d.params.defaults=[]) (hr:ba k callerA)
  (E5:(ts.all λT=>!as.contains T)=true)
  (F:∀(w:Af) (mg:Str->Option Aa) (fa:Addr) (h:Heap),(K w.params).In h->h.Ns mainGlobals mg->mg d.name\.ref fa->
   ∃fd:Ae,(∀(s:Ab) (u:Aa),BindsTo s fd #[[u],[]] [(x,u)])/\(∀T∈ts,isCodeTable h T) /\
    ∀base:Heap,(K w.params).In base->base.Ns mainGlobals mg->(∀T∈ts,base.BuiltinsAt mg T)->ak l.prog w (K w.params) mg base (CX w) k fa fd [x] (sp w))
  (j4:∀(w:Af) (H:Hp) (a:Addr) (ns:List Int),ns.length<=n->(∀T∈ts,H T\.tbl #[])->dN (K w.params) H a (ns.map V.int)->sp w [.ref a] H (λv _=>v=.bl true) λ_ _ _=>False)
  (NZ:∀(w:Af) (H:Hp) (s:Ab) (e:Aa) (s':Ab),CX w [] H s (λ_ _ _=>False) e s'->False) :
  PySem.W.WalkO q loose XP (kmHook K as JU ts).says l.row.toRowW d [] (λf vs=>PySem.call f vs):=by
 apply Xv.jO hn sV λw cz aU mg mb fa o pm cd doc a vs ns G Y ho hd gK hmg Ah hints hlen hg=>?_;have KX:(K w.params).In aU.heap:=km_in_of Y;have eT:∀T∈ts,aU.heap.get? T\tabObj #[]:=Y.2;let#[fd,hb,FV,hF]:=F w mg fa _ KX G.T.g hmg;apply hc_ (λT h=>fD_ ?_) eT FV KX G.T.g G.T.b G.T.builtins G.T.nolimit hg Ah hints (ph hlen yc) hr G.T.bmain hF hb (λH hO hS=>j4 w H a ns hlen hO hS) λH e s'=>NZ w H aU e s';have:=List.all_eq_true.mp E5 T h;rw[<- JU w.params];simpa using this
end L2
namespace L2
open PySem PySem.Spec PyProof.Rows
section
variable{X:Cx}
end
open PySem.W in
def mh:List (Pos × Addr)->aj
 |[]=>[]
 |(p,c)::es=>rawInt p.line::rawInt p.col::.ref c::mh es
def cU(H:Hp)(T:Addr)(qual:Str):Prop:=∃es:List (Pos × Addr),H T\.tbl (mh es).toArray/\∀e∈es,H e.2\A4 e.2 qual
theorem cU.same{H H':Hp}{T:Addr}{qual:Str}(s:aa H H')(h:cU H T qual):cU H' T qual:=by
 let#[es,a,b]:=h;exact#[es,s _ _ a,λe he=>s _ _ (b e he)]
theorem Va:∀es:List (Pos × Addr),TriplesOk (mh es)
 |[]=>trivial
 |(p,c)::es=>by
  have:=Va es;simp[mh,TriplesOk,rawInt,this]
theorem WD:∀(es:List (Pos × Addr)) (p:Pos) (c:Addr),mh (es++[(p,c)])=mh es++[rawInt p.line,rawInt p.col,.ref c]
 |[],p,c=>rfl
 |(p',c')::es,p,c=>by
  show rawInt p'.line::rawInt p'.col::.ref c'::mh (es++[(p,c)])=_;rw[WD es p c];rfl
theorem W9(pos:Pos):∀es:List (Pos × Addr),codeAmong pos (mh es)=none∨∃e∈es,codeAmong pos (mh es)\.ref e.2
 |[]=>.inl Z
 |(p,c)::es=>by
  by_cases h:codeAmong pos (mh ((p,c)::es))\.ref c
  ·exact .inr #[(p,c),eP,h]
  have e:codeAmong pos (mh ((p,c)::es))=codeAmong pos (mh es):=by
   show codeAmong pos (rawInt p.line::rawInt p.col::.ref c::mh es)=_;have h:¬codeAmong pos (rawInt p.line::rawInt p.col::.ref c::mh es)=some (.ref c):=h;simp only[codeAmong,rawInt] at h ⊢;split at h
   ·exact absurd Z h
   rename_i q
   rw[aE q]
  rcases W9 pos es with q|⟨x,hx,q⟩
  ·exact .inl (e.trans q)
  exact .inr #[x,eA _ hx,e.trans q]
end L2
namespace L2
open PySem PySem.Spec PyProof.Rows PySem.W mr
section
variable{X:Cx}{pins:List (Addr × Obj)}{σ:St}{H:Hp}{s:Ab}
theorem Inv.yX{h':Heap}{t':Nat}{fp:ai}{T:Addr}{ys:ag}{its:aj}{n:Nat}(I:Inv X pins σ H s)(k:∀b o,b∉fp->s.heap.get? b\o->h'.get? b\o)(hf:∀b∈fp,dc X pins H b)
  (hT:T∈fp) (hz:ys.length<=sizeLine) (r:Vals ys its) (ht:h'.get? T=some { cls:=.type "list",data:=.seq its.toArray n }):Inv X pins σ (upd H T (.lst ys)) { s with heap:=h',toks:=t' }:=by
 have fT:H T=none:=(hf T hT).1;have nf:∀b u,H b\u->b∉fp:=λb u e hb=>by rw[(hf b hb).1] at e;cases e
 have old:∀{b u},H b\u->upd H T (.lst ys) b\u:=λe=>by rw[az (bu e fT)];exact e
 apply I.step (g':=s.gens) (d':=s.drawn) (ch:=fp) (λb hb=>?_) (λb o _ _ hc e _=>k b o hc e) (λb o _ _ hc e _=>#[o.slots,k b o hc e]) (λb o hc e n=>?_)
  (λb o hc e=>#[o,k b o hc e]) (λb ys e=>old e) (λb o u e=>old e) (λb ps e=>#[#[],by rw[Array.append_empty];exact old e]) (λm hm=>?_) (λb u e=>?_) I.bare
 ·let#[f0,f1,f2,f3,f4,f5]:=hf b hb;exact#[f3,f1,f4,f5]
 ·rw[az (λz=>hc (by rw[z];exact hT))];exact n
 ·let#[o,es,ep,ho,r]:=hm;exact#[o,es,ep,k _ o (λhb=>(hf _ hb).2.1 Z) ho,r]
 by_cases z:b=T
 ·subst z;rw[ao] at e;cases e;exact#[hz,its,n,r,ht]
 rw[az z] at e;apply (I.aH b u e).dX (λc v hc q=>k c v ?_ q) (λ_ q=>old q) λ_ _ q=>old q;rcases hc with z|z
 ·rw[z];exact nf b u e
 exact nf c _ z
theorem dc.at{H':Hp}{b:Addr}(f:dc X pins H b)(n:H' b=none):dc X pins H' b:=#[n,f.2]
def oJ(X:Cx)(σ:St)(B:Ag)(fv:Aa)(H0:Hp)(kf:V->aA)(xs:ag):Prop:=
 ∀(pins:List (Addr × Obj)) (H:Hp) (s:Ab) (x:V) (u:Aa),Inv X pins σ H s->aa H0 H->x∈xs->RelV x u->
  wpAny (model X.prog X.w) B (call fv [u]) (EP X pins σ λv H'=>aa H H'/\∃t,v=.ref t/\H' t\.tup ((kf x).map kV)) (λ_ _=>False) s
theorem ju_{B:Ag}{fv:Aa}{a kS:Addr}{e1:Nat}{H0:Hp}{kf:V->aA}{all:ag}{Q:PUnit->Ab->Prop}{E:Aa->Ab->Prop}{body:Aa->PUnit->Sem (ForInStep PUnit)}(sP:a≠kS)(jK:oJ X σ B fv H0 kf all)
  (hb:∀(u:Aa) (s:Ab) (Qb:ForInStep PUnit->Ab->Prop),wpAny (model X.prog X.w) B (call fv [u]) (λk s'=>wpAny (model X.prog X.w) B (Builtin.List.listUpdate (.ref kS) (·.push k)) (λ_ pG=>Qb (.yield ⟨⟩) pG) E s') (λ_ _=>False) s->wpAny (model X.prog X.w) B (body u ⟨⟩) Qb E s) :
  ∀(xs:ag) (us:aj) (ks:ag) (kvs:aj) (kk:List aA) (H:Hp) (s:Ab) (c:Nat),Vals xs us->(∀x∈xs,x∈all)->Inv X pins σ H s->aa H0 H->dc X pins H a->dc X pins H kS->s.heap.get? a\seqObj "list" #[] e1->s.heap.get? kS\seqObj "list" kvs.toArray c->
   Vals ks kvs->bF X.K H ks kk->kvs.length+us.length<64->
   (∀H' s' fb c',Inv X pins σ H' s'->aa H0 H'->dc X pins H' a->dc X pins H' kS->s'.heap.get? a\seqObj "list" #[] e1->s'.heap.get? kS\seqObj "list" fb.toArray c'->fb.length=kvs.length+us.length->(∃sF,Vals sF fb/\bF X.K H' sF (kk++xs.map kf))->Q ⟨⟩ s')->
   wpAny (model X.prog X.w) B (forIn us PUnit.unit body) Q E s:=by
 intro xs
 induction xs with
 |nil=>
  intro us ks kvs kk H s c rv _ I sm fa fk ha hk r t _ q;cases rv;rw[List.forIn_nil];exact bA (q H s kvs c I sm fa fk ha hk Z2 #[ks,r,by simpa using t])
 |cons x xs ih=>
  intro us ks kvs kk H s c rv hx I sm fa fk ha hk r t hz q
  obtain⟨u,us,rfl,ru,rr⟩:∃u RD,us=u::RD/\RelV x u/\Vals xs RD:=by
   cases rv with
   |cons h t=>exact#[_,_,Z,h,t]
  rw[List.forIn_cons];rw[iO] at hz;apply aC (hb u s _ ?_)
  have hf:∀b∈[a,kS],dc X pins H b:=λb hb=>by
   rcases cq.mp hb with rfl|hb
   ·exact fa
   obtain rfl:b=kS:=⇑hb
   exact fk
  let I1:=I.pinned (fp:=[a,kS]) hf (λb hb=>by
   rcases cq.mp hb with rfl|hb
   ·exact#[_,ha,λv z=>by cases z]
   obtain rfl:b=kS:=⇑hb
   exact#[_,hk,λv z=>by cases z])
  apply wpAny_mono (jK _ H s x u I1 sm (hx x eP) ru) (λk s1 ⟨v,H1,J,rv,Sm,tk,ev,etk⟩=>?_) λ_ _ z=>z
  have pa:(a,seqObj "list" #[] e1)∈wU [a,kS] s.heap:=by
   unfold wU;exact wZ.mpr #[a,by simp,by rw[ha];rfl]
  have pk:(kS,seqObj "list" kvs.toArray c)∈wU [a,kS] s.heap:=by
   unfold wU;exact wZ.mpr #[kS,by simp,by rw[hk];rfl]
  let#[NV,_o,_]:=J.pin _ (km _ (km _ pa));let#[Jw,_j,_]:=J.pin _ (km _ (km _ pk));have NV:s1.heap.get? a\seqObj "list" #[] e1:=NV;have Jw:s1.heap.get? kS\seqObj "list" kvs.toArray c:=Jw;let J0:=J.d8;let fa1:=fa.at (H':=H1) _o;let Vc:=fk.at (H':=H1) _j;have MJ:kvs.length<64:=by omega
  apply listUpdate_at Jw Z ?_ (by rw[cX,b_];omega) (ph (Nat.le_of_eq (Array.size_push ..)) (by rw[cX,b_];omega));have xN:∀b o,b∉[kS]->s1.heap.get? b\o->(s1.heap.update kS (Obj.mapSeq (·.push k))).get? b\o:=λb o hb e=>(l8 _ _ (λz=>hb (by simp[z]))).trans e;have ea:kvs.toArray.push k=(kvs++[k]).toArray:=by simp
  obtain⟨c2,BZ⟩:∃c2,(s1.heap.update kS (Obj.mapSeq (·.push k))).get? kS\seqObj "list" (kvs++[k]).toArray c2:=#[_,by rw[<- ea];exact get?_update_seq Jw (·.push k)]
  have I2:Inv X pins σ H1 { s1 with heap:=s1.heap.update kS (Obj.mapSeq (·.push k)) }:=J0.iw (t':=s1.toks) (fp:=[kS]) xN (λb hb=>by
   obtain rfl:b=kS:=⇑hb
   exact Vc)
  subst ev;apply ih us (ks++[.ref tk]) (kvs++[k]) (kk++[kf x]) H1 _ c2 rr (λy hy=>hx y (eA _ hy)) I2 (sm.trans Sm) fa1 Vc ?_ BZ (r.append (.cons rv .nil)) ?_ (by rw[dW,yS];omega) λH' s' fb c' a1 a2 a3 a4 a5 a6 a7 a8=>?_
  ·exact xN a _ ⇑sP NV
  ·exact Paired.snoc (t.same Sm) #[tk,Z,etk]
  apply q H' s' fb c' a1 a2 a3 a4 a5 a6 (by rw[a7,dW,yS,iO];omega) ?_;let#[sF,b1,b2]:=a8;exact#[sF,b1,by simpa using b2]
end
section
variable{X:Cx}{pins:List (Addr × Obj)}{σ:St}{H:Hp}{s:Ab}{B:Ag}
theorem jY_{xs zs:ag}{kf:V->aA}{p:Array Nat}(g:Good xs.length p)(up:Up (λi j=>bK ((xs.map kf).getD i []) ((xs.map kf).getD j [])) p xs.length)(ez:zs=p.toList.map λi=>xs.getD i .non):zs.Perm xs/\zs.map kf=aX (xs.map kf):=by
 have gk:Good (xs.map kf).length p:=by rw[ay];exact g
 let asc:=O2 (ks:=xs.map kf) (λi j _ _=>rfl) gk (by rw[ay];exact up)
 have perm:(p.toList.map λi=>(xs.map kf).getD i []).Perm (xs.map kf):=by
  have:=Ie gk λi=>(xs.map kf).getD i [];rwa [Ip] at this
 let es:=QO perm asc;apply#[?_,?_]
 ·have:=Ie (n:=xs.length) g λi=>xs.getD i .non;rw[Ip] at this;rw[ez];exact this
 rw[<- es,ez,ck];apply uR λi hi=>?_;have m:i∈(List.range xs.length).toArray:=g.mem_iff.mp ⇑hi;have m:i<xs.length:=⇑m
 show kf (xs.getD i .non)=(xs.map kf).getD i [];simp[List.getD,m]
theorem gn_{f a:Addr}{xs:ag}{us:aj}{n:Nat}{P:PySem.Fin->Ab->Prop}{E:Aa->Ab->Prop}{kf:V->aA}{sh:List Bool}(I:Inv X pins σ H s)(fa:dc X pins H a)(ho:s.heap.get? a\seqObj "list" us.toArray n)(r:Vals xs us)(bU:us.length<64)(al:AU (xs.map kf) sh)(jK:oJ X σ B (.ref f) H kf xs)
  (h:∀zs H' s',Inv X pins σ (upd H' a (.lst zs)) s'->aa H H'->H' a=none->zs.Perm xs->zs.map kf=aX (xs.map kf)->P (.done (.ret .none)) s'):wpAny (model X.prog X.w) B (ksk_tree a (.ref f) false) P E s:=by
 let lx:=r.length;obtain⟨e1,BS⟩:∃e1,(s.heap.update a (Obj.mapSeq λ_=>(#[]:Array Aa))).get? a\seqObj "list" #[] e1:=#[_,get?_update_seq ho λ_=>#[]];have xN:∀b o,b∉[a]->s.heap.get? b\o->(s.heap.update a (Obj.mapSeq λ_=>(#[]:Array Aa))).get? b\o:=λb o hb e=>(l8 _ _ (λz=>hb (by simp[z]))).trans e
 have I1:Inv X pins σ H { s with heap:=s.heap.update a (Obj.mapSeq λ_=>(#[]:Array Aa)) }:=I.iw (t':=s.toks) (fp:=[a]) xN (λb hb=>by
  obtain rfl:b=a:=⇑hb
  exact fa)
 unfold ksk_tree;apply aC (listItems_at ho Z ?_);apply aC (listUpdate_at ho Z ?_ (by rw[cX,b_];omega) (gA _));apply aC (seqEpoch_at BS Z ?_);apply aC (wpAny_newTuple ?_ (by show us.length<=_;rw[b_];omega));apply aC (wpAny_newList ?_ (gA _));apply wpAny_holding ?_;have I2:Inv X pins σ H { s with heap:=(s.heap.update a (Obj.mapSeq λ_=>(#[]:Array Aa))).push (seqObj "tuple" us.toArray 0) }:=I1.kept (t':=s.toks) λb u e=>cc _ e;have I3:Inv X pins σ H { s with heap:=((s.heap.update a (Obj.mapSeq λ_=>(#[]:Array Aa))).push (seqObj "tuple" us.toArray 0)).push (seqObj "list" #[] 0) }:=I2.kept (t':=s.toks) λb u e=>cc _ e;have fk:dc X pins H ((s.heap.update a (Obj.mapSeq λ_=>(#[]:Array Aa))).push (seqObj "tuple" us.toArray 0)).objs.size:=I2.jF (br _) (I2.aH.fresh (br _));have i3:(((s.heap.update a (Obj.mapSeq λ_=>(#[]:Array Aa))).push (seqObj "tuple" us.toArray 0)).push (seqObj "list" #[] 0)).get? a\seqObj "list" #[] e1:=cc _ (cc _ BS);have Nq:(((s.heap.update a (Obj.mapSeq λ_=>(#[]:Array Aa))).push (seqObj "tuple" us.toArray 0)).push (seqObj "list" #[] 0)).get? ((s.heap.update a (Obj.mapSeq λ_=>(#[]:Array Aa))).push (seqObj "tuple" us.toArray 0)).objs.size\seqObj "list" #[] 0:=eJ _ Z;have sP:a≠((s.heap.update a (Obj.mapSeq λ_=>(#[]:Array Aa))).push (seqObj "tuple" us.toArray 0)).objs.size:=dY (cm (cc (seqObj "tuple" us.toArray 0) BS));show wpAny (model X.prog X.w) B (ksk_rest a (.ref f) false us.toArray e1 (.ref ((s.heap.update a (Obj.mapSeq λ_=>(#[]:Array Aa))).push (seqObj "tuple" us.toArray 0)).objs.size)) P E { s with heap:=((s.heap.update a (Obj.mapSeq λ_=>(#[]:Array Aa))).push (seqObj "tuple" us.toArray 0)).push (seqObj "list" #[] 0) };generalize ((s.heap.update a (Obj.mapSeq λ_=>(#[]:Array Aa))).push (seqObj "tuple" us.toArray 0)).objs.size=kS at fk Nq sP ⊢;generalize ((s.heap.update a (Obj.mapSeq λ_=>(#[]:Array Aa))).push (seqObj "tuple" us.toArray 0)).push (seqObj "list" #[] 0)=h3 at I3 i3 Nq ⊢;clear I2 I1 xN;unfold ksk_rest;apply aC (wpAny_rule ?_);rw[List.forIn_toArray];apply aC (ju_ (pins:=pins) (E:=E) (e1:=e1) sP jK (λu s4 Qb hq=>?_) xs us [] [] [] H _ 0 r (λx hx=>hx) I3 (aa.refl H) fa fk i3 Nq .nil .nil ⇑bU λH5 s5 kvs c5 I5 Zh Vl fk5 JD T4 lk ⟨ks,rk,tk⟩=>?_)
 ·apply aC (wpAny_attempt (wpAny_mono hq (λk pG hk=>?_) λ_ _ hF=>hF.elim));exact aC (wpAny_mono hk (λ_ s6 h6=>bA h6) λ_ _ z=>z)
 rw[List.nil_append] at tk;rw[p6,Nat.zero_add] at lk;apply aC (listItems_at T4 Z ?_)
 have tail:∀(p:Array Nat) (st:SortSt),Good xs.length p->Up (λi j=>bK ((xs.map kf).getD i []) ((xs.map kf).getD j [])) p xs.length->(arrOf st).map (·.2)=(me p us).toArray->failedOf st=none->wpAny (model X.prog X.w) B (ksk_tail a false e1 (.ref kS) st) P E s5:=λp st g up M5 vV=>by
  have gu:Good us.length p:=by rw[<- lx];exact g
  have hz:(me p us).length=us.length:=by
   unfold me;rw[ay,tY];exact gu.size
  let s1:=Heap.SameBut.update s5.heap kS (Obj.mapSeq λ_=>(#[]:Array Aa));have s_:(s5.heap.update kS (Obj.mapSeq λ_=>(#[]:Array Aa))).get? a\seqObj "list" #[] e1:=(l8 _ _ (Ne.symm sP)).trans JD;unfold ksk_tail;dsimp only;rw[M5];apply aC (listUpdate_at T4 Z ?_ (by rw[cX,b_];omega) (gA _));apply aC (wpAny_letGo ?_);apply aC (seqEpoch_at s_ Z ?_);simp only[yQ,if_false];apply aC (listUpdate_at s_ Z ?_ (gA _) (by rw[cX,hz,b_];omega));rw[vV];simp only[bne_self_eq_false,yQ,if_false]
  have zl:(p.toList.map λi=>xs.getD i .non).length<=sizeLine:=by
   rw[ay,tY,g.size,b_];omega
  let#[pz,ek]:=jY_ (zs:=p.toList.map λi=>xs.getD i .non) g up Z;apply bA (h _ H5 _ (I5.yX (t':=s5.toks) (fp:=[a,kS]) (T:=a) (λb o hb e=>?_) (λb hb=>?_) Z2 zl (Pw r gu) (get?_update_seq s_ _)) Zh Vl.1 pz ek)
  ·have n1:b≠a:=λz=>hb (by simp[z]);have n2:b≠kS:=λz=>hb (by simp[z]);exact (l8 _ _ (Ne.symm n1)).trans ((l8 _ _ (Ne.symm n2)).trans e)
  rcases cq.mp hb with rfl|hb
  ·exact Vl
  obtain rfl:b=kS:=⇑hb
  exact fk5
 unfold ksk_end;dsimp only;simp only[yQ,if_false];by_cases h2:us.toArray.size<2
 ·rw[aJ h2,aJ h2];apply aC (bA ?_);rw[StateT.run_pure];apply aC (bA (tail (List.range xs.length).toArray _ (Array.Perm.refl _) (λi j nJ hj=>?_) ?_ Z))
  ·have e:i=j:=by
    simp only[cX] at h2;omega
   subst e;exact P0 _
  show ((kvs.toArray.zip us.toArray).map λx:Keyed=>x.2)=_;rw[show xs.length=us.length from lx,W3];apply Array.ext' ?_;simp[List.map_snd_zip,lk]
 rw[aE h2,aE h2]
 have i6:2<=us.length:=by
  simp only[cX] at h2;omega
 let#[κ,hk,hc]:=VJ (A:=B) (s':=s5) I5 rk tk al Z1 (λ_ _ e=>e);apply aC (wpAny_mono (hk (λk s'=>k=κ/\s'=s5) #[Z,Z]) (λk s7 FE=>?_) λ_ _ x=>x.elim);let#[rfl,rfl]:=FE;have O:Ord (λi j=>bK ((xs.map kf).getD i []) ((xs.map kf).getD j [])):=Pk _
 apply aC (wpAny_mono (kat_run (ks:=kvs) (vs:=us) (G:=λp s'=>s'=s7/\Good us.length p/\Up (λi j=>bK ((xs.map kf).getD i []) ((xs.map kf).getD j [])) p us.length)
  (Q:=λft s'=>∃p:Array Nat,arrOf ft=p.map (kas_item (kvs.toArray.zip us.toArray))/\failedOf ft=none/\s'=s7/\Good us.length p/\Up (λi j=>bK ((xs.map kf).getD i []) ((xs.map kf).getD j [])) p us.length)
  lk i6 bU (λp ft s' _ q1 q2 q3=>#[p,q1,q2,q3]) (Ok.wp (n:=us.length) (λi j C hi hj=>hc i j C Z1 Z1) (λp q=>#[Z,q]) (TC O Z1))) ?_ λ_ _ x=>x)
 rintro⟨⟨⟩,ft⟩ s' ⟨p,NS,hf,pL,g,u⟩;subst pL;rw[<- lx] at g u;exact tail p ft g u (kat_snds lk NS) hf
end
end L2
namespace L2
open PySem PySem.Spec PyProof.Rows PySem.W mr
section
variable{X:Cx}{pins:List (Addr × Obj)}{σ:St}{H:Hp}{s:Ab}
theorem Inv.tF{cK:ae}{cl:List (Str × Addr)}{is:List Nat}{gs:ag}(I:Inv X pins σ H s)(vU:∀q∈cl,X.env.cells.lookup q.1\q.2)(vY:∀x∈cK,∃c,cl.lookup x\c)(FG:∀x∈cK,X.env.scope.names.lookup x\.cell)(hN:is.map (λi=>X.N[i]?)=cK.map some)
  (BX:is.map (λi=>σ[i]?)=gs.map (λv=>some (some v))):gs.length=cK.length/\KQ cK cl gs s.heap/\∀x c,cl.lookup x\c->H c=none:=by
 have lk:∀{x c},cl.lookup x\c->(x,c)∈cl:=λe=>pd e;apply#[?_,#[λa b c h1 h2=>I.ok.inj a b c (vU _ (lk h1)) (vU _ (lk h2)),vY,λa c h1=>I.cell a c (vU _ (lk h1)),λj a v h1 h2=>?_],λx c e=>I.dU x c (vU _ (lk e))]
 ·let a:=eI List.length BX;let b:=eI List.length hN;simp only[ay] at a b;omega
 let#[c,hc]:=vY a (dC h1);have e1:(is.map λi=>X.N[i]?)[j]? = some (some a):=by rw[hN,dQ,h1];rfl
 have e2:(is.map λi=>σ[i]?)[j]? = some (some (some v)):=by rw[BX,dQ,h2];rfl
 rw[dQ] at e1 e2;let#[i,hi,e1]:=Option.map_eq_some_iff.mp e1;rw[hi] at e2;have e2:σ[i]? = some (some v):=d5 e2;let#[m,_,hl]:=I.loc;let kd:=FG a (dC h1);let#[u,ru,lo]:=hl i a v e1 e2 (.inr (.inl kd));rcases lo with⟨z,_⟩|⟨_,c2,e3,o,e4,e5⟩
 ·have z:X.env.scope.names.lookup a\.local:=z;rw[kd] at z;cases z
 rw[vU _ (lk hc)] at e3;cases e3;exact#[c,u,hc,ru,o,e4,e5]
theorem jL_{B:Ag}{k:Nat}{qual:Str}{params:Arguments}{body:PySem.Expr}{scope:Scope}{p:Str}{cK:ae}{sp:ag->ag->Hp->VK->XK->Prop}{f c':Addr}{cl:List (Str × Addr)}{is:List Nat}{gs xs:ag}{kf:V->aA}{H0:Hp}(F:iu X.prog X.w X.K X.mg X.base k qual params body scope [p] cK sp)(hr:ba k B)(hB:B.frames=X.A.frames)
  (hf:H0 f\jA f qual params body scope cl c') (hc:H0 c'\A4 c' qual) (vU:∀q∈cl,X.env.cells.lookup q.1\q.2) (vY:∀x∈cK,∃c,cl.lookup x\c) (FG:∀x∈cK,X.env.scope.names.lookup x\.cell) (hN:is.map (λi=>X.N[i]?)=cK.map some) (BX:is.map (λi=>σ[i]?)=gs.map (λv=>some (some v)))
  (j4:∀H x,aa H0 H->x∈xs->sp [x] gs H (λv H'=>aa H H'/\∃t,v=.ref t/\H' t\.tup ((kf x).map kV)) (λ_ _ _=>False)):oJ X σ B (.ref f) H0 kf xs:=by
 intro pins H s x u I sm hx ru;let#[#[pm,jI,ef],_]:=I.aH f _ (sm _ _ hf);let#[#[oc,IE,t,ec,d1,d2],_]:=I.aH c' _ (sm _ _ hc);let#[hg,C,fc]:=I.tF vU vY FG hN BX;let e0:=I.AQ;apply wpAny_call (codeAny_mono (F B X.stack s H f c' pm jI cl [u] [x] gs _ _ hr #[hB.trans e0.frames,e0.mod,e0.bs,e0.tS,e0.fF,e0.wb,e0.aH,e0.bare] ef #[c',oc,IE,t,Z,ec,d1,d2] Z hg (.cons ru .nil) C fc (j4 H x sm hx)) λr s' hq=>?_);cases r with
 |error e=>
  let#[a,cls,H',B,a0,dd,rfl,os,bare,un,aH,fl,i,hE]:=hq;exact hE.elim
 |ok fl=>
  cases fl with
  |ret u=>exact I.after hq
  |next=>exact False.elim hq
  |brk=>exact False.elim hq
  |cont=>exact False.elim hq
theorem sortedK{f:Addr}{x:Aa}{xs:ag}{kf:V->aA}{sh:List Bool}{Q:VK}{E:Aa->Ab->Prop}(I:Inv X pins σ H s)(bU:xs.length<64)(al:AU (xs.map kf) sh)(jK:oJ X σ X.A.in1.in1 (.ref f) H kf xs)
  (lW:∀R:aj->Ab->Prop,(∀vs s1,Inv X pins σ H s1->Vals xs vs->R vs s1)->wpAny (model X.prog X.w) X.A.in1 (collect x) R E s)
  (q:∀l zs H',aa H H'->H' l=none->H l=none->zs.Perm xs->zs.map kf=aX (xs.map kf)->Q (.ref l) (upd H' l (.lst zs))):wpAny (model X.prog X.w) X.A (call (.builtin "sorted") [x] [(Str.ofString "key",.ref f)]) (EP X pins σ Q) E s:=by
 apply call_function_entry_kw kind_sorted plain_sorted entry_sorted (ksk_s1 _ _) ?_;unfold Builtin.«sorted»;apply aC (m:=checkCount "sorted" 1 1 _) (bA ?_);apply aC (lW _ λvs s1 I1 r=>?_);let lv:=r.length;apply aC (wpAny_newList ?_ (by rw[b_];omega));have Ju:(s1.heap.push (seqObj "list" vs.toArray 0)).get? s1.heap.objs.size\seqObj "list" vs.toArray 0:=eJ _ Z;have I2:Inv X pins σ H { s1 with heap:=s1.heap.push (seqObj "list" vs.toArray 0) }:=I1.kept (t':=s1.toks) λb u e=>cc _ e;have fa:dc X pins H s1.heap.objs.size:=I1.jF (br _) (I1.aH.fresh (br _));have nl:H s1.heap.objs.size=none:=I1.aH.fresh (br _);apply aC (wpAny_holding (wpAny_call_entry_kw slot_list_sort #[_,Ju,Z] entry_list_sort ?body (ksk_l1 _ _)))
 case body=>
  show wpAny (model X.prog X.w) X.A.in1.in1 (Builtin.«list.sort» #[[.ref s1.heap.objs.size],[(Str.ofString "key",.ref f)]]) _ _ _;rw[ksk_t1];apply gn_ (s:={ s1 with heap:=s1.heap.push (seqObj "list" vs.toArray 0) }) I2 fa Ju r Z1 al jK λzs H' s' I' sm na pz ek=>?_;exact#[_,Z,bA #[_,Z,.ref _,_,I',Z,q _ zs H' sm na nl pz ek]]
end
def Ru(K:af)(H:Hp)(x:V)(xs:ag):Prop:=(∃l,x=.ref l/\dN K H l xs)∨∃d kvs,x=.ref d/\H d\.dK kvs/\xs=kvs.map λkv=>kV kv.1
inductive mF (K:af) (qual:Str) (params:Arguments) (body:PySem.Expr) (scope:Scope) (cl:List (Str × Addr)) (is:List Nat) (sp:ag->ag->Hp->VK->XK->Prop) (t:TA) (σ:St) (H:Hp) (Q:VK) (vs:ag) (ws:ag) (H2:Hp):Prop
 |mk:∀x f c' xs kf sh gs,vs=[x]->ws=[.ref f]->H2 f\jA f qual params body scope cl c'->H2 c'\A4 c' qual->Ru K H2 x xs->xs.length<64->AU (xs.map kf) sh->is.map (λi=>σ[i]?)=gs.map (λv=>some (some v))->(∀H x,aa H2 H->x∈xs->sp [x] gs H (λv H'=>aa H H'/\∃t,v=.ref t/\H' t\.tup ((kf x).map kV)) (λ_ _ _=>False))->(∀l zs H',aa H2 H'->H' l=none->H2 l=none->zs.Perm xs->zs.map kf=aX (xs.map kf)->Q (.ref l) (upd H' l (.lst zs)))->mF K qual params body scope cl is sp t σ H Q vs ws H2
def yZ(K:af)(qual:Str)(params:Arguments)(body:PySem.Expr)(scope:Scope)(cl:List (Str × Addr))(is:List Nat)(sp:ag->ag->Hp->VK->XK->Prop)(t tk:TA):TE:=λσ H Q=>t σ H λvs H1=>tk σ H1 λws H2=>mF K qual params body scope cl is sp t σ H Q vs ws H2
theorem U6{X:Cx}{e:PySem.Expr}{t tk:TA}{p pos kp sA:Pos}{k:Nat}{params:Arguments}{body:PySem.Expr}{scope:Scope}{px:Str}{cK:ae}{qual:Str}{sp:ag->ag->Hp->VK->XK->Prop}{cl:List (Str × Addr)}{is:List Nat}(hc:X.calm=true)(hg:Gl X "sorted")(hm:X.mg "sorted"=none)(ha:PA X [e] t)(hkw:PK X [#[some "key",.Lambda params body scope sA,kp]] tk)
  (F:iu X.prog X.w X.K X.mg X.base k qual params body scope [px] cK sp) (hr:ba (k+2) X.A) (vU:∀q∈cl,X.env.cells.lookup q.1\q.2) (vY:∀x∈cK,∃c,cl.lookup x\c) (FG:∀x∈cK,X.env.scope.names.lookup x\.cell) (hN:is.map (λi=>X.N[i]?)=cK.map some)
  (he:starEach [e] X.env=[(false,eval e X.env)]:=by rfl) (sZ:(backToKw pos (keywordEach [#[some "key",.Lambda params body scope sA,kp]] X.env)).all (·.1.isSome)=true:=by rfl) (FE:(backToKw pos (keywordEach [#[some "key",.Lambda params body scope sA,kp]] X.env)).filterMap (·.1)=[Str.ofString "key"]:=by rfl)
  (hkn:(backToKw pos (keywordEach [#[some "key",.Lambda params body scope sA,kp]] X.env)).any (·.1.isNone)=false:=by rfl):PE X (.Call (.Name "sorted" p) [e] [#[some "key",.Lambda params body scope sA,kp]] pos) (yZ X.K qual params body scope cl is sp t tk):=by
 intro pins s σ H Q I h;apply wpAny_Call_Name_kw (Cr I hg hm Kv ?_);let hA:=ha pos pins s σ H _ I h;rw[he] at hA ⊢;apply callWith_builtin_kwB (first:=[]) Z hkn (evalArgs_kwB sZ (aV hA λus s1 ⟨vs,H1,I1,r1,q1⟩=>?_));apply aV (hkw pos pins s1 σ H1 _ I1 q1) λws s2 ⟨zs,H2,I2,rz,x,f,c',xs,kf,sh,gs,ev,ez,hf,gK,src,bU,al,BX,j4,q⟩=>?_;subst ev ez;let#[u,rfl,ru]:=Vals.one r1;let#[fv,rfl,rf]:=Vals.one rz;cases rf;rw[FE];have hd:X.A.in1.handled=none:=I.ok.hd hc;apply sortedK I2 bU al (jL_ F hr.in1.in1 Z hf gK vU vY FG hN BX j4) (λR hR=>?_) q;rcases src with⟨l,rfl,hl⟩|⟨d,kvs,rfl,hd2,rfl⟩
 ·cases ru;exact ih_ I2 hl Z1 hR
 cases ru;exact S5 hd I2 (.inl hd2) hR
end L2
namespace L2
open PySem PySem.Spec PyProof.Rows
structure jZ (K:af) (x qual:Str) (st:Stmt) (f c:Addr) (fd:Ae):Prop where
 ex:∃(oc:Aa) (od:Option Addr) (kV doc pm:Aa) (an:Option Addr) (ct:Aa) (js:Array (Option Aa)),
  fd=PySem.W.fnOf x qual (i8 st) (gW st) (aY st) .none kV doc pm an (.ref c) ct/\K.lookup f=some #[oc,od,.func fd,js]/\PySem.W.codeIn K (.ref c) qual=true
 kp:PySem.W.keepIn K (.ref f)=true
theorem jZ.fn{K:af}{x qual:Str}{st:Stmt}{f c:Addr}{fd:Ae}(F:jZ K x qual st f c fd):bh K x qual st f fd:=by
 let#[oc,od,kV,doc,pm,an,ct,js,e,l,h]:=F.ex;exact#[#[oc,od,kV,doc,pm,an,.ref c,ct,js,e,l,h],F.kp]
theorem jZ.ok{P:Ad}{w:Af}{K:af}{mg:Str->Option Aa}{base:Heap}{x qual:Str}{st:Stmt}{f c:Addr}{fd:Ae}{N ps:ae}{k:Nat}{sp:Sp}(F:jZ K x qual st f c fd)(S:bw N ps (aY st))(len:∀vs H Q E,sp vs H Q E->vs.length=ps.length)
  (fE:∀(A:Ag) (outer:List Env) (s:Ab) (H:Hp) (vs:ag) (Q:VK) (E:XK),ba k (A.deeper (envOfC qual (aY st) s.heap.objs.size f (.ref c)))->sp vs H Q E->
   ∃t,kz (jH a9 P w K mg base N qual (aY st) f (.ref c) A outer s H E).zJ (gW st) t/\t { nx:=λ_ H'=>Q .non H',rt:=Q } (start N vs) H):!ak a9 (k+1) f fd ps sp:=by
 let#[oc,od,kV,doc,pm,an,ct,js,rfl,lk,gK]:=F.ex;apply SY lk gK S len λA outer s H vs Q E hr j4=>?_;let#[t,h,q]:=fE A outer s H vs Q E hr j4;exact#[t,h.zJ,q]
end L2
namespace Ev
open PySem L2
def NT(H G:Hp):Prop:=∀b o,H b\o->(∀vs,o≠.tbl vs)->G b\o
theorem NT.of{H G:Hp}(s:aa H G):NT H G:=λb o e _=>s b o e
theorem NT.refl(H:Hp):NT H H:=NT.of (aa.refl H)
theorem NT.trans{H G J:Hp}(s:NT H G)(t:NT G J):NT H J:=λb o e n=>t b o (s b o e n) n
theorem aN.nt{T:Addr}{H G:Hp}{vs:Array Aa}(b:aN T H G)(hT:H T\.tbl vs):NT H G:=λc o e n=>b c o e (λz=>by
 rw[z,hT] at e;exact n _ (d5 e).symm)
theorem NT.tup{H G:Hp}(s:NT H G){a:Addr}{xs:ag}(h:H a\.tup xs):G a\.tup xs:=s _ _ h nofun
theorem NT.lst{H G:Hp}(s:NT H G){a:Addr}{xs:ag}(h:H a\.lst xs):G a\.lst xs:=s _ _ h nofun
theorem NT.dK{H G:Hp}(s:NT H G){a:Addr}{xs:List (Key × V)}(h:H a\.dK xs):G a\.dK xs:=s _ _ h nofun
theorem NT.ins{H G:Hp}(s:NT H G){a C dx:Addr}{fs:List (Str × V)}(h:H a\.ins C dx fs):G a\.ins C dx fs:=s _ _ h nofun
section
variable{K:af}{H G:Hp}{v:V}
theorem bF.nt{ys:ag}{ks:List aA}(h:bF K H ys ks)(s:NT H G):bF K G ys ks:=Paired.bQ h λy k ⟨a,z,q⟩=>#[a,z,s.tup q]
theorem eV.nt{C p:Addr}{hs:Xa}{ts:Xb}{fp:ai}(W:eV K C H p hs ts fp)(s:NT H G):eV K C G p hs ts fp:=by
 let#[dx,d1,l2,d3,zs,as,rfl,h1,h2,h3,h4,h5,h6,h7]:=W.ex;exact#[dx,d1,l2,d3,zs,as,Z,s _ _ h1 nofun,s.dK h2,s.lst h3,bF.nt h4 s,s.dK h5,h6,λi n a e1 e2=>s.lst (h7 i n a e1 e2)]
theorem cj.nt{o:Option (Xb)}(h:cj K H v o)(s:NT H G):cj K G v o:=by
 cases o with
 |none=>exact h
 |some ws=>
  let#[a,ys,e,ha,t]:=h;exact#[a,ys,e,s.lst ha,bF.nt t s]
theorem gf.nt{CG CW g p:Addr}{hs:Xa}{ts:Xb}{qs:aL}{fp:ai}(h:gf K CG CW H g p hs ts qs fp)(s:NT H G):gf K CG CW G g p hs ts qs fp:=by
 let#[dx,dw,dy,vs,bS,h1,h2,h3,h4,h5,r]:=h.ex;exact#[dx,dw,dy,vs,bS,s _ _ h1 nofun,h2.nt s,s.dK h3,s.dK h4,Paired.bQ h5 λv q h=>h.nt s,r]
end
theorem Tj{H:Hp}{T:Addr}{qual q':Str}{a a':Arguments}{b b':Expr}{sc IV:Scope}{ps:Pos}{cl:List (Str × Addr)}{σ:St}{Q:VK}(h:cU H T qual)(e1:q'=qual)(e2:a'=a)(e3:b'=b)(e4:IV=sc)(q:∀f c' H1,aN T H H1->cU H1 T qual->H1 f\jA f qual a b sc cl c'->H1 c'\A4 c' qual->Q (.ref f) H1):Di T q' a' b' IV ps cl σ H Q:=by
 subst e1 e2 e3 e4;let#[es,h,Aq]:=h;apply#[_,h,Va es,?_];rcases W9 ps es with e|⟨e,he,q1⟩
 ·apply .inl #[e,λc' f n1 n2 n3=>?_];have _q:T≠c':=bu h n1;have _p:T≠f:=bu h n2
  have B:aN T H (upd (upd (upd H T (.tbl ((mh es).toArray++(List.toArray [rawInt ps.line,rawInt ps.col,.ref c'])))) c' (A4 c' q')) f (jA f q' a' b' IV cl c')):=λb o e n=>by
   rw[az (bu e n2),az (bu e n1),az n];exact e
  apply q f c' _ B #[es++[(ps,c')],?_,λx hx=>?_] ao ?_
  ·rw[az _p,az _q,ao,WD];simp
  ·rcases fB.mp hx with hx|hx
   ·exact B _ _ (Aq x hx) (λz=>by have:=Aq x hx;rw[z,h] at this;cases this)
   rw[wY.mp hx];show upd _ f _ c'=_;rw[az n3,ao]
  rw[az n3,ao]
 apply .inr #[e.2,q1,λf hf=>?_];let s:=aa.new (o:=jA f q' a' b' IV cl e.2) hf;exact q f e.2 _ (aN.of s) #[es,s _ _ h,λx hx=>s _ _ (Aq x hx)] ao (s _ _ (Aq e he))
theorem fj{H:Hp}{T:Addr}{qual:Str}(h:cU H T qual):∃vs,H T\.tbl vs:=by
 let#[es,e,_]:=h;exact#[_,e]
theorem cU.but{H G:Hp}{T T':Addr}{q:Str}(h:cU H T q)(b:aN T' H G)(hT:∃vs,H T'\.tbl vs)(ne:T≠T'):cU G T q:=by
 let#[es,e,a]:=h;let#[vs,hT]:=hT;exact#[es,b _ _ e ne,λx hx=>b _ _ (a x hx) (λz=>by have:=a x hx;rw[z,hT] at this;cases this)]
def jz:Expr->Scope
 |.Lambda _ _ s _=>s
 |_=>aY gE
def EL:Expr->Expr
 |.Lambda _ b _ _=>b
 |e=>e
def EM:Expr->Arguments
 |.Lambda a _ _ _=>a
 |_=>i8 gE
def SR:Expr->Expr
 |.Call _ _ (k::_) _=>k.value
 |e=>e
def Es(l:List Stmt)(i:Nat):Stmt:=l.getD i (.Pass #[0,0,0,0])
def Ow:Stmt->Expr
 |.For _ i _ _ _=>i
 |_=>.Constant .none 0 #[0,0,0,0]
def L0:Stmt->Expr
 |.Return (some e) _=>e
 |_=>.Constant .none 0 #[0,0,0,0]
end Ev
namespace Ev
open PySem L2
theorem ED{σ:St}{H:Hp}{k:ag->Hp->Prop}(h:k [] H):gi σ H k:=h
theorem yD{te:TE}{t:TA}{σ:St}{H:Hp}{k:ag->Hp->Prop}(h:te σ H λx H1=>t σ H1 λxs H2=>k (x::xs) H2):pN te t σ H k:=h
abbrev uj(qs:aL)(n:Str):Int:=strOf (qs.map fW) n
def kN(qs:aL)(n:Str):aA:=[.inl (-(uj qs n)),.inr n]
def jk:aA->Str
 |[_,.inr n]=>n
 |_=>⟨#[]⟩
def lR(qs:aL):ae:=(aX ((qs.map (·.1)).map (kN qs))).map jk
def ER(qs:aL):V->aA
 |.str n=>kN qs n
 |_=>[]
theorem Vy{zs:ag}{ns:ae}(p:zs.Perm (ns.map V.str)):∃ms:ae,zs=ms.map V.str/\ms.Perm ns:=by
 have all:∀z∈zs,∃n,z=V.str n:=λz hz=>by
  let#[n,_,e]:=bN.mp (p.mem_iff.mp hz);exact#[n,e.symm]
 have mk:∀l:ag,(∀z∈l,∃n,z=V.str n)->∃ms:ae,l=ms.map V.str:=λl=>by
  induction l with
  |nil=>intro _;exact#[[],Z]
  |cons a r ih=>
   intro h;let#[n,rfl]:=h a eP;let#[ms,rfl]:=ih λz hz=>h z (eA _ hz);exact#[n::ms,Z]
 let#[ms,rfl]:=mk zs all;apply#[ms,Z,?_];have:=p.map (λv:V=>match v with | .str n=>n|_=>(⟨#[]⟩:Str));rw[ck,ck] at this;simpa [Function.comp_def] using this
theorem _T{qs:aL}{zs:ag}(p:zs.Perm ((qs.map (·.1)).map V.str))(e:zs.map (ER qs)=aX (((qs.map (·.1)).map V.str).map (ER qs))):zs=(lR qs).map V.str:=by
 let#[ms,rfl,_]:=Vy p;have e1:(ms.map V.str).map (ER qs)=ms.map (kN qs):=by rw[ck];rfl
 have e2:((qs.map (·.1)).map V.str).map (ER qs)=(qs.map (·.1)).map (kN qs):=by
  rw[ck];rfl
 rw[e1,e2] at e
 have em:(ms.map (kN qs)).map jk=ms:=by
  rw[ck];exact List.map_id' ms
 unfold lR;rw[<- e,em]
theorem KP(qs:aL):(lR qs).Perm (qs.map (·.1)):=by
 unfold lR;let p:=(mj ((qs.map (·.1)).map (kN qs))).map jk
 have e:((qs.map (·.1)).map (kN qs)).map jk=qs.map (·.1):=by
  generalize qs.map (·.1)=ns;rw[ck];exact List.map_id' _
 rw[e] at p;exact p
def fe(qs:aL)(f:aq)(h:Str):ae:=(lR qs).filter λn=>decide (f n=h)
abbrev xK:Str:="heaviest_first.<locals>.<lambda>"
def oY:Expr:=SR (Ow (Es (gW hG) 1))
abbrev AF:ae:=["goods"]
theorem GP:∀y∈(jz oY).names,y.2=.free->y.1∈AF:=by decide +kernel
theorem zp:Hk ["name"] AF (jz oY):=#[by decide +kernel,Z,Z,Z,by decide +kernel,by decide +kernel,λx h=>GP (x,.free) (pd h) Z,by decide +kernel]
section v
inductive mO (K:af) (CG CW:Addr) (vs:ag) (gs:ag) (H:Hp) (Q:VK):Prop
 |mk:∀(g p:Addr) (q:Pc) (hs:Xa) (ts:Xb) (qs:aL) (fp:ai),vs=[.str q.1]->gs=[.ref g]->gf K CG CW H g p hs ts qs fp->(qs.map (·.1)).Nodup->q∈qs->0<=q.2.1->q.2.1<=1000000000->(∀t,H t=none->Q (.ref t) (upd H t (.tup [.int (-q.2.1),.str q.1])))->mO K CG CW vs gs H Q
def zf(K:af)(CG CW:Addr):ag->ag->Hp->VK->XK->Prop:=λvs gs H Q _=>mO K CG CW vs gs H Q
theorem kq_{CG CW CP:Addr}(T:dF K CG)(cW:!bo CG 2 "weight" yy (Bn K CG CW CP)):!iu 3 xK (EM oY) (EL oY) (jz oY) ["name"] AF (zf K CG CW):=by
 apply xT zp (λpm c' jI cl us hl=>?_) (λA outer s H f cd cl vs gs Q E hr h hp=>?_)
 ·match us,hl with
  |[_],_=>rfl
 let#[g,p,q,hs,ts,qs,fp,rfl,rfl,G,nd,hq,w0,w1,k]:=h;let#[dx,dw,dy,vs,bS,h1,h2,_]:=id G.ex;apply#[_,bC %[AX A9 (eW cW T.cl hr (pv 1) %[0|0]),0|0],?_];have nI:(bV p dw dy).lookup ("weight":Str)=none:=uQ _ _ _ Z0 Z0 Z0;apply#[_,Z,g,dx,_,Z,h1,nI,_,Z,g,p,.str q.1,some q.1,hs,ts,qs,fp,Z,G,nd,Z,.inl #[q,hq,Z,?_]];exact#[_,Z,_,Z,zl,λt ht=>k t ht]
def Hg(L:Addr):List (Str × Addr):=[("goods",L+1)]
theorem Qu{L f:Addr}{cd:Aa}:closureFor (jz oY) (PyProof.Rows.envOfC pR (aY hG) L f cd)=pure (Hg L):=by rfl
theorem Qy{L f:Addr}{cd:Aa}:∀q∈Hg L,(PyProof.Rows.envOfC pR (aY hG) L f cd).cells.lookup q.1\q.2:=by
 intro q hq;simp only[Hg,cq,List.not_mem_nil,or_false] at hq;rcases hq with rfl;rfl
theorem MH{L:Addr}:∀x∈AF,∃c,(Hg L).lookup x\c:=by
 intro x hx;simp only[AF,cq,List.not_mem_nil,or_false] at hx;rcases hx with rfl;exact#[_,Z]
theorem MD:∀x∈AF,(aY hG).names.lookup x\.cell:=by decide +kernel
theorem qU:bw ["goods","placed","found","piece"] jN (aY hG):=bD
def Bv(H:Hp)(ns:ae)(ad:Str->Addr)(g:Str->ae):Prop:=(∀h∈ns,H (ad h)\.lst ((g h).map V.str))/\∀h∈ns,∀h'∈ns,ad h=ad h'->h=h'
inductive mQ (K:af) (CG CW T:Addr) (vs:ag) (H:Hp) (Q:VK) (E:XK):Prop
 |mk:∀(g p d:Addr) (hs:Xa) (ts:Xb) (qs:aL) (fp:ai) (f:aq),vs=[.ref g,.ref d]->pe K CG CW H g p d hs ts qs fp f->(∀q∈qs,0<=q.2.1/\q.2.1<=1000000000)->cU H T xK->(∀d' ad H',aN T H H'->cU H' T xK->H d'=none->H' d'\.dK (dI (aD hs) λh=>.ref (ad h))->Bv H' (aD hs) ad (fe qs f)->(∀h∈aD hs,H (ad h)=none)->Q (.ref d') H')->mQ K CG CW T vs H Q E
theorem cU.putL{H:Hp}{T a:Addr}{q:Str}{xs:ag}{o:HO}(h:cU H T q)(ha:H a\.lst xs):cU (upd H a o) T q:=by
 let#[es,e,c]:=h;apply⟨es,by rw[az (cy e ha nofun)];exact e,λx hx=>?_⟩;rw[az (λz=>by have:=c x hx;rw[z,ha] at this;cases this)];exact c x hx
theorem A1{H:Hp}{d:Addr}{ns:ae}{g:Str->V}{n:Str}(h:H d\.dK (dI ns g))(m:n∈ns):fV H d (.str n) (some (g n)):=by
 have:=fV.k (k:=Sum.inr n) h;rw[HR m] at this;exact this
theorem MM{qs:aL}(nd:(qs.map (·.1)).Nodup){q:Pc}(h:q∈qs):uj qs q.1=q.2.1:=by
 apply j1_ ?_ (bN.mpr ⟨q,h,rfl⟩);rw[ck];exact nd
theorem kD_{f0 c0 CG CW CP T:Addr}{fd:Ae}(F:jZ K pR pR hG f0 c0 fd)(B:Bi mg)(TG:dF K CG)(TW:Txt K mg CW)(hC:PySem.W.CodeHd base c0 T)(sY:base.BuiltinsAt mg T)(cH:!bo CW 1 "hands" gy (Ct K CW))(cW:!bo CG 2 "weight" yy (Bn K CG CW CP)) :
  ak P w K mg base a9 6 f0 fd jN (mQ K CG CW T):=by
 apply F.ok qU (λvs H Q E h=>?_) (λA outer s H vs Q E hr h=>?_)
 ·let#[g,p,d,hs,ts,qs,fp,f,rfl,_]:=h;rfl
 let#[g,p,d,hs,ts,qs,fp,f,rfl,Pl,wq,tab,k]:=h;let hu:=fZ hr;let sz:=b_;have iG:ba 1 _:=hr.mono (by decide);refine' ⟨_,ax ?s1 (ax ?s2 (aF ?s3)),?kk⟩
 case' s1=>refine' bx 2 qU.nd (iP (CK Z) (by rfl) B.dict uJ %[md ["hand"] 1 [] (dO (wI cH TW.cl iG (dA (pv 0) Z))) (λfp s H=>fM (i:=0) (show (["hand"]:ae).Nodup by decide +kernel) Z (Or.inl Z)) (λfp s H=>jb) (λfp s H=>?e1)|0])
 case e1=>exact bC %[0,bX aK|0]
 case' s2=>refine' eR eh Z (dO ?l2) (cY 3 qU.nd) (aF ?b2)
 case l2=>exact U6 (px:="name") (cK:=AF) (cl:=Hg s.heap.objs.size) (is:=[0]) (k:=3) Z (by rfl) B.sorted %[1|0] (UM (S_ (P:=T) (c:=c0) Z Qu Z hC sY) Tf) (kq_ TG cW) hr Qy MH MD Z
 case b2=>exact iq (iJ i_ tT tU p0 (ko hu (pv 2) (ko hu (pv 1) (pv 3))) %[3|0])
 case s3=>exact aZ (pv 2)
 let nd:=Pl.Gd.sy;have n8:(aD hs).length<=8:=by have:=Pl.Gd.fD;have:=Pl.Gd.h8;omega
 let#[dx,dw,dy,vs,bS,h1,h2,h3,h4,h5,m1,m2,m3,m4,m5]:=id Pl.G.ex;let#[eU,d1,l2,d3,je,as,ef,w1,_]:=id h2.ex;have gJ:(cQ d1 l2 d3).lookup ("hands":Str)=none:=ip _ _ _ Z0 Z0 Z0;apply#[_,Z,g,CG,dx,_,_,Z,h1,TG.cl,TG.nW,ki _ _ _,p,eU,_,Z,w1,gJ,p,hs,ts,bS,Z,h2,λlh nh=>?_];let#[s1,e1]:=bj (o:=.lst ((aD hs).map V.str)) nh;generalize upd H lh (.lst ((aD hs).map V.str))=H1 at s1 e1 ⊢;apply#[lh,Z,#[_,.of e1],λD hD=>?_];apply ku (own:=1) (fv:=[]) (xs:=(aD hs).map V.str) Z eL (λi out H'=>∃ad:Str->Addr,aa H1 H'/\H' D\.lst out/\og K H' out (dI ((aD hs).take i) λh=>.ref (ad h))/\Bv H' ((aD hs).take i) ad (λ_=>[])/\∀h∈(aD hs).take i,H1 (ad h)=none/\ad h≠D) #[λ_=>D,aa.new hD,ao,.nil,#[by simp,by simp],by simp] (λi out H' _ ⟨_,sm,_⟩=>.of (sm _ _ e1)) (λout H2 ⟨ad,s2,ym,pa,ls,fr⟩=>?_) (λi x out H' hx ⟨ad,sm,hd,pa,ls,fr⟩=>?_);rotate_left
 ·let#[n,hn,rfl]:=jP hx;have nn:n∉(aD hs).take i:=PU nd hn;apply#[_,Z,Z,λNx hN=>d6 ?_];apply#[_,Z,zl,λl nl=>?_];let#[s3,e3]:=bj (o:=.lst []) nl;generalize upd H' l (.lst [])=H3 at s3 e3 ⊢;apply#[zl,λt nt=>?_];let#[s4,e4]:=bj (o:=.tup [.str n,.ref l]) nt;generalize upd H3 t (.tup [.str n,.ref l])=H4 at s4 e4 ⊢;let pE:=s3.trans s4;let pM:=pE _ _ hd;have lD:l≠D:=λz=>by rw[z,hd] at nl;cases nl
  have Xp:∀h∈(aD hs).take i,ad h≠l:=λh hh z=>by
   have:=ls.1 h hh;rw[z,nl] at this;cases this
  let lo:=bP pa;rw[kg,dP] at lo
  have pD:∀{b:Addr} {zs:ag},H4 b\.tup zs->b≠D:=λhb z=>by
   rw[z,pM] at hb;cases hb
  have ne:∀h∈(aD hs).take i,h≠n:=λh hh z=>nn (z▸hh);apply#[out,pM,by omega,hN (out++[.ref t]) _ #[λm=>if m=n then l else ad m,g6 (sm.trans pE) hD,ao,?_,#[λh hh=>?_,λh hh h' T_ z=>?_],λh hh=>?_]]
  ·have e:dI ((aD hs).take (i+1)) (λh=>.ref (if h=n then l else ad h))=dI ((aD hs).take i) (λh=>.ref (ad h))++[(Sum.inr n,.ref l)]:=by
    rw[jQ hn];unfold dI;rw[dD,fi,List.map_nil];dsimp only;rw[aJ Z];congr 1;exact uR λm hm=>by rw[aE (ne m hm)]
   rw[e];exact kj (Paired.bQ pa λy kv ⟨b,z,hb⟩=>#[b,z,by rw[az (pD (pE _ _ hb))];exact pE _ _ hb]) (.cons #[t,Z,by rw[az (pD e4)];exact e4] .nil)
  ·rw[jQ hn] at hh;rcases fB.mp hh with hh|hh
   ·dsimp only;rw[aE (ne h hh),az (fr h hh).2];exact pE _ _ (ls.1 h hh)
   obtain rfl:h=n:=⇑hh
   dsimp only;rw[aJ Z,az lD];exact s4 _ _ e3
  ·rw[jQ hn] at hh T_;dsimp only at z;rcases fB.mp hh with a1|a1<;>rcases fB.mp T_ with a2|a2
   ·rw[aE (ne h a1),aE (ne h' a2)] at z;exact ls.2 h a1 h' a2 z
   ·have a2:h'=n:=⇑a2
    rw[aE (ne h a1),aJ a2] at z;exact absurd z (Xp h a1)
   ·have a1:h=n:=⇑a1
    rw[aE (ne h' a2),aJ a1] at z;exact absurd z.symm (Xp h' a2)
   rw[show h=n by simpa using a1,show h'=n by simpa using a2]
  rw[jQ hn] at hh;dsimp only;rcases fB.mp hh with hh|hh
  ·rw[aE (ne h hh)];exact fr h hh
  obtain rfl:h=n:=⇑hh
  rw[aJ Z];exact#[sm.free nl,lD]
 rw[ay,eX] at pa ls fr;apply#[D,out,_,Z,ym,pa,by rw[kg];omega,λdf Mr=>?_]
 have xP:((dI (aD hs) λh=>V.ref (ad h)).map (·.1)).Nodup:=by
  rw[KI,w_,tX];exact nd.imp λn e=>n (gO e)
 rw[CF xP];let#[s3,e3]:=bj (o:=.dK (dI (aD hs) λh=>V.ref (ad h))) Mr;lk;generalize upd H2 df (.dK (dI (aD hs) λh=>V.ref (ad h)))=H3 at s3 e3 ⊢;let vB:=(s1.trans s2).trans s3;have Mq:H df=none:=(s1.trans s2).free Mr;have U7:∀h∈aD hs,H (ad h)=none:=λh hh=>s1.free (fr h hh).1;have SM:∀h∈aD hs,H3 (ad h)\.lst []:=λh hh=>s3 _ _ (ls.1 h hh);let inj:=ls.2;clear s1 s2 s3 e1 pa ls fr ym nh hD Mr;apply#[_,Z,ED (yD ?_)];apply Tj (tab.same vB) Z Z Z Z λfl c' H4 b4 fC vV B0=>?_;let#[tv,hT]:=fj tab
 have neT:∀{b:Addr} {o:HO},H3 b\o->(∀vs,o≠.tbl vs)->b≠T:=λ{b o} e n z=>by
  rw[z,vB _ _ hT] at e;exact n _ (d5 e).symm
 have iW:NT H H4:=λb o e n=>b4 _ _ (vB _ _ e) (neT (vB _ _ e) n);have SL:∀h∈aD hs,H4 (ad h)\.lst []:=λh hh=>b4 _ _ (SM h hh) (neT (SM h hh) nofun);let e4:=b4 _ _ e3 (neT e3 nofun);have pZ:aN T H H4:=λb o e n=>b4 _ _ (vB _ _ e) n;apply#[.ref d,fl,c',(qs.map (·.1)).map V.str,ER qs,[false,true],[.ref g],Z,Z,vV,B0,.inr #[d,_,Z,iW.dK Pl.hd,?_],by rw[ay,ay];exact Pl.bU,#[by decide,λk hk=>?_],Z,λH' x sm hx=>?_,λl zs H5 s5 nl BI pz ek=>?_]
 ·show _=((qs.map (·.1)).map _).map _;generalize qs.map (·.1)=Ey;rw[ck];rfl
 ·let#[v,hv,rfl]:=bN.mp hk;let#[n,_,rfl]:=bN.mp hv;rfl
 ·let#[n,hn,rfl]:=bN.mp hx;let#[q,hq,rfl]:=bN.mp hn;apply#[g,p,q,hs,ts,qs,fp,Z,Z,(Pl.G.nt iW).same sm,Pl.nd,hq,(wq q hq).1,(wq q hq).2,λt nt=>#[aa.new nt,t,Z,?_]];rw[ao];show _\HO.tup [.int (-(uj qs q.1)),.str q.1];rw[MM Pl.nd hq]
 rw[_T pz ek];have hl:upd H5 l (.lst ((lR qs).map V.str)) l\.lst ((lR qs).map V.str):=ao;have s6:aa H4 (upd H5 l (.lst ((lR qs).map V.str))):=s5.trans (aa.new nl)
 have _P:∀h∈aD hs,ad h≠l:=λh hh z=>by
  have:=SL h hh;rw[z,BI] at this;cases this
 generalize upd H5 l (.lst ((lR qs).map V.str))=H6 at hl s6 ⊢
 have SO:(lR qs).length<64:=by
  rw[(KP qs).length_eq,ay];exact Pl.bU
 have dT:d≠T:=λz=>by
  have:=Pl.hd;rw[z,hT] at this;cases this
 apply#[l,Z,#[_,.of hl],gQ (K:=K) (a:=l) (xs:=(lR qs).map V.str) (λi σ H'=>∃v3:aI,σ=[some (.ref g),some (.ref d),some (.ref df),v3]/\aN T H H'/\cU H' T xK/\H' df\.dK (dI (aD hs) λh=>V.ref (ad h))/\H' l\.lst ((lR qs).map V.str)/\Bv H' (aD hs) ad (λh=>((lR qs).take i).filter λn=>decide (f n=h))) #[none,Z,λb o e n=>s6 _ _ (pZ b o e n),fC.same s6,s6 _ _ e4,hl,λh hh=>s6 _ _ (SL h hh),inj] (λi σ H' _ ⟨_,_,_,_,_,z,_⟩=>.of z) ?_ ?_]
 ·rintro i x σ H' hx ⟨v3,rfl,bT,jg,sV,TZ,ls⟩;let#[n,hn,rfl]:=jP hx;have nm:n∈qs.map (·.1):=(KP qs).mem_iff.mp (dC hn);have fm:f n∈aD hs:=(hX hs).mem_iff.mpr (Pl.at_ n nm);let jE:=bT _ _ Pl.hd dT;let la:=ls.1 (f n) fm;lk;apply#[_,Z,_,Z,_,Z,d,_,Z,A1 jE nm,df,_,Z,A1 sV fm,.inl #[Z,_,.of la],_,Z,ad (f n),_,_,Z,Z,la,?_,?_]
  ·rw[ay];have:=List.length_filter_le (λn'=>decide (f n'=f n)) ((lR qs).take i);rw[dP] at this;dsimp only;omega
  apply#[_,Z,λb o e ne=>?_,cU.putL jg la,?_,?_,λh hh=>?_,inj]
  ·rw[az (bu e (U7 _ fm))];exact bT b o e ne
  ·rw[az (cy sV la nofun)];exact sV
  ·rw[az (_P _ fm).symm];exact TZ
  by_cases z:h=f n
  ·subst z;dsimp only;rw[ao,jQ hn,List.filter_append,List.filter_cons_of_pos Z2,List.filter_nil,dD];rfl
  dsimp only;rw[az (λy=>z (inj h hh _ fm y)),jQ hn,List.filter_append,List.filter_cons_of_neg ⇑(λy=>z y.symm),List.filter_nil,yP];exact ls.1 h hh
 rintro σ H' ⟨v3,rfl,bT,jg,sV,TZ,ls⟩;rw[ay,eX] at ls;exact#[_,Z,k df ad H' bT jg Mq sV ls U7]
end
end Ev
namespace Ev
open PySem L2
abbrev k_:Stmt:=i9 JZ 0
abbrev rF:Stmt:=i9 JZ 1
abbrev lE:Stmt:=i9 JZ 2
abbrev uI:Stmt:=i9 JZ 3
def dH(g dl dv dp:Addr):List (Str × V):=aB AS (.ref dp) (aB oj (.ref dv) (aB ie (.ref dl) (aB "wares" (.ref g) [])))
theorem gj(g dl dv dp:Addr):(dH g dl dv dp).lookup ("wares":Str)\.ref g:=by
 unfold dH;rw[eK,eK,eK,eK,aE Z0,aE Z0,aE Z0,aJ Z]
theorem Dx(g dl dv dp:Addr):(dH g dl dv dp).lookup (ie:Str)\.ref dl:=by
 unfold dH;rw[eK,eK,eK,aE Z0,aE Z0,aJ Z]
theorem LV(g dl dv dp:Addr):(dH g dl dv dp).lookup (oj:Str)\.ref dv:=by
 unfold dH;rw[eK,eK,aE Z0,aJ Z]
theorem Dw(g dl dv dp:Addr):(dH g dl dv dp).lookup (AS:Str)\.ref dp:=by
 unfold dH;rw[eK,aJ Z]
theorem Cc(g dl dv dp:Addr){m:Str}(h1:¬m="wares")(h2:¬m=ie)(h3:¬m=oj)(h4:¬m=AS):(dH g dl dv dp).lookup m=none:=by
 unfold dH;rw[eK,eK,eK,eK,aE h4,aE h3,aE h2,aE h1];rfl
structure fU (K:af) (CS:Addr):Prop where
 cl:mB K CS
 nW:j7 K CS "wares"
 nL:j7 K CS ie
 nV:j7 K CS oj
 nP:j7 K CS AS
structure Wd (hs:Xa) (ts:Xb) (qs:aL) (f:aq):Prop where
 Gd:Good hs ts
 nd:(qs.map (·.1)).Nodup
 bU:qs.length<64
 at_:∀n∈qs.map (·.1),f n∈hs.map (·.1)
 wq:∀q∈qs,0<=q.2.1/\q.2.1<=1000000000
structure ic (K:af) (CS CG CW:Addr) (H:Hp) (v g p:Addr) (hs:Xa) (ts:Xb) (qs:aL) (fp:ai) (f:aq):Prop where
 ex:∃(dx dl dv dp:Addr) (ad:Str->Addr),H v\.ins CS dx (dH g dl dv dp)/\gf K CG CW H g p hs ts qs fp/\H dl\.dK (vM hs qs f)/\H dv\.dK (dI (aD hs) λh=>.int (uu hs qs f h))/\H dp\.dK (dI (aD hs) λh=>.ref (ad h))/\∀h∈aD hs,H (ad h)\.lst ((fe qs f h).map V.str)
theorem ic.nt{K:af}{CS CG CW:Addr}{H G:Hp}{v g p:Addr}{hs:Xa}{ts:Xb}{qs:aL}{fp:ai}{f:aq}(S:ic K CS CG CW H v g p hs ts qs fp f)(s:NT H G):ic K CS CG CW G v g p hs ts qs fp f:=by
 let#[dx,dl,dv,dp,ad,h1,h2,h3,h4,h5,h6]:=S.ex;exact#[dx,dl,dv,dp,ad,s.ins h1,h2.nt s,s.dK h3,s.dK h4,s.dK h5,λh hh=>s.lst (h6 h hh)]
theorem ic.same{K:af}{CS CG CW:Addr}{H G:Hp}{v g p:Addr}{hs:Xa}{ts:Xb}{qs:aL}{fp:ai}{f:aq}(S:ic K CS CG CW H v g p hs ts qs fp f)(s:aa H G):ic K CS CG CW G v g p hs ts qs fp f:=S.nt (NT.of s)
abbrev lo(qs:aL)(f:aq)(h:Str):Int:=ld f (qs.map fW) h
def nZ(hs:Xa)(qs:aL)(f:aq)(a b:Str):Int:=lo qs f a * strOf hs b - lo qs f b * strOf hs a
def j8(hs:Xa)(a b:Str):Int:=strOf hs a+strOf hs b
section v
theorem vo:bw Cf Cf (aY k_):=bD
inductive HI (K:af) (CS CG CW T:Addr) (vs:ag) (H:Hp) (Q:VK) (E:XK):Prop
 |mk:∀(v dx g p d:Addr) (hs:Xa) (ts:Xb) (qs:aL) (fp:ai) (f:aq),vs=[.ref v,.ref g,.ref d]->H v\.ins CS dx []->v∉fp->pe K CG CW H g p d hs ts qs fp f->Wd hs ts qs f->cU H T xK->(∀H',(∀b o,H b\o->b≠v->b≠T->H' b\o)->cU H' T xK->ic K CS CG CW H' v g p hs ts qs fp f->Q .non H')->HI K CS CG CW T vs H Q E
theorem iB_{f0 CS CG CW T:Addr}{fd:Ae}(F:bh K "__init__" "Sight.__init__" k_ f0 fd)(TS:fU K CS)(HM:!bg 3 "loads_at" jN (Ih K CG CW))(KH:!bg 4 "levels_at" jN (KJ K CG CW))(QW:!bg 6 pR jN (mQ K CG CW T)) :
  ak P w K mg base a9 7 f0 fd Cf (HI K CS CG CW T):=by
 exists F.bG vo;let#[v,dx,g,p,d,hs,ts,qs,fp,f,rfl,hv,xg,Pl,W,tab,k]:=h;refine' #[_,ax ?s1 (ax ?s2 (ax ?s3 (aF ?s4))),?kk]
 case s1=>exact uO (pv 0) (pv 1) Z
 case s2=>exact uO (pv 0) (aR HM hr %[1,2|0]) Z
 case s3=>exact uO (pv 0) (aR KH hr %[1,2|0]) Z
 case s4=>exact uO (pv 0) (aR QW hr %[1,2|0]) Z
 have dv:d≠v:=cy Pl.hd hv nofun;have sH:∀{G:Hp},(∀b o,H b\o->b≠v->G b\o)->pe K CG CW G g p d hs ts qs fp f:=λ{G} up=>#[Pl.G.keep (λb hb o e=>up b o e (λz=>xg (z▸hb))) (λb xs e=>up b _ e (cy e hv nofun)),Pl.Gd,Pl.i7,up _ _ Pl.hd dv,Pl.at_,Pl.nd,Pl.bU];apply#[_,Z,_,Z,v,CS,dx,_,Z,hv,TS.cl,TS.nW,by show 0<1000;decide,?_];have up1:∀b o,H b\o->b≠v->upd H v (.ins CS dx (aB "wares" (.ref g) [])) b\o:=λb o e n=>by rw[az n];exact e
 have nC:upd H v (.ins CS dx (aB "wares" (.ref g) [])) v\.ins CS dx (aB "wares" (.ref g) []):=ao;have B9:∀{b},upd H v (.ins CS dx (aB "wares" (.ref g) [])) b=none->b≠v:=λ{b} e z=>by rw[z,ao] at e;cases e
 generalize upd H v (.ins CS dx (aB "wares" (.ref g) []))=H1 at up1 nC B9 ⊢;apply#[_,Z,_,Z,g,p,d,hs,ts,qs,fp,f,Z,sH up1,λdl H2 s2 nl hl=>?_];let hv2:=s2 _ _ nC;have lv:dl≠v:=B9 nl;apply#[_,Z,v,CS,dx,_,Z,hv2,TS.cl,TS.nL,by show 1<1000;decide,?_];have Ll:∀b o,H b\o->b≠v->upd H2 v (.ins CS dx (aB ie (.ref dl) (aB "wares" (.ref g) []))) b\o:=λb o e n=>by rw[az n];exact s2 _ _ (up1 b o e n)
 have TB:upd H2 v (.ins CS dx (aB ie (.ref dl) (aB "wares" (.ref g) []))) v\.ins CS dx (aB ie (.ref dl) (aB "wares" (.ref g) [])):=ao;have wc:∀{b},upd H2 v (.ins CS dx (aB ie (.ref dl) (aB "wares" (.ref g) []))) b=none->b≠v:=λ{b} e z=>by rw[z,ao] at e;cases e
 have sT:upd H2 v (.ins CS dx (aB ie (.ref dl) (aB "wares" (.ref g) []))) dl\.dK (vM hs qs f):=by rw[az lv];exact hl
 generalize upd H2 v (.ins CS dx (aB ie (.ref dl) (aB "wares" (.ref g) [])))=H3 at Ll TB wc sT ⊢;apply#[_,Z,_,Z,g,p,d,hs,ts,qs,fp,f,Z,sH Ll,W.wq,λde H4 s4 ne he=>?_];let hv4:=s4 _ _ TB;have ev:de≠v:=wc ne;apply#[_,Z,v,CS,dx,_,Z,hv4,TS.cl,TS.nV,by show 2<1000;decide,?_];have uk:∀b o,H b\o->b≠v->upd H4 v (.ins CS dx (aB oj (.ref de) (aB ie (.ref dl) (aB "wares" (.ref g) [])))) b\o:=λb o e n=>by rw[az n];exact s4 _ _ (Ll b o e n)
 have Tz:upd H4 v (.ins CS dx (aB oj (.ref de) (aB ie (.ref dl) (aB "wares" (.ref g) [])))) v\.ins CS dx (aB oj (.ref de) (aB ie (.ref dl) (aB "wares" (.ref g) []))):=ao;have nR:∀{b},upd H4 v (.ins CS dx (aB oj (.ref de) (aB ie (.ref dl) (aB "wares" (.ref g) [])))) b=none->b≠v:=λ{b} e z=>by rw[z,ao] at e;cases e
 have FB:upd H4 v (.ins CS dx (aB oj (.ref de) (aB ie (.ref dl) (aB "wares" (.ref g) [])))) dl\.dK (vM hs qs f):=by rw[az lv];exact s4 _ _ sT
 have Uh:upd H4 v (.ins CS dx (aB oj (.ref de) (aB ie (.ref dl) (aB "wares" (.ref g) [])))) de\.dK (dI (aD hs) λh=>.int (uu hs qs f h)):=by rw[az ev];exact he
 generalize upd H4 v (.ins CS dx (aB oj (.ref de) (aB ie (.ref dl) (aB "wares" (.ref g) []))))=H5 at uk Tz nR FB Uh ⊢;let#[es,hT,JB]:=id tab;have Tv:T≠v:=cy hT hv nofun;have Lw:cU H5 T xK:=#[es,uk _ _ hT Tv,λe he=>uk _ _ (JB e he) (λz=>by have:=JB e he;rw[z,hv] at this;cases this)];let Xr:=sH uk;apply#[_,Z,_,Z,g,p,d,hs,ts,qs,fp,f,Z,Xr,W.wq,Lw,λdp ad H6 b6 yY np hp ls fra=>?_];have vG:NT H5 H6:=b6.nt (uk _ _ hT Tv);let Jp:=vG.ins Tz;have ZP:dp≠v:=nR np;have av:∀h∈aD hs,ad h≠v:=λh hh=>nR (fra h hh);apply#[_,Z,v,CS,dx,_,Z,Jp,TS.cl,TS.nP,by show 3<1000;decide,?_];apply k _ (λb o e n1 n2=>?_) ?_ #[dx,dl,de,dp,ad,ao,(Xr.G.nt vG).keep (λb hb o e=>?_) (λb xs e=>?_),?_,?_,?_,λh hh=>?_]
 ·rw[az n1];exact b6 _ _ (uk b o e n1) n2
 ·let#[es,e1,e2]:=yY;exact#[es,by rw[az (cy e1 Jp nofun)];exact e1,λe he=>by rw[az (λz=>by have:=e2 e he;rw[z,Jp] at this;cases this)];exact e2 e he]
 ·rw[az (λz:b=v=>xg (z▸hb))];exact e
 ·rw[az (cy e Jp nofun)];exact e
 ·rw[az lv];exact vG.dK FB
 ·rw[az ev];exact vG.dK Uh
 ·rw[az ZP];exact hp
 rw[az (av h hh)];exact ls.1 h hh
theorem qS:bw ["self","one","other","web"] kb (aY rF):=bD
inductive Cq (K:af) (CS CG CW:Addr) (vs:ag) (H:Hp) (Q:VK) (E:XK):Prop
 |mk:∀(v g p:Addr) (a b:Str) (hs:Xa) (ts:Xb) (qs:aL) (fp:ai) (f:aq),vs=[.ref v,.str a,.str b]->ic K CS CG CW H v g p hs ts qs fp f->Wd hs ts qs f->a∈aD hs->b∈aD hs->Q (.int (nZ hs qs f a b)) H->Cq K CS CG CW vs H Q E
theorem jW_{f0 CS CG CW:Addr}{fd:Ae}(F:bh K "lead" "Sight.lead" rF f0 fd)(TS:fU K CS)(TG:dF K CG)(TW:Txt K mg CW)(cS:!bo CW 2 "strength" ja (CB K CW)):!ak a9 3 f0 fd kb (Cq K CS CG CW):=by
 exists F.bG qS;let#[v,g,p,a,b,hs,ts,qs,fp,f,rfl,S,W,ha,hb,k]:=h;let hu:=fZ hr;refine' #[_,ax ?s1 (aF ?s2),?kk]
 case s1=>exact bx 3 qS.nd (dA (dA (pv 0) Z) Z)
 case s2=>exact aZ (bI Hb (bI pW (ko hu (dA (pv 0) Z) (pv 1)) (eW cS TW.cl hr (pv 3) %[2|0])) (bI pW (ko hu (dA (pv 0) Z) (pv 2)) (eW cS TW.cl hr (pv 3) %[1|0])))
 let#[dx,dl,dv,dp,ad,h1,G,h3,h4,h5,h6]:=S.ex;let#[hU,dw,dy,vs,bS,g1,g2,_]:=id G.ex;let#[eU,d1,l2,d3,je,as,ef,w1,_]:=id g2.ex;have gJ:(cQ d1 l2 d3).lookup ("strength":Str)=none:=ip _ _ _ Z0 Z0 Z0;let la:=Jo W.wq W.bU f a;let lb:=Jo W.wq W.bU f b;apply#[_,Z,v,CS,dx,_,_,Z,h1,TS.cl,TS.nW,gj _ _ _ _,g,CG,hU,_,_,Z,g1,TG.cl,TG.nW,ki _ _ _,?_];lk;apply#[_,Z,v,CS,dx,_,_,Z,h1,TS.cl,TS.nL,Dx _ _ _ _,_,Z,dl,_,Z,A1 h3 ha,_,Z,p,eU,_,Z,w1,gJ,_,Z,p,b,strOf hs b,hs,ts,bS,Z,g2,W.Gd.yb,yI ((hX hs).mem_iff.mp hb),?_];apply#[_,_,Z,Z,.inl #[by omega,by omega],?_];apply#[_,Z,v,CS,dx,_,_,Z,h1,TS.cl,TS.nL,Dx _ _ _ _,_,Z,dl,_,Z,A1 h3 hb,_,Z,p,eU,_,Z,w1,gJ,_,Z,p,a,strOf hs a,hs,ts,bS,Z,g2,W.Gd.yb,yI ((hX hs).mem_iff.mp ha),?_];exact#[_,_,Z,Z,.inl #[by omega,by omega],_,_,Z,Z,k]
theorem vv:bw kb kb (aY lE):=bD
inductive J9 (K:af) (CS CG CW:Addr) (vs:ag) (H:Hp) (Q:VK) (E:XK):Prop
 |mk:∀(v g p:Addr) (a b:Str) (hs:Xa) (ts:Xb) (qs:aL) (fp:ai) (f:aq),vs=[.ref v,.str a,.str b]->ic K CS CG CW H v g p hs ts qs fp f->Wd hs ts qs f->a∈aD hs->b∈aD hs->Q (.int (j8 hs a b)) H->J9 K CS CG CW vs H Q E
theorem i7_{f0 CS CG CW:Addr}{fd:Ae}(F:bh K "joint_strength" "Sight.joint_strength" lE f0 fd)(TS:fU K CS)(TG:dF K CG)(TW:Txt K mg CW)(cS:!bo CW 2 "strength" ja (CB K CW)):!ak a9 3 f0 fd kb (J9 K CS CG CW):=by
 exists F.bG vv;let#[v,g,p,a,b,hs,ts,qs,fp,f,rfl,S,W,ha,hb,k]:=h;refine' #[_,aF ?s2,?kk]
 case s2=>exact aZ (bI g5 (eW cS TW.cl hr (dA (dA (pv 0) Z) Z) %[1|0]) (eW cS TW.cl hr (dA (dA (pv 0) Z) Z) %[2|0]))
 let#[dx,dl,dv,dp,ad,h1,G,h3,h4,h5,h6]:=S.ex;let#[hU,dw,dy,vs,bS,g1,g2,_]:=id G.ex;let#[eU,d1,l2,d3,je,as,ef,w1,_]:=id g2.ex;have gJ:(cQ d1 l2 d3).lookup ("strength":Str)=none:=ip _ _ _ Z0 Z0 Z0;apply#[_,Z,v,CS,dx,_,_,Z,h1,TS.cl,TS.nW,gj _ _ _ _,g,CG,hU,_,_,Z,g1,TG.cl,TG.nW,ki _ _ _,p,eU,_,Z,w1,gJ,_,Z,p,a,strOf hs a,hs,ts,bS,Z,g2,W.Gd.yb,yI ((hX hs).mem_iff.mp ha),?_];apply#[_,Z,v,CS,dx,_,_,Z,h1,TS.cl,TS.nW,gj _ _ _ _,g,CG,hU,_,_,Z,g1,TG.cl,TG.nW,ki _ _ _,p,eU,_,Z,w1,gJ,_,Z,p,b,strOf hs b,hs,ts,bS,Z,g2,W.Gd.yb,yI ((hX hs).mem_iff.mp hb),?_];exact#[_,_,Z,Z,k]
end
end Ev
namespace Ev
open PySem L2
theorem pX(a b:Str):decide (V.str a=V.str b)=decide (a=b):=by
 by_cases z:a=b
 ·simp[z]
 have:¬(V.str a=V.str b):=λe=>z (V.str.inj e);simp[z,this]
abbrev nb(hs:Xa)(ts:Xb)(h:Str):ae:=near (aD hs) (aP ts) h
def kR(hs:Xa)(qs:aL)(f:aq)(n:Str):aA:=[.inl (uu hs qs f n),.inr n]
def dz(hs:Xa)(ts:Xb)(qs:aL)(f:aq)(h:Str):ae:=(aX ((nb hs ts h).map (kR hs qs f))).map jk
def ET(hs:Xa)(qs:aL)(f:aq):V->aA
 |.str n=>kR hs qs f n
 |_=>[]
theorem kY_{hs:Xa}{ts:Xb}{qs:aL}{f:aq}{h:Str}{zs:ag}(p:zs.Perm ((nb hs ts h).map V.str))(e:zs.map (ET hs qs f)=aX (((nb hs ts h).map V.str).map (ET hs qs f))):zs=(dz hs ts qs f h).map V.str:=by
 let#[ms,rfl,_]:=Vy p;have e1:(ms.map V.str).map (ET hs qs f)=ms.map (kR hs qs f):=by rw[ck];rfl
 have e2:((nb hs ts h).map V.str).map (ET hs qs f)=(nb hs ts h).map (kR hs qs f):=by
  rw[ck];rfl
 rw[e1,e2] at e
 have em:(ms.map (kR hs qs f)).map jk=ms:=by
  rw[ck];exact List.map_id' ms
 unfold dz;rw[<- e,em]
theorem Il(hs:Xa)(ts:Xb)(qs:aL)(f:aq)(h:Str):(dz hs ts qs f h).Perm (nb hs ts h):=by
 unfold dz;let p:=(mj ((nb hs ts h).map (kR hs qs f))).map jk
 have e:((nb hs ts h).map (kR hs qs f)).map jk=nb hs ts h:=by
  rw[ck];exact List.map_id' _
 rw[e] at p;exact p
theorem B8{hs:Xa}{ts:Xb}{h n:Str}(m:n∈nb hs ts h):n∈aD hs:=(List.mem_filter.mp m).1
theorem Cs(hs:Xa)(ts:Xb)(h:Str):(nb hs ts h).length<=(aD hs).length:=List.length_filter_le ..
abbrev iV:Str:="Sight.rising_neighbours.<locals>.<lambda>"
def oZ:Expr:=SR (L0 (Es (gW uI) 0))
abbrev AG:ae:=gy
theorem GQ:∀y∈(jz oZ).names,y.2=.free->y.1∈AG:=by decide +kernel
theorem zq:Hk ["other"] AG (jz oZ):=#[by decide +kernel,Z,Z,Z,by decide +kernel,by decide +kernel,λx h=>GQ (x,.free) (pd h) Z,by decide +kernel]
section v
inductive mP (K:af) (CS CG CW:Addr) (vs:ag) (gs:ag) (H:Hp) (Q:VK):Prop
 |mk:∀(v g p:Addr) (n:Str) (hs:Xa) (ts:Xb) (qs:aL) (fp:ai) (f:aq),vs=[.str n]->gs=[.ref v]->ic K CS CG CW H v g p hs ts qs fp f->n∈aD hs->(∀t,H t=none->Q (.ref t) (upd H t (.tup [.int (uu hs qs f n),.str n])))->mP K CS CG CW vs gs H Q
def zg(K:af)(CS CG CW:Addr):ag->ag->Hp->VK->XK->Prop:=λvs gs H Q _=>mP K CS CG CW vs gs H Q
theorem jy_{CS CG CW:Addr}(TS:fU K CS):!iu 1 iV (EM oZ) (EL oZ) (jz oZ) ["other"] AG (zg K CS CG CW):=by
 apply xT zq (λpm c' jI cl us hl=>?_) (λA outer s H f0 cd cl vs gs Q E hr h hp=>?_)
 ·match us,hl with
  |[_],_=>rfl
 let#[v,g,p,n,hs,ts,qs,fp,f,rfl,rfl,S,hn,k]:=h;let hu:=fZ hr;let#[dx,dl,dv,dp,ad,h1,G,h3,h4,h5,h6]:=S.ex;apply#[_,bC %[ko hu (dA (pv 1) Z) (pv 0),0|0],?_];exact#[_,Z,v,CS,dx,_,_,Z,h1,TS.cl,TS.nV,LV _ _ _ _,_,Z,dv,_,Z,A1 h4 hn,_,Z,zl,λt ht=>k t ht]
def Hh(L:Addr):List (Str × Addr):=[("self",L+1)]
theorem Qv{L f:Addr}{cd:Aa}:closureFor (jz oZ) (PyProof.Rows.envOfC "Sight.rising_neighbours" (aY uI) L f cd)=pure (Hh L):=by rfl
theorem Qz{L f:Addr}{cd:Aa}:∀q∈Hh L,(PyProof.Rows.envOfC "Sight.rising_neighbours" (aY uI) L f cd).cells.lookup q.1\q.2:=by
 intro q hq;simp only[Hh,cq,List.not_mem_nil,or_false] at hq;rcases hq with rfl;rfl
theorem MI{L:Addr}:∀x∈AG,∃c,(Hh L).lookup x\c:=by
 intro x hx;simp only[AG,cq,List.not_mem_nil,or_false] at hx;rcases hx with rfl;exact#[_,Z]
theorem ME:∀x∈AG,(aY uI).names.lookup x\.cell:=by decide +kernel
theorem zi:bw ja ja (aY uI):=bD
inductive He (K:af) (CS CG CW T:Addr) (vs:ag) (H:Hp) (Q:VK) (E:XK):Prop
 |mk:∀(v g p:Addr) (h:Str) (hs:Xa) (ts:Xb) (qs:aL) (fp:ai) (f:aq),vs=[.ref v,.str h]->ic K CS CG CW H v g p hs ts qs fp f->Wd hs ts qs f->h∈aD hs->cU H T iV->(∀l H',aN T H H'->cU H' T iV->H l=none->H' l\.lst ((dz hs ts qs f h).map V.str)->Q (.ref l) H')->He K CS CG CW T vs H Q E
theorem kd_{f0 c0 CS CG CW T:Addr}{fd:Ae}(F:jZ K AL "Sight.rising_neighbours" uI f0 c0 fd)(B:Bi mg)(TS:fU K CS)(TG:dF K CG)(TW:Txt K mg CW)(hC:PySem.W.CodeHd base c0 T)(sY:base.BuiltinsAt mg T)(cN:!bo CW 2 "neighbours" ja (Ke K CW)) :
  ak P w K mg base a9 4 f0 fd ja (He K CS CG CW T):=by
 apply F.ok zi (λvs H Q E h=>?_) (λA outer s H vs Q E hr h=>?_)
 ·let#[v,g,p,h,hs,ts,qs,fp,f,rfl,_]:=h;rfl
 let#[v,g,p,h,hs,ts,qs,fp,f,rfl,S,W,hh,tab,k]:=h;have sO:ba 2 _:=hr.mono (by decide);refine' ⟨_,aF (aZ ?l2),?kk⟩
 case l2=>exact U6 (px:="other") (cK:=AG) (cl:=Hh s.heap.objs.size) (is:=[0]) (k:=1) Z (by rfl) B.sorted %[eW cN TW.cl sO (dA (dA (pv 0) Z) Z) %[1|0]|0] (UM (S_ (P:=T) (c:=c0) Z Qv Z hC sY) Tf) (jy_ (CG:=CG) (CW:=CW) TS) hr Qz MI ME Z
 let#[dx,dl,dv,dp,ad,h1,G,h3,h4,h5,h6]:=S.ex;let#[hU,dw,dy,vs,bS,g1,g2,_]:=id G.ex;let#[eU,d1,l2,d3,je,as,ef,w1,_]:=id g2.ex;have gJ:(cQ d1 l2 d3).lookup ("neighbours":Str)=none:=ip _ _ _ Z0 Z0 Z0;apply#[_,Z,v,CS,dx,_,_,Z,h1,TS.cl,TS.nW,gj _ _ _ _,g,CG,hU,_,_,Z,g1,TG.cl,TG.nW,ki _ _ _,p,eU,_,Z,w1,gJ,_,Z,p,h,hs,ts,bS,Z,g2,W.Gd.sy,(hX hs).mem_iff.mp hh,λln nn=>?_];let#[s1,e1]:=bj (o:=.lst ((nb hs ts h).map V.str)) nn;show gi _ (upd H ln (.lst ((nb hs ts h).map V.str))) _;generalize upd H ln (.lst ((nb hs ts h).map V.str))=H1 at s1 e1 ⊢;apply ED (yD ?_);apply Tj (tab.same s1) Z Z Z Z λfl c' H4 b4 fC vV B0=>?_;let#[tv,hT]:=fj tab;have iW:NT H1 H4:=b4.nt (s1 _ _ hT);let S4:=(S.same s1).nt iW;have n8:(nb hs ts h).length<=8:=by have:=Cs hs ts h;have:=W.Gd.fD;have:=W.Gd.h8;omega
 apply#[.ref ln,fl,c',(nb hs ts h).map V.str,ET hs qs f,[false,true],[.ref v],Z,Z,vV,B0,.inl #[ln,Z,.of (iW.lst e1)],by rw[ay];omega,#[by decide,λk hk=>?_],Z,λH' x sm hx=>?_,λl zs H5 s5 nl BI pz ek=>?_]
 ·let#[v,hv,rfl]:=bN.mp hk;let#[n,_,rfl]:=bN.mp hv;rfl
 ·let#[n,hn,rfl]:=bN.mp hx;apply#[v,g,p,n,hs,ts,qs,fp,f,Z,Z,S4.same sm,B8 hn,λt nt=>#[aa.new nt,t,Z,?_]];rw[ao];rfl
 rw[kY_ pz ek];have s6:aa H4 (upd H5 l (.lst ((dz hs ts qs f h).map V.str))):=s5.trans (aa.new nl);apply k l _ (λb o e n=>s6 _ _ (b4 _ _ (s1 _ _ e) n)) (fC.same s6) ?_ ao;cases z:H l with
 |none=>rfl
 |some o=>
  by_cases y:l=T
  ·let#[es,e,_]:=fC;rw[y,e] at BI;cases BI
  rw[b4 _ _ (s1 _ _ z) y] at BI;cases BI
theorem zu:bw oE oE (aY rO):=bD
def wd(g:Str)(a b:Int):Bool:=if g="high" then decide (0<a) else if g="fall" then decide (b<2 * a) else decide (b<=a)
def qH:Sp:=λvs H Q _=>∃(g:Str) (a b:Int),vs=[.str g,.int a,.int b]/\Q (.bl (wd g a b)) H
theorem jF_{f0:Addr}{fd:Ae}(F:bh K "fits" "fits" rO f0 fd):!ak a9 1 f0 fd oE qH:=by
 exists F.bG zu;let#[g,a,b,rfl,k]:=h;refine' #[_,ax ?s1 (ax ?s2 (aF ?s3)),?kk]
 case s1=>exact bL (dm l_ (pv 0) bf) (aF (aZ (oi AK (pv 1) au))) bM
 case s2=>exact bL (dm l_ (pv 0) bf) (aF (aZ (oi AK (bI pW au (pv 1)) (pv 2)))) bM
 case s3=>exact aZ (oi MP (pv 1) (pv 2))
 unfold wd at k;apply#[_,Z,Z,_,Z,?_];rw[pX];apply a_ (λc=>?_) (λc=>?_)
 ·have c:g="high":=wF c;rw[aJ c] at k;exact#[_,Z,_,_,Z,Z,k]
 have c:¬g="high":=λz=>c (cb z);rw[aE c] at k;apply#[_,Z,Z,_,Z,?_];rw[pX];apply a_ (λc=>?_) (λc=>?_)
 ·have c:g="fall":=wF c;rw[aJ c] at k;exact#[_,Z,_,_,Z,Z,.inl #[by decide,by decide],_,Z,_,_,Z,Z,k]
 have c:¬g="fall":=λz=>c (cb z);rw[aE c] at k;exact#[_,Z,_,Z,_,_,Z,Z,k]
end
end Ev
namespace Ev
open PySem L2
abbrev Mv:=Str × Str × Str
def kM(m:Mv):aA:=[.inr m.1,.inr m.2.1,.inr m.2.2]
def Li(qs:aL)(n:Str):Option (Xb):=match qs.find? λq=>decide (q.1=n) with
 |some q=>q.2.2
 |none=>none
theorem SV{qs:aL}(nd:(qs.map (·.1)).Nodup){q:Pc}(h:q∈qs):Li qs q.1=q.2.2:=by
 unfold Li;cases e:qs.find? λp=>decide (p.1=q.1) with
 |none=>
  have:=List.find?_eq_none.mp e q h;simp at this
 |some p=>
  let a:=List.mem_of_find?_eq_some e;let b:=List.find?_some e;have b:p.1=q.1:=wF b;rw[VW nd a h b]
def oW(hs:Xa)(ts:Xb)(qs:aL)(n a b:Str):Bool:=B7 hs ts (Li qs n) (some a) (some b)
def vQ(hs:Xa)(ts:Xb)(qs:aL)(f:aq)(gd:Str)(gv:ae)(a b n:Str):Bool:=!decide (n∈gv)&&(wd gd (nZ hs qs f a b) (uj qs n * j8 hs a b)&&oW hs ts qs n a b)
def lU(hs:Xa)(ts:Xb)(qs:aL)(f:aq)(gd:Str)(gv:ae)(a b:Str):List Mv:=match (fe qs f a).find? (vQ hs ts qs f gd gv a b) with
 |some n=>[(n,a,b)]
 |none=>[]
theorem Uy{α:Type}{p:α->Bool}:∀{l:List α} {i:Nat} {x:α},l[i]? = some x->p x=true->(∀y∈l.take i,p y=false)->l.find? p\x
 |a::l,0,x,h,hp,_=>by
  cases h;rw[List.find?_cons_of_pos hp]
 |a::l,i+1,x,h,hp,hn=>by
  have na:¬p a=true:=by rw[hn a Z2];decide
  rw[List.find?_cons_of_neg na];exact Uy ⇑h hp λy hy=>hn y (by simp[hy])
 |[],i,x,h,_,_=>by simp at h
theorem J_{qs:aL}{f:aq}{h n:Str}(m:n∈fe qs f h):n∈qs.map (·.1)/\f n=h:=by
 let#[a,b]:=List.mem_filter.mp m;exact#[(KP qs).mem_iff.mp a,wF b]
section v
theorem mU:bw ["sight","one","other","guard","given","lead","joint","piece"] jU (aY zC):=bD
inductive ji (K:af) (CS CG CW:Addr) (vs:ag) (H:Hp) (Q:VK) (E:XK):Prop
 |mk:∀(v g p lg:Addr) (a b gd:Str) (gv:ae) (hs:Xa) (ts:Xb) (qs:aL) (fp:ai) (f:aq),vs=[.ref v,.str a,.str b,.str gd,.ref lg]->ic K CS CG CW H v g p hs ts qs fp f->Wd hs ts qs f->a∈aD hs->b∈aD hs->H lg\.lst (gv.map V.str)->(∀l ys H',aa H H'->H l=none->H' l\.lst ys->bF K H' ys ((lU hs ts qs f gd gv a b).map kM)->Q (.ref l) H')->ji K CS CG CW vs H Q E
theorem kP_{f0 CS CG CW CP:Addr}{fd:Ae}(F:bh K "heaviest_move" "heaviest_move" zC f0 fd)(TS:fU K CS)(TG:dF K CG)(cL:!bo CS 3 "lead" kb (Cq K CS CG CW))(cJ:!bo CS 3 "joint_strength" kb (J9 K CS CG CW))(cF:!bg 1 "fits" oE qH)(cW:!bo CG 2 "weight" yy (Bn K CG CW CP))(cM:!bo CG 3 "may_go" oG (JX K CG CW CP)) :
  ak P w K mg base a9 4 f0 fd jU (ji K CS CG CW):=by
 exists F.bG mU;let#[v,g,p,lg,a,b,gd,gv,hs,ts,qs,fp,f,rfl,S,W,ha,hb,hg,k]:=h;let hu:=fZ hr;let sz:=b_;have sO:ba 2 _:=hr.mono (by decide);refine' #[_,?r0,?kk]
 case' r0=>refine' ax ?s1 ?r1
 case' r1=>refine' ax ?s2 ?r2
 case' r2=>refine' ax ?s3 (aF ?s4)
 case s1=>exact bx 5 mU.nd (eW cL TS.cl hr (pv 0) %[1,2|0])
 case s2=>exact bx 6 mU.nd (eW cJ TS.cl hr (pv 0) %[1,2|0])
 case' s3=>refine' eR eh Z (dO (ko hu (dA (pv 0) Z) (pv 1))) (cY 7 mU.nd) (aF ?b3)
 case' b3=>refine' bL (PW.pt (Cn ?c1 (Hd ?c2))) (aF ?b4) bM
 case c1=>exact dm (Vx hV (oo hr 0)) (pv 7) (pv 4) (by with_unfolding_all rfl)
 case c2=>exact dR (aR cF hr %[3,5,bI pW (eW cW TG.cl sO (dA (pv 0) Z) %[7|0]) (pv 6)|0])
 case b4=>exact bL (dR (eW cM TG.cl hr (dA (pv 0) Z) %[7,1,2|0])) (aF (aZ (bX %[bC %[7,1,2|0]|0]))) bM
 case s4=>exact aZ (bX aK)
 let#[dx,dl,dv,dp,ad,h1,G,h3,h4,h5,h6]:=S.ex;have no:∀{m:Str},¬m="wares"->¬m=ie->¬m=oj->¬m=AS->(dH g dl dv dp).lookup m=none:=λa b c d=>Cc _ _ _ _ a b c d;apply#[_,Z,v,dx,_,Z,h1,no Z0 Z0 Z0 Z0,_,Z,_,Z,v,g,p,a,b,hs,ts,qs,fp,f,Z,S,W,ha,hb,?_];lk;apply#[_,Z,v,dx,_,Z,h1,no Z0 Z0 Z0 Z0,_,Z,_,Z,v,g,p,a,b,hs,ts,qs,fp,f,Z,S,W,ha,hb,?_];lk;let hl:=h6 a ha;apply#[_,Z,v,CS,dx,_,_,Z,h1,TS.cl,TS.nP,Dw _ _ _ _,_,Z,dp,_,Z,A1 h5 ha,ad a,Z,#[_,.of hl],gQ (K:=K) (a:=ad a) (xs:=(fe qs f a).map V.str) (λi σ H'=>∃v7:aI,σ=[some (.ref v),some (.str a),some (.str b),some (.str gd),some (.ref lg),some (.int (nZ hs qs f a b)),some (.int (j8 hs a b)),v7]/\aa H H'/\∀n∈(fe qs f a).take i,vQ hs ts qs f gd gv a b n=false) #[none,Z,aa.refl H,by simp] (λi σ H' _ ⟨_,_,sm,_⟩=>.of (sm _ _ hl)) ?_ ?_]
 ·rintro i x σ H' hx ⟨v7,rfl,sm,nf⟩;let#[n,hn,rfl]:=jP hx;let#[nm,fn]:=J_ (dC hn);let#[q,hq,rfl]:=bN.mp nm;let G':=G.same sm;let nQ:=sm _ _ h1;let#[hU,dw,dy,vs,bS,g1,g2,_]:=id G'.ex;have MU:(bV p dw dy).lookup ("weight":Str)=none:=uQ _ _ _ Z0 Z0 Z0;have Nc:(bV p dw dy).lookup ("may_go":Str)=none:=uQ _ _ _ Z0 Z0 Z0;let wq:=W.wq q hq;let ew:=MM W.nd hq;let ey:=SV W.nd hq
  have go:∀{H2:Hp},aa H' H2->vQ hs ts qs f gd gv a b q.1=false->∃v7:aI,[some (V.ref v),some (V.str a),some (V.str b),some (V.str gd),some (V.ref lg),some (V.int (nZ hs qs f a b)),some (V.int (j8 hs a b)),some (V.str q.1)]=[some (V.ref v),some (V.str a),some (V.str b),some (V.str gd),some (V.ref lg),some (V.int (nZ hs qs f a b)),some (V.int (j8 hs a b)),v7]/\aa H H2/\∀n∈(fe qs f a).take (i+1),vQ hs ts qs f gd gv a b n=false:=λ{H2} s2 e=>#[_,Z,sm.trans s2,λm hm=>by
   rw[jQ hn] at hm;rcases fB.mp hm with hm|hm
   ·exact nf m hm
   rw[wY.mp hm];exact e]
  lk;apply#[_,Z,_,Z,q.1,gv,Z,#[lg,_,Z,.of (sm _ _ hg),Hl gv],_,Z,?_];rw[aJ Z];apply a_ (λc=>?_) (λc=>?_)
  ·have c:¬q.1∈gv:=⇑c
   apply#[_,Z,_,Z,_,Z,v,CS,dx,_,_,Z,nQ,TS.cl,TS.nW,gj _ _ _ _,g,hU,_,Z,g1,MU,_,Z,g,p,.str q.1,some q.1,hs,ts,qs,fp,Z,G',W.nd,Z,.inl #[q,hq,Z,?_]];apply#[_,Z,_,_,Z,Z,.inl #[by omega,by omega],gd,nZ hs qs f a b,q.2.1 * j8 hs a b,Z,_,Z,?_];apply a_ (λc2=>?_) (λc2=>?_)
   ·apply#[_,Z,v,CS,dx,_,_,Z,nQ,TS.cl,TS.nW,gj _ _ _ _,g,hU,_,Z,g1,Nc,_,Z,_,Z,_,Z,g,p,.str q.1,.str a,.str b,some q.1,some a,some b,hs,ts,qs,fp,Z,G',W.nd,W.Gd.sy,Z,.inl #[q,hq,Z,Z,Z,λH2 s2=>#[_,Z,?_]]];apply a_ (λc3=>?_) (λc3=>?_)
    ·have pt:vQ hs ts qs f gd gv a b q.1=true:=by
      unfold vQ oW;rw[ew,ey,c2,dM c];simpa using c3
     apply#[_,Z,_,Z,_,Z,zl,λt nt=>?_];let#[s3,e3]:=bj (o:=.tup [.str q.1,.str a,.str b]) nt;generalize upd H2 t (.tup [.str q.1,.str a,.str b])=H3 at s3 e3 ⊢;apply#[zl,λl nl=>?_];let s4:=aa.new (o:=.lst [.ref t]) nl;let DC:=(sm.trans s2).trans s3;apply k l [.ref t] _ (DC.trans s4) (DC.free nl) ao ?_;unfold lU;rw[Uy hn pt nf];exact .cons #[t,Z,s4 _ _ e3] .nil
    apply go s2 ?_;unfold vQ oW;rw[ew,ey,c2];have c3:B7 hs ts q.2.2 (some a) (some b)=false:=⇑c3
    rw[c3,tV,tV]
   apply go (aa.refl H') ?_;unfold vQ;rw[ew,show wd gd (nZ hs qs f a b) (q.2.1 * j8 hs a b)=false by simpa using c2,Bool.false_and,tV]
  have c:q.1∈gv:=⇑c
  apply go (aa.refl H') ?_;unfold vQ;rw[cb c];rfl
 rintro σ H' ⟨v7,rfl,sm,nf⟩;rw[ay,eX] at nf;apply#[zl,λl nl=>?_];apply k l [] _ (sm.trans (aa.new nl)) (sm.free nl) ao ?_;unfold lU;rw[List.find?_eq_none.mpr λn hn=>by rw[nf n hn];decide];exact .nil
def yK(hs:Xa)(ts:Xb)(qs:aL)(f:aq)(gd h:Str):List Mv:=match dz hs ts qs f h with
 |[]=>[]
 |o::_=>lU hs ts qs f gd [] h o
theorem WA:bw ["sight","hand","guard","around"] Ci (aY PZ):=bD
inductive jh (K:af) (CS CG CW T:Addr) (mv:Xa->Xb->aL->(Str->Str)->Str->Str->List Mv) (vs:ag) (H:Hp) (Q:VK) (E:XK):Prop
 |mk:∀(v g p:Addr) (h gd:Str) (hs:Xa) (ts:Xb) (qs:aL) (fp:ai) (f:aq),vs=[.ref v,.str h,.str gd]->ic K CS CG CW H v g p hs ts qs fp f->Wd hs ts qs f->h∈aD hs->cU H T iV->(∀l ys H',aN T H H'->cU H' T iV->H l=none->H' l\.lst ys->bF K H' ys ((mv hs ts qs f gd h).map kM)->Q (.ref l) H')->jh K CS CG CW T mv vs H Q E
theorem aN.new{T l:Addr}{H G:Hp}(b:aN T H G)(hT:∃vs,G T\.tbl vs)(n:G l=none):H l=none:=by
 cases z:H l with
 |none=>rfl
 |some o=>
  by_cases y:l=T
  ·let#[vs,e]:=hT;rw[y,e] at n;cases n
  rw[b _ _ z y] at n;cases n
theorem fS_{f0 CS CG CW T:Addr}{fd:Ae}(F:bh K "moves_by_least" "moves_by_least" PZ f0 fd)(TS:fU K CS)(cR:!bo CS 4 AL ja (He K CS CG CW T))(cH:!bg 4 "heaviest_move" jU (ji K CS CG CW)):!ak a9 5 f0 fd Ci (jh K CS CG CW T yK):=by
 exists F.bG WA;let#[v,g,p,h,gd,hs,ts,qs,fp,f,rfl,S,W,hh,tab,k]:=h;refine' #[_,ax ?s1 (ax ?s2 (aF ?s3)),?kk]
 case s1=>exact bx 3 WA.nd (eW cR TS.cl hr (pv 0) %[1|0])
 case s2=>exact bL (dm (Tn hV (oo hr 0)) (pv 3) (bX aK)) (aF (aZ (bX aK))) bM
 case s3=>exact aZ (aR cH hr %[0,1,bE fA (pv 3) au,2,bX aK|0])
 let#[dx,dl,dv,dp,ad,h1,G,h3,h4,h5,h6]:=S.ex;apply#[_,Z,v,dx,_,Z,h1,Cc _ _ _ _ Z0 Z0 Z0 Z0,_,Z,v,g,p,h,hs,ts,qs,fp,f,Z,S,W,hh,tab,λl1 H1 b1 u_ n1 e1=>?_];lk;let#[tv,hT]:=fj tab;let S1:=S.nt (b1.nt hT);apply#[_,Z,zl,λl2 n2=>?_];let#[s2,e2]:=bj (o:=.lst []) n2;generalize upd H1 l2 (.lst [])=H2 at s2 e2 ⊢;let Pi:=s2 _ _ e1;have b2:aN T H H2:=λb o e n=>s2 _ _ (b1 _ _ e n);let kB:=u_.same s2;let En:=Il hs ts qs f h;apply#[dz hs ts qs f h,[],WC Pi,WC e2,_,Z,?_];cases z:dz hs ts qs f h with
 |nil=>
  apply bO #[zl,λl3 n3=>?_];let s3:=aa.new (o:=.lst []) n3;apply k l3 [] _ (λb o e n=>s3 _ _ (b2 _ _ e n)) (kB.same s3) (aN.new b2 (fj kB) n3) ao ?_;unfold yK;rw[z];exact .nil
 |cons o r=>
  rw[dM Z2];apply aO ?_;rw[z] at Pi En;have ob:o∈aD hs:=B8 (En.mem_iff.mp eP);apply#[_,Z,_,Z,_,Z,l1,_,0,.str o,Z,Z,.of Pi,L2.gc (j:=0) Z,_,Z,zl,λl3 n3=>?_];let#[s3,e3]:=bj (o:=.lst []) n3;generalize upd H2 l3 (.lst [])=H3 at s3 e3 ⊢;apply#[v,g,p,l3,h,o,gd,[],hs,ts,qs,fp,f,Z,(S1.same s2).same s3,W,hh,ob,e3,λl ys H4 s4 nl hl tu=>?_];let pE:=s3.trans s4;apply k l ys H4 (λb o e n=>pE _ _ (b2 _ _ e n)) (kB.same pE) (aN.new b2 (fj kB) (s3.free nl)) hl ?_;unfold yK;rw[z];exact tu
end
end Ev
abbrev gX:=List Ev.Mv
namespace Ev
open PySem L2
abbrev yU:=Rl->Xa->Xb->aL->(Str->Str)->Str->gX
def CA(mv:yU)(r:Rl)(hs:Xa)(ts:Xb)(qs:aL)(f:aq):gX:=if r.2.2.1="one" then ((aD hs).flatMap (mv r hs ts qs f)).take 1 else (aD hs).flatMap (mv r hs ts qs f)
def wC:yU:=λr hs ts qs f h=>yK hs ts qs f (r.2.2.2.getD "") h
theorem UD:∀r∈rl,r.2.1≠"shares"->r.2.2.2.isSome=true:=by decide +kernel
theorem Bb(hs:Xa)(ts:Xb)(qs:aL)(f:aq)(gd:Str)(gv:ae)(a b:Str):(lU hs ts qs f gd gv a b).length<=1:=by
 unfold lU;split
 ·exact br 1
 exact gA 1
theorem gk_(r:Rl)(hs:Xa)(ts:Xb)(qs:aL)(f:aq)(h:Str):(wC r hs ts qs f h).length<=1:=by
 unfold wC yK;split
 ·exact gA 1
 exact Bb ..
theorem U5{α:Type}{g:Str->List α}{n:Nat}(h:∀x,(g x).length<=n):∀l:ae,(l.flatMap g).length<=n * l.length
 |[]=>by simp
 |a::l=>by
  have:=h a;let ih:=U5 h l;rw[List.flatMap_cons,dW,iO,Nat.mul_succ];omega
section v
theorem Pr:bw uC uC (aY HU):=bD
inductive uL (K:af) (CS CG CW T:Addr) (pr:Rl->Prop) (mv:yU) (vs:ag) (H:Hp) (Q:VK) (E:XK):Prop
 |mk:∀(v g p aw:Addr) (h:Str) (hs:Xa) (ts:Xb) (qs:aL) (fp:ai) (f:aq),∀r∈rl,vs=[.ref v,.str h,.ref aw]->pr r->(∀H',gB K H' aw [.str r.2.1,.str r.2.2.1,se r.2.2.2])->ic K CS CG CW H v g p hs ts qs fp f->Wd hs ts qs f->h∈aD hs->cU H T iV->(∀l ys H',aN T H H'->cU H' T iV->H l=none->H' l\.lst ys->bF K H' ys ((mv r hs ts qs f h).map kM)->Q (.ref l) H')->uL K CS CG CW T pr mv vs H Q E
theorem g4_{f0 CS CG CW T:Addr}{fd:Ae}(F:bh K "moves_from" "moves_from" HU f0 fd)(cL:!bg 5 "moves_by_least" Ci (jh K CS CG CW T yK)):!ak a9 6 f0 fd uC (uL K CS CG CW T (λr=>r.2.1="least") wC):=by
 exists F.bG Pr;let#[v,g,p,aw,h,hs,ts,qs,fp,f,r,dg,rfl,le,ha,S,W,hh,tab,k]:=h;refine' #[_,ax ?s1 eB,?kk]
 case s1=>exact bL (dm l_ (bE dh (pv 2) au) bf) (aF (aZ (aR cL hr %[0,1,bE dh (pv 2) au|0]))) bM
 let so:=UD r dg (by rw[le];decide +kernel);let#[gd,eg]:=Bq.mp so;apply#[_,Z,aw,_,_,_,Z,Z,ha _,Z,Z,_,Z,?_];rw[pX,cb le];apply bO ?_;apply#[_,Z,_,Z,_,Z,aw,_,_,.str gd,Z,Z,ha _,?_,v,g,p,h,gd,hs,ts,qs,fp,f,Z,S,W,hh,tab,λl ys H' b t n e tu=>k l ys H' b t n e ?_]
 ·rw[eg];rfl
 unfold wC;rw[eg];exact tu
theorem JW:bw ["sight","rule","moment","words","moves","hand"] uD (aY jm):=bD
inductive kF (K:af) (CS CG CW T:Addr) (pr:Rl->Prop) (mv:yU) (vs:ag) (H:Hp) (Q:VK) (E:XK):Prop
 |mk:∀(v g p:Addr) (m:Int) (hs:Xa) (ts:Xb) (qs:aL) (fp:ai) (f:aq),∀r∈rl,vs=[.ref v,.str r.1,.int m]->pr r->ic K CS CG CW H v g p hs ts qs fp f->Wd hs ts qs f->cU H T iV->(∀l ys H',aN T H H'->cU H' T iV->H l=none->H' l\.lst ys->bF K H' ys ((CA mv r hs ts qs f).map kM)->Q (.ref l) H')->kF K CS CG CW T pr mv vs H Q E
theorem jS_{f0 CS CG CW T:Addr}{fd:Ae}{pr:Rl->Prop}{mv:yU}(F:bh K "moves_seen" "moves_seen" jm f0 fd)(TS:fU K CS)(TG:dF K CG)(TW:Txt K mg CW)(_h:∀r,pr r->r.2.1≠"turns")(hb:∀r hs ts qs f h,Wd hs ts qs f->(mv r hs ts qs f h).length<=1000)(wG:!bg 2 A3 ["rule"] (Hq K))(cH:!bo CW 1 "hands" gy (Ct K CW))(cF:!bg 6 "moves_from" uC (uL K CS CG CW T pr mv)) :
  ak P w K mg base a9 7 f0 fd uD (kF K CS CG CW T pr mv):=by
 exists F.bG JW;let#[v,g,p,m,hs,ts,qs,fp,f,r,dg,rfl,hp,S,W,tab,k]:=h;let sz:=b_;have iG:ba 1 _:=hr.mono (by decide);refine' #[_,?r0,?kk]
 case' r0=>refine' ax ?s1 ?r1
 case' r1=>refine' ax ?s2 ?r2
 case' r2=>refine' ax ?s3 ?r3
 case' r3=>refine' ax ?s4 (aF ?s5)
 case s1=>exact bx 3 JW.nd (aR wG hr %[1|0])
 case s2=>exact bL (dm l_ (bE dh (pv 3) au) bf) eB bM
 case s3=>exact bx 4 JW.nd (bX aK)
 case' s4=>refine' eR eh Z (dO (wI cH TW.cl iG (dA (dA (pv 0) Z) Z))) (cY 5 JW.nd) (ax ?b1 (aF ?b2))
 case b1=>exact iq (iJ i_ Cw Cy CC (pv 4) %[aR cF hr %[0,5,3|0]|0])
 case b2=>exact bL (PW.pt (Cn (dm l_ (bE dh (pv 3) au) bf) (Hd (dm (U_ (oo hr 0)) (pv 4) (bX aK))))) (aF (aZ (wN wR (pv 4) wL (wK au)))) bM
 case s5=>exact aZ (pv 4)
 apply#[_,Z,r,dg,Z,λaw ha=>?_];lk;apply#[_,Z,aw,_,_,_,Z,Z,ha _,Z,Z,_,Z,?_];rw[pX,dM (_h r hp)];apply aO ?_;apply#[zl,λlm nm=>?_];lk;let#[s1,e1]:=bj (o:=.lst []) nm;generalize upd H lm (.lst [])=H1 at s1 e1 ⊢;let#[dx,dl,dv,dp,ad,h1,G,h3,h4,h5,h6]:=(S.same s1).ex;let#[hU,dw,dy,vs,bS,g1,g2,_]:=id G.ex;let#[eU,d1,l2,d3,je,as,ef,w1,_]:=id g2.ex;have gJ:(cQ d1 l2 d3).lookup ("hands":Str)=none:=ip _ _ _ Z0 Z0 Z0;apply#[_,Z,v,CS,dx,_,_,Z,h1,TS.cl,TS.nW,gj _ _ _ _,g,CG,hU,_,_,Z,g1,TG.cl,TG.nW,ki _ _ _,p,eU,_,Z,w1,gJ,p,hs,ts,bS,Z,g2,λlh nh=>?_];let#[s2,e2]:=bj (o:=.lst ((aD hs).map V.str)) nh;generalize upd H1 lh (.lst ((aD hs).map V.str))=H2 at s2 e2 ⊢;have _R:lm≠lh:=bu e1 nh;let gm:=s1.trans s2;let#[tv,hT]:=fj tab;have neT:∀{b:Addr} {xs:ag},H2 b\.lst xs->b≠T:=λe z=>by rw[z,gm _ _ hT] at e;cases e
 have n8:(aD hs).length<=8:=by have:=W.Gd.fD;have:=W.Gd.h8;omega
 have bound:∀i,(((aD hs).take i).flatMap (mv r hs ts qs f)).length<=8000:=λi=>by
  have:=U5 (g:=mv r hs ts qs f) (n:=1000) (λx=>hb r hs ts qs f x W) ((aD hs).take i);rw[dP] at this;omega
 apply#[lh,Z,#[_,.of e2],gQ (K:=K) (a:=lh) (xs:=(aD hs).map V.str) (λi σ H'=>∃(v5:aI) (ys:ag),σ=[some (.ref v),some (.str r.1),some (.int m),some (.ref aw),some (.ref lm),v5]/\aN T H H'/\cU H' T iV/\H' lh\.lst ((aD hs).map V.str)/\H' lm\.lst ys/\bF K H' ys ((((aD hs).take i).flatMap (mv r hs ts qs f)).map kM)/\(r.2.2.1="one"->((aD hs).take i).flatMap (mv r hs ts qs f)=[])) #[none,[],Z,λb o e n=>gm _ _ e,tab.same gm,e2,s2 _ _ e1,.nil,λ_=>rfl] (λi σ H' _ ⟨_,_,_,_,_,z,_⟩=>.of z) ?_ ?_]
 ·rintro i x σ H' hx ⟨v5,ys,rfl,bT,jg,o5,sS,tu,one⟩;let#[n,hn,rfl]:=jP hx;let Mo:=dC hn;lk;let S':=S.nt (bT.nt hT);apply#[_,Z,.inl #[Z,_,.of sS],_,Z,_,Z,_,Z,v,g,p,aw,n,hs,ts,qs,fp,f,r,dg,Z,hp,ha,S',W,Mo,jg,λl zs H3 b3 fN nl hl tz=>?_];let#[tv',B6]:=fj jg;let lO:=b3.nt B6;let vS:=lO.lst sS;let Bz:=bF.nt tu lO;have lT:l≠T:=λz=>by rw[z,B6] at nl;cases nl
  have Jl:lm≠l:=bu sS nl;let mi:=bound i;let ly:=bP tu;let lz:=bP tz;rw[ay] at ly lz;let bz:=hb r hs ts qs f n W;apply#[lm,l,ys,zs,Z,Z,vS,hl,by omega,?_];have e4:upd H3 lm (.lst (ys++zs)) lm\.lst (ys++zs):=ao
  have b4:aN T H (upd H3 lm (.lst (ys++zs))):=λb o e ne=>by
   rw[az (bu e nm)];exact b3 _ _ (bT _ _ e ne) ne
  have fC:cU (upd H3 lm (.lst (ys++zs))) T iV:=cU.putL fN vS
  have Ao:upd H3 lm (.lst (ys++zs)) lh\.lst ((aD hs).map V.str):=by
   rw[az _R.symm];exact lO.lst o5
  have fl:((aD hs).take (i+1)).flatMap (mv r hs ts qs f)=((aD hs).take i).flatMap (mv r hs ts qs f)++mv r hs ts qs f n:=by
   rw[jQ hn,List.flatMap_append,List.flatMap_cons,List.flatMap_nil,yP]
  have um:bF K (upd H3 lm (.lst (ys++zs))) (ys++zs) ((((aD hs).take (i+1)).flatMap (mv r hs ts qs f)).map kM):=by
   rw[fl,dD];exact kj (jc Bz vS) (jc tz vS)
  generalize upd H3 lm (.lst (ys++zs))=H4 at e4 b4 fC Ao um ⊢;dsimp only;apply#[_,Z,aw,_,_,_,Z,Z,ha _,Z,Z,_,Z,?_];rw[pX];apply a_ (λc=>?_) (λc=>?_)
  ·have c:r.2.2.1="one":=wF c;apply#[_,Z,zl,λle ne=>?_];let#[s5,e5]:=bj (o:=.lst []) ne;generalize upd H4 le (.lst [])=H5 at s5 e5 ⊢;apply#[lm,le,ys++zs,Z,Z,.of (s5 _ _ e4),.of e5,_,Z,?_];let ll:=bP um;rw[ay] at ll;apply a_ (λc2=>?_) (λc2=>?_)
   ·apply#[_,Z,_,Z,lm,_,Z,.of (s5 _ _ e4),λlq nq=>?_];rw[show bZ (ys++zs) none (some 1)=(ys++zs).take 1 from Kz (ys++zs) 1];let s6:=aa.new (o:=.lst ((ys++zs).take 1)) nq;let vz:=s5.trans s6;have b6:aN T H (upd H5 lq (.lst ((ys++zs).take 1))):=λb o e n=>vz _ _ (b4 _ _ e n);apply k lq _ _ b6 (fC.same vz) (aN.new (T:=T) (G:=H5) (λb o e n=>s5 _ _ (b4 _ _ e n)) (fj (fC.same s5)) nq) ao ?_;unfold CA;rw[aJ c]
    have nz:((aD hs).take (i+1)).flatMap (mv r hs ts qs f)≠[]:=λz=>by
     rw[z,p6] at ll;have y:ys++zs=[]:=List.length_eq_zero_iff.mp ll;rw[y] at c2;simp at c2
    have e7:((aD hs).flatMap (mv r hs ts qs f)).take 1=(((aD hs).take (i+1)).flatMap (mv r hs ts qs f)).take 1:=by
     conv=>lhs;rw[<- List.take_append_drop (i+1) (aD hs),List.flatMap_append]
     cases z:((aD hs).take (i+1)).flatMap (mv r hs ts qs f) with
     |nil=>exact absurd z nz
     |cons a b=>rfl
    rw[e7,List.map_take];exact KS 1 (um.same vz)
   have z:ys++zs=[]:=⇑c2
   apply#[_,_,Z,λb o e n=>s5 _ _ (b4 _ _ e n),fC.same s5,s5 _ _ Ao,s5 _ _ e4,um.same s5,λ_=>?_];rw[z,p6] at ll;exact List.length_eq_zero_iff.mp ll.symm
  apply#[_,_,Z,b4,fC,Ao,e4,um,λz=>absurd (cb z) c]
 rintro σ H' ⟨v5,ys,rfl,bT,jg,o5,sS,tu,one⟩;rw[ay,eX] at tu one;apply#[_,Z,k lm ys H' bT jg nm sS ?_];unfold CA;by_cases c:r.2.2.1="one"
 ·rw[aJ c];have:=one c;rw[this] at tu ⊢;exact tu
 rw[aE c];exact tu
end
end Ev
namespace Ev
open PySem L2
structure gR (P:Ad) (w:Af) (K:af) (mg:Str->Option Aa) (base:Heap) (C:Addr) (k:Nat) (x:Str) (ps:ae) (sp:Sp):Prop where
 ex:∃f fd,ak P w K mg base a9 k f fd ps sp/\Mk K C f/\mg x\.ref C/\pP K fd ps []
theorem AO{n_:Nat}{X:Cx}{C:Addr}{k:Nat}{x:Str}{ps:ae}{sp:Sp}{p pos:Pos}{e:Expr}{es:List Expr}{t:TA}(c:gR X.prog X.w X.K X.mg X.base C k x ps sp)(hr:ba n_ X.A)(ha:PA X (e::es) t)(hg:Gl X x:=by rfl)(sW:(x == ("__debug__":Str))=false:=by decide)
  (he:starEach (e::es) X.env=(false,eval e X.env)::starEach es X.env:=by rfl) (iY:(backTo pos (starEach es X.env)).any (·.1)=false:=by rfl) (hk:(k+1)<=n_:=by decide):PE X (.Call (.Name x p) (e::es) [] pos) (xn C sp [] E0 t):=by
 let#[f,fd,F,M,m,b]:=c.ex;exact kk_ M F (hr.mono hk) hg m b .nil nu ha sW he iY
section v
theorem Wg:bw B_ B_ (aY Kb):=bD
def VZ:Sp:=λvs H Q _=>∃i a:Int,vs=[.int i,.int a]/\Q (.bl (decide (a<=i))) H
theorem h3_{f0:Addr}{fd:Ae}(F:bh K "is_whole_from" "is_whole_from" Kb f0 fd)(cI:!bg 1 "is_whole" fu qF):!ak a9 2 f0 fd B_ VZ:=by
 exists F.bG Wg;let#[i,a,rfl,k]:=h;apply#[_,aF (aZ (j_ (aR cI hr %[0|0]) (j9 (oi o7 (pv 1) (pv 0))))),?_];exact#[_,Z,i,Z,_,Z,bO #[_,Z,_,Z,_,_,Z,Z,k]]
theorem e4':bw fu fu (aY QE):=bD
def Ws:Sp:=λvs H Q _=>∃i:Int,vs=[.int i]/\0<=i/\Q (.int i) H
theorem eC_{f0:Addr}{fd:Ae}(F:bh K "checked_moments" "checked_moments" QE f0 fd)(cI:!bg 2 "is_whole_from" B_ VZ):!ak a9 3 f0 fd fu Ws:=by
 apply F.bG e4' λaM A outer s H vs Q E hr h=>?_;let#[i,rfl,h0,k]:=h;apply#[_,ax (bL (eQ (dR (aR cI hr %[0,au|0]))) eB bM) (aF (aZ (pv 0))),?_];apply#[_,Z,i,0,Z,_,Z,?_];rw[cb h0];exact aO #[_,Z,k]
theorem qX:bw uE uE (aY OL):=bD
def Kr(K:af)(CG CW:Addr):Sp:=λvs H Q _=>∃(g d:V),∃r∈rl,vs=[g,d,.str r.1]/\Im K CG CW [g,d] H Q E0
theorem gq_{f0 CG CW:Addr}{fd:Ae}(F:bh K "checked_start" "checked_start" OL f0 fd)(wG:!bg 2 A3 ["rule"] (Hq K))(cS:!bg 2 "checked_stand" yz (Im K CG CW)):!ak a9 3 f0 fd uE (Kr K CG CW):=by
 exists F.bG qX;let#[g,d,r,dg,rfl,h]:=h;apply#[_,ax (iq (aR wG hr %[2|0])) (aF (aZ (aR cS hr %[0,1|0]))),?_];exact#[_,Z,r,dg,Z,λa _=>#[_,Z,_,Z,h]]
structure ug (K:af) (CG CW:Addr) (H:Hp) (g p d:Addr) (hs:Xa) (ts:Xb) (qs:aL) (fp:ai) (ns:ae) (f:aq):Prop where
 G:gf K CG CW H g p hs ts qs fp
 i7:d∉fp
 hd:H d\.dK (dk ns f)
 so:oI hs qs ns f
 has:∀b∈fp,∃o,H b\o/\∀vs,o≠.tbl vs
theorem ug.nt{CG CW g p d:Addr}{H G:Hp}{hs:Xa}{ts:Xb}{qs:aL}{fp:ai}{ns:ae}{f:aq}(S:ug K CG CW H g p d hs ts qs fp ns f)(s:NT H G):ug K CG CW G g p d hs ts qs fp ns f:=#[S.G.nt s,S.i7,s.dK S.hd,S.so,λb hb=>by
 let#[o,e,n]:=S.has b hb;exact#[o,s _ _ e n,n]]
structure Tb (H:Hp) (T1 T2:Addr):Prop where
 a:cU H T1 xK
 b:cU H T2 iV
 ne:T1≠T2
theorem WE:bw ["goods","stand","rule","moment","placed"] ua (aY PF):=bD
end
end Ev
namespace Ev
open PySem L2
def tN(hs:Xa)(ts:Xb)(qs:aL)(f:aq)(gd h:Str):gX->ae->gX
 |ms,[]=>ms
 |ms,o::l=>if 0<nZ hs qs f h o then tN hs ts qs f gd h (ms++lU hs ts qs f gd (ms.map (·.1)) h o) l else tN hs ts qs f gd h ms l
def Bo(hs:Xa)(ts:Xb)(qs:aL)(f:aq)(gd h:Str):gX:=tN hs ts qs f gd h [] (dz hs ts qs f h)
section v
theorem KF:bw ["sight","hand","guard","moves","other","given"] Ci (aY Pt):=bD
theorem fH_{f0 CS CG CW T:Addr}{fd:Ae}(F:bh K "moves_by_below" "moves_by_below" Pt f0 fd)(TS:fU K CS)(cR:!bo CS 4 AL ja (He K CS CG CW T))(cL:!bo CS 3 "lead" kb (Cq K CS CG CW))(cH:!bg 4 "heaviest_move" jU (ji K CS CG CW)):!ak a9 5 f0 fd Ci (jh K CS CG CW T Bo):=by
 exists F.bG KF;let#[v,g,p,h,gd,hs,ts,qs,fp,f,rfl,S,W,hh,tab,k]:=h;let sz:=b_;have Ff:ba 3 _:=hr.mono (by decide);refine' #[_,ax ?s1 (ax ?s2 (aF ?s3)),?kk]
 case s1=>exact bx 3 KF.nd (bX aK)
 case' s2=>refine' eR eh Z (dO (eW cR TS.cl hr (pv 0) %[1|0])) (cY 4 KF.nd) (aF (bL ?t1 (ax ?b1 (aF ?b2)) bM))
 case t1=>exact dm AK (eW cL TS.cl Ff (pv 0) %[1,4|0]) au
 case b1=>exact Hn (i:=5) ["move"] 1 [] KF.nd Z (Or.inl Z) (dO (pv 3)) (λfp s H=>fM (i:=0) (show (["move"]:ae).Nodup by decide +kernel) Z (Or.inl Z)) (λfp s H=>jb) (λfp s H=>bE (zS (K:=K) lM dh) (pv 0) au)
 case b2=>exact iq (iJ i_ Cw Cy CC (pv 3) %[aR cH hr %[0,1,4,2,5|0]|0])
 case s3=>exact aZ (pv 3)
 have n8:(aD hs).length<=8:=by have:=W.Gd.fD;have:=W.Gd.h8;omega
 apply#[zl,λlm nm=>?_];lk;let#[s1,e1]:=bj (o:=.lst []) nm;generalize upd H lm (.lst [])=H1 at s1 e1 ⊢;let S1:=S.same s1;let u_:=tab.same s1;let#[dx,dl,dv,dp,ad,h1,G,h3,h4,h5,h6]:=S1.ex;apply#[_,Z,v,dx,_,Z,h1,Cc _ _ _ _ Z0 Z0 Z0 Z0,_,Z,v,g,p,h,hs,ts,qs,fp,f,Z,S1,W,hh,u_,λl1 H2 b2 kB n1 e2=>?_];let#[tv,hT]:=fj u_;let#[Ln,F0]:=fj kB;let Sx:=b2.nt hT;let S2:=S1.nt Sx;let m2:=Sx.lst e1;have Jl:lm≠l1:=bu e1 n1;let En:=Il hs ts qs f h;have EW:∀x∈dz hs ts qs f h,x∈aD hs:=λx hx=>B8 (En.mem_iff.mp hx)
 have ll:(dz hs ts qs f h).length<=8:=by
  rw[En.length_eq];have:=Cs hs ts h;omega
 have bT:aN T H H2:=λb o e n=>b2 _ _ (s1 _ _ e) n;apply#[l1,Z,#[_,.of e2],gQ (K:=K) (a:=l1) (xs:=(dz hs ts qs f h).map V.str) (λi σ H'=>∃(v4 v5:aI) (ys:ag) (ms:gX),σ=[some (.ref v),some (.str h),some (.str gd),some (.ref lm),v4,v5]/\aN T H H'/\cU H' T iV/\H' l1\.lst ((dz hs ts qs f h).map V.str)/\H' lm\.lst ys/\bF K H' ys (ms.map kM)/\ms.length<=i/\tN hs ts qs f gd h ms ((dz hs ts qs f h).drop i)=Bo hs ts qs f gd h) #[none,none,[],[],Z,bT,kB,e2,m2,.nil,br _,Z] (λi σ H' _ ⟨_,_,_,_,_,_,_,z,_⟩=>.of z) ?_ ?_]
 ·rintro i x σ H3 hx ⟨v4,v5,ys,ms,rfl,Ig,fN,l3,m3,t3,MC,eq3⟩;let#[o,ho,rfl]:=jP hx;have hi:i<(dz hs ts qs f h).length:=(cw.mp ho).1;let om:=EW o (dC ho)
  have dr:(dz hs ts qs f h).drop i=o::(dz hs ts qs f h).drop (i+1):=by
   let#[h1,h2]:=cw.mp ho;rw[List.drop_eq_getElem_cons h1,h2]
  rw[dr] at eq3;let#[tv0,hT0]:=fj tab;let S3:=S.nt (Ig.nt hT0);let#[Pm,_,_,_,_,k1,_]:=S3.ex;let ly:=bP t3;rw[ay] at ly;lk;apply#[_,Z,v,Pm,_,Z,k1,Cc _ _ _ _ Z0 Z0 Z0 Z0,_,Z,_,Z,v,g,p,h,o,hs,ts,qs,fp,f,Z,S3,W,hh,om,_,_,Z,Z,_,Z,?_];apply a_ (λc=>?_) (λc=>?_)
  ·have c:0<nZ hs qs f h o:=⇑c
   have eq3:tN hs ts qs f gd h (ms++lU hs ts qs f gd (ms.map (·.1)) h o) ((dz hs ts qs f h).drop (i+1))=Bo hs ts qs f gd h:=by
    rw[tN,aJ c] at eq3;exact eq3
   apply#[_,Z,lm,Z,#[_,.of m3],λD hD=>?_];apply ku (own:=1) (fv:=[]) (xs:=ys) Z eL (λj out H'=>aa H3 H'/\H' D\.lst out/\out=((ms.map (·.1)).take j).map V.str) #[aa.new hD,ao,Z] (λj out H' _ ⟨sm,_⟩=>.of (sm _ _ m3)) (λout H4 ⟨s4,d4,eo⟩=>?_) (λj x out H' hx ⟨sm,hd,eo⟩=>?_);rotate_left
   ·let#[q,hq,a,rfl,ha]:=ou t3 hx;have hj:j<ms.length:=(cw.mp hq).1;apply#[_,Z,Z,λNx hN=>d6 ?_];apply#[_,Z,a,_,0,.str q.1,Z,Z,.of (sm _ _ ha),L2.gc (j:=0) Z,out,hd,?_,hN (out++[.str q.1]) _ #[g6 sm hD,ao,?_]]
    ·rw[eo,ay,dP];omega
    rw[eo,jQ (show (ms.map (·.1))[j]? = some q.1 by rw[dQ,hq];rfl),dD];rfl
   rw[ly,w9 (by rw[ay];exact br _)] at eo;subst eo;lk;let m4:=s4 _ _ m3;apply#[_,Z,.inl #[Z,_,.of m4],?_];apply#[_,Z,_,Z,_,Z,_,Z,_,Z,v,g,p,D,h,o,gd,ms.map (·.1),hs,ts,qs,fp,f,Z,S3.same s4,W,hh,om,d4,λl5 zs H5 s5 n5 e5 t5=>?_];let uq:=s4.trans s5;let m5:=uq _ _ m3;let lz:=bP t5;let hl:=Bb hs ts qs f gd (ms.map (·.1)) h o;rw[ay] at lz;apply#[lm,l5,ys,zs,Z,Z,m5,e5,by omega,?_];apply#[_,_,ys++zs,ms++lU hs ts qs f gd (ms.map (·.1)) h o,Z,λb u e n=>?_,cU.putL (fN.same uq) m5,?_,ao,?_,?_,eq3]
   ·rw[az (bu e nm)];exact uq _ _ (Ig _ _ e n)
   ·rw[az Jl.symm];exact uq _ _ l3
   ·rw[dD];exact kj (jc (t3.same uq) m5) (jc t5 m5)
   rw[dW];omega
  have c:¬0<nZ hs qs f h o:=⇑c
  apply#[_,_,ys,ms,Z,Ig,fN,l3,m3,t3,by omega,?_];rw[tN,aE c] at eq3;exact eq3
 rintro σ H3 ⟨v4,v5,ys,ms,rfl,Ig,fN,l3,m3,t3,MC,eq3⟩;rw[ay,List.drop_length] at eq3;apply#[_,Z,k lm ys H3 Ig fN nm m3 ?_];rw[<- eq3];exact t3
end
end Ev
namespace Ev
open PySem L2
def yC:yU:=λr hs ts qs f h=>Bo hs ts qs f (r.2.2.2.getD "") h
theorem Ph{hs:Xa}{ts:Xb}{qs:aL}{f:aq}{gd h:Str}:∀(l:ae) (ms:gX),(tN hs ts qs f gd h ms l).length<=ms.length+l.length
 |[],ms=>br _
 |o::l,ms=>by
  rw[tN,iO];split
  ·let h1:=Ph (hs:=hs) (ts:=ts) (qs:=qs) (f:=f) (gd:=gd) (h:=h) l (ms++lU hs ts qs f gd (ms.map (·.1)) h o);let h2:=Bb hs ts qs f gd (ms.map (·.1)) h o;rw[dW] at h1;omega
  let h1:=Ph (hs:=hs) (ts:=ts) (qs:=qs) (f:=f) (gd:=gd) (h:=h) l ms;omega
theorem gC_(r:Rl)(hs:Xa)(ts:Xb)(qs:aL)(f:aq)(h:Str)(W:Wd hs ts qs f):(yC r hs ts qs f h).length<=8:=by
 unfold yC Bo;let h1:=Ph (hs:=hs) (ts:=ts) (qs:=qs) (f:=f) (gd:=r.2.2.2.getD "") (h:=h) (dz hs ts qs f h) [];let h2:=(Il hs ts qs f h).length_eq;let h3:=Cs hs ts h;let h4:=W.Gd.fD;let h5:=W.Gd.h8;rw[p6] at h1;omega
section v
theorem fJ_{f0 CS CG CW T:Addr}{fd:Ae}(F:bh K "moves_from" "moves_from" HU f0 fd)(cL:!bg 5 "moves_by_below" Ci (jh K CS CG CW T Bo)):!ak a9 6 f0 fd uC (uL K CS CG CW T (λr=>r.2.1="below") yC):=by
 exists F.bG Pr;let#[v,g,p,aw,h,hs,ts,qs,fp,f,r,dg,rfl,le,ha,S,W,hh,tab,k]:=h;refine' #[_,ax ?s0 (ax ?s1 eB),?kk]
 case s0=>exact bL (dm l_ (bE dh (pv 2) au) bf) eB bM
 case s1=>exact bL (dm l_ (bE dh (pv 2) au) bf) (aF (aZ (aR cL hr %[0,1,bE dh (pv 2) au|0]))) bM
 let so:=UD r dg (by rw[le];decide +kernel);let#[gd,eg]:=Bq.mp so;have ln:¬r.2.1="least":=by rw[le];decide +kernel
 apply#[_,Z,aw,_,_,_,Z,Z,ha _,Z,Z,_,Z,?_];rw[pX,dM ln];apply aO ?_;apply#[_,Z,aw,_,_,_,Z,Z,ha _,Z,Z,_,Z,?_];rw[pX,cb le];apply bO ?_;apply#[_,Z,_,Z,_,Z,aw,_,_,.str gd,Z,Z,ha _,?_,v,g,p,h,gd,hs,ts,qs,fp,f,Z,S,W,hh,tab,λl ys H' b t n e tu=>k l ys H' b t n e ?_]
 ·rw[eg];rfl
 unfold yC;rw[eg];exact tu
end
end Ev
namespace Ev
open PySem L2
def wz(hs:Xa)(ts:Xb):Int:=((fQ hs ts).max?).getD 0
theorem km_{hs:Xa}{ts:Xb}{m:Int}(h1:m∈fQ hs ts)(h2:∀a∈fQ hs ts,a<=m):m=wz hs ts:=by
 unfold wz;rw[List.max?_eq_some_iff.mpr #[h1,h2]];rfl
theorem jq_{hs:Xa}{ts:Xb}(G:Good hs ts){m:Int}(h:m∈fQ hs ts):0<=m/\m<=8:=by
 let#[n,_,rfl]:=bN.mp h;let h1:=Cs hs ts n;let h2:=G.fD;let h3:=G.h8;show 0<=((nb hs ts n).length:Int)/\((nb hs ts n).length:Int)<=8;omega
theorem iX_{hs:Xa}{ts:Xb}(G:Good hs ts){a b:Str}(ha:a∈aD hs)(hb:b∈aD hs):2<=j8 hs a b/\j8 hs a b<=2000:=by
 let h1:=JH G ha;let h2:=JH G hb;unfold j8;omega
def vi(wt:Str->Int)(ok:Str->Bool):Int->ae->ae
 |_,[]=>[]
 |l,n::ns=>if (ok n&&decide (wt n<=l))=true then n::vi wt ok (l - wt n) ns else vi wt ok l ns
theorem J6(wt:Str->Int)(ok:Str->Bool):∀(l:Int) (ns:ae),(vi wt ok l ns).Sublist ns
 |_,[]=>.slnil
 |l,n::ns=>by
  unfold vi;split
  ·exact (J6 wt ok _ ns).cons_cons n
  exact (J6 wt ok _ ns).cons n
def iB(hs:Xa)(ts:Xb)(qs:aL)(gv:ae)(a b n:Str):Bool:=!decide (n∈gv)&&oW hs ts qs n a b
def qK(hs:Xa)(ts:Xb)(qs:aL)(f:aq)(a b:Str):Int:=nZ hs qs f a b / (j8 hs a b * (wz hs ts+1))
def IU(hs:Xa)(ts:Xb)(qs:aL)(f:aq)(gv:ae)(a b:Str):ae:=vi (uj qs) (iB hs ts qs gv a b) (qK hs ts qs f a b) (fe qs f a)
abbrev to3(a b:Str)(n:Str):Mv:=(n,a,b)
def xy(hs:Xa)(ts:Xb)(qs:aL)(f:aq)(gv:ae)(a b:Str):gX:=(IU hs ts qs f gv a b).map (to3 a b)
theorem Vi{hs:Xa}{ts:Xb}{qs:aL}{f:aq}(W:Wd hs ts qs f)(a:Str):(fe qs f a).length<=63:=by
 have h1:(fe qs f a).length<=(lR qs).length:=List.length_filter_le ..;let h2:=(KP qs).length_eq;rw[ay] at h2;have:=W.bU;omega
theorem TX{hs:Xa}{ts:Xb}{qs:aL}{f:aq}(W:Wd hs ts qs f)(gv:ae)(a b:Str):(xy hs ts qs f gv a b).length<=63:=by
 unfold xy;rw[ay];have:=(J6 (uj qs) (iB hs ts qs gv a b) (qK hs ts qs f a b) (fe qs f a)).length_le;let h2:=Vi W a;unfold IU;omega
theorem UC{α:Type}{l:List α}{i:Nat}{x:α}(h:l[i]? = some x):l.drop i=x::l.drop (i+1):=by
 let#[h1,h2]:=cw.mp h;rw[List.drop_eq_getElem_cons h1,h2]
section v
abbrev LU:ae:=["sight","one","other","given","parts","left","moves","piece","weight"]
theorem A0:bw LU ["sight","one","other","given"] (aY zA):=bD
inductive qA (K:af) (CS CG CW:Addr) (vs:ag) (H:Hp) (Q:VK) (E:XK):Prop
 |mk:∀(v g p lg:Addr) (a b:Str) (gv:ae) (hs:Xa) (ts:Xb) (qs:aL) (fp:ai) (f:aq),vs=[.ref v,.str a,.str b,.ref lg]->ic K CS CG CW H v g p hs ts qs fp f->Wd hs ts qs f->a∈aD hs->b∈aD hs->H lg\.lst (gv.map V.str)->(∀l ys H',aa H H'->H l=none->H' l\.lst ys->bF K H' ys ((xy hs ts qs f gv a b).map kM)->Q (.ref l) H')->qA K CS CG CW vs H Q E
theorem l1_{f0 CS CG CW CP:Addr}{fd:Ae}(F:bh K "share_moves" "share_moves" zA f0 fd)(TS:fU K CS)(TG:dF K CG)(TW:Txt K mg CW)(cL:!bo CS 3 "lead" kb (Cq K CS CG CW))(cJ:!bo CS 3 "joint_strength" kb (J9 K CS CG CW))(cN:!bo CW 1 "most_neighbours" gy (kJ K CW))(cW:!bo CG 2 "weight" yy (Bn K CG CW CP))(cM:!bo CG 3 "may_go" oG (JX K CG CW CP)) :
  ak P w K mg base a9 4 f0 fd ["sight","one","other","given"] (qA K CS CG CW):=by
 exists F.bG A0;let#[v,g,p,lg,a,b,gv,hs,ts,qs,fp,f,rfl,S,W,ha,hb,hg,k]:=h;let hu:=fZ hr;let sz:=b_;have iG:ba 1 _:=hr.mono (by decide);have sO:ba 2 _:=hr.mono (by decide);refine' #[_,?r0,?kk]
 case' r0=>refine' ax ?s1 ?r1
 case' r1=>refine' ax ?s2 ?r2
 case' r2=>refine' ax ?s3 ?r3
 case' r3=>refine' ax ?s4 (aF ?s5)
 case s1=>exact bx 4 A0.nd (bI pW (eW cJ TS.cl hr (pv 0) %[1,2|0]) (bI g5 (wI cN TW.cl iG (dA (dA (pv 0) Z) Z)) au))
 case s2=>exact bx 5 A0.nd (bI yL (eW cL TS.cl hr (pv 0) %[1,2|0]) (pv 4))
 case s3=>exact bx 6 A0.nd (bX aK)
 case' s4=>refine' eR eh Z (dO (ko hu (dA (pv 0) Z) (pv 1))) (cY 7 A0.nd) (ax ?b1 (aF ?b2))
 case b1=>exact bx 8 A0.nd (eW cW TG.cl sO (dA (pv 0) Z) %[7|0])
 case' b2=>refine' bL (PW.pt (Cn ?c1 (Cn ?c2 (Hd ?c3)))) (ax ?b3 (aF ?b4)) bM
 case c1=>exact dm (Vx hV (oo hr 0)) (pv 7) (pv 3) (by with_unfolding_all rfl)
 case c2=>exact dm o7 (pv 8) (pv 5)
 case c3=>exact dR (eW cM TG.cl hr (dA (pv 0) Z) %[7,1,2|0])
 case b3=>exact iq (iJ i_ tT tU p0 (pv 6) %[bC %[7,1,2|0]|0])
 case b4=>exact bx 5 A0.nd (bI Hb (pv 5) (pv 8))
 case s5=>exact aZ (pv 6)
 let#[dx,dl,dv,dp,ad,h1,G,h3,h4,h5,h6]:=S.ex;let#[hU,dw,dy,vs,bS,g1,g2,_]:=id G.ex;let#[eU,d1,l2,d3,je,as,ef,w1,_]:=id g2.ex;have hnm:(cQ d1 l2 d3).lookup ("most_neighbours":Str)=none:=ip _ _ _ Z0 Z0 Z0;have no:∀{m:Str},¬m="wares"->¬m=ie->¬m=oj->¬m=AS->(dH g dl dv dp).lookup m=none:=λa b c d=>Cc _ _ _ _ a b c d;let jo:=iX_ W.Gd ha hb;let nl:=W.Gd.fD;let n1:=W.Gd.h1;let n8:=W.Gd.h8;apply#[_,Z,v,dx,_,Z,h1,no Z0 Z0 Z0 Z0,_,Z,_,Z,v,g,p,a,b,hs,ts,qs,fp,f,Z,S,W,ha,hb,?_];apply#[_,Z,v,CS,dx,_,_,Z,h1,TS.cl,TS.nW,gj _ _ _ _,g,CG,hU,_,_,Z,g1,TG.cl,TG.nW,ki _ _ _,p,eU,_,Z,w1,hnm,p,hs,ts,bS,Z,g2,by omega,by omega,λm H1 s1 m1 m2=>?_];let mo:=jq_ W.Gd m1;obtain rfl:=km_ m1 m2;have pp:0<j8 hs a b * (wz hs ts+1):=Int.mul_pos Z1 Z1
 have pl:j8 hs a b * (wz hs ts+1)<1073741824:=by
  have:=Int.mul_le_mul jo.2 (show wz hs ts+1<=9 by omega) Z1 (by decide);omega
 apply#[_,_,Z,Z,_,_,Z,Z,.inl #[by omega,by omega],?_];lk;apply#[_,Z,v,dx,_,Z,s1 _ _ h1,no Z0 Z0 Z0 Z0,_,Z,_,Z,v,g,p,a,b,hs,ts,qs,fp,f,Z,S.same s1,W,ha,hb,_,Z,_,_,Z,Z,#[pp,pl],?_];lk;apply#[zl,λlm nm=>?_];lk;let#[s2,e2]:=bj (o:=.lst []) nm;let BF:=s1.free nm;generalize upd H1 lm (.lst [])=H2 at s2 e2 ⊢;let gm:=s1.trans s2;let hl:=h6 a ha;let l63:=Vi W a;apply#[_,Z,v,CS,dx,_,_,Z,gm _ _ h1,TS.cl,TS.nP,Dw _ _ _ _,_,Z,dp,_,Z,A1 (gm _ _ h5) ha,ad a,Z,#[_,.of (gm _ _ hl)],gQ (K:=K) (a:=ad a) (xs:=(fe qs f a).map V.str) (λi σ H'=>∃(v7 v8:aI) (left:Int) (ys:ag) (ns:ae),σ=[some (.ref v),some (.str a),some (.str b),some (.ref lg),some (.int (j8 hs a b * (wz hs ts+1))),some (.int left),some (.ref lm),v7,v8]/\aa H H'/\H' lm\.lst ys/\bF K H' ys ((ns.map (to3 a b)).map kM)/\ns.length<=i/\ns++vi (uj qs) (iB hs ts qs gv a b) left ((fe qs f a).drop i)=IU hs ts qs f gv a b) #[none,none,_,[],[],Z,gm,e2,.nil,br _,Z] (λi σ H' _ ⟨_,_,_,_,_,_,sm,_⟩=>.of (sm _ _ hl)) ?_ ?_]
 ·rintro i x σ H' hx ⟨v7,v8,left,ys,ns,rfl,sm,sS,tu,ln,eq⟩;let#[n,hn,rfl]:=jP hx;have hi:i<(fe qs f a).length:=(cw.mp hn).1;let#[Mo,fn]:=J_ (dC hn);let#[q,hq,rfl]:=bN.mp Mo;let G':=G.same sm;let nQ:=sm _ _ h1;let#[GV,Wj,Wh,IE,fpw',UZ,g2',_]:=id G'.ex;have MU:(bV p Wj Wh).lookup ("weight":Str)=none:=uQ _ _ _ Z0 Z0 Z0;have Nc:(bV p Wj Wh).lookup ("may_go":Str)=none:=uQ _ _ _ Z0 Z0 Z0;let ew:=MM W.nd hq;let ey:=SV W.nd hq;rw[UC hn,vi] at eq;let ly:=bP tu;rw[ay,ay] at ly
  have go:∀{H2:Hp} {v8:aI},aa H' H2->(iB hs ts qs gv a b q.1&&decide (uj qs q.1<=left))=false->∃(v7 Yi:aI) (xS:Int) (ys:ag) (ns:ae),[some (V.ref v),some (.str a),some (.str b),some (.ref lg),some (.int (j8 hs a b * (wz hs ts+1))),some (.int left),some (.ref lm),some (.str q.1),v8]=[some (V.ref v),some (.str a),some (.str b),some (.ref lg),some (.int (j8 hs a b * (wz hs ts+1))),some (.int xS),some (.ref lm),v7,Yi]/\aa H H2/\H2 lm\.lst ys/\bF K H2 ys ((ns.map (to3 a b)).map kM)/\ns.length<=i+1/\ns++vi (uj qs) (iB hs ts qs gv a b) xS ((fe qs f a).drop (i+1))=IU hs ts qs f gv a b:=λ{H2 v8} s2 e=>by
   rw[e,aE (by decide)] at eq;exact#[_,_,_,ys,ns,Z,sm.trans s2,s2 _ _ sS,tu.same s2,by omega,eq]
  lk;apply#[_,Z,v,CS,dx,_,_,Z,nQ,TS.cl,TS.nW,gj _ _ _ _,g,GV,_,Z,UZ,MU,_,Z,g,p,.str q.1,some q.1,hs,ts,qs,fp,Z,G',W.nd,Z,.inl #[q,hq,Z,?_]];lk;apply#[_,Z,_,Z,q.1,gv,Z,#[lg,_,Z,.of (sm _ _ hg),Hl gv],_,Z,?_];apply a_ (λc=>?_) (λc=>?_)
  ·have c:¬q.1∈gv:=⇑c
   apply#[_,Z,_,Z,_,_,Z,Z,_,Z,?_];apply a_ (λc2=>?_) (λc2=>?_)
   ·have c2:q.2.1<=left:=⇑c2
    apply#[_,Z,v,CS,dx,_,_,Z,nQ,TS.cl,TS.nW,gj _ _ _ _,g,GV,_,Z,UZ,Nc,_,Z,_,Z,_,Z,g,p,.str q.1,.str a,.str b,some q.1,some a,some b,hs,ts,qs,fp,Z,G',W.nd,W.Gd.sy,Z,.inl #[q,hq,Z,Z,Z,λH3 s3=>#[_,Z,?_]]];apply a_ (λc3=>?_) (λc3=>?_)
    ·have pt:(iB hs ts qs gv a b q.1&&decide (uj qs q.1<=left))=true:=by
      unfold iB oW;rw[ew,ey,cb c2,dM c];simpa using c3
     rw[aJ pt,ew] at eq;apply#[_,Z,.inl #[Z,_,.of (s3 _ _ sS)],_,Z,_,Z,_,Z,zl,λt nt=>?_];let#[s4,e4]:=bj (o:=.tup [.str q.1,.str a,.str b]) nt;generalize upd H3 t (.tup [.str q.1,.str a,.str b])=H4 at s4 e4 ⊢;let pE:=s3.trans s4;let Fw:=pE _ _ sS;apply#[lm,_,_,Z,Z,Fw,by omega,?_];dsimp only;apply#[_,Z,_,Z,_,_,Z,Z,?_];lk;apply#[_,_,_,ys++[.ref t],ns++[q.1],Z,λb' o e=>?_,ao,?_,?_,?_]
     ·rw[az (bu e BF)];exact pE _ _ (sm _ _ e)
     ·rw[dD,dD];exact jc (Bj (tu.same pE) e4) Fw
     ·rw[dW];show ns.length+1<=i+1;omega
     rw[List.append_assoc];exact eq
    apply go s3 ?_;unfold iB oW;have c3:B7 hs ts q.2.2 (some a) (some b)=false:=⇑c3
    rw[ey,c3,tV,Bool.false_and]
   apply go (aa.refl H') ?_;have c2:¬q.2.1<=left:=⇑c2
   rw[ew,dM c2,tV]
  have c:q.1∈gv:=⇑c
  apply go (aa.refl H') ?_;unfold iB;rw[cb c];rfl
 rintro σ H' ⟨v7,v8,left,ys,ns,rfl,sm,sS,tu,ln,eq⟩;rw[ay,List.drop_length,vi,yP] at eq;apply#[_,Z,k lm ys H' sm BF sS ?_];unfold xy;rw[<- eq];exact tu
end
end Ev
namespace Ev
open PySem L2
def tP(hs:Xa)(ts:Xb)(qs:aL)(f:aq)(h:Str):gX->ae->gX
 |ms,[]=>ms
 |ms,o::l=>if 0<nZ hs qs f h o then tP hs ts qs f h (ms++xy hs ts qs f (ms.map (·.1)) h o) l else tP hs ts qs f h ms l
def CI(hs:Xa)(ts:Xb)(qs:aL)(f:aq)(h:Str):gX:=tP hs ts qs f h [] (nb hs ts h)
def Bp:yU:=λ_ hs ts qs f h=>CI hs ts qs f h
theorem Pd{hs:Xa}{ts:Xb}{qs:aL}{f:aq}(W:Wd hs ts qs f){h:Str}:∀(l:ae) (ms:gX),(tP hs ts qs f h ms l).length<=ms.length+63 * l.length
 |[],ms=>br _
 |o::l,ms=>by
  rw[tP,iO];split
  ·let h1:=Pd W (h:=h) l (ms++xy hs ts qs f (ms.map (·.1)) h o);let h2:=TX W (ms.map (·.1)) h o;rw[dW] at h1;omega
  let h1:=Pd W (h:=h) l ms;omega
theorem g8_(r:Rl)(hs:Xa)(ts:Xb)(qs:aL)(f:aq)(h:Str)(W:Wd hs ts qs f):(Bp r hs ts qs f h).length<=1000:=by
 unfold Bp CI;let h1:=Pd W (h:=h) (nb hs ts h) [];let h3:=Cs hs ts h;let h4:=W.Gd.fD;let h5:=W.Gd.h8;rw[p6] at h1;omega
section v
theorem KU:bw ["sight","hand","moves","other","given"] ["sight","hand"] (aY QJ):=bD
inductive P2 (K:af) (CS CG CW:Addr) (vs:ag) (H:Hp) (Q:VK) (E:XK):Prop
 |mk:∀(v g p:Addr) (h:Str) (hs:Xa) (ts:Xb) (qs:aL) (fp:ai) (f:aq),vs=[.ref v,.str h]->ic K CS CG CW H v g p hs ts qs fp f->Wd hs ts qs f->h∈aD hs->(∀l ys H',aa H H'->H l=none->H' l\.lst ys->bF K H' ys ((CI hs ts qs f h).map kM)->Q (.ref l) H')->P2 K CS CG CW vs H Q E
theorem eB_{f0 CS CG CW:Addr}{fd:Ae}(F:bh K "moves_by_shares" "moves_by_shares" QJ f0 fd)(TS:fU K CS)(TG:dF K CG)(TW:Txt K mg CW)(cN:!bo CW 2 "neighbours" ja (Ke K CW))(cL:!bo CS 3 "lead" kb (Cq K CS CG CW))(cH:!bg 4 "share_moves" ["sight","one","other","given"] (qA K CS CG CW)):!ak a9 5 f0 fd ["sight","hand"] (P2 K CS CG CW):=by
 exists F.bG KU;let#[v,g,p,h,hs,ts,qs,fp,f,rfl,S,W,hh,k]:=h;let sz:=b_;have sO:ba 2 _:=hr.mono (by decide);have Ff:ba 3 _:=hr.mono (by decide);refine' #[_,ax ?s1 (ax ?s2 (aF ?s3)),?kk]
 case s1=>exact bx 2 KU.nd (bX aK)
 case' s2=>refine' eR eh Z (dO (eW cN TW.cl sO (dA (dA (pv 0) Z) Z) %[1|0])) (cY 3 KU.nd) (aF (bL ?t1 (ax ?b1 (aF ?b2)) bM))
 case t1=>exact dm AK (eW cL TS.cl Ff (pv 0) %[1,3|0]) au
 case b1=>exact Hn (i:=4) ["move"] 1 [] KU.nd Z (Or.inl Z) (dO (pv 2)) (λfp s H=>fM (i:=0) (show (["move"]:ae).Nodup by decide +kernel) Z (Or.inl Z)) (λfp s H=>jb) (λfp s H=>bE (zS (K:=K) lM dh) (pv 0) au)
 case b2=>exact iq (iJ i_ Cw Cy CC (pv 2) %[aR cH hr %[0,1,3,4|0]|0])
 case s3=>exact aZ (pv 2)
 have n8:(aD hs).length<=8:=by have:=W.Gd.fD;have:=W.Gd.h8;omega
 apply#[zl,λlm nm=>?_];lk;let#[s1,e1]:=bj (o:=.lst []) nm;generalize upd H lm (.lst [])=H1 at s1 e1 ⊢;let#[dx,dl,dv,dp,ad,h1,G,h3,h4,h5,h6]:=(S.same s1).ex;let#[hU,dw,dy,vs,bS,g1,g2,_]:=id G.ex;let#[eU,d1,l2,d3,je,as,ef,w1,_]:=id g2.ex;have gJ:(cQ d1 l2 d3).lookup ("neighbours":Str)=none:=ip _ _ _ Z0 Z0 Z0;apply#[_,Z,v,CS,dx,_,_,Z,h1,TS.cl,TS.nW,gj _ _ _ _,g,CG,hU,_,_,Z,g1,TG.cl,TG.nW,ki _ _ _,p,eU,_,Z,w1,gJ,_,Z,p,h,hs,ts,bS,Z,g2,W.Gd.sy,(hX hs).mem_iff.mp hh,λl1 n1=>?_];let#[s2,e2]:=bj (o:=.lst ((nb hs ts h).map V.str)) n1;have Jl:lm≠l1:=bu e1 n1;let gm:=s1.trans s2;generalize upd H1 l1 (.lst ((nb hs ts h).map V.str))=H2 at s2 e2 gm ⊢;have EW:∀x∈nb hs ts h,x∈aD hs:=λx hx=>B8 hx
 have ll:(nb hs ts h).length<=8:=by
  have:=Cs hs ts h;omega
 apply#[l1,Z,#[_,.of e2],gQ (K:=K) (a:=l1) (xs:=(nb hs ts h).map V.str) (λi σ H'=>∃(v3 v4:aI) (ys:ag) (ms:gX),σ=[some (.ref v),some (.str h),some (.ref lm),v3,v4]/\aa H H'/\H' l1\.lst ((nb hs ts h).map V.str)/\H' lm\.lst ys/\bF K H' ys (ms.map kM)/\ms.length<=63 * i/\tP hs ts qs f h ms ((nb hs ts h).drop i)=CI hs ts qs f h) #[none,none,[],[],Z,gm,e2,s2 _ _ e1,.nil,br _,Z] (λi σ H' _ ⟨_,_,_,_,_,_,z,_⟩=>.of z) ?_ ?_]
 ·rintro i x σ H3 hx ⟨v3,v4,ys,ms,rfl,Du,l3,m3,t3,MC,eq3⟩;let#[o,ho,rfl]:=jP hx;have hi:i<(nb hs ts h).length:=(cw.mp ho).1;let om:=EW o (dC ho);rw[UC ho] at eq3;let S3:=S.same Du;let#[Pm,_,_,_,_,k1,_]:=S3.ex;let ly:=bP t3;rw[ay] at ly;lk;apply#[_,Z,v,Pm,_,Z,k1,Cc _ _ _ _ Z0 Z0 Z0 Z0,_,Z,_,Z,v,g,p,h,o,hs,ts,qs,fp,f,Z,S3,W,hh,om,_,_,Z,Z,_,Z,?_];apply a_ (λc=>?_) (λc=>?_)
  ·have c:0<nZ hs qs f h o:=⇑c
   have eq3:tP hs ts qs f h (ms++xy hs ts qs f (ms.map (·.1)) h o) ((nb hs ts h).drop (i+1))=CI hs ts qs f h:=by
    rw[tP,aJ c] at eq3;exact eq3
   apply#[_,Z,lm,Z,#[_,.of m3],λD hD=>?_];apply ku (own:=1) (fv:=[]) (xs:=ys) Z eL (λj out H'=>aa H3 H'/\H' D\.lst out/\out=((ms.map (·.1)).take j).map V.str) #[aa.new hD,ao,Z] (λj out H' _ ⟨sm,_⟩=>.of (sm _ _ m3)) (λout H4 ⟨s4,d4,eo⟩=>?_) (λj x out H' hx ⟨sm,hd,eo⟩=>?_);rotate_left
   ·let#[q,hq,a,rfl,ha]:=ou t3 hx;have hj:j<ms.length:=(cw.mp hq).1;apply#[_,Z,Z,λNx hN=>d6 ?_];apply#[_,Z,a,_,0,.str q.1,Z,Z,.of (sm _ _ ha),L2.gc (j:=0) Z,out,hd,?_,hN (out++[.str q.1]) _ #[g6 sm hD,ao,?_]]
    ·rw[eo,ay,dP];omega
    rw[eo,jQ (show (ms.map (·.1))[j]? = some q.1 by rw[dQ,hq];rfl),dD];rfl
   rw[ly,w9 (by rw[ay];exact br _)] at eo;subst eo;lk;let m4:=s4 _ _ m3;apply#[_,Z,.inl #[Z,_,.of m4],?_];apply#[_,Z,_,Z,_,Z,_,Z,v,g,p,D,h,o,ms.map (·.1),hs,ts,qs,fp,f,Z,S3.same s4,W,hh,om,d4,λl5 zs H5 s5 n5 e5 t5=>?_];let uq:=s4.trans s5;let m5:=uq _ _ m3;let lz:=bP t5;let hl:=TX W (ms.map (·.1)) h o;rw[ay] at lz;apply#[lm,l5,ys,zs,Z,Z,m5,e5,by omega,?_];apply#[_,_,ys++zs,ms++xy hs ts qs f (ms.map (·.1)) h o,Z,λb u e=>?_,?_,ao,?_,?_,eq3]
   ·rw[az (bu e nm)];exact uq _ _ (Du _ _ e)
   ·rw[az Jl.symm];exact uq _ _ l3
   ·rw[dD];exact kj (jc (t3.same uq) m5) (jc t5 m5)
   rw[dW];omega
  have c:¬0<nZ hs qs f h o:=⇑c
  apply#[_,_,ys,ms,Z,Du,l3,m3,t3,by omega,?_];rw[tP,aE c] at eq3;exact eq3
 rintro σ H3 ⟨v3,v4,ys,ms,rfl,Du,l3,m3,t3,MC,eq3⟩;rw[ay,List.drop_length] at eq3;apply#[_,Z,k lm ys H3 Du nm m3 ?_];rw[<- eq3];exact t3
theorem fK_{f0 CS CG CW T:Addr}{fd:Ae}(F:bh K "moves_from" "moves_from" HU f0 fd)(cL:!bg 5 "moves_by_shares" ["sight","hand"] (P2 K CS CG CW)):!ak a9 6 f0 fd uC (uL K CS CG CW T (λr=>r.2.1="shares") Bp):=by
 exists F.bG Pr;let#[v,g,p,aw,h,hs,ts,qs,fp,f,r,dg,rfl,le,ha,S,W,hh,tab,k]:=h;refine' #[_,ax ?s0 (ax ?s1 (aF ?s2)),?kk]
 case s0=>exact bL (dm l_ (bE dh (pv 2) au) bf) eB bM
 case s1=>exact bL (dm l_ (bE dh (pv 2) au) bf) eB bM
 case s2=>exact aZ (aR cL hr %[0,1|0])
 have ln:¬r.2.1="least":=by rw[le];decide +kernel
 have lb:¬r.2.1="below":=by rw[le];decide +kernel
 apply#[_,Z,aw,_,_,_,Z,Z,ha _,Z,Z,_,Z,?_];rw[pX,dM ln];apply aO ?_;apply#[_,Z,aw,_,_,_,Z,Z,ha _,Z,Z,_,Z,?_];rw[pX,dM lb];apply aO ?_;exact#[_,Z,_,Z,v,g,p,h,hs,ts,qs,fp,f,Z,S,W,hh,λl ys H' b n e tu=>k l ys H' (aN.of b) (tab.same b) n e tu]
end
end Ev
namespace Ev
open PySem L2
def hit(t u:Str × Str):Bool:=(decide (u.1=t.1) || decide (u.2=t.1)) || (decide (u.1=t.2) || decide (u.2=t.2))
def fH(rs:List Xb)(t:Str × Str):Nat:=rs.findIdx λr=>!r.any (hit t)
def wB(K:af)(H:Hp)(l:Addr)(as:ai)(rs:List Xb):Prop:=H l=some (.lst (as.map V.ref))/\Paired (λa r=>∃zs,H a\.lst zs/\bF K H zs (r.map kT)) as rs
theorem wB.same{K:af}{H H':Hp}{l:Addr}{as:ai}{rs:List Xb}(h:wB K H l as rs)(s:aa H H'):wB K H' l as rs:=#[s _ _ h.1,Paired.bQ h.2 λa r ⟨zs,e,t⟩=>#[zs,s _ _ e,t.same s]]
section v
theorem qO:bw ["rows","tie","place","row"] ["rows","tie"] (aY QT):=bD
inductive qC (K:af) (vs:ag) (H:Hp) (Q:VK) (E:XK):Prop
 |mk:∀(l t:Addr) (as:ai) (rs:List Xb) (tt:Str × Str),vs=[.ref l,.ref t]->wB K H l as rs->H t\.tup ((kT tt).map kV)->(∀r∈rs,r.length<=1000)->(∀H',aa H H'->Q (.int (fH rs tt)) H')->qC K vs H Q E
theorem l6_{f:Addr}{fd:Ae}(F:bh K "first_row_without" "first_row_without" QT f fd)(B:Bi mg):!ak a9 1 f fd ["rows","tie"] (qC K):=by
 exists F.bG qO;let#[l,t,as,rs,tt,rfl,R,ht,yn,k]:=h;let sz:=b_
 apply#[_,ax (eR eh Z (T7 (by rfl) B.enum %[0|0]) (o9 Z (dZ (cY 2 qO.nd) (dZ (cY 3 qO.nd) kq)))
   (aF (bL (eQ (dR (cu (iK_ Z) (by rfl) B.any PyProof.Rows.Boot.«any» (eE
    (md ["there","tie"] 1 [1] (dO (pv 3)) (λfp s H=>fM (i:=0) (show (["there","tie"]:ae).Nodup by decide +kernel) Z (Or.inl Z)) (λfp s H=>jb)
     (λfp s H=>SQ (oi (Mb (K:=K) (λK=>Ja K false) Vz) (bE (zS (K:=K) lM dh) (pv 1) au) (pv 0) (by with_unfolding_all rfl)) (j9 (oi (Mb (K:=K) (λK=>Ja K false) Vz) (bE (zS (K:=K) lM dh) (pv 1) au) (pv 0) (by with_unfolding_all rfl))))) aK)))) (aF (aZ (pv 2))) bM)))
  (aF (aZ (cu gZ (by rfl) B.len gz %[0|0]))),?_]
 let la:=bP R.2;apply#[_,Z,l,Z,#[_,.of R.1],U8 (K:=K) (a:=l) (xs:=as.map V.ref) (λi σ H2=>∃(v2 v3:aI),σ=[some (.ref l),some (.ref t),v2,v3]/\aa H H2/\∀r∈rs.take i,r.any (hit tt)=true) #[none,none,Z,aa.refl H,by simp] (λi σ H2 _ ⟨_,_,_,s2,_⟩=>.of (s2 _ _ R.1)) ?_ ?_]
 ·rintro i x σ H2 hx ⟨v2,v3,rfl,s2,past⟩ u hu
  have hi:i<as.length:=by
   have:=(cw.mp hx).1;rwa [ay] at this
  have ex:x=.ref as[i]:=by
   rw[dQ,cg hi] at hx;exact (d5 hx).symm
  subst ex;have Js:i<rs.length:=by omega
  let#[zs,Tt,tz]:=gY R.2 i hi Js;have s3:aa H (upd H2 u (.tup [.int i,.ref as[i]])):=s2.trans (aa.new hu);have MX:upd H2 u (.tup [.int i,.ref as[i]]) u\.tup [.int i,.ref as[i]]:=ao;generalize upd H2 u (.tup [.int i,.ref as[i]])=H3 at s3 MX ⊢;apply#[u,_,Z,.of MX,Z,_,_,Z,_,_,Z,Z,?_];apply#[_,Z,as[i],Z,#[_,.of (s3 _ _ Tt)],λD hD=>?_];let lz:=bP tz;rw[ay] at lz;let lr:=yn rs[i] (ml Js);apply ku (own:=1) (fv:=[some (.ref t)]) (xs:=zs) Z eL (λj out H'=>aa H3 H'/\H' D\.lst out/\out=((rs[i].take j).map (hit tt)).map V.bl) #[aa.new hD,ao,Z] (λj out H' _ ⟨sm,_,_⟩=>.of (sm _ _ (s3 _ _ Tt))) (λout H4 ⟨s4,pM,eo⟩=>?_) (λj y out H' hy ⟨sm,ee,eo⟩=>?_)
  ·rw[lz,eX] at eo;subst eo;apply#[D,rs[i].map (hit tt),Z,.of pM,#[_,Z,?_]];have GS:(rs[i].map (hit tt)).any id=rs[i].any (hit tt):=by rw[List.any_map];rfl
   apply a_ (λc=>?_) (λc=>?_)
   ·have c:rs[i].any (hit tt)=false:=by
     have:(!(rs[i].map (hit tt)).any id)=true:=c;rw[GS] at this;simpa using this
    have e:fH rs tt=i:=by
     unfold fH;rw[List.findIdx_eq Js];apply#[by rw[c];rfl,λj hj=>?_];have:=past (rs[j]' Z1) (List.mem_iff_getElem?.mpr #[j,by rw[List.getElem?_take_of_lt hj,cg Z1]]);rw[this];rfl
    apply#[_,Z,?_];have:=k H4 (s3.trans s4);rw[e] at this;exact this
   have c:rs[i].any (hit tt)=true:=by
    have:¬(!(rs[i].map (hit tt)).any id)=true:=c;rw[GS] at this;simpa using this
   apply#[_,_,Z,s3.trans s4,λr hr=>?_];rw[ig,cg Js] at hr;rcases fB.mp hr with hr|hr
   ·exact past r hr
   obtain rfl:r=rs[i]:=⇑hr
   exact c
  let#[q,hq,a,rfl,ha]:=ou tz hy;let Ur:=sm _ _ (s3 _ _ (xZ ha));let nE:=sm _ _ (s3 _ _ (xZ ht))
  have lo:out.length<sizeLine:=by
   rw[eo,ay,ay,dP];omega
  apply#[_,Z,Z,λNx hN=>d6 ?_];have nx:Nx (upd H' D (.lst (out++[.bl (hit tt q)]))):=hN _ _ #[g6 sm hD,ao,by rw[CM _ hq,dD,eo];rfl];apply#[_,Z,t,_,_,_,Z,Z,.of nE,Z,_,Z,a,_,Z,.inr (.of Ur),Z,Z,_,Z,?_];apply a_ (λc=>?_) (λc=>?_)
  ·have c:(decide (q.1=tt.1) || decide (q.2=tt.1))=true:=by rw[<- Oo];exact c
   apply#[out,ee,lo,?_];rwa [show hit tt q=true by unfold hit;rw[c];rfl] at nx
  have c:(decide (q.1=tt.1) || decide (q.2=tt.1))=false:=by
   rw[<- Oo];simpa using c
  apply#[_,Z,t,_,_,_,Z,Z,.of nE,Z,_,Z,a,_,Z,.inr (.of Ur),Z,Z,out,ee,lo,?_];rw[show hit tt q=EX (.str tt.2) [.str q.1,.str q.2] by unfold hit;rw[c,Bool.false_or,Oo]] at nx;exact nx
 rintro σ H2 ⟨v2,v3,rfl,s2,past⟩;rw[ay,la,eX] at past;apply#[_,Z,l,_,Z,.inl (.of (s2 _ _ R.1)),?_]
 have e:fH rs tt=rs.length:=by
  unfold fH;rw[List.findIdx_eq_length];intro r hr;rw[past r hr];rfl
 have:=k H2 s2;rw[e] at this;rw[ay,la];exact this
end
end Ev
namespace Ev
open PySem L2
abbrev kZ:Stmt:=i9 iC 8
theorem Q3{α β:Type}{F:α->β->Prop}:∀{l:List α} {m:List β},l.length=m.length->(∀(i:Nat) (h1:i<l.length) (h2:i<m.length),F l[i] m[i])->Paired F l m
 |[],[],_,_=>.nil
 |[],_::_,h,_=>by cases h
 |_::_,[],h,_=>by cases h
 |a::l,b::m,h,f=>.cons (f 0 Z2 Z2) (Q3 ⇑h λi h1 h2=>f (i+1) ⇑h1 ⇑h2)
def iK(rs:List Xb)(t:Str × Str):List Xb:=if h:fH rs t<rs.length then rs.set (fH rs t) (rs[fH rs t]++[t]) else rs++[[t]]
def turnsOf(ts:Xb):List Xb:=ts.foldl iK []
theorem iz_(rs:List Xb)(t:Str × Str):fH rs t<=rs.length:=List.findIdx_le_length
theorem Qn(rs:List Xb)(t:Str × Str):(iK rs t).length<=rs.length+1:=by
 unfold iK;split
 ·rw[List.length_set];omega
 rw[dW];exact br _
theorem Qx{rs:List Xb}{t:Str × Str}{n:Nat}(h:∀r∈rs,r.length<=n):∀r∈iK rs t,r.length<=n+1:=by
 unfold iK;intro r hr;split at hr
 ·rename_i dG
  rcases List.mem_or_eq_of_mem_set hr with m|rfl
  ·have:=h r m;omega
  have:=h rs[fH rs t] (ml dG);rw[dW];show rs[fH rs t].length+1<=n+1;omega
 rcases fB.mp hr with m|m
 ·have:=h r m;omega
 obtain rfl:r=[t]:=⇑m
 simp
theorem wB.add{K:af}{H H':Hp}{l a:Addr}{as:ai}{rs:List Xb}{t:Str × Str}{zs:ag}(h:wB K H l as rs)(nd:as.Nodup){p:Nat}(hp:p<rs.length)(ha:as[p]? = some a)(hl:H' l\.lst (as.map V.ref))(hz:H' a\.lst zs)(tz:bF K H' zs ((rs[p]++[t]).map kT))
  (k:∀b o,H b\o->b≠l->b≠a->H' b\o) (jD:∀b∈as,b≠l) (kt:∀b xs,H b\.tup xs->H' b\.tup xs):wB K H' l as (rs.set p (rs[p]++[t])):=by
 let la:=bP h.2;apply#[hl,Q3 (by rw[List.length_set,la]) λi h1 h2=>?_];rw[List.length_set] at h2;let#[BP,ea]:=cw.mp ha;by_cases e:p=i
 ·subst e;rw[List.getElem_set_self,ea];exact#[zs,hz,tz]
 rw[List.getElem_set_ne e];let#[CV,e2,t2]:=gY h.2 i h1 h2;have ne:as[i]≠a:=λq=>e ((List.getElem_inj nd).mp (ea.trans q.symm));exact#[CV,k _ _ e2 (jD _ (ml h1)) ne,Paired.bQ t2 λy q ⟨c,z,e⟩=>#[c,z,kt _ _ e]]
theorem eS_{α β:Type}{F:α->β->Prop}{l:List α}{m:List β}{a:α}{b:β}(h:Paired F l m)(f:F a b):Paired F (l++[a]) (m++[b]):=Paired.snoc h f
section v
theorem Kn:bw ["self","rows","tie","place"] gy (aY kZ):=bD
inductive Kl (K:af) (C:Addr) (vs:ag) (H:Hp) (Q:VK) (E:XK):Prop
 |mk:∀(p:Addr) (hs:Xa) (ts:Xb) (fp:ai),vs=[.ref p]->eV K C H p hs ts fp->ts.length<64->(∀(l:Addr) (as:ai) (H':Hp),aa H H'->H l=none->(∀a∈as,H a=none)->(∀a∈as,a≠l)->as.Nodup->wB K H' l as (turnsOf (aP ts))->Q (.ref l) H')->Kl K C vs H Q E
theorem iu_{f C:Addr}{fd:Ae}(F:bh K "turns" "Web.turns" kZ f fd)(B:Bi mg)(T:Txt K mg C)(cT:!bo C 2 "ties" gy (OJ K C))(cR:!bg 1 "first_row_without" ["rows","tie"] (qC K)):!ak a9 3 f fd gy (Kl K C):=by
 exists F.bG Kn;let#[p,hs,ts,fp,rfl,W,bU,k]:=h;let sz:=b_;let#[dx,d1,l2,d3,je,Xn,efp,h1,_]:=id W.ex;have _i:(cQ d1 l2 d3).lookup ("ties":Str)=none:=ip _ _ _ Z0 Z0 Z0
 apply#[_,ax (bx 1 Kn.nd (bX aK))
  (ax (eR eh Z (dO (wI cT T.cl hr (pv 0))) (cY 2 Kn.nd)
   (ax (bx 3 Kn.nd (aR cR hr %[1,2|0]))
   (ax (bL (dm l_ (pv 3) (cu gZ (by rfl) B.len gz %[1|0]))
    (aF (iq (iJ i_ tT tU p0 (pv 1) %[bX aK|0]))) bM)
   (aF (iq (iJ i_ tT tU p0 (bE fA (pv 1) (pv 3)) %[2|0]))))))
  (aF (aZ (pv 1)))),?_]
 apply#[zl,λlr Ni=>?_];have s0:aa H (upd H lr (.lst [])):=aa.new Ni;have vR:upd H lr (.lst []) lr\.lst []:=ao;generalize upd H lr (.lst [])=H0 at s0 vR ⊢;apply#[_,Z,p,dx,_,Z,s0 _ _ h1,_i,p,hs,ts,fp,Z,W.same s0,bU,λlt zs H1 s1 dG sQ tz=>?_];have BG:lt≠lr:=(bu vR dG).symm;let lz:=bP tz;rw[ay,Hj] at lz;let pI:=Hj ts
 apply#[lt,Z,#[_,.of sQ],gQ (K:=K) (a:=lt) (xs:=zs) (λi σ H2=>∃(v2 v3:aI) (as:ai),σ=[some (.ref p),some (.ref lr),v2,v3]/\aN lr H1 H2/\(∀a∈as,H1 a=none/\a≠lr)/\as.Nodup/\wB K H2 lr as (turnsOf ((aP ts).take i))/\(turnsOf ((aP ts).take i)).length<=i/\∀r∈turnsOf ((aP ts).take i),r.length<=i)
  #[none,none,[],Z,aN.refl _ _,by simp,.nil,#[s1 _ _ vR,.nil],br _,by intro r hr;simp[turnsOf] at hr] (λi σ H2 _ ⟨_,_,_,_,b,_⟩=>.of (b _ _ sQ BG)) ?_ ?_]
 ·rintro i y σ H2 hy ⟨v2,v3,as,rfl,b2,fa,nd,R,l1,BL⟩;let#[t,ht,a,rfl,ha]:=ou tz hy;have hi:i<(aP ts).length:=(cw.mp ht).1;let Nh:=s1 _ _ vR;have SI:a≠lr:=cy ha Nh nofun;let ib:=b2 _ _ ha SI;let la:=bP R.2
  have AN:turnsOf ((aP ts).take (i+1))=iK (turnsOf ((aP ts).take i)) t:=by
   unfold turnsOf;rw[ig,ht,List.foldl_append];rfl
  generalize turnsOf ((aP ts).take i)=rs at R l1 BL la AN;apply#[_,Z,_,Z,lr,a,as,rs,t,Z,R,ib,λr hr=>by have:=BL r hr;omega,λH3 s3=>?_];let R3:=R.same s3;let i3:=s3 _ _ ib;have b3:aN lr H1 H3:=b2.trans (aN.of s3);have f3:∀a∈as,H1 a=none/\a≠lr:=fa;apply#[_,Z,_,Z,lr,_,Z,.inl (.of R3.1),Z,_,Z,?_];apply a_ (λc=>?_) (λc=>?_)
  ·have c:fH rs t=rs.length:=by
    have:V.int (fH rs t)=V.int ((as.map V.ref).length:Nat):=⇑c
    rw[ay,la] at this;have:=V.int.inj this;omega
   apply#[_,Z,.inl #[Z,_,.of R3.1],zl,λln An=>?_];let#[s4,Nk]:=bj (o:=.lst []) An;have Jg:ln≠lr:=(bu R3.1 An).symm;apply#[lr,_,_,Z,Z,s4 _ _ R3.1,by rw[ay];omega,?_]
   have fln:H1 ln=none:=by
    cases z:H1 ln with
    |none=>rfl
    |some o=>
     have:=b3 _ _ z Jg;rw[An] at this;cases this
   have _k:ln∉as:=λm=>by
    let#[j,hj,e]:=mm m;let#[zz,e2,_]:=gY R3.2 j hj Z1;rw[e,An] at e2;cases e2
   have Rn:eO (as.map V.ref++[V.ref ln]) (fH rs t:Int)\.ref ln:=by
    rw[gc Z1 (by rw[dW,ay];show ((fH rs t:Nat):Int)<((as.length+1:Nat):Int);omega),ow,c,xa (by rw[ay];omega),ay,la,Nat.sub_self];rfl
   have Al:upd (upd H3 ln (.lst [])) lr (.lst (as.map V.ref++[.ref ln])) lr\.lst (as.map V.ref++[.ref ln]):=ao;have Am:upd (upd H3 ln (.lst [])) lr (.lst (as.map V.ref++[.ref ln])) ln\.lst []:=by rw[az Jg];exact Nk
   have k5:∀{b o},H3 b\o->b≠lr->upd (upd H3 ln (.lst [])) lr (.lst (as.map V.ref++[.ref ln])) b\o:=λe ne=>by rw[az ne];exact s4 _ _ e
   generalize upd (upd H3 ln (.lst [])) lr (.lst (as.map V.ref++[.ref ln]))=H5 at Al Am k5 ⊢;apply#[_,Z,_,Z,lr,_,_,_,Z,Z,.of Al,Rn,.inl #[Z,_,.of Am],_,Z,ln,_,_,Z,Z,Am,by show 0<sizeLine;decide,?_];have k6:∀{b o},H3 b\o->b≠lr->upd H5 ln (.lst ([]++[.ref a])) b\o:=λe ne=>by rw[az (bu e An)];exact k5 e ne
   have Fv:upd H5 ln (.lst ([]++[.ref a])) ln\.lst [.ref a]:=ao;have Fu:upd H5 ln (.lst ([]++[.ref a])) lr\.lst (as.map V.ref++[.ref ln]):=by rw[az Jg.symm];exact Al
   generalize upd H5 ln (.lst ([]++[.ref a]))=H6 at k6 Fv Fu ⊢;have kt:∀b xs,H3 b\.tup xs->H6 b\.tup xs:=λb xs e=>k6 e (cy e R3.1 nofun)
   have ep:iK rs t=rs++[[t]]:=by
    unfold iK;rw[dif_neg Z1]
   apply#[_,_,as++[ln],Z,λb o e ne=>k6 (b3 _ _ e ne) ne,λx hx=>?_,?_,?_,?_,?_]
   ·rcases fB.mp hx with m|m
    ·exact fa x m
    obtain rfl:x=ln:=⇑m
    exact#[fln,Jg]
   ·rw[List.nodup_append]
    exact#[nd,by simp,λx hx z hz=>by
     obtain rfl:z=ln:=⇑hz
     exact λq=>_k (q▸hx)]
   ·rw[AN,ep];apply#[by rw[dD];exact Fu,eS_ (Q3 la λj h1 h2=>?_) #[_,Fv,.cons #[a,Z,kt _ _ i3] .nil]];let#[zz,e,tt]:=gY R3.2 j h1 h2;exact#[zz,k6 e (fa _ (ml h1)).2,Paired.bQ tt λy q ⟨c,z,e⟩=>#[c,z,kt _ _ e]]
   ·rw[AN];have:=Qn rs t;omega
   rw[AN];exact Qx BL
  have c:fH rs t<rs.length:=by
   let h1:=iz_ rs t
   have:¬fH rs t=rs.length:=λe=>c (by
    rw[ay,la,e];simp)
   omega
  have BP:fH rs t<as.length:=by omega
  have nl:as[fH rs t]≠lr:=(fa _ (ml BP)).2;let#[zz,ez,RY]:=gY R3.2 (fH rs t) BP c;let _H:=bP RY;rw[ay] at _H;let _N:=BL _ (ml c)
  have Rn:eO (as.map V.ref) (fH rs t:Int)\.ref as[fH rs t]:=by
   rw[gc Z1 (by rw[ay];omega),ow,dQ,cg BP];rfl
  apply#[_,Z,_,Z,lr,_,_,_,Z,Z,.of R3.1,Rn,.inl #[Z,_,.of ez],_,Z,_,_,_,Z,Z,ez,by omega,?_];have k6:∀{b o},H3 b\o->b≠as[fH rs t]->upd H3 as[fH rs t] (.lst (zz++[.ref a])) b\o:=λe ne=>by rw[az ne];exact e
  have h6:upd H3 as[fH rs t] (.lst (zz++[.ref a])) as[fH rs t]\.lst (zz++[.ref a]):=ao;generalize upd H3 as[fH rs t] (.lst (zz++[.ref a]))=H6 at k6 h6 ⊢;have kt:∀b xs,H3 b\.tup xs->H6 b\.tup xs:=λb xs e=>k6 e (cy e ez nofun)
  have ep:iK rs t=rs.set (fH rs t) (rs[fH rs t]++[t]):=by
   unfold iK;rw[dif_pos c]
  apply#[_,_,as,Z,λb o e ne=>k6 (b3 _ _ e ne) (bu e (fa _ (ml BP)).1),fa,nd,?_,?_,?_]
  ·rw[AN,ep];apply R3.add nd c (cg BP) (k6 R3.1 nl.symm) h6 ?_ (λb o e _ ne=>k6 e ne) (λb hb=>(fa b hb).2) kt;rw[dD];exact Bj (Paired.bQ RY λy q ⟨c,z,e⟩=>#[c,z,kt _ _ e]) (kt _ _ i3)
  ·rw[AN];have:=Qn rs t;omega
  rw[AN];exact Qx BL
 rintro σ H2 ⟨v2,v3,as,rfl,b2,fa,nd,R,_,_⟩;rw[lz,<- pI,eX] at R;have s2:aa H H2:=λb o e=>b2 _ _ (s1 _ _ (s0 _ _ e)) (bu e Ni);exact#[_,Z,k lr as H2 s2 Ni (λa ha=>(s0.trans s1).free (fa a ha).1) (λa ha=>(fa a ha).2) nd R]
end
end Ev
namespace L2
open PySem PyProof.Rows
section
variable{X:Cx}
inductive r6 (K:af) (x:V) (y:V) (H:Hp) (Q:VK):Prop
 |mk:∀a b xs,x=.ref a->y=.ref b->dN K H a xs->dN K H b []->Q (.bl xs.isEmpty) H->r6 K x y H Q
theorem iW_(hu:X.A.units+0+1<cLine):dS X (compareOp .Eq) (r6 X.K):=by
 intro pins s σ H x y v u Q I rx ry h;let#[a,b,xs,rfl,rfl,t,t',hq]:=h;cases xs with
 |nil=>exact Tn hV hu pins s σ H (.ref a) (.ref b) v u Q I rx ry #[[],[],#[a,[],Z,t,.nil],#[b,[],Z,t',.nil],hq]
 |cons z zs=>
  cases rx;cases ry;let#[us,r,pl,_]:=I.list t;let#[vs,r',r_,_]:=I.list t';let l1:=r.length;let l2:=r'.length;exact SeqAt.eq_list_lengthsAt pl.isList r_.isList (by simp only[cX,bne_iff_ne];simp at l1 l2;omega) Z1 #[.bl false,H,I,Z,hq]
end
end L2
namespace Ev
open PySem L2
def l7(ts:Xb)(m:Int):Xb:=((turnsOf (aP ts))[(m % ((turnsOf (aP ts)).length:Int)).toNat]?).getD []
def Co(hs:Xa)(ts:Xb)(qs:aL)(f:aq)(gd:Str)(t:Str × Str):gX:=lU hs ts qs f gd [] t.1 t.2++lU hs ts qs f gd [] t.2 t.1
def Kc(hs:Xa)(ts:Xb)(qs:aL)(f:aq)(gd:Str)(m:Int):gX:=(l7 ts m).flatMap (Co hs ts qs f gd)
theorem g9_{rs:List Xb}{t u:Str × Str}{r:Xb}(hr:r∈iK rs t)(hu:u∈r):u=t∨∃r'∈rs,u∈r':=by
 unfold iK at hr;split at hr
 ·rename_i dG
  rcases List.mem_or_eq_of_mem_set hr with m|rfl
  ·exact .inr #[r,m,hu]
  rcases fB.mp hu with h|h
  ·exact .inr #[_,ml dG,h]
  exact .inl ⇑h
 rcases fB.mp hr with m|m
 ·exact .inr #[r,m,hu]
 obtain rfl:r=[t]:=⇑m
 exact .inl ⇑hu
theorem WJ{u:Str × Str}:∀(ts:Xb) (rs:List Xb) {r:Xb},r∈ts.foldl iK rs->u∈r->u∈ts∨∃r'∈rs,u∈r'
 |[],rs,r,hr,hu=>.inr #[r,hr,hu]
 |t::ts,rs,r,hr,hu=>by
  rw[List.foldl_cons] at hr;rcases WJ ts (iK rs t) hr hu with h|⟨r',h1,h2⟩
  ·exact .inl (eA _ h)
  rcases g9_ h1 h2 with rfl|h
  ·exact .inl eP
  exact .inr h
theorem Wb:∀(ts:Xb) (rs:List Xb),(ts.foldl iK rs).length<=rs.length+ts.length
 |[],rs=>br _
 |t::ts,rs=>by
  rw[List.foldl_cons,iO];let h1:=Wb ts (iK rs t);let h2:=Qn rs t;omega
theorem Wf{n:Nat}:∀(ts:Xb) (rs:List Xb),(∀r∈rs,r.length<=n)->∀r∈ts.foldl iK rs,r.length<=n+ts.length
 |[],rs,h,r,hr=>h r hr
 |t::ts,rs,h,r,hr=>by
  rw[List.foldl_cons] at hr;have:=Wf (n:=n+1) ts (iK rs t) (Qx h) r hr;rw[iO];omega
theorem Qr{ts:Xb}{m:Int}{u:Str × Str}(h:u∈l7 ts m):u∈aP ts:=by
 unfold l7 at h;cases e:(turnsOf (aP ts))[(m % ((turnsOf (aP ts)).length:Int)).toNat]? with
 |none=>rw[e] at h;cases h
 |some r=>
  rw[e] at h;rcases WJ (aP ts) [] (dC e) h with z|⟨_,z,_⟩
  ·exact z
  cases z
theorem eT_{hs:Xa}{ts:Xb}(G:Good hs ts)(m:Int):(l7 ts m).length<64:=by
 unfold l7;cases e:(turnsOf (aP ts))[(m % ((turnsOf (aP ts)).length:Int)).toNat]? with
 |none=>show 0<64;decide
 |some r=>
  have:=Wf (n:=0) (aP ts) [] Z2 r (dC e);rw[Hj] at this;have:=G.vg;show r.length<64;omega
theorem VY{hs:Xa}{ts:Xb}(G:Good hs ts){u:Str × Str}(h:u∈aP ts):u.1∈aD hs/\u.2∈aD hs:=by
 have k:kT u∈(aP ts).map kT:=bN.mpr #[u,h,Z];rw[KC,(mj _).mem_iff] at k;let#[t,ht,e]:=bN.mp k;let e:=GU e;let#[h1,h2]:=G.IJ t ht;let n1:=(hX hs).mem_iff.mpr h1;let n2:=(hX hs).mem_iff.mpr h2;rw[<- e];unfold aQ;split
 ·exact#[n1,n2]
 exact#[n2,n1]
theorem U2{α β:Type}{g:α->List β}{n:Nat}(h:∀x,(g x).length<=n):∀l:List α,(l.flatMap g).length<=n * l.length
 |[]=>gA _
 |a::l=>by
  let h1:=h a;let h2:=U2 h l;rw[List.flatMap_cons,dW,iO,Nat.mul_succ];omega
theorem fI_(hs:Xa)(ts:Xb)(qs:aL)(f:aq)(gd:Str)(t:Str × Str):(Co hs ts qs f gd t).length<=2:=by
 unfold Co;rw[dW];let h1:=Bb hs ts qs f gd [] t.1 t.2;let h2:=Bb hs ts qs f gd [] t.2 t.1;omega
section v
theorem Ii:bw ["sight","guard","moment","rows","moves","one","other"] ["sight","guard","moment"] (aY PY):=bD
inductive QL (K:af) (CS CG CW:Addr) (vs:ag) (H:Hp) (Q:VK) (E:XK):Prop
 |mk:∀(v g p:Addr) (gd:Str) (m:Int) (hs:Xa) (ts:Xb) (qs:aL) (fp:ai) (f:aq),vs=[.ref v,.str gd,.int m]->0<=m->ic K CS CG CW H v g p hs ts qs fp f->Wd hs ts qs f->(∀l ys H',aa H H'->H l=none->H' l\.lst ys->bF K H' ys ((Kc hs ts qs f gd m).map kM)->Q (.ref l) H')->QL K CS CG CW vs H Q E
theorem fT_{f0 CS CG CW:Addr}{fd:Ae}(F:bh K "moves_by_turns" "moves_by_turns" PY f0 fd)(B:Bi mg)(TS:fU K CS)(TG:dF K CG)(TW:Txt K mg CW)(cT:!bo CW 3 "turns" gy (Kl K CW))(cH:!bg 4 "heaviest_move" jU (ji K CS CG CW)):!ak a9 5 f0 fd ["sight","guard","moment"] (QL K CS CG CW):=by
 exists F.bG Ii;let#[v,g,p,gd,m,hs,ts,qs,fp,f,rfl,m0,S,W,k]:=h;let sz:=b_;have Ff:ba 3 _:=hr.mono (by decide);refine' #[_,?r0,?kk]
 case' r0=>refine' ax ?s1 ?r1
 case' r1=>refine' ax ?s2 ?r2
 case' r2=>refine' ax ?s3 (ax ?s4 (aF ?s5))
 case s1=>exact bx 3 Ii.nd (wI cT TW.cl Ff (dA (dA (pv 0) Z) Z))
 case s2=>exact bL (dm (iW_ (oo hr 0)) (pv 3) (bX aK)) (aF (aZ (bX aK))) bM
 case s3=>exact bx 4 Ii.nd (bX aK)
 case' s4=>refine' eR eh Z (dO (bE fA (pv 3) (bI uM (pv 2) (cu gZ (by rfl) B.len gz %[3|0])))) (o9 Z (dZ (cY 5 Ii.nd) (dZ (cY 6 Ii.nd) kq))) (ax ?b1 (aF ?b2))
 case b1=>exact iq (iJ i_ Cw Cy CC (pv 4) %[aR cH hr %[0,5,6,1,bX aK|0]|0])
 case b2=>exact iq (iJ i_ Cw Cy CC (pv 4) %[aR cH hr %[0,6,5,1,bX aK|0]|0])
 case s5=>exact aZ (pv 4)
 let#[dx,dl,dv,dp,ad,h1,G,h3,h4,h5,h6]:=S.ex;let#[hU,dw,dy,vs,bS,g1,g2,_]:=id G.ex;let#[eU,d1,l2,d3,je,Xn,ef,w1,_]:=id g2.ex;have gJ:(cQ d1 l2 d3).lookup ("turns":Str)=none:=ip _ _ _ Z0 Z0 Z0;apply#[_,Z,v,CS,dx,_,_,Z,h1,TS.cl,TS.nW,gj _ _ _ _,g,CG,hU,_,_,Z,g1,TG.cl,TG.nW,ki _ _ _,p,eU,_,Z,w1,gJ,p,hs,ts,bS,Z,g2,W.Gd.vg,λlr as H1 s1 nr _ _ _ R=>?_];lk;let la:=bP R.2;apply#[_,Z,zl,λle ne=>?_];let#[s12,e2]:=bj (o:=.lst []) ne;generalize upd H1 le (.lst [])=H2 at s12 e2 ⊢;let s2:=s1.trans s12;let R2:=R.same s12;apply#[lr,le,_,Z,Z,.of R2.1,.of e2,_,Z,?_];apply a_ (λc=>?_) (λc=>?_)
 ·have z:as=[]:=⇑c
  have z:turnsOf (aP ts)=[]:=by
   rw[z] at la;exact List.length_eq_zero_iff.mp la.symm
  apply#[zl,λl nl=>?_];apply k l [] _ (s2.trans (aa.new nl)) (s2.free nl) ao ?_;unfold Kc l7;rw[z];exact .nil
 have z:as≠[]:=⇑c
 have pos:0<as.length:=List.length_pos_iff.mpr z;apply#[zl,λlm nm=>?_];lk;let#[zD,e3]:=bj (o:=.lst []) nm;generalize upd H2 lm (.lst [])=H3 at zD e3 ⊢;let s3:=s2.trans zD;have BF:H lm=none:=s2.free nm;let R3:=R2.same zD
 have lt:(m % ((turnsOf (aP ts)).length:Int)).toNat<as.length:=by
  let h1:=Int.emod_nonneg m (show ((as.length:Nat):Int)≠0 by omega);let h2:=Int.emod_lt_of_pos m (show 0<((as.length:Nat):Int) by omega);rw[<- la];omega
 have lt':(m % ((turnsOf (aP ts)).length:Int)).toNat<(turnsOf (aP ts)).length:=by omega
 let#[zs,hz,tz]:=gY R2.2 _ lt lt'
 have er:l7 ts m=(turnsOf (aP ts))[(m % ((turnsOf (aP ts)).length:Int)).toNat]:=by
  unfold l7;rw[cg lt'];rfl
 rw[<- er] at tz;let _S:=eT_ W.Gd m;have ZA:∀u∈l7 ts m,u.1∈aD hs/\u.2∈aD hs:=λu hu=>VY W.Gd (Qr hu);let h0:=Int.emod_nonneg m (show (((turnsOf (aP ts)).length:Nat):Int)≠0 by omega)
 have ix:eO (as.map V.ref) (m % ((as.map V.ref).length:Int))\.ref (as[(m % ((turnsOf (aP ts)).length:Int)).toNat]):=by
  rw[ay,la,gc h0 (by rw[ay];omega),dQ,cg lt];rfl
 generalize as[(m % ((turnsOf (aP ts)).length:Int)).toNat]=ar at hz ix;let lz:=bP tz;rw[ay] at lz;have Ro:ar≠lm:=bu hz nm;replace hz:=zD _ _ hz;replace tz:=tz.same zD;apply#[_,Z,_,Z,_,Z,lr,_,Z,.inl (.of R3.1),_,_,Z,Z,by rw[ay];omega,lr,_,_,_,Z,Z,.of R3.1,ix,ar,Z,#[_,.of hz],gQ (K:=K) (a:=ar) (xs:=zs) (λi σ H'=>∃(v5 v6:aI) (ys:ag),σ=[some (.ref v),some (.str gd),some (.int m),some (.ref lr),some (.ref lm),v5,v6]/\aa H H'/\aN lm H3 H'/\H' lm\.lst ys/\bF K H' ys ((((l7 ts m).take i).flatMap (Co hs ts qs f gd)).map kM)) #[none,none,[],Z,s3,aN.refl _ _,e3,.nil] (λi σ H' _ ⟨_,_,_,_,_,b,_⟩=>.of (b _ _ hz Ro)) ?_ ?_]
 ·rintro i x σ H4 hx ⟨v5,v6,ys,rfl,s4,b4,m4,t4⟩;let#[u,hu,a,rfl,ha]:=ou tz hx;have hi:i<(l7 ts m).length:=(cw.mp hu).1;let#[n1,n2]:=ZA u (dC hu);have tj:H4 a\.tup [.str u.1,.str u.2]:=b4 _ _ ha (cy ha e3 nofun);apply#[a,_,Z,.of tj,Z,_,_,Z,_,_,Z,Z,?_];dsimp only;let ly:=bP t4;rw[ay] at ly;let bl:=U2 (fI_ hs ts qs f gd) ((l7 ts m).take i);rw[dP] at bl;let l1:=Bb hs ts qs f gd [] u.1 u.2;let BL:=Bb hs ts qs f gd [] u.2 u.1;apply#[_,Z,.inl #[Z,_,.of m4],_,Z,_,Z,_,Z,_,Z,zl,λlg ng=>?_];let#[vA,e5]:=bj (o:=.lst []) ng;generalize upd H4 lg (.lst [])=H5 at vA e5 ⊢;apply#[v,g,p,lg,u.1,u.2,gd,[],hs,ts,qs,fp,f,Z,S.same (s4.trans vA),W,n1,n2,e5,λl6 z6 H6 vz n6 e6 t6=>?_];let I0:=vA.trans vz;let m6:=I0 _ _ m4;let _J:=bP t6;rw[ay] at _J;apply#[lm,l6,ys,z6,Z,Z,m6,e6,by omega,?_];have s7:aa H (upd H6 lm (.lst (ys++z6))):=g6 (s4.trans I0) BF;have b7:aN lm H3 (upd H6 lm (.lst (ys++z6))):=λb o e n=>by rw[az n];exact I0 _ _ (b4 _ _ e n)
  have e7:upd H6 lm (.lst (ys++z6)) lm\.lst (ys++z6):=ao
  have t7:bF K (upd H6 lm (.lst (ys++z6))) (ys++z6) ((((l7 ts m).take i).flatMap (Co hs ts qs f gd)++lU hs ts qs f gd [] u.1 u.2).map kM):=by
   rw[dD];exact kj (jc (t4.same I0) m6) (jc t6 m6)
  generalize upd H6 lm (.lst (ys++z6))=H7 at s7 b7 e7 t7 ⊢;dsimp only;apply#[_,Z,.inl #[Z,_,.of e7],_,Z,_,Z,_,Z,_,Z,zl,λSN _l=>?_];let#[rT,e8]:=bj (o:=.lst []) _l;generalize upd H7 SN (.lst [])=H8 at rT e8 ⊢;apply#[v,g,p,SN,u.2,u.1,gd,[],hs,ts,qs,fp,f,Z,S.same (s7.trans rT),W,n2,n1,e8,λl9 z9 H9 IY n9 e9 t9=>?_];let IZ:=rT.trans IY;let m9:=IZ _ _ e7;let _I:=bP t9;have ly7:(ys++z6).length=ys.length+z6.length:=dW;rw[ay] at _I;apply#[lm,l9,ys++z6,z9,Z,Z,m9,e9,by omega,?_];apply#[_,_,(ys++z6)++z9,Z,g6 (s7.trans IZ) BF,λb o e n=>by rw[az n];exact IZ _ _ (b7 _ _ e n),ao,?_];rw[show (l7 ts m).take (i+1)=(l7 ts m).take i++[u] by rw[ig,hu];rfl,List.flatMap_append,List.flatMap_cons,List.flatMap_nil,yP];unfold Co;rw[<- List.append_assoc,dD];exact kj (jc (t7.same IZ) m9) (jc t9 m9)
 rintro σ H4 ⟨v5,v6,ys,rfl,s4,b4,m4,t4⟩;rw[lz,eX] at t4;exact#[_,Z,k lm ys H4 s4 BF m4 t4]
theorem mT:bw ["sight","rule","moment","words","moves","hand"] uD (aY jm):=bD
inductive OI (K:af) (CS CG CW:Addr) (vs:ag) (H:Hp) (Q:VK) (E:XK):Prop
 |mk:∀(v g p:Addr) (m:Int) (gd:Str) (hs:Xa) (ts:Xb) (qs:aL) (fp:ai) (f:aq),∀r∈rl,vs=[.ref v,.str r.1,.int m]->r.2.1="turns"->r.2.2.2\gd->0<=m->ic K CS CG CW H v g p hs ts qs fp f->Wd hs ts qs f->(∀l ys H',aa H H'->H l=none->H' l\.lst ys->bF K H' ys ((Kc hs ts qs f gd m).map kM)->Q (.ref l) H')->OI K CS CG CW vs H Q E
theorem iO_{f0 CS CG CW:Addr}{fd:Ae}(F:bh K "moves_seen" "moves_seen" jm f0 fd)(wG:!bg 2 A3 ["rule"] (Hq K))(cT:!bg 5 "moves_by_turns" ["sight","guard","moment"] (QL K CS CG CW)):!ak a9 6 f0 fd uD (OI K CS CG CW):=by
 exists F.bG mT;let#[v,g,p,m,gd,hs,ts,qs,fp,f,r,dg,rfl,le,eg,m0,S,W,k]:=h;refine' #[_,ax ?s1 (ax ?s2 eB),?kk]
 case s1=>exact Cm (i:=3) mT.nd Z (Or.inl Z) (aR wG hr %[1|0])
 case s2=>exact bL (dm l_ (bE dh (pv 3) au) bf) (aF (aZ (aR cT hr %[0,bE dh (pv 3) au,2|0]))) bM
 apply#[_,Z,r,dg,Z,λaw ha=>?_];lk;apply#[_,Z,aw,_,_,_,Z,Z,ha _,Z,Z,_,Z,?_];rw[pX,cb le];apply bO ?_;apply#[_,Z,_,Z,aw,_,_,.str gd,Z,Z,ha _,?_,_,Z,v,g,p,gd,m,hs,ts,qs,fp,f,Z,m0,S,W,k];rw[eg];rfl
end
end Ev
namespace Ev
open PySem L2
theorem ak.two{P:Ad}{w:Af}{K:af}{mg:Str->Option Aa}{base:Heap}{CX:j2}{k:Nat}{f:Addr}{fd:Ae}{ps:ae}{sp Sh LL:Sp}(F:!ak CX k f fd ps Sh)(G:!ak CX k f fd ps LL)(h:∀vs H Q E,sp vs H Q E->Sh vs H Q E∨LL vs H Q E):!ak CX k f fd ps sp:=
 #[λvs H Q E q=>(h vs H Q E q).elim (F.len vs H Q E) (G.len vs H Q E),λA outer s H args us vs Q E hr e b v q=>(h vs H Q E q).elim (F.run A outer s H args us vs Q E hr e b v) (G.run A outer s H args us vs Q E hr e b v)]
def o6:yU:=λr hs ts qs f h=>if r.2.1="least" then wC r hs ts qs f h else if r.2.1="below" then yC r hs ts qs f h else Bp r hs ts qs f h
theorem k2_:∀r∈rl,r.2.1≠"turns"->r.2.1≠"least"->r.2.1≠"below"->r.2.1="shares":=by decide +kernel
theorem it_:∀r∈rl,r.2.1="turns"->r.2.2.2.isSome=true:=by decide +kernel
theorem hg_{r:Rl}(h:r.2.1="least")(hs:Xa)(ts:Xb)(qs:aL)(f:aq)(x:Str):o6 r hs ts qs f x=wC r hs ts qs f x:=aJ h
theorem gW_{r:Rl}(h:r.2.1="below")(hs:Xa)(ts:Xb)(qs:aL)(f:aq)(x:Str):o6 r hs ts qs f x=yC r hs ts qs f x:=(aE (by rw[h];decide +kernel)).trans (aJ h)
theorem g1_{r:Rl}(h:r.2.1="shares")(hs:Xa)(ts:Xb)(qs:aL)(f:aq)(x:Str):o6 r hs ts qs f x=Bp r hs ts qs f x:=(aE (by rw[h];decide +kernel)).trans (aE (by rw[h];decide +kernel))
def oV(r:Rl)(hs:Xa)(ts:Xb)(qs:aL)(f:aq)(m:Int):gX:=if r.2.1="turns" then Kc hs ts qs f (r.2.2.2.getD "") m else CA o6 r hs ts qs f
def ka(r:Rl)(ts:Xb):Nat:=if r.2.1="turns" then max 1 (turnsOf (aP ts)).length else 1
def eN(r:Rl)(hs:Xa)(ts:Xb)(qs:aL)(f:aq):Bool:=(List.range (ka r ts)).all λm=>(oV r hs ts qs f m).isEmpty
def BT(T1 T2:Addr)(H H':Hp):Prop:=∀b o,H b\o->b≠T1->b≠T2->H' b\o
theorem BT.of{T1 T2:Addr}{H H':Hp}(s:aa H H'):BT T1 T2 H H':=λb o e _ _=>s b o e
theorem BT.trans{T1 T2:Addr}{H H1 H2:Hp}(a:BT T1 T2 H H1)(b:BT T1 T2 H1 H2):BT T1 T2 H H2:=λc o e n1 n2=>b c o (a c o e n1 n2) n1 n2
theorem BT.nt{T1 T2:Addr}{H H':Hp}(a:BT T1 T2 H H')(tb:Tb H T1 T2):NT H H':=λb o e n=>by
 let#[v1,h1]:=fj tb.a;let#[v2,h2]:=fj tb.b;exact a b o e (λz=>n v1 (by rw[z,h1] at e;exact (d5 e).symm)) (λz=>n v2 (by rw[z,h2] at e;exact (d5 e).symm))
theorem BT.sec{T1 T2:Addr}{H H':Hp}(a:aN T2 H H'):BT T1 T2 H H':=λb o e _ n=>a b o e n
section
variable{P:Ad}{w:Af}{K:af}{mg:Str->Option Aa}{base:Heap}{CS CG CW T1 T2:Addr}
theorem g3_{f0:Addr}{fd:Ae}{T:Addr}(l:!ak a9 6 f0 fd uC (uL K CS CG CW T (λr=>r.2.1="least") wC))(b:!ak a9 6 f0 fd uC (uL K CS CG CW T (λr=>r.2.1="below") yC))(s:!ak a9 6 f0 fd uC (uL K CS CG CW T (λr=>r.2.1="shares") Bp)):!ak a9 6 f0 fd uC (uL K CS CG CW T (λr=>r.2.1≠"turns") o6):=by
 apply ak.two l (LL:=uL K CS CG CW T (λr=>r.2.1≠"turns"/\r.2.1≠"least") o6) (ak.two b s λvs H Q E q=>?_) λvs H Q E q=>?_
 ·let#[v,g,p,aw,h,hs,ts,qs,fp,f,r,hr,e,#[n1,n2],ha,S,W,hh,tab,k]:=q;by_cases c:r.2.1="below"
  ·exact .inl #[v,g,p,aw,h,hs,ts,qs,fp,f,r,hr,e,c,ha,S,W,hh,tab,λl ys H' b t n e tu=>k l ys H' b t n e (by rw[gW_ c];exact tu)]
  let c:=k2_ r hr n1 n2 c;exact .inr #[v,g,p,aw,h,hs,ts,qs,fp,f,r,hr,e,c,ha,S,W,hh,tab,λl ys H' b t n e tu=>k l ys H' b t n e (by rw[g1_ c];exact tu)]
 let#[v,g,p,aw,h,hs,ts,qs,fp,f,r,hr,e,n1,ha,S,W,hh,tab,k]:=q;by_cases c:r.2.1="least"
 ·exact .inl #[v,g,p,aw,h,hs,ts,qs,fp,f,r,hr,e,c,ha,S,W,hh,tab,λl ys H' b t n e tu=>k l ys H' b t n e (by rw[hg_ c];exact tu)]
 exact .inr #[v,g,p,aw,h,hs,ts,qs,fp,f,r,hr,e,#[n1,c],ha,S,W,hh,tab,k]
inductive Hs (K:af) (CS CG CW T:Addr) (vs:ag) (H:Hp) (Q:VK) (E:XK):Prop
 |mk:∀(v g p:Addr) (m:Int) (hs:Xa) (ts:Xb) (qs:aL) (fp:ai) (f:aq),∀r∈rl,vs=[.ref v,.str r.1,.int m]->0<=m->ic K CS CG CW H v g p hs ts qs fp f->Wd hs ts qs f->cU H T iV->(∀l ys H',aN T H H'->cU H' T iV->H l=none->H' l\.lst ys->bF K H' ys ((oV r hs ts qs f m).map kM)->Q (.ref l) H')->Hs K CS CG CW T vs H Q E
theorem iY_{f0:Addr}{fd:Ae}{T:Addr}(a:!ak a9 7 f0 fd uD (kF K CS CG CW T (λr=>r.2.1≠"turns") o6))(t:!ak a9 6 f0 fd uD (OI K CS CG CW)):!ak a9 7 f0 fd uD (Hs K CS CG CW T):=by
 apply ak.two a (t.mono (by decide)) λvs H Q E q=>?_;let#[v,g,p,m,hs,ts,qs,fp,f,r,hr,e,m0,S,W,tab,k]:=q;by_cases c:r.2.1="turns"
 ·let#[gd,eg]:=Bq.mp (it_ r hr c);exact .inr #[v,g,p,m,gd,hs,ts,qs,fp,f,r,hr,e,c,eg,m0,S,W,λl ys H' s n e tu=>k l ys H' (aN.of s) (tab.same s) n e (by unfold oV;rw[aJ c,eg];exact tu)]
 exact .inl #[v,g,p,m,hs,ts,qs,fp,f,r,hr,e,c,S,W,tab,λl ys H' b t n e tu=>k l ys H' b t n e (by unfold oV;rw[aE c];exact tu)]
theorem qN:bw ["web","rule"] ["web","rule"] (aY OD):=bD
inductive KO (K:af) (C:Addr) (vs:ag) (H:Hp) (Q:VK) (E:XK):Prop
 |mk:∀(p:Addr) (hs:Xa) (ts:Xb) (fp:ai),∀r∈rl,vs=[.ref p,.str r.1]->eV K C H p hs ts fp->ts.length<64->(∀H',aa H H'->Q (.int (ka r ts)) H')->KO K C vs H Q E
theorem h2_{f C:Addr}{fd:Ae}(F:bh K "rows_by" "rows_by" OD f fd)(B:Bi mg)(T:Txt K mg C)(cW:!bg 2 A3 ["rule"] (Hq K))(cT:!bo C 3 "turns" gy (Kl K C)):!ak a9 4 f fd ["web","rule"] (KO K C):=by
 exists F.bG qN;let#[p,hs,ts,fp,r,dg,rfl,W,h1,k]:=h;refine' #[_,ax ?s1 (aF ?s2),?kk]
 case s1=>exact bL (dm tJ (bE dh (aR cW hr %[1|0]) au) bf) (aF (aZ au)) bM
 case s2=>exact aZ (cu (hn_ Z) (by rfl) B.max PyProof.Rows.Boot.«max» %[au,cu gZ (by rfl) B.len gz %[wI cT T.cl hr (pv 0)|0]|0])
 apply#[_,Z,r,dg,Z,λa ha=>?_];apply#[a,_,_,_,Z,Z,ha _,Z,Z,_,Z,?_];apply a_ (λc=>?_) (λc=>?_)
 ·have c:¬r.2.1="turns":=by simpa [pX] using c
  have:=k H (aa.refl _);unfold ka at this;rw[aE c] at this;exact this
 have c:r.2.1="turns":=by simpa [pX] using c
 let#[eU,d1,l2,d3,je,Xn,ef,w1,_]:=id W.ex;apply#[_,Z,p,eU,_,Z,w1,ip _ _ _ Z0 Z0 Z0,p,hs,ts,fp,Z,W,h1,λl as H' s _ _ _ _ R=>?_];apply#[l,_,Z,.inl (.of R.1),_,_,Z,?_];let la:=bP R.2;have:=k H' s;unfold ka at this;rw[aJ c,<- la] at this;rw[ay,show (if ((as.length:Nat):Int) > 1 then ((as.length:Nat):Int) else 1)=((max 1 as.length:Nat):Int) by split<;>omega]
 exact this
theorem Pe:bw ["goods","placed","rule","sight","moment"] jT (aY P_):=bD
structure Bt (K:af) (CG CW T1 T2:Addr) (H:Hp) (g p d:Addr) (hs:Xa) (ts:Xb) (qs:aL) (fp:ai) (f:aq):Prop where
 Pl:pe K CG CW H g p d hs ts qs fp f
 W:Wd hs ts qs f
 tb:Tb H T1 T2
 has:∀b∈fp,∃o,H b\o
inductive HE (K:af) (CG CW T1 T2:Addr) (vs:ag) (H:Hp) (Q:VK) (E:XK):Prop
 |mk:∀(g p d:Addr) (hs:Xa) (ts:Xb) (qs:aL) (fp:ai) (f:aq),∀r∈rl,vs=[.ref g,.ref d,.str r.1]->Bt K CG CW T1 T2 H g p d hs ts qs fp f->(∀H',BT T1 T2 H H'->Tb H' T1 T2->Q (.bl (eN r hs ts qs f)) H')->HE K CG CW T1 T2 vs H Q E
theorem iw_{f0:Addr}{fd:Ae}(F:bh K "rests_at" "rests_at" P_ f0 fd)(B:Bi mg)(TG:dF K CG)(HJ:!gR CS 7 "Sight" Cf (HI K CS CG CW T1))(wH:!bg 7 "moves_seen" uD (Hs K CS CG CW T2))(Hw:!bg 4 "rows_by" ["web","rule"] (KO K CW)):!ak a9 9 f0 fd jT (HE K CG CW T1 T2):=by
 exists F.bG Pe;let#[g,p,d,hs,ts,qs,fp,f,r,dg,rfl,D,k]:=h;let sz:=b_;refine' #[_,ax ?s1 (ax ?s2 (aF (aZ ke))),?kk]
 case s1=>exact bx 3 Pe.nd (AO HJ hr %[0,1|0])
 case' s2=>refine' eR eh Z (Ij (by rfl) B.range %[aR Hw hr %[dA (pv 0) Z,2|0]|0]) (cY 4 Pe.nd) (aF (bL ?e1 (aF (aZ ke)) bM))
 case e1=>exact dm (U_ (oo hr 0)) (aR wH hr %[3,2,4|0]) (bX aK)
 apply#[_,Z,_,Z,λv dx hv vW ne=>?_];have s2:aa H (upd (upd H dx (.own v)) v (.ins CS dx [])):=(aa.new vW).trans (aa.new (by rw[az ne.symm];exact hv));have e2:upd (upd H dx (.own v)) v (.ins CS dx []) v\.ins CS dx []:=ao;generalize upd (upd H dx (.own v)) v (.ins CS dx [])=H2 at s2 e2 ⊢
 have xg:v∉fp:=λhm=>by
  let#[o,e]:=D.has v hm;rw[e] at hv;cases hv
 have Iq:pe K CG CW H2 g p d hs ts qs fp f:=#[D.Pl.G.same s2,D.W.Gd,D.Pl.i7,s2 _ _ D.Pl.hd,D.W.at_,D.W.nd,D.W.bU];apply#[v,dx,g,p,d,hs,ts,qs,fp,f,Z,e2,xg,Iq,D.W,D.tb.a.same s2,λH3 k3 fN S3=>#[Z,?_]];lk;let#[R4,B5]:=fj D.tb.a;have xU:∀b o,H b\o->b≠T1->H3 b\o:=λb o e n=>k3 b o (s2 _ _ e) (bu e hv) n;have lO:NT H H3:=λb o e n=>xU b o e (λz=>by rw[z,B5] at e;exact n _ (d5 e).symm)
 have fo:cU H3 T2 iV:=by
  let#[es,a1,a2]:=D.tb.b;exact#[es,xU _ _ a1 D.tb.ne.symm,λx hx=>lO _ _ (a2 x hx) nofun]
 let#[_,_,_,_,_,_,GA3,_]:=id S3.ex;let#[hU,dw,dy,vs,bS,g1,g2,_]:=id GA3.ex
 have rn:ka r ts<=64:=by
  let tl:=Wb (aP ts) [];rw[Hj,p6] at tl;let vg:=D.W.Gd.vg
  have:(turnsOf (aP ts)).length<=64:=by
   show ((aP ts).foldl iK []).length<=64;omega
  unfold ka;split<;>omega
 apply#[_,Z,g,CG,hU,_,_,Z,g1,TG.cl,TG.nW,ki _ _ _,_,Z,p,hs,ts,bS,r,dg,Z,g2,D.W.Gd.vg,λH4 s4=>?_];apply#[((ka r ts:Nat):Int),Z,by omega,by omega,?_];have Xe:BT T1 T2 H H4:=λb o e n1 n2=>s4 _ _ (xU b o e n1);let S4:=S3.same s4;have fX:Tb H4 T1 T2:=#[fN.same s4,fo.same s4,D.tb.ne];apply Ik (λi σ H'=>∃v4:aI,σ=[some (.ref g),some (.ref d),some (.str r.1),some (.ref v),v4]/\BT T1 T2 H4 H'/\Tb H' T1 T2/\∀j:Nat,j<i->(oV r hs ts qs f j).isEmpty=true) #[none,Z,BT.of (aa.refl _),fX,by omega] ?_ ?_
 ·rintro i σ H5 hi ⟨v4,rfl,Je,qg,em⟩;rw[ow] at hi;lk;let#[Ln,F0]:=fj qg.b;apply#[_,Z,_,Z,_,Z,v,g,p,0+(i:Int),hs,ts,qs,fp,f,r,dg,Z,by omega,S4.nt (Je.nt fX),D.W,qg.b,λl ys H6 b6 yY nl hl tu=>?_];have vG:BT T1 T2 H5 H6:=BT.sec b6;apply#[zl,λle ne'=>?_];let s7:=aa.new (o:=.lst []) ne';have uZ:Tb (upd H6 le (.lst [])) T1 T2:=#[cU.same s7 (cU.but qg.a b6 #[_,F0] D.tb.ne),yY.same s7,D.tb.ne];let ly:=bP tu;rw[ay,Int.zero_add] at ly;apply#[l,le,ys,Z,Z,.of (s7 _ _ hl),.of ao,_,Z,?_];let Et:=(Je.trans vG).trans (BT.of s7);apply a_ (λc=>?_) (λc=>?_)
  ·have c:ys.isEmpty=false:=⇑c
   have hf:eN r hs ts qs f=false:=by
    apply List.all_eq_false.mpr #[i,List.mem_range.mpr hi,?_];rw[List.isEmpty_eq_false_iff] at c;rw[List.isEmpty_iff];intro z;rw[z,p6] at ly;exact c (List.length_eq_zero_iff.mp ly)
   have:=k _ (Xe.trans Et) uZ;rw[hf] at this;exact this
  have c:ys.isEmpty=true:=⇑c
  apply#[_,Z,Et,uZ,λj hj=>?_];by_cases e:j=i
  ·rw[e,List.isEmpty_iff];rw[List.isEmpty_iff] at c;rw[c,p6] at ly;exact List.length_eq_zero_iff.mp ly.symm
  exact em j Z1
 rintro σ H5 ⟨v4,rfl,Je,qg,em⟩;rw[ow] at em;have ht:eN r hs ts qs f=true:=List.all_eq_true.mpr λj hj=>em j (List.mem_range.mp hj);have:=k H5 (Xe.trans Je) qg;rw[ht] at this;exact this
end
end Ev
namespace Ev
open PySem L2
theorem Wy{α:Type}{xs:List α}{i:Nat}{x:α}(h:xs[i]? = some x):xs.take (i+1)=xs.take i++[x]:=by rw[ig,h];rfl
def oR(f:aq)(m:Mv):aq:=λn=>if n=m.1 then m.2.2 else f n
def jG(f:aq)(ms:gX):aq:=ms.foldl oR f
theorem VB(f:aq)(a:gX)(m:Mv):jG f (a++[m])=oR (jG f a) m:=by
 unfold jG;rw[List.foldl_append];rfl
theorem Vh{ns:ae}{f:aq}{m:Mv}(h:m.1∈ns):putK (dk ns f) (Sum.inr m.1) (.str m.2.2)=dk ns (oR f m):=by
 unfold dk;rw[Us h];apply KD λn _=>?_;unfold oR;by_cases z:n=m.1
 ·rw[aJ z,aJ z]
 rw[aE z,aE z]
theorem TQ{H:Hp}{p:Addr}{m:Mv}(h:H p\.tup ((kM m).map kV)):H p\.tup [.str m.1,.str m.2.1,.str m.2.2]:=h
theorem UL{A:ae}{n:Str}:∀{ms:gX} {f:aq},(∀x∈ms,x.2.2∈A)->f n∈A->jG f ms n∈A
 |[],_,_,h=>h
 |m::ms,f,a,h=>by
  show jG (oR f m) ms n∈A;apply UL (λx hx=>a x (by simp[hx])) ?_;unfold oR;split
  ·exact a m Z2
  exact h
section
variable{hs:Xa}{ts:Xb}{qs:aL}{f:aq}
def uV(hs:Xa)(qs:aL)(x:Mv):Prop:=x.1∈qs.map (·.1)/\x.2.2∈aD hs
theorem JO{gd a b:Str}{gv:ae}(hb:b∈aD hs):∀x∈lU hs ts qs f gd gv a b,uV hs qs x:=λx h=>by
 unfold lU at h;split at h
 ·rename_i n e
  let hm:=wY.mp h;subst hm;exact#[(J_ (List.mem_of_find?_eq_some e)).1,hb]
 cases h
theorem N0{ms ns:gX}(a:∀x∈ms,uV hs qs x)(b:∀x∈ns,uV hs qs x):∀x∈ms++ns,uV hs qs x:=λx h=>(fB.mp h).elim (a x) (b x)
theorem M8{gd h:Str}:∀{l:ae} {ms:gX},(∀o∈l,o∈aD hs)->(∀x∈ms,uV hs qs x)->∀x∈tN hs ts qs f gd h ms l,uV hs qs x
 |[],ms,_,a=>a
 |o::l,ms,hl,a=>by
  unfold tN;split
  ·exact M8 (λx hx=>hl x (by simp[hx])) (N0 a (JO (hl o Z2)))
  exact M8 (λx hx=>hl x (by simp[hx])) a
theorem Oq{h:Str}:∀{l:ae} {ms:gX},(∀o∈l,o∈aD hs)->(∀x∈ms,uV hs qs x)->∀x∈tP hs ts qs f h ms l,uV hs qs x
 |[],ms,_,a=>a
 |o::l,ms,hl,a=>by
  unfold tP;split
  ·apply Oq (λx hx=>hl x (by simp[hx])) (N0 a λx hx=>?_);let#[n,hn,rfl]:=bN.mp hx;exact#[(J_ ((J6 _ _ _ _).subset hn)).1,hl o Z2]
  exact Oq (λx hx=>hl x (by simp[hx])) a
theorem N8(W:Wd hs ts qs f)(r:Rl)(m:Int):∀x∈oV r hs ts qs f m,uV hs qs x:=by
 have So:∀h,∀o∈dz hs ts qs f h,o∈aD hs:=λh o ho=>B8 ((Il hs ts qs f h).mem_iff.mp ho);unfold oV;split
 ·intro x hx;let#[t,ht,hx]:=List.mem_flatMap.mp hx;let#[t1,t2]:=VY W.Gd (Qr ht);exact N0 (JO t2) (JO t1) x hx
 have full:∀x∈(aD hs).flatMap (o6 r hs ts qs f),uV hs qs x:=λx hx=>by
  let#[h,hh,hx]:=List.mem_flatMap.mp hx;revert hx;unfold o6;split
  ·unfold wC yK;have:=So h;split
   ·intro z;cases z
   rename_i o _ e
   rw[e] at this;exact JO (this o Z2) x
  split
  ·exact M8 (So h) (λx z=>by cases z) x
  exact Oq (λo ho=>B8 ho) (λx z=>by cases z) x
 unfold CA;split
 ·exact λx hx=>full x (List.mem_of_mem_take hx)
 exact full
def qz(r:Rl)(hs:Xa)(ts:Xb)(qs:aL)(m:Int)(f:aq):aq:=jG f (oV r hs ts qs f m)
def runM(r:Rl)(hs:Xa)(ts:Xb)(qs:aL)(f:aq):Nat->Str->Str
 |0=>f
 |n+1=>qz r hs ts qs n (runM r hs ts qs f n)
theorem Wd.step(W:Wd hs ts qs f)(r:Rl)(m:Int):Wd hs ts qs (qz r hs ts qs m f):=#[W.Gd,W.nd,W.bU,λn hn=>UL (λx hx=>(hX hs).mem_iff.mp (N8 W r m x hx).2) (W.at_ n hn),W.wq]
theorem Wd.run(W:Wd hs ts qs f)(r:Rl):∀n,Wd hs ts qs (runM r hs ts qs f n)
 |0=>W
 |n+1=>(W.run r n).step r n
end
section
variable{P:Ad}{w:Af}{K:af}{mg:Str->Option Aa}{base:Heap}{CS CG CW T1 T2:Addr}
abbrev ZT:ae:=["goods","placed","rule","moment","after","piece","one","other"]
theorem HK:bw ZT oH (aY lj):=bD
inductive Kj (K:af) (CG CW T1 T2:Addr) (vs:ag) (H:Hp) (Q:VK) (E:XK):Prop
 |mk:∀(g p d:Addr) (m:Int) (hs:Xa) (ts:Xb) (qs:aL) (fp:ai) (f:aq),∀r∈rl,vs=[.ref g,.ref d,.str r.1,.int m]->0<=m->Bt K CG CW T1 T2 H g p d hs ts qs fp f->(∀d' H',BT T1 T2 H H'->Tb H' T1 T2->H d'=none->H' d'\.dK (dk (qs.map (·.1)) (qz r hs ts qs m f))->Q (.ref d') H')->Kj K CG CW T1 T2 vs H Q E
theorem j4_{f0:Addr}{fd:Ae}(F:bh K "placed_after" "placed_after" lj f0 fd)(B:Bi mg)(HJ:!gR CS 7 "Sight" Cf (HI K CS CG CW T1))(wH:!bg 7 "moves_seen" uD (Hs K CS CG CW T2)):!ak a9 9 f0 fd oH (Kj K CG CW T1 T2):=by
 exists F.bG HK;let#[g,p,d,m,hs,ts,qs,fp,f,r,dg,rfl,m0,D,k]:=h;let sz:=b_;let hu:=fZ hr;refine' #[_,ax ?s1 (ax ?s2 (aF (aZ (pv 4)))),?kk]
 case s1=>exact bx 4 HK.nd (iP Ql (by rfl) B.dict uJ %[1|0])
 case s2=>exact eR eh Z (dO (aR wH hr %[AO HJ hr %[0,1|0],2,3|0])) (o9 Z (dZ (cY 5 HK.nd) (dZ (cY 6 HK.nd) (dZ (cY 7 HK.nd) kq)))) (aF (wM hu (pv 4) (pv 5) (pv 7) Z))
 let bU:=D.W.bU;apply#[_,Z,d,_,Z,.inl D.Pl.hd,λdl BJ=>?_];let#[sd,ed]:=bj (o:=.dK (dk (qs.map (·.1)) f)) BJ;show iy _ _ _ _ (upd H dl (.dK (dk (qs.map (·.1)) f)));generalize upd H dl (.dK (dk (qs.map (·.1)) f))=H1 at sd ed ⊢;apply#[_,Z,_,Z,λv dx hv vW ne=>?_];have s2:aa H1 (upd (upd H1 dx (.own v)) v (.ins CS dx [])):=(aa.new vW).trans (aa.new (by rw[az ne.symm];exact hv));have e2:upd (upd H1 dx (.own v)) v (.ins CS dx []) v\.ins CS dx []:=ao;generalize upd (upd H1 dx (.own v)) v (.ins CS dx [])=H2 at s2 e2 ⊢;let gm:=sd.trans s2
 have xg:v∉fp:=λhm=>by
  let#[o,e]:=D.has v hm;rw[sd _ _ e] at hv;cases hv
 have Iq:pe K CG CW H2 g p d hs ts qs fp f:=#[D.Pl.G.same gm,D.W.Gd,D.Pl.i7,gm _ _ D.Pl.hd,D.W.at_,D.W.nd,D.W.bU];apply#[v,dx,g,p,d,hs,ts,qs,fp,f,Z,e2,xg,Iq,D.W,D.tb.a.same gm,λH3 k3 fN S3=>#[Z,?_]];let#[R4,B5]:=fj D.tb.a;have MO:∀b o,H1 b\o->b≠T1->H3 b\o:=λb o e n=>k3 b o (s2 _ _ e) (bu e hv) n
 have fo:cU H3 T2 iV:=by
  let#[es,a1,a2]:=D.tb.b;exact#[es,MO _ _ (sd _ _ a1) D.tb.ne.symm,λx hx=>MO _ _ (sd _ _ (a2 x hx)) (λz=>by have:=a2 x hx;rw[z,B5] at this;cases this)]
 apply#[_,Z,_,Z,v,g,p,m,hs,ts,qs,fp,f,r,dg,Z,m0,S3,D.W,fo,λl ys H4 b4 fC nl hl tu=>?_];let#[Ln,F0]:=fj fo;have pY:BT T1 T2 H1 H4:=λb o e n1 n2=>b4 _ _ (MO b o e n1) n2;have fX:Tb H4 T1 T2:=#[cU.but fN b4 #[_,F0] D.tb.ne,fC,D.tb.ne];have C8:∀{T tv},H T\.tbl tv->dl≠T:=λe z=>by rw[<- z,BJ] at e;cases e
 let#[YY,NX]:=fj D.tb.b;let wk:=pY _ _ ed (C8 B5) (C8 NX);have ldl:l≠dl:=cy hl wk nofun;let ly:=bP tu;rw[ay] at ly;apply#[l,Z,#[_,.of hl],gQ (K:=K) (a:=l) (xs:=ys) (λj σ H'=>∃v5 v6 v7:aI,σ=[some (.ref g),some (.ref d),some (.str r.1),some (.int m),some (.ref dl),v5,v6,v7]/\aN dl H4 H'/\H' dl\.dK (dk (qs.map (·.1)) (jG f ((oV r hs ts qs f m).take j)))) #[none,none,none,Z,aN.refl _ _,wk] (λj σ H' _ ⟨_,_,_,_,b,_⟩=>.of (b _ _ hl ldl)) ?_ ?_]
 ·rintro j y σ H' hy ⟨v5,v6,v7,rfl,b',e'⟩;let#[x,hx,C5,rfl,vO]:=ou tu hy;let vO:=TQ vO;have Ls:C5≠dl:=cy vO wk nofun;apply#[C5,_,Z,.of (b' _ _ vO Ls),Z,_,_,Z,_,_,Z,_,_,Z,Z,?_];dsimp only;apply#[_,Z,_,Z,_,Z,dl,_,Z,.k (k:=Sum.inr x.1) e' (by rw[kg,ay];omega),?_];apply#[_,_,_,Z,b'.trans aN.upd,?_];rw[ao,Vh (N8 D.W r m x (dC hx)).1,Wy hx,VB]
 rintro σ H' ⟨v5,v6,v7,rfl,b',e'⟩;rw[ly,eX] at e';have kT:∀{T qn},cU H4 T qn->cU H' T qn:=λ⟨es,a1,a2⟩=>#[es,b' _ _ a1 (λz=>by rw[z,wk] at a1;cases a1),λx hx=>b' _ _ (a2 x hx) (λz=>by have:=a2 x hx;rw[z,wk] at this;cases this)];exact#[_,Z,k dl H' (λb o e n1 n2=>b' b o (pY b o (sd _ _ e) n1 n2) (bu e BJ)) #[kT fX.a,kT fX.b,D.tb.ne] BJ e']
end
end Ev
namespace Ev
open PySem L2
section v
theorem mR:bw ["goods","placed","levels"] jN (aY k8):=bD
def h_(hs:Xa)(qs:aL)(f:aq):Int:=sumF (aD hs) (ld f (qs.map fW)) λh=>jv hs / strOf hs h
inductive Kg (K:af) (CG CW:Addr) (vs:ag) (H:Hp) (Q:VK) (E:XK):Prop
 |mk:∀(g p d:Addr) (hs:Xa) (ts:Xb) (qs:aL) (fp:ai) (f:aq),vs=[.ref g,.ref d]->pe K CG CW H g p d hs ts qs fp f->(∀q∈qs,0<=q.2.1/\q.2.1<=1000000000)->(∀H',aa H H'->Q (.int (h_ hs qs f)) H')->Kg K CG CW vs H Q E
theorem ik_{f CG CW:Addr}{fd:Ae}(F:bh K "sum_at" "sum_at" k8 f fd)(Mx:mg "sum"=none)(cL:!bg 3 "loads_at" jN (Ih K CG CW))(cV:!bg 4 "levels_at" jN (KJ K CG CW)):!ak a9 5 f fd jN (Kg K CG CW):=by
 exists F.bG mR;let#[g,p,d,hs,ts,qs,fp,f,rfl,Pl,wp,k]:=h;let hu:=fZ hr;let sz:=b_;let nl:=Pl.Gd.fD;let h8:=Pl.Gd.h8;refine' #[_,ax ?s1 (aF ?s2),?kk]
 case s1=>exact bx 2 mR.nd (aR cV hr %[0,1|0])
 case' s2=>refine' aZ (cu (hT_ Z) (by rfl) Mx PyProof.Rows.boot_sum %[md ["hand","load","levels"] 2 [2] (KL (HZ (aR cL hr %[0,1|0]))) (λfp s H=>?g1) (λfp s H=>jb) (λfp s H=>?e1)|0])
 case g1=>exact Kh (n:=2) (dZ (fM (i:=0) (show (["hand","load","levels"]:ae).Nodup by decide +kernel) Z (Or.inl Z)) (dZ (fM (i:=1) (show (["hand","load","levels"]:ae).Nodup by decide +kernel) Z (Or.inl Z)) kq))
 case e1=>exact bI pW (pv 1) (ko hu (pv 2) (pv 0))
 apply#[_,Z,_,Z,g,p,d,hs,ts,qs,fp,f,Z,Pl,wp,λdv H1 s1 n1 e1=>?_];have Rv:pe K CG CW H1 g p d hs ts qs fp f:=#[Pl.G.same s1,Pl.Gd,Pl.i7,s1 _ _ Pl.hd,Pl.at_,Pl.nd,Pl.bU];apply#[_,Z,_,Z,g,p,d,hs,ts,qs,fp,f,Z,Rv,λdl H2 s2 n2 e2=>?_];apply#[dl,_,Z,e2,λv hv=>?_];let#[s3,nC]:=bj (o:=o_ v dl) hv;let e3:=s3 _ _ e2;let pF:=s2.trans s3;generalize upd H2 v (o_ v dl)=H3 at s3 nC e3 pF ⊢;apply#[v,dl,_,Z,nC,e3,λo D hD=>?_];have dvl:dv≠dl:=bu e1 n2;have sf:aa H1 (upd H3 dl (.frz o (.dK (vM hs qs f)))):=g6 pF n2;have ef:upd H3 dl (.frz o (.dK (vM hs qs f))) dl\.frz o (.dK (vM hs qs f)):=ao;generalize upd H3 dl (.frz o (.dK (vM hs qs f)))=H4 at sf ef hD ⊢;apply fM_ (own:=2) (fv:=[some (.ref dv)]) Z F3 (λi out H'=>aa H4 H'/\H' D\.lst out/\out=(((aD hs).take i).map λh=>ld f (qs.map fW) h * uu hs qs f h).map V.int) #[aa.new hD,ao,Z] (λi out H' _ ⟨sm,_,_⟩=>sm _ _ ef) (λout H5 ⟨sm,tm,eo⟩=>?_) (λi ky x out H' hx ⟨sm,ee,eo⟩ t ht=>?_)
 ·rw[kg,eX] at eo;rw[eo] at tm;exact#[D,_,Z,.of tm,k H5 (s1.trans (sf.trans sm))]
 let#[n,hn,rfl,rfl]:=JN hx;have hi:i<(aD hs).length:=(cw.mp hn).1;let nm:=dC hn;let lo:=Jo wp Pl.bU f n;let#[ss,et]:=bj (o:=.tup [.str n,.int (ld f (qs.map fW) n)]) ht;apply#[[some (.str n),some (.int (ld f (qs.map fW) n))],#[t,_,_,Z,.of et,Z],Z,λNx hN=>d6 ?_];let s4:=(sf.trans sm).trans ss;let sD:=ss _ _ ee;let s5:=sm.trans ss;show xm _ _ _ _ (upd H' t (.tup [.str n,.int (ld f (qs.map fW) n)])) _;generalize upd H' t (.tup [.str n,.int (ld f (qs.map fW) n)])=H6 at s4 sD s5 ⊢;apply#[_,Z,_,Z,_,Z,dv,.int (uu hs qs f n),Z,?_,_,_,Z,Z,.inl #[by omega,by omega],out,sD,by rw[eo,ay,ay,dP];omega,hN _ _ #[g6 s5 hD,ao,?_]]
 ·rw[<- HR (g:=λh=>V.int (uu hs qs f h)) nm];exact .k (k:=Sum.inr n) (s4 _ _ e1)
 rw[jQ hn,dD,dD,eo];rfl
end
end Ev
namespace Ev
open PySem L2
section
variable{P:Ad}{w:Af}{K:af}{mg:Str->Option Aa}{base:Heap}{CS CG CW T1 T2:Addr}
inductive PH (K:af) (CG CW T1 T2:Addr) (vs:ag) (H:Hp) (Q:VK) (E:XK):Prop
 |mk:∀(g p d:Addr) (m:Int) (hs:Xa) (ts:Xb) (qs:aL) (fp:ai) (ns:ae) (f:aq),∀r∈rl,vs=[.ref g,.ref d,.str r.1,.int m]->0<=m->ug K CG CW H g p d hs ts qs fp ns f->Wd hs ts qs f->Tb H T1 T2->(∀l ys H',BT T1 T2 H H'->Tb H' T1 T2->H l=none->H' l\.lst ys->bF K H' ys ((oV r hs ts qs f m).map kM)->Q (.ref l) H')->PH K CG CW T1 T2 vs H Q E
theorem gO_{f0:Addr}{fd:Ae}(F:bh K "moves_of" "moves_of" PF f0 fd)(Ht:!bg 3 "checked_start" uE (Kr K CG CW))(HJ:!gR CS 7 "Sight" Cf (HI K CS CG CW T1))(wH:!bg 7 "moves_seen" uD (Hs K CS CG CW T2))(QR:!bg 3 "checked_moments" fu Ws) :
  ak P w K mg base a9 9 f0 fd ua (PH K CG CW T1 T2):=by
 exists F.bG WE;let#[g,p,d,m,hs,ts,qs,fp,ns,f,r,dg,rfl,m0,S,W,tb,k]:=h;refine' #[_,ax ?s1 (aF ?s2),?kk]
 case s1=>exact bx 4 WE.nd (aR Ht hr %[0,1,2|0])
 case s2=>exact aZ (aR wH hr %[AO HJ hr %[0,4|0],2,aR QR hr %[3|0]|0])
 apply#[_,Z,_,Z,_,Z,_,_,r,dg,Z,#[g,p,d,hs,ts,qs,fp,ns,f,Z,S.G,S.i7,S.hd,S.so,W.nd,W.bU,λdp H1 s1 n1 e1=>?_]];lk
 have wA:dp∉fp:=λhm=>by
  let#[o,e,_]:=S.has dp hm;rw[e] at n1;cases n1
 have Pl:pe K CG CW H1 g p dp hs ts qs fp f:=#[S.G.same s1,W.Gd,wA,e1,W.at_,W.nd,W.bU];apply#[_,Z,_,Z,λv dx hv vW ne=>?_];have s2:aa H1 (upd (upd H1 dx (.own v)) v (.ins CS dx [])):=(aa.new vW).trans (aa.new (by rw[az ne.symm];exact hv));have e2:upd (upd H1 dx (.own v)) v (.ins CS dx []) v\.ins CS dx []:=ao;generalize upd (upd H1 dx (.own v)) v (.ins CS dx [])=H2 at s2 e2 ⊢
 have xg:v∉fp:=λhm=>by
  let#[o,e,_]:=S.has v hm;rw[s1 _ _ e] at hv;cases hv
 let gm:=s1.trans s2;have Iq:pe K CG CW H2 g p dp hs ts qs fp f:=#[Pl.G.same s2,W.Gd,wA,s2 _ _ e1,W.at_,W.nd,W.bU];apply#[v,dx,g,p,dp,hs,ts,qs,fp,f,Z,e2,xg,Iq,W,tb.a.same gm,λH3 k3 fN S3=>#[Z,?_]];let#[R4,B5]:=fj tb.a;let#[Ln,F0]:=fj tb.b
 have nv:∀{b:Addr} {o:HO},H b\o->b≠v:=λe z=>by
  rw[z] at e;rw[s1 _ _ e] at hv;cases hv
 have xU:∀b o,H b\o->b≠T1->H3 b\o:=λb o e n=>k3 b o (gm _ _ e) (nv e) n;have lO:NT H H3:=λb o e n=>xU b o e (λz=>by rw[z,B5] at e;exact n _ (d5 e).symm)
 have fo:cU H3 T2 iV:=by
  let#[es,a1,a2]:=tb.b;exact#[es,xU _ _ a1 tb.ne.symm,λx hx=>lO _ _ (a2 x hx) nofun]
 apply#[_,Z,_,Z,m,Z,m0,?_];apply#[v,g,p,m,hs,ts,qs,fp,f,r,dg,Z,m0,S3,W,fo,λl ys H4 b4 fC nl hl tu=>?_];let#[YY,NX]:=fj fo;let iW:=b4.nt NX;apply k l ys H4 (λb o e n1 n2=>b4 _ _ (xU b o e n1) n2) #[?_,fC,tb.ne] ?_ hl tu
 ·let#[es,a1,a2]:=fN;exact#[es,b4 _ _ a1 tb.ne,λx hx=>iW _ _ (a2 x hx) nofun]
 cases z:H l with
 |none=>rfl
 |some o=>
  by_cases y:l=T1
  ·let#[es,a1,_]:=fN;rw[y,a1] at nl;cases nl
  rw[xU _ _ z y] at nl;cases nl
theorem q_:bw uE uE (aY OG):=bD
inductive Pg (K:af) (CG CW T1 T2:Addr) (vs:ag) (H:Hp) (Q:VK) (E:XK):Prop
 |mk:∀(g p d:Addr) (hs:Xa) (ts:Xb) (qs:aL) (fp:ai) (ns:ae) (f:aq),∀r∈rl,vs=[.ref g,.ref d,.str r.1]->ug K CG CW H g p d hs ts qs fp ns f->Wd hs ts qs f->Tb H T1 T2->(∀H',BT T1 T2 H H'->Tb H' T1 T2->Q (.bl (eN r hs ts qs f)) H')->Pg K CG CW T1 T2 vs H Q E
theorem iT_{f0:Addr}{fd:Ae}(F:bh K "at_rest" "at_rest" OG f0 fd)(Ht:!bg 3 "checked_start" uE (Kr K CG CW))(yH:!bg 9 "rests_at" jT (HE K CG CW T1 T2)):!ak a9 10 f0 fd uE (Pg K CG CW T1 T2):=by
 exists F.bG q_;let#[g,p,d,hs,ts,qs,fp,ns,f,r,dg,rfl,S,W,tb,k]:=h;refine' #[_,aF ?s1,?kk]
 case s1=>exact aZ (aR yH hr %[0,aR Ht hr %[0,1,2|0],2|0])
 apply#[_,Z,_,Z,_,Z,_,Z,_,_,r,dg,Z,#[g,p,d,hs,ts,qs,fp,ns,f,Z,S.G,S.i7,S.hd,S.so,W.nd,W.bU,λdp H1 s1 n1 e1=>?_]]
 have wA:dp∉fp:=λhm=>by
  let#[o,e,_]:=S.has dp hm;rw[e] at n1;cases n1
 apply#[_,Z,g,p,dp,hs,ts,qs,fp,f,r,dg,Z,#[#[S.G.same s1,W.Gd,wA,e1,W.at_,W.nd,W.bU],W,#[tb.a.same s1,tb.b.same s1,tb.ne],λb hb=>let #[o,e,_]:=S.has b hb;#[o,s1 _ _ e]],λH' nt t'=>k H' ((BT.of s1).trans nt) t']
end
end Ev
namespace Ev
open PySem L2
theorem UA{H:Hp}{l d:Addr}{u:HO}(h:cZ H l)(ne:d≠l):cZ (upd H d u) l:=by
 rcases h with⟨n,e⟩|⟨n,m,c,e⟩
 ·exact .inl #[n,by rw[az ne.symm];exact e]
 exact .inr #[n,m,c,by rw[az ne.symm];exact e]
section v
theorem OT:bw [eF,"_law_pieces_here","_law_hands","_law_stand_here","_law_piece"] ud (aY k9):=bD
inductive OW (K:af) (vs:ag) (H:Hp) (Q:VK) (E:XK):Prop
 |mk:∀(l lp lh:Addr) (yp yh:ag) (ps:aL) (hs:Xa),vs=[.ref l,.ref lp,.ref lh]->cZ H l->H lp\.lst yp->lp≠l->tL K H yp ps->H lh\.lst yh->lh≠l->bF K H yh (hs.map kH)->0<hs.length->hs.length<=8->ps.length<=30->(ps.map (·.1)).Nodup->(∀d f H',aN l H H'->cZ H' l->H d=none->H' d\.dK (dk (ps.map (·.1)) f)->(∀n∈ps.map (·.1),f n∈hs.map (·.1))->Q (.ref d) H')->OW K vs H Q E
theorem iA_{f:Addr}{fd:Ae}(F:bh K "_law_stand" "_law_stand" k9 f fd)(B:Bi mg)(cD:!bg 1 tR uH wQ):!ak a9 2 f fd ud (OW K):=by
 exists F.bG OT;let#[l,lp,lh,yp,yh,ps,hs,rfl,st,BV,Jk,pc,o5,BK,th,h0,h8,h30,nd,k]:=h;let hu:=fZ hr;let sz:=b_;refine' #[_,?r0,?kk]
 case' r0=>refine' ax ?s1 (ax ?s2 (aF ?s3))
 case s1=>exact bx 3 OT.nd Bf
 case s2=>exact eR eh Z (dO (pv 1)) (cY 4 OT.nd) (aF (wM hu (pv 3) (bE dh (pv 4) au) (bE dh (bE fA (pv 2) (aR cD hr %[0,cu gZ (by rfl) B.len gz %[2|0]|0])) au) Z))
 case s3=>exact aZ (pv 3)
 let _K:=bP pc;let _L:=bP th;rw[ay] at _L;intro d hd;let s1:=aa.new (o:=.dK []) hd
 have dl:d≠l:=by
  let#[xs,e]:=st.some;exact (bu e hd).symm
 have b1:aN l H (upd H d (.dK [])):=aN.of s1;have e1:upd H d (.dK []) d\.dK []:=ao;let fJ:=st.same s1;show iy _ _ _ _ (upd H d (.dK []));generalize upd H d (.dK [])=H1 at b1 e1 fJ s1 ⊢;let#[RC,uw]:=st.some;have lpd:lp≠d:=bu BV hd;apply#[_,Z,lp,Z,#[_,.of (s1 _ _ BV)],gQ (K:=K) (a:=lp) (xs:=yp) (λi σ H'=>∃(v4:aI) (f:aq),σ=[some (.ref l),some (.ref lp),some (.ref lh),some (.ref d),v4]/\aN l H H'/\cZ H' l/\H' d\.dK (dk ((ps.map (·.1)).take i) f)/\∀n∈(ps.map (·.1)).take i,f n∈hs.map (·.1)) #[none,λn=>n,Z,b1,fJ,e1,λn hn=>by simp at hn] (λi σ H' _ ⟨_,_,_,b,_⟩=>.of (b _ _ BV Jk)) ?_ ?_]
 ·rintro i y σ H2 hy ⟨v4,f,rfl,b2,dB,e2,fm⟩;have hi:i<yp.length:=(cw.mp hy).1;have Jx:i<ps.length:=by omega
  let#[t,v,et,ht,_]:=gY pc i hi Jx;rw[(cw.mp hy).2] at et;subst et;have hn:(ps.map (·.1))[i]? = some (ps[i]' Jx).1:=by rw[dQ,cg Jx];rfl
  generalize ps[i]' Jx=q at ht hn;have tl:t≠l:=cy ht uw nofun;apply#[_,Z,_,Z,_,Z,lh,_,Z,.inl (.of (b2 _ _ o5 BK)),l,(yh.length:Int),Z,by omega,by omega,dB,λj H3 j0 j1 b3 g_=>?_];let#[j,rfl]:=p_ j0;let pf:=b2.trans b3;have hj:j<yh.length:=by omega
  have Tu:yh[j]? = some (yh[j]'hj):=cg hj;let#[h,hh,a,ea,ha]:=ou th Tu;have al:a≠l:=cy ha uw nofun;let i3:=TR (pf _ _ ha al);let Jr:=pf _ _ ht tl;let e3:=b3 _ _ e2 dl;apply#[lh,_,_,.ref a,Z,Z,.of (pf _ _ o5 BK),by rw[gc Z1 Z1,ow,Tu,ea],a,_,0,_,Z,Z,.of i3,Z,?_];apply#[_,Z,_,Z,t,_,0,_,Z,Z,.of Jr,Z,d,_,Z,.k (k:=Sum.inr q.1) e3 (by rw[kg,dP,ay];omega),?_];apply#[_,λm=>if m=q.1 then h.1 else f m,Z,λb o e nb=>?_,?_,?_,?_]
  ·rw[az (bu e hd)];exact pf _ _ e nb
  ·exact UA g_ dl
  ·rw[ao,jQ hn,Ux (PU nd hn)];congr 2;apply KD λm _=>?_;by_cases z:m=q.1
   ·simp[z]
   simp[z]
  intro m hm;rw[jQ hn] at hm;show (if m=q.1 then h.1 else f m)∈_;by_cases z:m=q.1
  ·rw[aJ z];exact bN.mpr #[h,dC hh,Z]
  rw[aE z];rcases fB.mp hm with hm|hm
  ·exact fm m hm
  exact absurd ⇑hm z
 rintro σ H2 ⟨v4,f,rfl,b2,dB,e2,fm⟩;rw[_K,<- ay (f:=λq:Pc=>q.1),eX] at e2 fm;exact#[_,Z,k d f H2 b2 dB hd e2 fm]
end
end Ev
namespace L2
open PySem PySem.Spec PyProof.Rows
theorem dE.yr{K:af}{H H':Hp}{v:V}{t:Aa}(h:dE K H v t)(s:∀a o,v=.ref a->H a\o->(∀vs,o≠.tbl vs)->H' a\o):dE K H' v t:=by
 cases h with
 |non=>exact .non
 |bl x=>exact .bl x
 |int x=>exact .int x
 |str x=>exact .str x
 |flt x=>exact .flt x
 |lst e=>exact .lst (s _ _ Z e nofun)
 |frz e=>exact .frz (s _ _ Z e nofun)
 |tup e=>exact .tup (s _ _ Z e nofun)
 |dK e=>exact .dK (s _ _ Z e nofun)
 |dT e=>exact .dT (s _ _ Z e nofun)
 |ins e a b c d f=>exact .ins (s _ _ Z e nofun) a b c d f
theorem dE.has{K:af}{H:Hp}{a:Addr}{t:Aa}(h:dE K H (.ref a) t):∃o,H a\o:=by
 cases h with
 |lst e=>exact#[_,e]
 |frz e=>exact#[_,e]
 |tup e=>exact#[_,e]
 |dK e=>exact#[_,e]
 |dT e=>exact#[_,e]
 |ins e a b c d f=>exact#[_,e]
end L2
namespace Ev
open PySem L2
def fI(K:af)(H:Hp)(v:V)(T:String):Prop:=∃ty,dE K H v ty/\PySem.W.kitOne K ty (.type T)\false
theorem fI.nt{K:af}{H H':Hp}{v:V}{T:String}(h:fI K H v T)(s:NT H H'):fI K H' v T:=let #[ty,a,b]:=h;#[ty,a.yr λa o _ e n=>s a o e n,b]
def gr(K:af)(H:Hp)(y:V)(c:Bool):Prop:=(c=true/\∃i,y=.int i)∨(c=false/\((∃b,y=.bl b)∨fI K H y "int"))
theorem gr.nt{K:af}{H H':Hp}{y:V}{c:Bool}(h:gr K H y c)(s:NT H H'):gr K H' y c:=h.imp id λ⟨e,h⟩=>#[e,h.imp id λh=>h.nt s]
theorem gr.yr{K:af}{H H':Hp}{y:V}(h:gr K H y false)(s:∀a o,y=.ref a->H a\o->H' a\o):gr K H' y false:=h.imp (λ⟨e,_⟩=>by cases e) λ⟨e,h⟩=>#[e,h.imp id λ⟨ty,a,b⟩=>#[ty,a.yr λa o q e _=>s a o q e,b]]
section v
def kK(K:af):Sp:=λvs H Q _=>∃(v:V) (c:Bool),vs=[v]/\gr K H v c/\Q (.bl c) H
theorem k5_{f:Addr}{fd:Ae}(F:bh K "is_whole" "is_whole" vx f fd)(B:Bi mg):!ak a9 1 f fd fu (kK K):=by
 exists F.bG xB;let#[v,c,rfl,n,k]:=h;apply#[_,aF (aZ (j_ (cu iS (by rfl) B.ia ik %[0,iR (v:=.ty "int") (by rfl) B.int Oa Z|0]) (j9 (Tp (cu iS (by rfl) B.ia ik %[0,iR (v:=.ty "bool") (by rfl) B.bool PyProof.Rows.Boot.«bool» rfl|0]))))),?_];rcases n with⟨rfl,i,rfl⟩|⟨rfl,⟨b,rfl⟩|⟨ty,h1,h2⟩⟩
 ·exact#[_,Z,_,_,_,_,Z,.int i,Z,_,Z,bO #[_,Z,_,_,_,_,Z,.int i,Z,_,Z,k]]
 ·exact#[_,Z,_,_,_,_,Z,.bl b,Z,_,Z,bO #[_,Z,_,_,_,_,Z,.bl b,Z,_,Z,k]]
 exact#[_,Z,_,_,_,_,Z,h1,h2,_,Z,aO k]
theorem gr.has{K:af}{H:Hp}{a:Addr}(h:gr K H (.ref a) false):∃o,H a\o:=by
 rcases h with⟨e,_⟩|⟨_,⟨b,e⟩|⟨ty,t,_⟩⟩
 ·cases e
 ·cases e
 exact t.has
def uU(K:af)(H:Hp)(y:V)(a:Int)(c:Bool):Prop:=(∃i,y=.int i/\c=decide (a<=i))∨(c=false/\((∃b,y=.bl b)∨fI K H y "int"))
def WI(K:af):Sp:=λvs H Q _=>∃(v:V) (a:Int) (c:Bool),vs=[v,.int a]/\uU K H v a c/\Q (.bl c) H
theorem fG_{f0:Addr}{fd:Ae}(F:bh K "is_whole_from" "is_whole_from" Kb f0 fd)(cI:!bg 1 "is_whole" fu (kK K)):!ak a9 2 f0 fd B_ (WI K):=by
 exists F.bG Wg;let#[v,a,c,rfl,n,k]:=h;apply#[_,aF (aZ (j_ (aR cI hr %[0|0]) (j9 (oi o7 (pv 1) (pv 0))))),?_];rcases n with⟨i,rfl,rfl⟩|⟨rfl,n⟩
 ·exact#[_,Z,_,true,Z,.inl #[Z,i,Z],_,Z,bO #[_,Z,_,Z,_,_,Z,Z,k]]
 exact#[_,Z,_,false,Z,.inr #[Z,n],_,Z,aO k]
def iU(K:af)(H:Hp)(v:V)(x:Str)(n:Nat)(c:Bool):Prop:=(c=false/\fI K H v "tuple")∨∃a xs,v=.ref a/\H a\.tup xs/\((c=false/\xs.length≠n)∨(xs.length=n/\∃y r,xs=y::r/\((∃z,y=.str z/\c=decide (z=x))∨(c=false/\fI K H y "str"))))
theorem qZ:bw jS jS (aY Qc):=bD
inductive KM (K:af) (vs:ag) (H:Hp) (Q:VK) (E:XK):Prop
 |mk:∀(v:V) (x:Str) (n:Nat) (c:Bool),vs=[v,.str x,.int n]->iU K H v x n c->Q (.bl c) H->KM K vs H Q E
theorem h1_{f:Addr}{fd:Ae}(F:bh K "begins_with" "begins_with" Qc f fd)(B:Bi mg):!ak a9 1 f fd jS (KM K):=by
 exists F.bG qZ;let#[v,x,n,c,rfl,b,k]:=h;refine' #[_,ax (bL (PW.pt (uz (eQ (dR (cu iS (by rfl) B.ia ik %[0,iR (v:=.ty "tuple") (by rfl) B.tuple Bm Z|0]))) (uN (dm tJ (cu gZ (by rfl) B.len gz %[0|0]) (pv 2))))) (aF (aZ ke)) bM) (aF (aZ (j_ (cu iS (by rfl) B.ia ik %[bE dh (pv 0) au,iR (v:=.ty "str") (by rfl) B.str Cj Z|0]) (j9 (oi l_ (bE dh (pv 0) au) (pv 1)))))),?_];rcases b with⟨rfl,ty,h1,h2⟩|⟨a,xs,rfl,ha,b⟩
 ·exact#[_,Z,_,_,_,_,Z,h1,h2,false,Z,bO (bO k)]
 apply#[_,Z,_,_,_,_,Z,.tup ha,Z,true,Z,aO ?_];apply#[_,Z,a,xs,Z,.inr (.of ha),_,Z,Z,_,Z,?_];rcases b with⟨rfl,ne⟩|⟨en,y,r,rfl,b⟩
 ·apply a_ (λ_=>k) (λc=>?_);have c:(xs.length:Int)=n:=⇑c
  omega
 apply a_ (λc=>absurd (show ((y::r).length:Int)=(n:Int) by omega) ⇑c) (λ_=>?_);apply#[_,Z,a,_,0,y,Z,Z,.of ha,L2.gc (j:=0) Z,?_];rcases b with⟨z,rfl,rfl⟩|⟨rfl,ty,h1,h2⟩
 ·apply#[_,_,_,true,Z,.str z,Z,_,Z,bO ?_];apply#[_,Z,a,_,0,.str z,Z,Z,.of ha,L2.gc (j:=0) Z,_,Z,Z,?_];rw[show decide (V.str z=V.str x)=decide (z=x) from decide_eq_decide.mpr #[λh=>V.str.inj h,λh=>by rw[h]]];exact k
 exact#[_,_,_,false,Z,h1,h2,_,Z,aO k]
end
end Ev
namespace Ev
open PySem L2
def yu(K:af)(H:Hp)(v:V)(c:Bool):Prop:=(c=false/\iU K H v "rest" 2 false)∨∃(a:Addr) (y:V),v=.ref a/\H a\.tup [.str "rest",y]/\((c=false/\fI K H y "list")∨∃(l:Addr) (ys:ag) (bs:List Bool),y=.ref l/\H l\.lst ys/\Paired (gr K H) ys bs/\ys.length<=100000/\c=(decide (1<=ys.length)&&decide (ys.length<=3001)&&bs.all id))
section v
theorem qQ:bw ["paper"] ["paper"] (aY O_):=bD
def V6(K:af):Sp:=λvs H Q _=>∃(v:V) (c:Bool),vs=[v]/\yu K H v c/\∀H',aa H H'->Q (.bl c) H'
theorem hX_{f:Addr}{fd:Ae}(F:bh K "is_of_a_rest" "is_of_a_rest" O_ f fd)(B:Bi mg){t:Tok}(mM:mg "MOST_MOMENTS"\.int 3000 t)(cB:!bg 1 "begins_with" jS (KM K))(cI:!bg 1 "is_whole" fu (kK K)):!ak a9 2 f fd ["paper"] (V6 K):=by
 exists F.bG qQ;let#[v,c,rfl,b,k]:=h;let sz:=b_;refine' #[_,ax ?s1 (aF ?s2),?kk]
 case s1=>exact bL (PW.pt (uz (eQ (dR (aR cB hr %[0,bf,au|0]))) (uN (eQ (dR (cu iS (by rfl) B.ia ik %[bE dh (pv 0) au,iR (v:=.ty "list") (by rfl) B.list uK Z|0])))))) (aF (aZ ke)) bM
 case' s2=>refine' aZ (j_ (Pz o7 o7 au (cu gZ (by rfl) B.len gz %[bE dh (pv 0) au|0]) (bI g5 (wJ (v:=.int 3000) (by rfl) mM #[t,Z]) au)) (j9 (cu (Vd Z) (by rfl) B.all PyProof.Rows.Boot.«all» %[md ["number"] 1 [] (dO (bE (zS (K:=K) lM dh) (pv 0) au)) (λfp s H=>fM (i:=0) (show (["number"]:ae).Nodup by decide +kernel) Z (Or.inl Z)) (λfp s H=>jb) (λfp s H=>?te)|0])))
 case te=>exact aR cI hr %[0|0]
 rcases b with⟨rfl,b⟩|⟨a,y,rfl,ha,b⟩
 ·exact#[_,Z,v,"rest",2,false,Z,b,false,Z,bO (bO (k H (aa.refl H)))]
 apply#[_,Z,.ref a,"rest",2,true,Z,.inr #[a,_,Z,ha,.inr #[Z,_,_,Z,.inl #[_,Z,by simp]]],true,Z,aO ?_];have yO:∀{x:V},eO [x,y] 1\y:=λ{x}=>L2.gc (j:=1) Z;apply#[_,Z,a,_,1,y,Z,Z,.of ha,yO,?_];rcases b with⟨rfl,ty,h1,h2⟩|⟨l,ys,bs,rfl,hl,pb,l1,rfl⟩
 ·exact#[_,_,_,false,Z,h1,h2,false,Z,bO (k H (aa.refl H))]
 apply#[_,_,_,true,Z,.lst hl,Z,true,Z,aO ?_];let lb:=bP pb;apply#[_,Z,a,_,1,.ref l,Z,Z,.of ha,yO,l,ys,Z,.inl (.of hl),?_];apply#[_,_,Z,Z,_,Z,?_];apply a_ (λc1=>?_) (λc1=>?_);rotate_left 1
 ·have c1:¬(1:Int)<=(ys.length:Int):=⇑c1
  have:=k H (aa.refl H);rw[show decide (1<=ys.length)=false from dM Z1] at this;exact#[_,Z,aO this]
 have c1:(1:Int)<=(ys.length:Int):=⇑c1
 apply#[_,_,Z,Z,_,_,Z,Z,_,Z,?_];apply a_ (λc2=>?_) (λc2=>?_);rotate_left 1
 ·have c2:¬(ys.length:Int)<=3000+1:=⇑c2
  have:=k H (aa.refl H);rw[show decide (ys.length<=3001)=false from dM Z1,tV] at this;exact this
 have c2:(ys.length:Int)<=3000+1:=⇑c2
 apply#[_,Z,a,_,1,.ref l,Z,Z,.of ha,yO,l,Z,#[ys,.of hl],λD hD=>?_];apply ku (own:=1) (fv:=[]) (xs:=ys) Z eL (λi out H'=>aa H H'/\H' D\.lst out/\out=(bs.take i).map V.bl) #[aa.new hD,ao,Z] (λi out H' _ ⟨sm,_⟩=>.of (sm _ _ hl)) (λout H' ⟨sm,ee,eo⟩=>?_) (λi x out H' hx ⟨sm,ee,eo⟩=>?_)
 ·rw[lb,eX] at eo;have:=k H' sm;rw[show decide (1<=ys.length)=true from cb Z1,show decide (ys.length<=3001)=true from cb Z1] at this;exact#[D,bs,Z,.of (by rw[ee,eo]),this]
 have hi:i<ys.length:=(cw.mp hx).1;let w:=gY pb i hi Z1;rw[(cw.mp hx).2] at w;have lo:out.length=i:=by rw[eo,ay,dP];omega
 apply#[_,Z,Z,λNx hN=>d6 ?_];apply#[_,Z,x,_,Z,w.nt (NT.of sm),out,ee,by omega,hN (out++[.bl (bs[i]' Z1)]) _ #[g6 sm hD,ao,?_]];rw[ig,cg Z1,dD];exact eI (λz=>z++_) eo
end
end Ev
namespace Ev
open PySem L2
def Ce(K:af)(H:Hp)(v:V)(c:Bool):Prop:=(c=false/\iU K H v "ring" 3 false)∨∃(a:Addr) (y z:V),v=.ref a/\H a\.tup [.str "ring",y,z]/\((c=false/\uU K H y 0 false)∨(uU K H y 0 true/\c=false/\uU K H z 1 false)∨∃i j:Int,y=.int i/\z=.int j/\0<=i/\1<=j/\c=decide (i+j<=3000))
section v
theorem qP:bw ["paper"] ["paper"] (aY OS):=bD
def V8(K:af):Sp:=λvs H Q _=>∃(v:V) (c:Bool),vs=[v]/\Ce K H v c/\Q (.bl c) H
theorem gP_{f:Addr}{fd:Ae}(F:bh K "is_of_a_ring" "is_of_a_ring" OS f fd){t:Tok}(mM:mg "MOST_MOMENTS"\.int 3000 t)(cB:!bg 1 "begins_with" jS (KM K))(cW:!bg 2 "is_whole_from" B_ (WI K)):!ak a9 3 f fd ["paper"] (V8 K):=by
 exists F.bG qP;let#[v,c,rfl,b,k]:=h;refine' #[_,ax ?s1 (ax ?s2 (aF ?s3)),?kk]
 case s1=>exact bL (eQ (dR (aR cB hr %[0,bf,au|0]))) (aF (aZ ke)) bM
 case s2=>exact bL (PW.pt (uz (eQ (dR (aR cW hr %[bE dh (pv 0) au,au|0]))) (uN (eQ (dR (aR cW hr %[bE dh (pv 0) au,au|0])))))) (aF (aZ ke)) bM
 case s3=>exact aZ (oi o7 (bI g5 (bE dh (pv 0) au) (bE dh (pv 0) au)) (wJ (v:=.int 3000) (by rfl) mM #[t,Z]))
 rcases b with⟨rfl,b⟩|⟨a,y,z,rfl,ha,b⟩
 ·exact#[_,Z,v,"ring",3,false,Z,b,_,Z,bO k]
 apply#[_,Z,.ref a,"ring",3,true,Z,.inr #[a,_,Z,ha,.inr #[Z,_,_,Z,.inl #[_,Z,by simp]]],_,Z,aO ?_];have yO:∀{x:V},eO [x,y,z] 1\y:=λ{x}=>L2.gc (j:=1) Z;have at2:∀{x:V},eO [x,y,z] 2\z:=λ{x}=>L2.gc (j:=2) Z;apply#[_,Z,a,_,1,y,Z,Z,.of ha,yO,?_];rcases b with⟨rfl,b⟩|⟨b1,rfl,b⟩|⟨i,j,rfl,rfl,i0,j0,rfl⟩
 ·exact#[y,0,false,Z,b,false,Z,bO (bO k)]
 ·apply#[y,0,true,Z,b1,true,Z,aO ?_];exact#[_,Z,a,_,2,z,Z,Z,.of ha,at2,z,1,false,Z,b,false,Z,bO k]
 apply#[.int i,0,true,Z,.inl #[i,Z,(cb i0).symm],true,Z,aO ?_];apply#[_,Z,a,_,2,.int j,Z,Z,.of ha,at2,.int j,1,true,Z,.inl #[j,Z,(cb j0).symm],true,Z,aO ?_];exact#[_,Z,a,_,1,.int i,Z,Z,.of ha,yO,_,Z,a,_,2,.int j,Z,Z,.of ha,at2,_,_,Z,Z,_,_,Z,Z,k]
end
end Ev
namespace Ev
open PySem L2
inductive xI (x:V) (y:V) (H:Hp) (Q:VK):Prop
 |mk:∀(a b:Addr) (ns:ae) (f g:aq),x=.ref a->y=.ref b->H a\.dK (dk ns f)->H b\.dK (dk ns g)->Q (.bl (!(ns.all λn=>decide (f n=g n)))) H->xI x y H Q
theorem UB{X:Cx}(hu:X.A.units<cLine):dS X (compareOp .NotEq) xI:=by
 intro pins s σ H x y v u Q I rx ry h;let#[a,b,ns,f,g,rfl,rfl,ha,hb,q]:=h;cases rx;cases ry;let#[za,na,va,ra,da]:=oa I.aH (.inl ha);let#[zb,nb,vb,rb,db]:=oa I.aH (.inl hb);let la:=ra.length;let lb:=rb.length;rw[kg] at la lb;apply PySem.W.keq_ne na nb da db hu (r:=ns.all λn=>decide (f n=g n)) (λ_=>Uu rb ns va ra λ_ h=>h) ⟨.bl _,H,I,rfl,?_⟩;rw[<- la,<- lb];simpa using q
def WV(r:Rl)(hs:Xa)(ts:Xb)(qs:aL)(f:aq)(k:Nat):Bool:=!((qs.map (·.1)).all λn=>decide (runM r hs ts qs f (k+1) n=runM r hs ts qs f k n))
def Eo(r:Rl)(hs:Xa)(ts:Xb)(qs:aL)(f:aq)(ss:List Int)(k:Nat):Prop:=ss[k]? = some (h_ hs qs (runM r hs ts qs f k))/\eN r hs ts qs (runM r hs ts qs f k)=false/\¬(WV r hs ts qs f k=true/\∃x y:Int,ss[k]? = some x/\ss[k+1]? = some y/\x<=y)
def Ou(r:Rl)(hs:Xa)(ts:Xb)(qs:aL)(f:aq)(ss:List Int)(v:V)(H:Hp):Prop:=∃k:Nat,k<ss.length/\(∀j:Nat,j<k->Eo r hs ts qs f ss j) /\
 ((∃t,ss[k]?≠some (h_ hs qs (runM r hs ts qs f k))/\v=.ref t/\H t\.tup [.str "sum",.int k]) ∨
  (ss[k]? = some (h_ hs qs (runM r hs ts qs f k))/\eN r hs ts qs (runM r hs ts qs f k)=true/\k+1<ss.length/\∃t,v=.ref t/\H t\.tup [.str "rests",.int k]) ∨
  (ss[k]? = some (h_ hs qs (runM r hs ts qs f k))/\eN r hs ts qs (runM r hs ts qs f k)=false/\k+1<ss.length/\WV r hs ts qs f k=true/\(∃x y:Int,ss[k]? = some x/\ss[k+1]? = some y/\x<=y)/\∃t,v=.ref t/\H t\.tup [.str "rise",.int k]) ∨
  (k+1=ss.length/\ss[k]? = some (h_ hs qs (runM r hs ts qs f k))/\((eN r hs ts qs (runM r hs ts qs f k)=true/\v=.non)∨(eN r hs ts qs (runM r hs ts qs f k)=false/\∃t,v=.ref t/\H t\.tup [.str "goes",.int k]))))
section
variable{P:Ad}{w:Af}{K:af}{mg:Str->Option Aa}{base:Heap}{CS CG CW T1 T2:Addr}
abbrev frN:ae:=["goods","placed","rule","sums","last","there","k","after"]
theorem Cu:bw frN t_ (aY lI):=bD
inductive OO (K:af) (CG CW T1 T2:Addr) (vs:ag) (H:Hp) (Q:VK) (E:XK):Prop
 |mk:∀(g p d l:Addr) (ss:List Int) (hs:Xa) (ts:Xb) (qs:aL) (fp:ai) (f:aq),∀r∈rl,vs=[.ref g,.ref d,.str r.1,.ref l]->H l\.lst (ss.map V.int)->0<ss.length->ss.length<=3001->Bt K CG CW T1 T2 H g p d hs ts qs fp f->(∀v H',BT T1 T2 H H'->Tb H' T1 T2->Ou r hs ts qs f ss v H'->Q v H')->OO K CG CW T1 T2 vs H Q E
theorem i4_{f0:Addr}{fd:Ae}(F:bh K "fault_of_rest" "fault_of_rest" lI f0 fd)(B:Bi mg)(W5:!bg 5 "sum_at" jN (Kg K CG CW))(yH:!bg 9 "rests_at" jT (HE K CG CW T1 T2))(QN:!bg 9 "placed_after" oH (Kj K CG CW T1 T2)):!ak a9 10 f0 fd t_ (OO K CG CW T1 T2):=by
 apply F.ok Cu (λvs H Q E h=>?_) (λaM A outer s H vs Q E hr h=>?_)
 ·let#[g,p,d,l,ss,hs,ts,qs,fp,f,r,dg,rfl,_]:=h;rfl
 let#[g,p,d,l,ss,hs,ts,qs,fp,f,r,dg,rfl,hl,l0,l3,D,k]:=h;let sz:=b_;refine' ⟨_,ax ?s1 ?r1,?kk⟩
 case s1=>exact bx 4 Cu.nd (bI Hb (cu gZ (by rfl) B.len gz %[3|0]) au)
 case' r1=>refine' ax ?s2 ?r2
 case s2=>exact bx 5 Cu.nd (pv 1)
 case' r2=>refine' ax ?s3 (ax ?s4 (aF ?s5))
 case' s3=>refine' eR eh Z (Ij (by rfl) B.range %[4|0]) (cY 6 Cu.nd) (ax ?b1 (ax ?b2 (ax ?b3 (ax ?b4 (aF ?b5)))))
 case b1=>exact bL (dm tJ (bE fA (pv 3) (pv 6)) (aR W5 hr %[0,5|0])) (aF (aZ (bC %[bf,6|0]))) bM
 case b2=>exact bL (dR (aR yH hr %[0,5,2|0])) (aF (aZ (bC %[bf,6|0]))) bM
 case b3=>exact bx 7 Cu.nd (aR QN hr %[0,5,2,6|0])
 case b4=>exact bL (PW.pt (Cn (dm (UB (Nat.lt_of_succ_lt (oo hr 0))) (pv 7) (pv 5)) (Hd (dm MP (bE fA (pv 3) (bI g5 (pv 6) au)) (bE fA (pv 3) (pv 6)))))) (aF (aZ (bC %[bf,6|0]))) bM
 case b5=>exact bx 5 Cu.nd (pv 7)
 case s4=>exact bL (dm tJ (bE fA (pv 3) (pv 4)) (aR W5 hr %[0,5|0])) (aF (aZ (bC %[bf,4|0]))) bM
 case s5=>exact aZ (Vq (dR (aR yH hr %[0,5,2|0])) pU (bC %[bf,4|0]))
 have at_:∀{i:Nat} {z:Int},ss[i]? = some z->eO (ss.map V.int) (i:Int)\.int z:=λ{i z} e=>L2.gc (by rw[dQ,e];rfl)
 have EE:∀{a:Addr},H a=none->a∉fp:=λna m=>by
  let#[o,e]:=D.has _ m;rw[e] at na;cases na
 obtain⟨n,en⟩:∃n:Nat,ss.length=n+1:=#[ss.length - 1,by omega];apply#[_,Z,l,_,Z,.inl (.of hl),_,_,Z,Z,setG ?_];dsimp only;rw[show ((ss.map V.int).length:Int) - 1=(n:Int) by rw[ay];omega];apply#[_,Z,setG ?_];dsimp only
 have PD:∀{G:Hp} {dp:Addr} {i:Nat},BT T1 T2 H G->Tb G T1 T2->(dp=d∨H dp=none)->G dp\.dK (dk (qs.map (·.1)) (runM r hs ts qs f i))->Bt K CG CW T1 T2 G g p dp hs ts qs fp (runM r hs ts qs f i):=λ{G dp i} bt tb nd e=>#[#[D.Pl.G.nt (bt.nt D.tb),D.W.Gd,nd.elim (λz=>z▸D.Pl.i7) EE,e,(D.W.run r i).at_,D.W.nd,D.W.bU],D.W.run r i,tb,λb hb=>by
  let#[o,e]:=D.has b hb;let#[u1,g1]:=fj tb.a;let#[u2,g2]:=fj tb.b;by_cases y1:b=T1
  ·exact#[_,y1▸g1]
  by_cases y2:b=T2
  ·exact#[_,y2▸g2]
  exact#[o,bt _ _ e y1 y2]]
 apply kP (λσ H'=>∃(v6 v7:aI) (dp:Addr),σ=[some (.ref g),some (.ref d),some (.str r.1),some (.ref l),some (.int n),some (.ref dp),v6,v7]/\BT T1 T2 H H'/\Tb H' T1 T2/\(dp=d∨H dp=none)/\H' dp\.dK (dk (qs.map (·.1)) (runM r hs ts qs f n))/\∀j:Nat,j<n->Eo r hs ts qs f ss j) ?later (λN hN=>?loop)
 case loop=>
  apply#[_,Z,_,Z,by omega,by omega,?_];apply Ik (λi σ H'=>∃(v6 v7:aI) (dp:Addr),σ=[some (.ref g),some (.ref d),some (.str r.1),some (.ref l),some (.int n),some (.ref dp),v6,v7]/\BT T1 T2 H H'/\Tb H' T1 T2/\(dp=d∨H dp=none)/\H' dp\.dK (dk (qs.map (·.1)) (runM r hs ts qs f i))/\∀j:Nat,j<i->Eo r hs ts qs f ss j) #[none,none,d,Z,BT.of (aa.refl _),D.tb,.inl Z,D.Pl.hd,by omega] ?_ (λσ H' h=>hN _ _ h);rintro i σ H1 hi ⟨v6,v7,dp,rfl,b,tb,nd,ed,pa⟩;rw[ow] at hi;lk;rw[Int.zero_add];let nt:=b.nt D.tb;let Dn:=PD b tb nd ed;obtain⟨z,ez⟩:∃z,ss[i]? = some z:=#[_,cg Z1];obtain⟨y,ey⟩:∃y,ss[i+1]? = some y:=#[_,cg Z1];apply#[_,Z,_,Z,l,_,_,.int z,Z,Z,.inl (.inl (nt.lst hl)),at_ ez,?_];apply#[_,Z,_,Z,g,p,dp,hs,ts,qs,fp,_,Z,Dn.Pl,D.W.wq,λH2 s2=>?_];let b2:=b.trans (BT.of s2);have fo:Tb H2 T1 T2:=#[tb.a.same s2,tb.b.same s2,tb.ne];apply#[Z,_,Z,a_ (λc=>?_) (λc=>?_)]
  ·have c:¬z=h_ hs qs (runM r hs ts qs f i):=⇑c
   apply#[_,Z,zl,λt vH=>?_];let s3:=aa.new (o:=.tup [.str "sum",.int (i:Int)]) vH;exact k _ _ (b2.trans (BT.of s3)) #[fo.a.same s3,fo.b.same s3,tb.ne] #[i,by omega,pa,.inl #[t,λq=>c (d5 (ez.symm.trans q)),Z,ao]]
  have c:z=h_ hs qs (runM r hs ts qs f i):=⇑c
  subst c;apply#[_,Z,_,Z,_,Z,g,p,dp,hs,ts,qs,fp,_,r,dg,Z,PD b2 fo nd (s2 _ _ ed),λH3 b3 d_=>?_];let mi:=b2.trans b3;apply#[_,Z,a_ (λc=>?_) (λc=>?_)]
  ·apply#[_,Z,zl,λt vH=>?_];let s4:=aa.new (o:=.tup [.str "rests",.int (i:Int)]) vH;exact k _ _ (mi.trans (BT.of s4)) #[d_.a.same s4,d_.b.same s4,tb.ne] #[i,by omega,pa,.inr (.inl #[ez,c,by omega,t,Z,ao])]
  have c:eN r hs ts qs (runM r hs ts qs f i)=false:=⇑c
  have VT:H3 dp\.dK (dk (qs.map (·.1)) (runM r hs ts qs f i)):=(b3.nt fo).dK (s2 _ _ ed);apply#[_,Z,_,Z,_,Z,_,Z,g,p,dp,(i:Int),hs,ts,qs,fp,_,r,dg,Z,by omega,PD mi d_ nd VT,λdq H4 b4 fX n4 e4=>?_];lk;let pZ:=mi.trans b4
  have nq:H dq=none:=by
   cases z:H dq with
   |none=>rfl
   |some o=>
    by_cases y1:dq=T1
    ·let#[tv,hT]:=fj d_.a;rw[y1,hT] at n4;cases n4
    by_cases y2:dq=T2
    ·let#[tv,hT]:=fj d_.b;rw[y2,hT] at n4;cases n4
    rw[mi _ _ z y1 y2] at n4;cases n4
  have e4:H4 dq\.dK (dk (qs.map (·.1)) (runM r hs ts qs f (i+1))):=e4;let wk:=(b4.nt d_).dK VT;let BW:=(pZ.nt D.tb).lst hl
  have next:Eo r hs ts qs f ss i->∀j:Nat,j<i+1->Eo r hs ts qs f ss j:=λpi j hj=>by
   by_cases c:j<i
   ·exact pa j c
   obtain rfl:j=i:=by omega
   exact pi
  apply#[_,Z,_,Z,dq,dp,_,_,_,Z,Z,e4,wk,?_];apply#[_,Z,a_ (λch=>?_) (λch=>?_)]
  ·apply#[_,Z,_,Z,_,_,Z,Z,l,_,_,.int y,Z,Z,.inl (.inl BW),L2.gc (j:=i+1) (by rw[dQ,ey];rfl),?_];apply#[_,Z,_,Z,l,_,_,.int _,Z,Z,.inl (.inl BW),at_ ez,?_];apply#[_,_,Z,Z,_,Z,a_ (λc2=>?_) (λc2=>?_)]
   ·have c2:h_ hs qs (runM r hs ts qs f i)<=y:=⇑c2
    apply#[_,Z,zl,λt vH=>?_];let s5:=aa.new (o:=.tup [.str "rise",.int (i:Int)]) vH;exact k _ _ (pZ.trans (BT.of s5)) #[fX.a.same s5,fX.b.same s5,tb.ne] #[i,by omega,pa,.inr (.inr (.inl #[ez,c,by omega,ch,#[_,y,ez,ey,c2],t,Z,ao]))]
   have c2:¬h_ hs qs (runM r hs ts qs f i)<=y:=⇑c2
   apply#[_,Z,setG #[_,_,dq,Z,pZ,fX,.inr nq,e4,next #[ez,c,λ⟨_,x',y',e1,e2,le⟩=>c2 ?_]]];rw[ez] at e1;rw[ey] at e2;cases e1;cases e2;exact le
  apply aO #[_,Z,setG #[_,_,dq,Z,pZ,fX,.inr nq,e4,next #[ez,c,λ⟨h1,_⟩=>ch h1]]]
 rintro σ H' ⟨v6,v7,dp,rfl,b,tb,nd,ed,pa⟩;let nt:=b.nt D.tb;let Dn:=PD b tb nd ed;obtain⟨z,ez⟩:∃z,ss[n]? = some z:=#[_,cg Z1];apply#[_,Z,_,Z,l,_,_,.int z,Z,Z,.inl (.inl (nt.lst hl)),at_ ez,?_];apply#[_,Z,_,Z,g,p,dp,hs,ts,qs,fp,_,Z,Dn.Pl,D.W.wq,λH2 s2=>?_];let b2:=b.trans (BT.of s2);have fo:Tb H2 T1 T2:=#[tb.a.same s2,tb.b.same s2,tb.ne];apply#[Z,_,Z,a_ (λc=>?_) (λc=>?_)]
 ·have c:¬z=h_ hs qs (runM r hs ts qs f n):=⇑c
  apply#[_,Z,zl,λt vH=>?_];let s3:=aa.new (o:=.tup [.str "sum",.int (n:Int)]) vH;exact k _ _ (b2.trans (BT.of s3)) #[fo.a.same s3,fo.b.same s3,tb.ne] #[n,by omega,pa,.inl #[t,λq=>c (d5 (ez.symm.trans q)),Z,ao]]
 have c:z=h_ hs qs (runM r hs ts qs f n):=⇑c
 subst c;apply#[_,Z,_,Z,_,Z,g,p,dp,hs,ts,qs,fp,_,r,dg,Z,PD b2 fo nd (s2 _ _ ed),λH3 b3 d_=>?_];let mi:=b2.trans b3;apply#[_,Z,a_ (λc=>?_) (λc=>?_)]
 ·exact k _ _ mi d_ #[n,by omega,pa,.inr (.inr (.inr #[by omega,ez,.inl #[c,Z]]))]
 have c:eN r hs ts qs (runM r hs ts qs f n)=false:=⇑c
 apply#[_,Z,zl,λt vH=>?_];let s4:=aa.new (o:=.tup [.str "goes",.int (n:Int)]) vH;exact k _ _ (mi.trans (BT.of s4)) #[d_.a.same s4,d_.b.same s4,tb.ne] #[n,by omega,pa,.inr (.inr (.inr #[by omega,ez,.inr #[c,t,Z,ao]]))]
end
end Ev
namespace Ev
open PySem L2
def zx(r:Rl)(hs:Xa)(ts:Xb)(qs:aL)(f:aq)(i j:Nat):Bool:=(qs.map (·.1)).all λn=>decide (runM r hs ts qs f i n=runM r hs ts qs f j n)
def Ox(r:Rl)(hs:Xa)(ts:Xb)(qs:aL)(f:aq)(t lg:Nat)(v:V)(H:Hp):Prop:=
 (∃k:Nat,k<=t+lg/\(∀j:Nat,j<k->eN r hs ts qs (runM r hs ts qs f j)=false)/\eN r hs ts qs (runM r hs ts qs f k)=true/\∃a,v=.ref a/\H a\.tup [.str "rests",.int k]) ∨
 ((∀j:Nat,j<=t+lg->eN r hs ts qs (runM r hs ts qs f j)=false)/\((zx r hs ts qs f t (t+lg)=true/\lg % ka r ts=0/\v=.non)∨(¬(zx r hs ts qs f t (t+lg)=true/\lg % ka r ts=0)/\∃a,v=.ref a/\H a\.tup [.str "unlike"])))
theorem gg_(r:Rl)(ts:Xb):0<ka r ts:=by
 unfold ka;split<;>omega
section
variable{P:Ad}{w:Af}{K:af}{mg:Str->Option Aa}{base:Heap}{CS CG CW T1 T2:Addr}
abbrev fgN:ae:=["goods","placed","rule","t","long","stands","k"]
theorem OP:bw fgN ub (aY lH):=bD
inductive Qf (K:af) (CG CW T1 T2:Addr) (vs:ag) (H:Hp) (Q:VK) (E:XK):Prop
 |mk:∀(g p d:Addr) (t lg:Nat) (hs:Xa) (ts:Xb) (qs:aL) (fp:ai) (f:aq),∀r∈rl,vs=[.ref g,.ref d,.str r.1,.int t,.int lg]->t+lg<=3000->Bt K CG CW T1 T2 H g p d hs ts qs fp f->(∀v H',BT T1 T2 H H'->Tb H' T1 T2->Ox r hs ts qs f t lg v H'->Q v H')->Qf K CG CW T1 T2 vs H Q E
theorem j3_{f0:Addr}{fd:Ae}(F:bh K "fault_of_ring" "fault_of_ring" lH f0 fd)(B:Bi mg)(TG:dF K CG)(Hw:!bg 4 "rows_by" ["web","rule"] (KO K CW))(yH:!bg 9 "rests_at" jT (HE K CG CW T1 T2))(QN:!bg 9 "placed_after" oH (Kj K CG CW T1 T2)):!ak a9 10 f0 fd ub (Qf K CG CW T1 T2):=by
 apply F.ok OP (λvs H Q E h=>?_) (λaM A outer s H vs Q E hr h=>?_)
 ·let#[g,p,d,t,lg,hs,ts,qs,fp,f,r,dg,rfl,_]:=h;rfl
 let#[g,p,d,t,lg,hs,ts,qs,fp,f,r,dg,rfl,l3,D,k]:=h;let sz:=b_;refine' ⟨_,ax ?s1 ?r1,?kk⟩
 case s1=>exact bx 5 OP.nd (bX %[1|0])
 case' r1=>refine' ax ?s2 (ax ?s3 (aF (aZ pU)))
 case' s2=>refine' eR eh Z (Ij (by rfl) B.range %[bI g5 (bI g5 (pv 3) (pv 4)) au|0]) (cY 6 OP.nd) (ax ?b1 (aF ?b2))
 case b1=>exact bL (dR (aR yH hr %[0,bE fA (pv 5) (pv 6),2|0])) (aF (aZ (bC %[bf,6|0]))) bM
 case b2=>exact iq (iJ i_ tT tU p0 (pv 5) %[aR QN hr %[0,bE fA (pv 5) (pv 6),2,6|0]|0])
 case s3=>exact bL (PW.pt (uz (dm (UB (Nat.lt_of_succ_lt (oo hr 0))) (bE fA (pv 5) (pv 3)) (bE fA (pv 5) (bI g5 (pv 3) (pv 4)))) (uN (dm tJ (bI uM (pv 4) (aR Hw hr %[dA (pv 0) Z,2|0])) au)))) (aF (aZ (iP (lY (K:=K)) (by rfl) B.tuple Bm %[bX %[bf|0]|0]))) bM
 have EE:∀{a:Addr},H a=none->a∉fp:=λna m=>by
  let#[o,e]:=D.has _ m;rw[e] at na;cases na
 have PD:∀{G:Hp} {dp:Addr} {i:Nat},BT T1 T2 H G->Tb G T1 T2->(dp=d∨H dp=none)->G dp\.dK (dk (qs.map (·.1)) (runM r hs ts qs f i))->Bt K CG CW T1 T2 G g p dp hs ts qs fp (runM r hs ts qs f i):=λ{G dp i} bt tb nd e=>#[#[D.Pl.G.nt (bt.nt D.tb),D.W.Gd,nd.elim (λz=>z▸D.Pl.i7) EE,e,(D.W.run r i).at_,D.W.nd,D.W.bU],D.W.run r i,tb,λb hb=>by
  let#[o,e]:=D.has b hb;let#[u1,g1]:=fj tb.a;let#[u2,g2]:=fj tb.b;by_cases y1:b=T1
  ·exact#[_,y1▸g1]
  by_cases y2:b=T2
  ·exact#[_,y2▸g2]
  exact#[o,bt _ _ e y1 y2]]
 apply#[_,Z,zl,λls zM=>?_];let#[s1,e1]:=bj (o:=.lst [.ref d]) zM;have C_:Tb (upd H ls (.lst [.ref d])) T1 T2:=#[D.tb.a.same s1,D.tb.b.same s1,D.tb.ne];generalize upd H ls (.lst [.ref d])=H1 at s1 e1 C_ ⊢;lk;apply kP (λσ H'=>∃(v6:aI) (ds:ai),σ=[some (.ref g),some (.ref d),some (.str r.1),some (.int t),some (.int lg),some (.ref ls),v6]/\BT T1 T2 H H'/\Tb H' T1 T2/\H' ls\.lst (ds.map V.ref)/\ds.length=t+lg+2/\(∀(j:Nat) (a:Addr),ds[j]? = some a->(a=d∨H a=none)/\H' a\.dK (dk (qs.map (·.1)) (runM r hs ts qs f j)))/\∀j:Nat,j<t+lg+1->eN r hs ts qs (runM r hs ts qs f j)=false) ?later (λN hN=>?loop)
 case loop=>
  apply#[_,Z,_,Z,_,_,Z,Z,_,_,Z,Z,((t+lg+1:Nat):Int),Z,by omega,by omega,?_];apply Ik (λi σ H'=>∃(v6:aI) (ds:ai),σ=[some (.ref g),some (.ref d),some (.str r.1),some (.int t),some (.int lg),some (.ref ls),v6]/\BT T1 T2 H H'/\Tb H' T1 T2/\H' ls\.lst (ds.map V.ref)/\ds.length=i+1/\(∀(j:Nat) (a:Addr),ds[j]? = some a->(a=d∨H a=none)/\H' a\.dK (dk (qs.map (·.1)) (runM r hs ts qs f j)))/\∀j:Nat,j<i->eN r hs ts qs (runM r hs ts qs f j)=false) #[none,[d],Z,BT.of s1,C_,e1,Z,λj a e=>?_,by omega] ?_ (λσ H' h=>hN _ _ (by rw[ow] at h;exact h))
  ·match j,e with
   |0,e=>cases e;exact#[.inl Z,s1 _ _ D.Pl.hd]
  rintro i σ H2 hi ⟨v6,ds,rfl,b2,fo,el,ld,da,no⟩;rw[ow] at hi;lk;rw[Int.zero_add];obtain⟨dp,AV⟩:∃dp,ds[i]? = some dp:=#[_,cg Z1];let#[nd,ed]:=da i dp AV;have at_:eO (ds.map V.ref) (i:Int)\.ref dp:=L2.gc (by rw[dQ,AV];rfl);apply#[_,Z,_,Z,_,Z,ls,_,_,.ref dp,Z,Z,.inl (.inl el),at_,_,Z,g,p,dp,hs,ts,qs,fp,_,r,dg,Z,PD b2 fo nd ed,λH3 b3 d_=>?_];let mi:=b2.trans b3;let ON:=(b3.nt fo).lst el;have PJ:∀(j:Nat) (a:Addr),ds[j]? = some a->(a=d∨H a=none)/\H3 a\.dK (dk (qs.map (·.1)) (runM r hs ts qs f j)):=λj a e=>#[(da j a e).1,(b3.nt fo).dK (da j a e).2];apply#[_,Z,a_ (λc=>?_) (λc=>?_)]
  ·apply#[_,Z,zl,λa na=>?_];let s4:=aa.new (o:=.tup [.str "rests",.int (i:Int)]) na;exact k _ _ (mi.trans (BT.of s4)) #[d_.a.same s4,d_.b.same s4,d_.ne] (.inl #[i,by omega,no,c,a,Z,ao])
  have c:eN r hs ts qs (runM r hs ts qs f i)=false:=⇑c
  apply#[_,Z,.inl #[Z,#[_,.of ON]],?_];apply#[_,Z,_,Z,_,Z,ls,_,_,.ref dp,Z,Z,.inl (.inl ON),at_,_,Z,_,Z,g,p,dp,(i:Int),hs,ts,qs,fp,_,r,dg,Z,by omega,PD mi d_ nd (PJ i dp AV).2,λdq H4 b4 fX n4 e4=>?_];let pZ:=mi.trans b4
  have nq:H dq=none:=by
   cases z:H dq with
   |none=>rfl
   |some o=>
    by_cases y1:dq=T1
    ·let#[tv,hT]:=fj d_.a;rw[y1,hT] at n4;cases n4
    by_cases y2:dq=T2
    ·let#[tv,hT]:=fj d_.b;rw[y2,hT] at n4;cases n4
    rw[mi _ _ z y1 y2] at n4;cases n4
  have e4:H4 dq\.dK (dk (qs.map (·.1)) (runM r hs ts qs f (i+1))):=e4;let AR:=(b4.nt d_).lst ON;apply#[ls,_,_,Z,Z,AR,by rw[ay];omega,?_];have b5:aN ls H4 (upd H4 ls (.lst (ds.map V.ref++[.ref dq]))):=aN.upd
  have e5:upd H4 ls (.lst (ds.map V.ref++[.ref dq])) ls\.lst ((ds++[dq]).map V.ref):=by
   rw[ao,dD];rfl
  generalize upd H4 ls (.lst (ds.map V.ref++[.ref dq]))=H5 at b5 e5 ⊢;have kT:∀{T qn},cU H4 T qn->cU H5 T qn:=λ⟨es,a1,a2⟩=>#[es,b5 _ _ a1 (λz=>by rw[z,AR] at a1;cases a1),λx hx=>b5 _ _ (a2 x hx) (λz=>by have:=a2 x hx;rw[z,AR] at this;cases this)];have kd:∀a kvs,H4 a\.dK kvs->H5 a\.dK kvs:=λa kvs e=>b5 _ _ e (cy e AR nofun);apply#[_,ds++[dq],Z,λb o e y1 y2=>b5 _ _ (pZ b o e y1 y2) (bu e zM),#[kT fX.a,kT fX.b,fX.ne],e5,by rw[dW,ld];rfl,λj a e=>?_,λj hj=>?_]
  ·by_cases z:j<ds.length
   ·rw[yT z] at e;exact#[(PJ j a e).1,kd _ _ ((b4.nt d_).dK (PJ j a e).2)]
   rw[xa Z1] at e
   have ej:j=i+1:=by
    have:=(cw.mp e).1;simp only[yS] at this;omega
   subst ej;rw[ld,Nat.sub_self] at e;cases e;exact#[.inr nq,kd _ _ e4]
  by_cases z:j<i
  ·exact no j z
  obtain rfl:j=i:=by omega
  exact c
 rintro σ H2 ⟨v6,ds,rfl,b2,fo,el,ld,da,no⟩;obtain⟨dt,VR⟩:∃dp,ds[t]? = some dp:=#[_,cg Z1];obtain⟨du,VQ⟩:∃dp,ds[t+lg]? = some dp:=#[_,cg Z1];let e1':=(da _ _ VR).2;let J4:=(da _ _ VQ).2;apply#[_,Z,_,Z,ls,_,_,.ref dt,Z,Z,.inl (.inl el),L2.gc (j:=t) (by rw[dQ,VR];rfl),?_];apply#[_,Z,_,Z,_,Z,_,_,Z,Z,ls,_,_,.ref du,Z,Z,.inl (.inl el),L2.gc (j:=t+lg) (by rw[dQ,VQ];rfl),?_];apply#[dt,du,_,_,_,Z,Z,e1',J4,?_];have Sy:∀j:Nat,j<=t+lg->eN r hs ts qs (runM r hs ts qs f j)=false:=λj hj=>no j Z1
 have RE:∀H3,BT T1 T2 H H3->Tb H3 T1 T2->¬(zx r hs ts qs f t (t+lg)=true/\lg % ka r ts=0)->∀l2,H3 l2=none->∀H4,H4=upd H3 l2 (.lst [.str "unlike"])->∀a,H4 a=none->Q (.ref a) (upd H4 a (.tup [.str "unlike"])):=λH3 b3 d_ un l2 n2 H4 e4 a na=>by
  subst e4;let s1:=aa.new (o:=.lst [.str "unlike"]) n2;let s2:=aa.new (o:=.tup [.str "unlike"]) na;let s12:=s1.trans s2;exact k _ _ (b3.trans (BT.of s12)) #[d_.a.same s12,d_.b.same s12,d_.ne] (.inr #[Sy,.inr #[un,a,Z,ao]])
 apply#[_,Z,a_ (λc=>?_) (λc=>?_)]
 ·have c:¬zx r hs ts qs f t (t+lg)=true:=by
   unfold zx;simpa using c
  apply bO #[zl,λl2 n2=>?_];exact#[l2,_,Z,.inl #[.inl (.of ao),λa na=>RE _ b2 fo (λz=>c z.1) l2 n2 _ Z a na]]
 have c:zx r hs ts qs f t (t+lg)=true:=by
  unfold zx;simpa using c
 let G2:=D.Pl.G.nt (b2.nt D.tb);let#[hU,dw,dy,vs,bS,g1,g2,_]:=id G2.ex;let rp:=gg_ r ts;apply#[_,Z,_,Z,g,CG,hU,_,_,Z,g1,TG.cl,TG.nW,ki _ _ _,_,Z,p,hs,ts,bS,r,dg,Z,g2,D.W.Gd.vg,λH3 s3=>?_];let b3:=b2.trans (BT.of s3);have d_:Tb H3 T1 T2:=#[fo.a.same s3,fo.b.same s3,fo.ne];apply#[_,_,Z,Z,by omega,Z,_,Z,a_ (λc2=>?_) (λc2=>?_)]
 ·have c2:¬lg % ka r ts=0:=by
   have:¬(lg:Int) % ((ka r ts:Nat):Int)=0:=⇑c2
   omega
  apply#[zl,λl2 n2=>?_];exact#[l2,_,Z,.inl #[.inl (.of ao),λa na=>RE _ b3 d_ (λz=>c2 z.2) l2 n2 _ Z a na]]
 have c2:lg % ka r ts=0:=by
  have:(lg:Int) % ((ka r ts:Nat):Int)=0:=⇑c2
  omega
 exact k _ _ b3 d_ (.inr #[Sy,.inl #[c,c2,Z]])
end
end Ev
namespace Ev
open PySem L2
theorem iU.nt{K:af}{H H':Hp}{v:V}{x:Str}{n:Nat}{c:Bool}(h:iU K H v x n c)(s:NT H H'):iU K H' v x n c:=by
 rcases h with⟨e,h⟩|⟨a,xs,e,ha,h⟩
 ·exact .inl #[e,h.nt s]
 apply .inr #[a,xs,e,s.tup ha,h.imp id λ⟨en,y,r,ex,h⟩=>#[en,y,r,ex,h.imp id λ⟨e,h⟩=>#[e,h.nt s]]]
theorem yu.nt{K:af}{H H':Hp}{v:V}{c:Bool}(h:yu K H v c)(s:NT H H'):yu K H' v c:=by
 rcases h with⟨e,h⟩|⟨a,y,e,ha,h⟩
 ·exact .inl #[e,h.nt s]
 apply .inr #[a,y,e,s.tup ha,?_];rcases h with⟨e,h⟩|⟨l,ys,bs,e,hl,pb,l1,ec⟩
 ·exact .inl #[e,h.nt s]
 exact .inr #[l,ys,bs,e,s.lst hl,Paired.bQ pb λ_ _ h=>h.nt s,l1,ec]
theorem uU.nt{K:af}{H H':Hp}{y:V}{a:Int}{c:Bool}(h:uU K H y a c)(s:NT H H'):uU K H' y a c:=h.imp id λ⟨e,h⟩=>#[e,h.imp id λh=>h.nt s]
theorem Ce.nt{K:af}{H H':Hp}{v:V}{c:Bool}(h:Ce K H v c)(s:NT H H'):Ce K H' v c:=by
 rcases h with⟨e,h⟩|⟨a,y,z,e,ha,h⟩
 ·exact .inl #[e,h.nt s]
 exact .inr #[a,y,z,e,s.tup ha,h.imp (λ⟨e,h⟩=>#[e,h.nt s]) λh=>h.imp (λ⟨a,e,h⟩=>#[a.nt s,e,h.nt s]) id]
theorem UG{K:af}{H:Hp}:∀ss:List Int,Paired (gr K H) (ss.map V.int) (ss.map λ_=>true)
 |[]=>.nil
 |s::ss=>.cons (.inl #[Z,s,Z]) (UG ss)
theorem jB_{K:af}{H:Hp}{a l:Addr}{ss:List Int}(ha:H a\.tup [.str "rest",.ref l])(hl:H l\.lst (ss.map V.int))(l0:0<ss.length)(l3:ss.length<=3001):yu K H (.ref a) true:=by
 apply .inr #[a,_,Z,ha,.inr #[l,_,_,Z,hl,UG ss,by rw[ay];omega,?_]];rw[ay,cb (show 1<=ss.length by omega),cb l3]
 have:(ss.map λ_=>true).all id=true:=List.all_eq_true.mpr λb hb=>by
  let#[_,_,rfl]:=bN.mp hb;rfl
 rw[this];rfl
section
variable{P:Ad}{w:Af}{K:af}{mg:Str->Option Aa}{base:Heap}{CS CG CW T1 T2:Addr}
theorem V2:bw ["goods","stand","rule","paper","placed"] tZ (aY Pb):=bD
inductive Po (K:af) (CG CW T1 T2:Addr) (vs:ag) (H:Hp) (Q:VK) (E:XK):Prop
 |mk:∀(g p d:Addr) (v:V) (hs:Xa) (ts:Xb) (qs:aL) (fp:ai) (ns:ae) (f:aq),∀r∈rl,vs=[.ref g,.ref d,.str r.1,v]->ug K CG CW H g p d hs ts qs fp ns f->Wd hs ts qs f->Tb H T1 T2->((yu K H v false/\Ce K H v false/\∀t H',BT T1 T2 H H'->Tb H' T1 T2->H' t\.tup [.str "form"]->Q (.ref t) H')∨(∃(a l:Addr) (ss:List Int),v=.ref a/\H a\.tup [.str "rest",.ref l]/\H l\.lst (ss.map V.int)/\0<ss.length/\ss.length<=3001/\∀v H',BT T1 T2 H H'->Tb H' T1 T2->Ou r hs ts qs f ss v H'->Q v H')∨∃(a:Addr) (t lg:Nat),v=.ref a/\H a\.tup [.str "ring",.int t,.int lg]/\1<=lg/\t+lg<=3000/\∀v H',BT T1 T2 H H'->Tb H' T1 T2->Ox r hs ts qs f t lg v H'->Q v H')->Po K CG CW T1 T2 vs H Q E
theorem hq_{f0:Addr}{fd:Ae}(F:bh K "paper_fault" "paper_fault" Pb f0 fd)(B:Bi mg)(Ht:!bg 3 "checked_start" uE (Kr K CG CW))(cR:!bg 2 "is_of_a_rest" ["paper"] (V6 K))(cG:!bg 3 "is_of_a_ring" ["paper"] (V8 K))(QZ:!bg 10 "fault_of_rest" t_ (OO K CG CW T1 T2))(Q0:!bg 10 "fault_of_ring" ub (Qf K CG CW T1 T2)):!ak a9 11 f0 fd tZ (Po K CG CW T1 T2):=by
 apply F.ok V2 (λvs H Q E h=>?_) (λaM A outer s H vs Q E hr h=>?_)
 ·let#[g,p,d,v,hs,ts,qs,fp,ns,f,r,dg,rfl,_]:=h;rfl
 let#[g,p,d,v,hs,ts,qs,fp,ns,f,r,dg,rfl,S,W,tb,h]:=h;refine' ⟨_,ax ?s1 (ax ?s2 (ax ?s3 (aF ?s4))),?kk⟩
 case s1=>exact bx 4 V2.nd (aR Ht hr %[0,1,2|0])
 case s2=>exact bL (dR (aR cR hr %[3|0])) (aF (aZ (aR QZ hr %[0,4,2,bE dh (pv 3) au|0]))) bM
 case s3=>exact bL (dR (aR cG hr %[3|0])) (aF (aZ (aR Q0 hr %[0,4,2,bE dh (pv 3) au,bE dh (pv 3) au|0]))) bM
 case s4=>exact aZ (iP (lY (K:=K)) (by rfl) B.tuple Bm %[bX %[bf|0]|0])
 have EE:∀{a:Addr},H a=none->a∉fp:=λna m=>by
  let#[o,e,_]:=S.has _ m;rw[e] at na;cases na
 apply#[_,Z,_,Z,_,Z,_,_,r,dg,Z,g,p,d,hs,ts,qs,fp,ns,f,Z,S.G,S.i7,S.hd,S.so,W.nd,W.bU,λdp H1 s1 n1 e1=>?_];lk;have C_:Tb H1 T1 T2:=#[tb.a.same s1,tb.b.same s1,tb.ne];have PD:∀{G:Hp},aa H1 G->Bt K CG CW T1 T2 G g p dp hs ts qs fp f:=λ{G} s=>#[#[S.G.same (s1.trans s),W.Gd,EE n1,s _ _ e1,W.at_,W.nd,W.bU],W,#[C_.a.same s,C_.b.same s,tb.ne],λb hb=>let #[o,e,_]:=S.has b hb;#[o,s _ _ (s1 _ _ e)]];rcases h with⟨_y,_s,k⟩|⟨a,l,ss,rfl,ha,hl,l0,l3,k⟩|⟨a,t,lg,rfl,ha,g0,g3,k⟩
 ·apply#[_,Z,v,false,Z,_y.nt (NT.of s1),λH2 s2=>#[_,Z,aO ?_]];apply#[_,Z,v,false,Z,_s.nt (NT.of (s1.trans s2)),_,Z,aO ?_];apply#[zl,λl2 n2=>?_];let s3:=aa.new (o:=.lst [.str "form"]) n2;apply#[l2,_,Z,.inl #[.inl (.of ao),λt nt=>?_]];let s4:=((s1.trans s2).trans s3).trans (aa.new (o:=.tup [.str "form"]) nt);exact k _ _ (BT.of s4) #[tb.a.same s4,tb.b.same s4,tb.ne] ao
 ·apply#[_,Z,.ref a,true,Z,(jB_ ha hl l0 l3).nt (NT.of s1),λH2 s2=>#[_,Z,bO ?_]];let s12:=s1.trans s2;apply#[_,Z,_,Z,_,Z,_,Z,a,_,1,.ref l,Z,Z,.of (s12 _ _ ha),L2.gc (j:=1) Z,?_];exact#[g,p,dp,l,ss,hs,ts,qs,fp,f,r,dg,Z,s12 _ _ hl,l0,l3,PD s2,λv H' b t u=>k v H' ((BT.of s12).trans b) t u]
 apply#[_,Z,.ref a,false,Z,(show yu K H1 (.ref a) false from .inl #[Z,.inr #[a,_,Z,s1 _ _ ha,.inl #[Z,by simp]]]),λH2 s2=>#[_,Z,aO ?_]];let s12:=s1.trans s2;let ib:=s12 _ _ ha;apply#[_,Z,.ref a,true,Z,.inr #[a,_,_,Z,ib,.inr (.inr #[t,lg,Z,Z,by omega,by omega,(cb Z1).symm])],_,Z,bO ?_];apply#[_,Z,_,Z,_,Z,_,Z,a,_,1,.int t,Z,Z,.of ib,L2.gc (j:=1) Z,_,Z,a,_,2,.int lg,Z,Z,.of ib,L2.gc (j:=2) Z,?_];exact#[g,p,dp,t,lg,hs,ts,qs,fp,f,r,dg,Z,g3,PD s2,λv H' b t u=>k v H' ((BT.of s12).trans b) t u]
end
end Ev
namespace Ev
open PySem L2
theorem eV.we{K:af}{C:Addr}{H:Hp}{p:Addr}{hs:Xa}{ts:Xb}{fp:ai}(W:eV K C H p hs ts fp){b:Addr}(hb:b∈fp):∃o,H b\o/\∀vs,o≠.tbl vs:=by
 let#[dx,d1,l2,d3,zs,as,rfl,h1,h2,h3,h4,h5,h6,h7]:=W.ex;simp only[cq] at hb;rcases hb with rfl|rfl|rfl|rfl|hb
 ·exact#[_,h1,by intro vs z;cases z]
 ·exact#[_,h2,by intro vs z;cases z]
 ·exact#[_,h3,by intro vs z;cases z]
 ·exact#[_,h5,by intro vs z;cases z]
 let#[i,hi,e]:=mm hb;exact#[_,h7 i ((aD hs)[i]' Z1) b (cg Z1) (by rw[<- e];exact cg hi),by intro vs z;cases z]
theorem gf.we{K:af}{CG CW:Addr}{H:Hp}{g p:Addr}{hs:Xa}{ts:Xb}{qs:aL}{fp:ai}(G:gf K CG CW H g p hs ts qs fp):∃j6,gf K CG CW H g p hs ts qs j6/\(∀b∈j6,b∈fp)/\∀b∈j6,∃o,H b\o/\∀vs,o≠.tbl vs:=by
 let#[dx,dw,dy,vs,bS,h1,h2,h3,h4,h5,m1,m2,m3,m4,m5]:=G.ex;apply#[g::dw::dy::(bS++vs.filterMap λv=>match v with | .ref a=>some a|_=>none),#[dx,dw,dy,vs,bS,h1,h2,h3,h4,h5,by simp,by simp,by simp,λb hb=>by simp[hb],λv hv a z=>?_],λb hb=>?_,λb hb=>?_]
 ·have:a∈vs.filterMap λv=>match v with | .ref a=>some a|_=>none:=wZ.mpr #[v,hv,by rw[z]];simp only[cq,fB];exact .inr (.inr (.inr (.inr this)))
 ·simp only[cq,fB] at hb;rcases hb with rfl|rfl|rfl|hb|hb
  ·exact m1
  ·exact m2
  ·exact m3
  ·exact m4 b hb
  let#[v,hv,e]:=wZ.mp hb;cases v with
  |ref a=>cases e;exact m5 _ hv _ Z
  |_=>cases e
 simp only[cq,fB] at hb;rcases hb with rfl|rfl|rfl|hb|hb
 ·exact#[_,h1,by intro vs z;cases z]
 ·exact#[_,h3,by intro vs z;cases z]
 ·exact#[_,h4,by intro vs z;cases z]
 ·exact h2.we hb
 let#[v,hv,e]:=wZ.mp hb;let#[i,hi,ev]:=mm hv;let le:=bP h5;let w:=gY h5 i hi Z1;rw[ev] at w;cases o:(qs[i]' Z1).2.2 with
 |none=>
  rw[o] at w;rw[show v=.non from w] at e;cases e
 |some ws=>
  rw[o] at w;let#[a,ys,ea,ha,_]:=w;rw[ea] at e;cases e;exact#[_,ha,by intro vs z;cases z]
section
variable{K:af}{CG CW:Addr}
theorem Ti{H:Hp}{R:Addr->Hp->Prop}{E:XK}{lh lt:Addr}{yh yt:ag}{hs:Xa}{ts:Xb}(G:Good hs ts)(h1:H lh\.lst yh)(h2:bF K H yh (hs.map kH))(h3:H lt\.lst yt)(h4:bF K H yt (ts.map kT))
  (k:∀p fp H',aa H H'->eV K CW H' p hs ts fp->(∀b∈fp,H b=none)->R p H'):∀x dx,H x=none->H dx=none->dx≠x->G0 K CW (.ref x::([.ref lh,.ref lt]++[])) (upd (upd H dx (.own x)) x (.ins CW dx [])) (λv H2=>v=.non/\R x H2) E:=by
 intro p dx hp vW ne;have s4:aa H (upd (upd H dx (.own p)) p (.ins CW dx [])):=(aa.new vW).trans (aa.new (by rw[az ne.symm];exact hp));apply#[p,dx,lh,lt,yh,yt,hs,ts,Z,ao,s4 _ _ h1,h2.same s4,s4 _ _ h3,h4.same s4,G,λbS H5 kp W fr=>#[Z,?_]];apply k p bS H5 (λb o e=>kp b o (s4 _ _ e) (bu e hp)) W λb hb=>?_;rcases fr b hb with rfl|z
 ·exact hp
 exact s4.free z
theorem Vp{H:Hp}{R:Addr->Hp->Prop}{E:XK}{p lp:Addr}{yp:ag}{hs:Xa}{ts:Xb}{ps:aL}{bS:ai}(W:eV K CW H p hs ts bS)(G:Good hs ts)(h1:H lp\.lst yp)(h2:tL K H yp ps)(gp:∀q∈ps,AY ts q)(nd:(ps.map (·.1)).Nodup)(len:ps.length<64)
  (k:∀g qs fp H',aa H H'->gf K CG CW H' g p hs ts qs fp->Qs ps qs->(∀b∈fp,b∈bS∨H b=none)->R g H'):∀x dx,H x=none->H dx=none->dx≠x->HS K CG CW (.ref x::([.ref p,.ref lp]++[])) (upd (upd H dx (.own x)) x (.ins CG dx [])) (λv H2=>v=.non/\R x H2) E:=by
 intro g dx hg vW ne;have s4:aa H (upd (upd H dx (.own g)) g (.ins CG dx [])):=(aa.new vW).trans (aa.new (by rw[az ne.symm];exact hg))
 have gw:g∉bS:=λm=>by
  let#[o,e]:=W.has m;rw[hg] at e;cases e
 apply#[g,dx,p,lp,yp,ps,hs,ts,bS,Z,ao,W.same s4,gw,G,s4 _ _ h1,Paired.bQ h2 λ_ _ q=>q.same s4,gp,nd,len,λqs fp H5 kp GA Qq fr=>#[Z,?_]];apply k g qs fp H5 (λb o e=>kp b o (s4 _ _ e) (bu e hg)) GA Qq λb hb=>?_;rcases fr b hb with rfl|z|z
 ·exact .inr hg
 ·exact .inl z
 exact .inr (s4.free z)
end
def jr:ae:=["least one high","least one fall","least one calm","least all high","least all fall","least all calm","below one high","below one fall","below one calm","below all high","below all fall","below all calm","shares one","shares all","turns high","turns fall","turns calm"]
theorem kC_:∀x∈jr,∃r∈rl,r.1=x:=by decide +kernel
structure Wo (K:af) (CG CW:Addr) (H:Hp) (g p d:Addr) (hs:Xa) (ts:Xb) (qs:aL) (fp:ai) (ns:ae) (f:aq):Prop where
 S:ug K CG CW H g p d hs ts qs fp ns f
 W:Wd hs ts qs f
 q30:qs.length<=30
 w1:∀q∈qs,1<=q.2.1
section
variable{P:Ad}{w:Af}{K:af}{mg:Str->Option Aa}{base:Heap}{CG CW:Addr}
theorem J2:bw [eF,"_law_some"] [eF] (aY rq):=bD
def qB:Sp:=λvs H Q _=>∃l:Addr,vs=[.ref l]/\cZ H l/\∀(r:Rl) (H':Hp),r∈rl->aN l H H'->cZ H' l->Q (.str r.1) H'
theorem jH_{f0:Addr}{fd:Ae}(F:bh K "_law_rule" "_law_rule" rq f0 fd)(cD:!bg 1 tR uH wQ):!ak a9 2 f0 fd [eF] qB:=by
 exists F.bG J2;let#[l,rfl,st,k]:=h;refine' #[_,ax ?s1 (ax ?s2 (ax ?s3 (aF ?s4))),?kk]
 case s1=>exact bx 1 J2.nd (bX %[bf,bf,bf,bf,bf,bf|0])
 case s2=>exact bx 1 J2.nd (bI pV (pv 1) (bX %[bf,bf,bf,bf,bf|0]))
 case s3=>exact bx 1 J2.nd (bI pV (pv 1) (bX %[bf,bf,bf,bf,bf,bf|0]))
 case s4=>exact aZ (bE fA (pv 1) (aR cD hr %[0,au|0]))
 apply#[zl,λa na=>?_];let#[s1,e1]:=bj (o:=.lst ((jr.take 6).map V.str)) na;show gN _ _ _ (upd H a (.lst ((jr.take 6).map V.str))) _;generalize upd H a (.lst ((jr.take 6).map V.str))=H1 at s1 e1 ⊢;lk;apply#[_,Z,zl,λb nb=>?_];let#[s2,e2]:=bj (o:=.lst (((jr.drop 6).take 5).map V.str)) nb;show oQ _ _ (upd H1 b (.lst (((jr.drop 6).take 5).map V.str))) _;generalize upd H1 b (.lst (((jr.drop 6).take 5).map V.str))=H2 at s2 e2 ⊢;apply#[a,b,_,_,Z,Z,s2 _ _ e1,e2,by decide +kernel,λc nc=>?_];let#[s3,e3]:=bj (o:=.lst ((jr.take 11).map V.str)) nc;show gN _ _ _ (upd H2 c (.lst ((jr.take 11).map V.str))) _;generalize upd H2 c (.lst ((jr.take 11).map V.str))=H3 at s3 e3 ⊢;lk;apply#[_,Z,zl,λb2 _n=>?_];let#[s4,e4]:=bj (o:=.lst ((jr.drop 11).map V.str)) _n;show oQ _ _ (upd H3 b2 (.lst ((jr.drop 11).map V.str))) _;generalize upd H3 b2 (.lst ((jr.drop 11).map V.str))=H4 at s4 e4 ⊢;apply#[c,b2,_,_,Z,Z,s4 _ _ e3,e4,by decide +kernel,λe ne=>?_];let#[s5,e5]:=bj (o:=.lst (jr.map V.str)) ne;show gN _ _ _ (upd H4 e (.lst (jr.map V.str))) _;generalize upd H4 e (.lst (jr.map V.str))=H5 at s5 e5 ⊢;lk;let Sl:=(((s1.trans s2).trans s3).trans s4).trans s5;have el:e≠l:=(((((st.same s1).same s2).same s3).same s4)).ne ne;apply#[_,Z,_,Z,l,17,Z,by decide,by decide,st.same Sl,λq H6 q0 q1 b6 gS=>?_]
 let#[v,hv,r,iG,rfl]:=FJ (p:=λv:V=>∃r∈rl,v=.str r.1) (xs:=jr.map V.str) (r:=q) (n:=17) Z q0 q1 (λv hv=>by
  let#[x,hx,rfl]:=bN.mp hv;let#[r,h1,h2]:=kC_ x hx;exact#[r,h1,by rw[h2]])
 exact#[e,_,_,_,Z,Z,.inl (.inl (b6 _ _ e5 el)),hv,k r H6 iG ((aN.of Sl).trans b6) gS]
end
end Ev
namespace Ev
open PySem L2
section
variable{P:Ad}{w:Af}{K:af}{mg:Str->Option Aa}{base:Heap}{CG CW:Addr}
abbrev X9:ae:=[eF,"_law_most_hands","_law_most_pieces","_law_hands","_law_ties","_law_pieces_here","_law_stand_here"]
theorem HD:bw X9 ue (aY kW):=bD
def mK(K:af)(CG CW:Addr):Sp:=λvs H Q _=>∃(l:Addr) (m:Nat),vs=[.ref l,.int 4,.int m]/\m<=30/\cZ H l/\∀(t g p d:Addr) (r:Rl) (hs:Xa) (ts:Xb) (qs:aL) (fp:ai) (ns:ae) (f:aq) (H':Hp),aN l H H'->cZ H' l->r∈rl->H' t\.tup [.ref g,.ref d,.str r.1]->Wo K CG CW H' g p d hs ts qs fp ns f->d≠l->l∉fp->H d=none->Q (.ref t) H'
theorem is_{f0:Addr}{fd:Ae}(F:bh K "_law_world" "_law_world" kW f0 fd)(cL:!bg 3 "_law_web" [eF,"_law_most"] (qE K))(cP:!bg 3 "_law_pieces" uc (Qa K))(cS:!bg 2 "_law_stand" ud (OW K))(cR:!bg 2 "_law_rule" [eF] qB)(cW:!gR CW 5 "Web" oB (G0 K CW))(cG:!gR CG 7 "Goods" oz (HS K CG CW)):!ak a9 9 f0 fd ue (mK K CG CW):=by
 exists F.bG HD;let#[l,m,rfl,My,st,k]:=h;let sz:=b_;refine' #[_,ax ?s1 (ax ?s2 (ax ?s3 (aF ?s4))),?kk]
 case s1=>exact Cp (aR cL hr %[0,1|0]) (o9 Z (dZ (cY 3 HD.nd) (dZ (cY 4 HD.nd) kq)))
 case s2=>exact bx 5 HD.nd (aR cP hr %[0,4,2|0])
 case s3=>exact bx 6 HD.nd (aR cS hr %[0,5,3|0])
 case s4=>exact aZ (bC %[AO cG hr %[AO cW hr %[3,4|0],5|0],6,aR cR hr %[0|0]|0])
 apply#[_,Z,_,Z,l,Z,st,λt0 lh lt yh yt hs ts H1 b1 fJ xX Jh BG nll o5 th dG tt Gd _=>?_];apply#[t0,_,Z,.of xX,Z,_,_,Z,_,_,Z,Z,?_];have BK:lh≠l:=st.ne Jh;have pI:lt≠l:=st.ne BG;apply#[_,Z,_,Z,_,Z,l,lt,m,yt,ts,Z,My,fJ,dG,tt,pI,Gd.vg,Gd.tok,Gd.R6,λlp yp ps H2 b2 dB xO BV pc gp nd pm _=>?_];lk;let#[XW,fY]:=fJ.some;let Fx:=b2 _ _ o5 BK;let Ng:=b2 _ _ dG pI;let R8:=jd th b2 fY;let Y2:=jd tt b2 fY;have Jk:lp≠l:=fJ.ne xO;let Xl:=b1.trans b2;apply#[_,Z,_,Z,_,Z,l,lp,lh,yp,yh,ps,hs,Z,dB,BV,Jk,pc,Fx,BK,R8,?_,?_,by omega,nd,λd f H3 b3 g_ SG ed fm=>?_]
 ·have:=Gd.h1;omega
 ·exact Gd.h8
 lk;let#[XR,j5]:=dB.some;let Nn:=b3 _ _ Fx BK;let Ft:=b3 _ _ Ng pI;let Nj:=b3 _ _ BV Jk;let Y3:=jd R8 b3 j5;let Y1:=jd Y2 b3 j5;let mi:=Xl.trans b3;have dl:d≠l:=dB.ne SG;have ZS:tL K H3 yp ps:=Paired.bQ pc λ_ _ q=>q.but b3 dB;let#[XQ,sT]:=g_.some;let _m:=Xl.free dB SG;apply#[_,Z,_,Z,Ti Gd Nn Y3 Ft Y1 (λp bS H5 s5 W fw=>#[_,Z,Vp W Gd (s5 _ _ Nj) (Paired.bQ ZS λ_ _ q=>q.same s5) gp nd Z1 (λg qs fp H6 s6 GA Qq fr=>?_)])];let vz:=s5.trans s6;let gS:=g_.same vz
 have lfp:l∉fp:=λm=>by
  rcases fr l m with z|z
  ·have:=fw l z;rw[sT] at this;cases this
  rw[s5 _ _ sT] at z;cases z
 have i7:d∉fp:=λm=>by
  rcases fr d m with z|z
  ·have:=fw d z;rw[ed] at this;cases this
  rw[s5 _ _ ed] at z;cases z
 apply#[_,Z,_,Z,l,Z,gS,λr H7 hr7 b7 mJ=>?_];apply#[zl,λt nt=>?_];let#[s8,e8]:=bj (o:=.tup [.ref g,.ref d,.str r.1]) nt;generalize upd H7 t (.tup [.ref g,.ref d,.str r.1])=H8 at s8 e8 ⊢;let#[RB,FA]:=gS.some;let G7:=GA.keep (λc hc o e=>b7 _ _ e (λz=>lfp (z▸hc))) λc zs e=>b7 _ _ e (cy e FA nofun);let#[j6,G8,sub,has]:=(G7.same s8).we;let ed8:=s8 _ _ (b7 _ _ (vz _ _ ed) dl)
 have Ss:(ps.map (·.1)).Perm (qs.map (·.1)):=by
  rw[Qq.EC];exact (yM _).symm
 let ql:=Qq.len;have b08:aN l H H8:=((mi.trans (aN.of vz)).trans b7).trans (aN.of s8)
 have Lk:∀q∈qs,1<=q.2.1/\q.2.1<=1000000000:=λq hq=>by
  let#[q',hq',rfl]:=Qq.mem q hq;exact#[(gp q' hq').w1,(gp q' hq').w2]
 exact k t g p d r hs ts qs j6 (ps.map (·.1)) f H8 b08 (mJ.same s8) hr7 e8 #[#[G8,λz=>i7 (sub _ z),ed8,#[Ss,fm],has],#[Gd,Qq.nd nd,by omega,λn hn=>fm n (Ss.mem_iff.mpr hn),λq hq=>#[by have:=(Lk q hq).1;omega,(Lk q hq).2]],by omega,λq hq=>(Lk q hq).1] dl (λz=>lfp (sub _ z)) _m
end
end Ev
namespace Ev
open PySem L2
theorem i8_{α:Type}{xs:List α}(h:0<xs.length):eO xs (-1)=xs[xs.length - 1]?:=by
 unfold eO uv;rw[aE (by decide),aJ Z1];show xs[((xs.length:Int) + -1).toNat]? = _;congr 1;omega
section
variable{P:Ad}{w:Af}{K:af}{mg:Str->Option Aa}{base:Heap}{CG CW T1 T2:Addr}
abbrev Yf:ae:=["_law_goods","_law_stand_here","_law_rule_here","_law_many","_law_stands","_law_now","_law_piece","_law_one","_law_other"]
theorem CH:bw Yf uf (aY OU):=bD
inductive PM (K:af) (CG CW T1 T2:Addr) (vs:ag) (H:Hp) (Q:VK) (E:XK):Prop
 |mk:∀(g p d:Addr) (many:Nat) (hs:Xa) (ts:Xb) (qs:aL) (fp:ai) (ns:ae) (f:aq),∀r∈rl,vs=[.ref g,.ref d,.str r.1,.int many]->many<=3000->Wo K CG CW H g p d hs ts qs fp ns f->Tb H T1 T2->(∀(ls:Addr) (ds:ai) (n:Nat) (H':Hp),BT T1 T2 H H'->Tb H' T1 T2->H ls=none->H' ls\.lst (ds.map V.ref)->ds.length=n+1->n<=many->(∀(j:Nat) (a:Addr),ds[j]? = some a->H a=none/\a≠ls/\H' a\.dK (dk ns (runM r hs ts qs f j)))->(∀j:Nat,j<n->eN r hs ts qs (runM r hs ts qs f j)=false)->(n=many∨eN r hs ts qs (runM r hs ts qs f n)=true)->Q (.ref ls) H')->PM K CG CW T1 T2 vs H Q E
theorem gM_{f0:Addr}{fd:Ae}(F:bh K "_law_walked" "_law_walked" OU f0 fd)(B:Bi mg)(yH:!bg 10 "at_rest" uE (Pg K CG CW T1 T2))(QQ:!bg 9 "moves_of" ua (PH K CG CW T1 T2)):!ak a9 11 f0 fd uf (PM K CG CW T1 T2):=by
 apply F.ok CH (λvs H Q E h=>?_) (λaM A outer s H vs Q E hr h=>?_)
 ·let#[g,p,d,m,hs,ts,qs,fp,ns,f,r,dg,rfl,_]:=h;rfl
 let#[g,p,d,many,hs,ts,qs,fp,ns,f,r,dg,rfl,m3,O,tb,k]:=h;let sz:=b_;let hu:=fZ hr;refine' ⟨_,ax ?s1 ?r1,?kk⟩
 case s1=>exact bx 4 CH.nd (bX %[iP Ql (by rfl) B.dict uJ %[1|0]|0])
 case' r1=>refine' ax ?s2 (aF (aZ (pv 4)))
 case' s2=>refine' Vg eh (PW.pt (Cn ?w1 (Hd ?w2))) (ax ?b1 (ax ?b2 (aF ?b3)))
 case w1=>exact dm o7 (cu gZ (by rfl) B.len gz %[4|0]) (pv 3)
 case w2=>exact eQ (dR (aR yH hr %[0,bE fA (pv 4) (AX A9 au),2|0]))
 case b1=>exact bx 5 CH.nd (iP Ql (by rfl) B.dict uJ %[bE fA (pv 4) (AX A9 au)|0])
 case b2=>exact eR eh Z (dO (aR QQ hr %[0,5,2,bI Hb (cu gZ (by rfl) B.len gz %[4|0]) au|0])) (o9 Z (dZ (cY 6 CH.nd) (dZ (cY 7 CH.nd) (dZ (cY 8 CH.nd) kq)))) (aF (wM hu (pv 5) (pv 6) (pv 8) Z))
 case b3=>exact iq (iJ i_ tT tU p0 (pv 4) %[5|0])
 let S:=O.S;let pm:=S.so.perm;apply#[_,Z,d,_,Z,.inl S.hd,λd0 n0=>?_];let#[s1,e1]:=bj (o:=.dK (dk ns f)) n0;show _/\_;generalize upd H d0 (.dK (dk ns f))=H1 at s1 e1 ⊢;apply#[zl,λls zM=>?_];let s2:=aa.new (o:=.lst [.ref d0]) zM;have VG:upd H1 ls (.lst [.ref d0]) ls\.lst ([d0].map V.ref):=ao;let e2:=s2 _ _ e1;have d0l:d0≠ls:=bu e1 zM;show gN _ _ _ (upd H1 ls (.lst [.ref d0])) _;generalize upd H1 ls (.lst [.ref d0])=H2 at s2 VG e2 ⊢;lk;let gm:=s1.trans s2;let SB:=s1.free zM;have fo:Tb H2 T1 T2:=#[tb.a.same gm,tb.b.same gm,tb.ne]
 have SD:∀{G:Hp} {dp:Addr} {i:Nat},NT H G->H dp=none->G dp\.dK (dk ns (runM r hs ts qs f i))->ug K CG CW G g p dp hs ts qs fp ns (runM r hs ts qs f i):=λ{G dp i} nt nd e=>by
  apply#[S.G.nt nt,λm=>?_,e,#[pm,λn hn=>(O.W.run r i).at_ n (pm.mem_iff.mp hn)],λb hb=>?_]
  ·let#[o,e',_]:=S.has _ m;rw[nd] at e';cases e'
  let#[o,e,q]:=S.has b hb;exact#[o,nt _ _ e q,q]
 have last:∀{ds:ai} {n:Nat} {dp:Addr},ds.length=n+1->ds[n]? = some dp->eO (ds.map V.ref) (-1)\.ref dp:=λ{ds n dp} ld e=>by
  rw[i8_ (by rw[ay];omega),ay,ld,Nat.add_sub_cancel,dQ,e];rfl
 apply#[λm σ H'=>∃(i:Nat) (v5 v6 v7 v8:aI) (ds:ai),m=many+1 - i/\i<=many/\σ=[some (.ref g),some (.ref d),some (.str r.1),some (.int many),some (.ref ls),v5,v6,v7,v8]/\BT T1 T2 H H'/\Tb H' T1 T2/\H' ls\.lst (ds.map V.ref)/\ds.length=i+1/\(∀(j:Nat) (a:Addr),ds[j]? = some a->H a=none/\a≠ls/\H' a\.dK (dk ns (runM r hs ts qs f j)))/\∀j:Nat,j<i->eN r hs ts qs (runM r hs ts qs f j)=false,#[many+1,0,none,none,none,none,[d0],Z,by omega,Z,BT.of gm,fo,VG,Z,λj a e=>?_,by omega],?_]
 ·match j,e with
  |0,e=>cases e;exact#[n0,d0l,e2]
 rintro m σ H3 ⟨i,v5,v6,v7,v8,ds,rfl,im,rfl,b3,d_,el,ld,da,no⟩;obtain⟨dp,AV⟩:∃dp,ds[i]? = some dp:=#[_,cg Z1];let#[nd,dl,ed]:=da i dp AV;have out:eN r hs ts qs (runM r hs ts qs f i)=true∨i=many->∀H4,BT T1 T2 H H4->Tb H4 T1 T2->NT H3 H4->Q (.ref ls) H4:=λc H4 b4 fX iW=>k ls ds i H4 b4 fX SB (iW.lst el) ld im (λj a e=>#[(da j a e).1,(da j a e).2.1,iW.dK (da j a e).2.2]) no c.symm;apply#[_,Z,ls,_,Z,.inl (.of el),_,Z,_,_,Z,Z,_,Z,?_];apply a_ (λc=>?_) (λc=>?_);rotate_left 1
 ·have c:¬((ds.map V.ref).length:Int)<=(many:Int):=⇑c
  rw[ay] at c;exact aO #[_,Z,out (.inr Z1) H3 b3 d_ (NT.refl _)]
 have c:((ds.map V.ref).length:Int)<=(many:Int):=⇑c
 rw[ay] at c;apply#[_,Z,_,Z,1,Z,ls,_,_,.ref dp,Z,Z,.inl (.inl el),last ld AV,_,Z,?_];apply#[g,p,dp,hs,ts,qs,fp,ns,_,r,dg,Z,SD (b3.nt tb) nd ed,O.W.run r i,d_,λH4 b4 fX=>?_];let pZ:=b3.trans b4;let iW:=b4.nt d_;apply#[_,Z,a_ (λc=>?_) (λc=>?_)];rotate_left 1
 ·have c:eN r hs ts qs (runM r hs ts qs f i)=true:=⇑c
  exact#[_,Z,out (.inl c) H4 pZ fX iW]
 have cr:eN r hs ts qs (runM r hs ts qs f i)=false:=⇑c
 clear out;apply#[_,λbq H' h=>h,?_];let AR:=iW.lst el;let wk:=iW.dK ed;apply#[_,Z,1,Z,ls,_,_,.ref dp,Z,Z,.inl (.inl AR),last ld AV,dp,_,Z,.inl wk,λdn vJ=>?_];let#[s5,e5]:=bj (o:=.dK (dk ns (runM r hs ts qs f i))) vJ;show gN _ _ _ (upd H4 dn (.dK (dk ns (runM r hs ts qs f i)))) _;generalize upd H4 dn (.dK (dk ns (runM r hs ts qs f i)))=H5 at s5 e5 ⊢;lk;let Xk:=pZ.trans (BT.of s5);have qg:Tb H5 T1 T2:=#[fX.a.same s5,fX.b.same s5,fX.ne];have Ex:NT H3 H5:=iW.trans (NT.of s5);let el5:=Ex.lst el
 have nn:H dn=none:=by
  cases z:H dn with
  |none=>rfl
  |some o=>
   by_cases y1:dn=T1
   ·let#[tv,hT]:=fj fX.a;rw[y1,hT] at vJ;cases vJ
   by_cases y2:dn=T2
   ·let#[tv,hT]:=fj fX.b;rw[y2,hT] at vJ;cases vJ
   rw[pZ _ _ z y1 y2] at vJ;cases vJ
 have Py:dn≠ls:=(bu AR vJ).symm;have dnp:∀{j:Nat} {a:Addr},ds[j]? = some a->a≠dn:=λ{j a} e=>bu (iW.dK (da j a e).2.2) vJ;apply#[_,Z,_,Z,_,Z,_,Z,ls,_,Z,.inl (.of el5),_,_,Z,Z,?_];rw[show ((ds.map V.ref).length:Int) - 1=(i:Int) by rw[ay];omega];apply#[g,p,dn,(i:Int),hs,ts,qs,fp,ns,_,r,dg,Z,by omega,SD (Xk.nt tb) nn e5,O.W.run r i,qg,λl ys H6 b6 BB nl hl tu=>?_];let b06:=Xk.trans b6;let vG:=b6.nt qg;let Ew:=Ex.trans vG;let e6:=vG.dK e5;let el6:=Ew.lst el;have ldn:l≠dn:=cy hl e6 nofun;let ly:=bP tu;rw[ay] at ly
 have n64:ns.length<64:=by
  have:=pm.length_eq;rw[ay] at this;have:=O.W.bU;omega
 apply#[l,Z,#[_,.of hl],gQ (K:=K) (a:=l) (xs:=ys) (λj σ H'=>∃v6 v7 v8:aI,σ=[some (.ref g),some (.ref d),some (.str r.1),some (.int many),some (.ref ls),some (.ref dn),v6,v7,v8]/\aN dn H6 H'/\H' dn\.dK (dk ns (jG (runM r hs ts qs f i) ((oV r hs ts qs (runM r hs ts qs f i) i).take j)))) #[v6,v7,v8,Z,aN.refl _ _,e6] (λj σ H' _ ⟨_,_,_,_,b,_⟩=>.of (b _ _ hl ldn)) ?_ ?_]
 ·rintro j y σ H' hy ⟨v6,v7,v8,rfl,b',e'⟩;let#[x,hx,C5,rfl,vO]:=ou tu hy;let vO:=TQ vO;have Ls:C5≠dn:=cy vO e6 nofun;apply#[C5,_,Z,.of (b' _ _ vO Ls),Z,_,_,Z,_,_,Z,_,_,Z,Z,?_];dsimp only;apply#[_,Z,_,Z,_,Z,dn,_,Z,.k (k:=Sum.inr x.1) e' (by rw[kg];omega),?_];apply#[_,_,_,Z,b'.trans aN.upd,?_];rw[ao,Vh (pm.mem_iff.mpr (N8 (O.W.run r i) r i x (dC hx)).1),Wy hx,VB]
 rintro σ H7 ⟨v6,v7,v8,rfl,b',e'⟩;rw[ly,eX] at e';have e':H7 dn\.dK (dk ns (runM r hs ts qs f (i+1))):=e';have kT:∀{T qn},cU H6 T qn->cU H7 T qn:=λ⟨es,a1,a2⟩=>#[es,b' _ _ a1 (λz=>by rw[z,e6] at a1;cases a1),λx hx=>b' _ _ (a2 x hx) (λz=>by have:=a2 x hx;rw[z,e6] at this;cases this)];have uZ:Tb H7 T1 T2:=#[kT BB.a,kT BB.b,BB.ne];let JT:=b' _ _ el6 Py.symm;have b07:BT T1 T2 H H7:=λb o e y1 y2=>b' _ _ (b06 b o e y1 y2) (bu e nn);apply#[_,Z,.inl #[Z,#[_,.of JT]],_,Z,ls,_,_,Z,Z,JT,by rw[ay];omega,?_];have b8:aN ls H7 (upd H7 ls (.lst (ds.map V.ref++[.ref dn]))):=aN.upd
 have e8:upd H7 ls (.lst (ds.map V.ref++[.ref dn])) ls\.lst ((ds++[dn]).map V.ref):=by
  rw[ao,dD];rfl
 generalize upd H7 ls (.lst (ds.map V.ref++[.ref dn]))=H8 at b8 e8 ⊢;have SW:∀{T qn},cU H7 T qn->cU H8 T qn:=λ⟨es,a1,a2⟩=>#[es,b8 _ _ a1 (λz=>by rw[z,JT] at a1;cases a1),λx hx=>b8 _ _ (a2 x hx) (λz=>by have:=a2 x hx;rw[z,JT] at this;cases this)];apply#[many+1 - (i+1),by omega,i+1,_,_,_,_,ds++[dn],Z,by omega,Z,λb o e y1 y2=>b8 _ _ (b07 b o e y1 y2) (bu e SB),#[SW uZ.a,SW uZ.b,uZ.ne],e8,by rw[dW,ld];rfl,λj a e=>?_,λj hj=>?_]
 ·by_cases z:j<ds.length
  ·rw[yT z] at e;let#[x1,x2,x3]:=da j a e;exact#[x1,x2,b8 _ _ (b' _ _ (Ew.dK x3) (dnp e)) x2]
  rw[xa Z1] at e
  have ej:j=i+1:=by
   have:=(cw.mp e).1;simp only[yS] at this;omega
  subst ej;rw[ld,Nat.sub_self] at e;cases e;exact#[nn,Py,b8 _ _ e' Py]
 by_cases z:j<i
 ·exact no j z
 obtain rfl:j=i:=by omega
 exact cr
end
end Ev
namespace Ev
open PySem L2
section v
theorem xA:bw [eF,"_law_some"] [eF] (aY zB):=bD
def xx(K:af):Sp:=λvs H Q _=>∃l:Addr,vs=[.ref l]/\cZ H l/\∀v H',aN l H H'->cZ H' l->gr K H' v false->(∀a,v=.ref a->a≠l/\H a=none)->Q v H'
theorem kV_{f0:Addr}{fd:Ae}(F:bh K "_law_odd" "_law_odd" zB f0 fd)(cD:!bg 1 tR uH wQ):!ak a9 2 f0 fd [eF] (xx K):=by
 exists F.ok xA (λvs H Q E h=>by let#[l,rfl,_]:=h;rfl)
 let#[l,rfl,st,k]:=h
 refine' #[_,?r0,?kk]
 case' r0=>refine' ax ?s1 ?r1
 case r1=>exact aF (aZ (bE fA (pv 1) (aR cD hr %[0,au|0])))
 case' s1=>with_reducible refine' bx 1 ?n (bX ?t) ?o ?p ?q ?r
 case n=>exact xA.nd
 case o=>rfl
 case p=>exact .inl Z
 case q=>rfl
 case r=>first|exact .inl Z|exact .inr Z
 case' t=>with_reducible refine' L2.eE ?a ?t0 ?z0
 case z0=>rfl
 case a=>exact ke
 case' t0=>with_reducible refine' L2.eE ?b ?t1 ?z1
 case z1=>rfl
 case b=>exact ke
 case' t1=>with_reducible refine' L2.eE ?c ?t2 ?z2
 case z2=>rfl
 case c=>exact pU
 case' t2=>with_reducible refine' L2.eE ?d ?t3 ?z3
 case z3=>rfl
 case d=>exact bf
 case' t3=>with_reducible refine' L2.eE ?e ?t4 ?z4
 case z4=>rfl
 case e=>exact bf
 case' t4=>with_reducible refine' L2.eE ?f ?t5 ?z5
 case z5=>rfl
 case f=>exact bX %[au|0]
 case' t5=>with_reducible refine' L2.eE ?g ?t6 ?z6
 case z6=>rfl
 case g=>exact bC %[au|0]
 case' t6=>with_reducible refine' L2.eE ?h ?t7 ?z7
 case z7=>rfl
 case h=>exact Bf
 case' t7=>with_reducible refine' L2.eE ?i ?t8 ?z8
 case z8=>rfl
 case i=>exact bX aK
 case' t8=>with_reducible refine' L2.eE ?j ?t9 ?z9
 case z9=>rfl
 case j=>exact bC aK
 case t9=>exact aK
 apply#[zl,λa1 m1=>?_];let#[s1,e1]:=bj (o:=.lst [.int 1]) m1;generalize upd H a1 (.lst [.int 1])=H1 at s1 e1 ⊢;apply#[zl,λa2 m2=>?_];let#[s2,e2]:=bj (o:=.tup [.int 1]) m2;generalize upd H1 a2 (.tup [.int 1])=H2 at s2 e2 ⊢;intro a3 m3;let#[s3,e3]:=bj (o:=.dK []) m3;show _/\_;generalize upd H2 a3 (.dK [])=H3 at s3 e3 ⊢;apply#[zl,λa4 m4=>?_];let#[s4,e4]:=bj (o:=.lst []) m4;show _/\_;generalize upd H3 a4 (.lst [])=H4 at s4 e4 ⊢;apply#[zl,λa5 m5=>?_];let#[s5,e5]:=bj (o:=.tup []) m5;show _/\_;generalize upd H4 a5 (.tup [])=H5 at s5 e5 ⊢;apply#[by show 10<=sizeLine;decide,λlo Sz=>?_];let#[s6,e6]:=bj (o:=.lst [.bl true,.bl false,.non,.str "1",.str "",.ref a1,.ref a2,.ref a3,.ref a4,.ref a5]) Sz;show gN _ _ _ (upd H5 lo (.lst [.bl true,.bl false,.non,.str "1",.str "",.ref a1,.ref a2,.ref a3,.ref a4,.ref a5])) _;generalize upd H5 lo (.lst [.bl true,.bl false,.non,.str "1",.str "",.ref a1,.ref a2,.ref a3,.ref a4,.ref a5])=H6 at s6 e6 ⊢;lk;let c5:=s6 _ _ e5;let c4:=s6 _ _ (s5 _ _ e4);let c3:=s6 _ _ (s5 _ _ (s4 _ _ e3));let c2:=s6 _ _ (s5 _ _ (s4 _ _ (s3 _ _ e2)));let c1:=s6 _ _ (s5 _ _ (s4 _ _ (s3 _ _ (s2 _ _ e1))));let fJ:=st.same s1;let dB:=fJ.same s2;let g_:=dB.same s3;let fq:=g_.same s4;let gT:=fq.same s5;let gS:=gT.same s6;let Zx:=((((s1.trans s2).trans s3).trans s4).trans s5).trans s6;apply#[_,Z,_,Z,l,10,Z,by decide,by decide,gS,λq H7 q0 q1 b7 mJ=>?_];let#[RB,FA]:=gS.some;have kp:∀{a:Addr} {o:HO},H6 a\o->a≠l->H7 a\o:=λe n=>b7 _ _ e n;have n1:a1≠l:=st.ne m1;have n2:a2≠l:=fJ.ne m2;have n3:a3≠l:=dB.ne m3;have n4:a4≠l:=g_.ne m4;have n5:a5≠l:=fq.ne m5;let f2:=s1.free m2;let f3:=(s1.trans s2).free m3;let f4:=((s1.trans s2).trans s3).free m4;let f5:=(((s1.trans s2).trans s3).trans s4).free m5
 let#[v,hv,w1,w2]:=FJ (p:=λv:V=>gr K H7 v false/\∀a,v=.ref a->a≠l/\H a=none) (xs:=[V.bl true,.bl false,.non,.str "1",.str "",.ref a1,.ref a2,.ref a3,.ref a4,.ref a5]) (r:=q) (n:=10) Z q0 q1 (λv hv=>by
  simp only[cq,List.not_mem_nil,or_false] at hv;rcases hv with rfl|rfl|rfl|rfl|rfl|rfl|rfl|rfl|rfl|rfl
  ·exact#[.inr #[Z,.inl #[_,Z]],λa z=>by cases z]
  ·exact#[.inr #[Z,.inl #[_,Z]],λa z=>by cases z]
  ·exact#[.inr #[Z,.inr #[_,.non,Z]],λa z=>by cases z]
  ·exact#[.inr #[Z,.inr #[_,.str _,Z]],λa z=>by cases z]
  ·exact#[.inr #[Z,.inr #[_,.str _,Z]],λa z=>by cases z]
  ·exact#[.inr #[Z,.inr #[_,.lst (kp c1 n1),Z]],λa z=>by cases z;exact#[n1,m1]]
  ·exact#[.inr #[Z,.inr #[_,.tup (kp c2 n2),Z]],λa z=>by cases z;exact#[n2,f2]]
  ·exact#[.inr #[Z,.inr #[_,.dK (kp c3 n3),Z]],λa z=>by cases z;exact#[n3,f3]]
  ·exact#[.inr #[Z,.inr #[_,.lst (kp c4 n4),Z]],λa z=>by cases z;exact#[n4,f4]]
  exact#[.inr #[Z,.inr #[_,.tup (kp c5 n5),Z]],λa z=>by cases z;exact#[n5,f5]])
 exact#[lo,_,_,v,Z,Z,.inl (.inl (kp e6 (gT.ne Sz))),hv,k v H7 ((aN.of Zx).trans b7) mJ w1 w2]
end
end Ev
namespace Ev
open PySem L2
def fL(K:af)(H:Hp)(v:V):Prop:=yu K H v false/\Ce K H v false
section
variable{K:af}{H H':Hp}{v:V}{a:Addr}
theorem fL.nt(h:fL K H v)(s:NT H H'):fL K H' v:=#[h.1.nt s,h.2.nt s]
theorem fL.same(h:fL K H v)(s:aa H H'):fL K H' v:=h.nt (NT.of s)
theorem yx(h:fI K H v "tuple"):fL K H v:=#[.inl #[Z,.inl #[Z,h]],.inl #[Z,.inl #[Z,h]]]
theorem Bc{xs:ag}{x:Str}{n:Nat}(h:H a\.tup xs)(l:xs.length≠n):iU K H (.ref a) x n false:=.inr #[a,xs,Z,h,.inl #[Z,l]]
theorem Vb{y z:Str}{r:ag}{n:Nat}(h:H a\.tup (.str y::r))(ne:y≠z)(l:r.length+1=n):iU K H (.ref a) z n false:=.inr #[a,_,Z,h,.inr #[l,_,_,Z,.inl #[y,Z,(dM ne).symm]]]
theorem S9{y:V}{z:Str}{r:ag}{n:Nat}(h:H a\.tup (y::r))(ne:fI K H y "str")(l:r.length+1=n):iU K H (.ref a) z n false:=.inr #[a,_,Z,h,.inr #[l,_,_,Z,.inr #[Z,ne]]]
theorem JG{xs:ag}(h:H a\.tup xs)(l2:xs.length≠2)(l3:xs.length≠3):fL K H (.ref a):=#[.inl #[Z,Bc h l2],.inl #[Z,Bc h l3]]
theorem Ba{y z:V}(h:H a\.tup [y,z])(n:(∃x,y=.str x/\x≠"rest")∨fI K H y "str"):fL K H (.ref a):=#[.inl #[Z,n.elim (λ⟨x,e,ne⟩=>by subst e;exact Vb h ne Z) λn=>S9 h n Z],.inl #[Z,Bc h Z2]]
theorem OF{z:V}(h:H a\.tup [.str "rest",z])(n:fI K H z "list"):fL K H (.ref a):=#[.inr #[a,z,Z,h,.inl #[Z,n]],.inl #[Z,Bc h Z2]]
theorem kb_{l:Addr}{ys:ag}{bs:List Bool}(h:H a\.tup [.str "rest",.ref l])(hl:H l\.lst ys)(p:Paired (gr K H) ys bs)(l1:ys.length<=100000)(n:ys.length=0∨3001<ys.length∨false∈bs):fL K H (.ref a):=by
 apply#[.inr #[a,_,Z,h,.inr #[l,ys,bs,Z,hl,p,l1,?_]],.inl #[Z,Bc h Z2]];rcases n with n|n|n
 ·rw[n];rfl
 ·rw[dM (show ¬ys.length<=3001 by omega),tV];rfl
 rw[show bs.all id=false from List.all_eq_false.mpr #[false,n,by simp],tV]
theorem V3{y z u:V}(h:H a\.tup [y,z,u])(n:(∃x,y=.str x/\x≠"ring")∨fI K H y "str"):fL K H (.ref a):=#[.inl #[Z,Bc h Z2],.inl #[Z,n.elim (λ⟨x,e,ne⟩=>by subst e;exact Vb h ne Z) λn=>S9 h n Z]]
theorem kn{z u:V}(h:H a\.tup [.str "ring",z,u])(n:uU K H z 0 false∨(uU K H z 0 true/\uU K H u 1 false)∨∃i j:Int,z=.int i/\u=.int j/\0<=i/\1<=j/\3000<i+j):fL K H (.ref a):=by
 apply#[.inl #[Z,Bc h Z2],.inr #[a,z,u,Z,h,?_]];rcases n with n|⟨n1,n2⟩|⟨i,j,e1,e2,i0,j0,ij⟩
 ·exact .inl #[Z,n]
 ·exact .inr (.inl #[n1,Z,n2])
 exact .inr (.inr #[i,j,e1,e2,i0,j0,(dM Z1).symm])
end
end Ev
namespace Ev
open PySem L2
def del(H:Hp)(q:Addr):Hp:=λb=>if b=q then none else H b
theorem tE{H:Hp}{q:Addr}:aa (del H q) H:=λb o e=>by
 unfold del at e;split at e
 ·cases e
 exact e
theorem ku_{H H':Hp}{q:Addr}(h:aN q H H'):aa (del H q) (del H' q):=λb o e=>by
 unfold del at e ⊢;split at e
 ·cases e
 rename_i c
 rw[aE c];exact h b o e c
theorem J7{H H':Hp}{q:Addr}(s:aa H H')(n:H q=none):aa H (del H' q):=λb o e=>by
 unfold del;rw[aE (λz=>by rw[z,n] at e;cases e)];exact s b o e
def Gx(σ:St)(H:Hp)(t:TE)(R:Hp->V->Prop):Prop:=∀(H':Hp) (Q:VK),aa H H'->(∀v H2,aa H' H2->R H2 v->Q v H2)->t σ H' Q
def Gt(σ:St)(H:Hp)(t:TA)(R:Hp->ag->Prop):Prop:=∀(H':Hp) (Q:ag->Hp->Prop),aa H H'->(∀v H2,aa H' H2->R H2 v->Q v H2)->t σ H' Q
def uh(K:af)(H:Hp)(v:V):Prop:=∃(l:Addr) (ys:ag) (bs:List Bool),v=.ref l/\H l\.lst ys/\Paired (gr K H) ys bs/\ys.length<=100000/\(ys.length=0∨3001<ys.length∨false∈bs)
def Pq(K:af)(n:Nat)(H0 H:Hp)(lf:Addr):Prop:=aa H0 H/\H0 lf=none/\∃xs,H lf\.lst xs/\xs.length<=n/\∀v∈xs,fL K (del H lf) v
section
variable{K:af}{σ:St}{H H0 H':Hp}{R:Hp->V->Prop}{v c:V}{vs ws:ag}{ts:TA}{t:TE}{i n m:Nat}{lf:Addr}{D:Ends}{u:TS}
theorem AB(r:∀H',aa H H'->R H' v):Gx σ H (tC v) R:=λH' Q s k=>k v H' (aa.refl _) (r H' s)
theorem N4(h:σ[i]? = some (some v))(r:∀H',aa H H'->R H' v):Gx σ H (g8 i) R:=λH' Q s k=>#[v,h,k v H' (aa.refl _) (r H' s)]
theorem bR:Gx σ H (tC v) (λ_ x=>x=v):=AB λ_ _=>rfl
theorem AA(h:σ[i]? = some (some v)):Gx σ H (g8 i) (λ_ x=>x=v):=N4 h λ_ _=>rfl
theorem N5{j:Int}:Gx σ H (R9 (rU λi=>.int (-i)) (tC (.int j))) (λ_ x=>x=.int (-j)):=λH' Q s k=>#[_,Z,k _ _ (aa.refl _) Z]
theorem UI:Gx σ H (xm (rI IC λi j=>.int (i ^ j.toNat)) (tC (.int 10)) (tC (.int 19))) (λ_ x=>x=.int (10 ^ 19)):=λH' Q s k=>#[_,_,Z,Z,#[by decide,by decide,by decide],k _ _ (aa.refl _) Z]
theorem eS:Gt σ H gi (λ_ x=>x=[]):=λH' Q s k=>k [] H' (aa.refl _) Z
theorem bJ(h:Gx σ H t λ_ x=>x=c)(h2:Gt σ H ts λ_ x=>x=ws):Gt σ H (pN t ts) (λ_ x=>x=c::ws):=λH' Q s k=>h H' _ s λv H2 s2 e=>h2 H2 _ (s.trans s2) λvs H3 s3 e2=>k _ H3 (s2.trans s3) (by rw[e,e2])
theorem fS(h:Gt σ H ts λ_ x=>x=ws)(l:ws.length<=10)(k:∀H2 q,aa H H2->H2 q\.tup ws->fL K H2 (.ref q)):Gx σ H (oN ts) (fL K):=λH' Q s kk=>h H' _ s λvs H2 s2 e=>by
 subst e;let sz:=b_;exact#[by omega,λq hq=>kk _ _ (s2.trans (aa.new hq)) (k _ _ ((s.trans s2).trans (aa.new hq)) ao)]
theorem tw(h:Gt σ H ts λ_ x=>x=ws)(l:ws.length<=10):Gx σ H (qr ts) (fL K):=λH' Q s kk=>h H' _ s λvs H2 s2 e=>by
 subst e;let sz:=b_;exact#[by omega,λq hq=>kk _ _ (s2.trans (aa.new hq)) (yx #[_,.lst ao,Z])]
theorem N9(h:Gx σ H t λH v=>fI K H v "list"):Gx σ H (oN (pN (tC (.str "rest")) (pN t gi))) (fL K):=λH' Q s kk=>h H' _ s λv H2 s2 e=>#[zl,λq hq=>kk _ _ (s2.trans (aa.new hq)) (OF ao (e.nt (NT.of (aa.new hq))))]
theorem tq(h:Gx σ H t (uh K)):Gx σ H (oN (pN (tC (.str "rest")) (pN t gi))) (fL K):=λH' Q s kk=>h H' _ s λv H2 s2 ⟨l,ys,bs,e,hl,p,l1,b⟩=>by
 subst e;exact#[zl,λq hq=>kk _ _ (s2.trans (aa.new hq)) (kb_ ao ((aa.new hq) _ _ hl) (Paired.bQ p λ_ _ h=>h.nt (NT.of (aa.new hq))) l1 b)]
theorem yo:Gt σ H gi (λH vs=>vs.length=0/\∀v∈vs,fL K H v):=λH' Q s k=>k [] H' (aa.refl _) #[Z,λv h=>by cases h]
theorem dj(h:Gx σ H t (fL K))(h2:Gt σ H ts λH vs=>vs.length=m/\∀v∈vs,fL K H v):Gt σ H (pN t ts) (λH vs=>vs.length=m+1/\∀v∈vs,fL K H v):=λH' Q s k=>h H' _ s λv H2 s2 e=>h2 H2 _ (s.trans s2) λvs H3 s3 ⟨l,e2⟩=>k _ H3 (s2.trans s3) #[by simp[l],λx hx=>by
 rcases cq.mp hx with rfl|hx
 ·exact e.same s3
 exact e2 x hx]
theorem Os(h:Gt σ H0 ts λH vs=>vs.length=m/\∀v∈vs,fL K H v)(hm:m<=100)(k:∀lf H,Pq K m H0 H lf->u D (σ.set i (some (.ref lf))) H):iy (qw (qr ts) (gN i)) u D σ H0:=h H0 _ (aa.refl _) λvs H2 s2 ⟨l,e⟩=>by
 let sz:=b_;exact#[by omega,λq hq=>k _ _ #[s2.trans (aa.new hq),s2.free hq,vs,ao,by omega,λv hv=>(e v hv).same (J7 (aa.new hq) hq)]]
theorem GM{Q:VK}(hi:σ[i]? = some (some (.ref lf)))(P:Pq K n H0 H lf)(h:Gt σ H0 ts λH vs=>vs.length=m/\∀v∈vs,fL K H v)(hm:n+m<=100)(k:∀lf H,Pq K (n+m) H0 H lf->Q (.ref lf) H):xm oQ (g8 i) (qr ts) σ H Q:=by
 let#[s,n0,xs,e,l,al]:=P;let sz:=b_;apply#[_,hi,h H _ s λvs H2 s2 ⟨l2,al2⟩=>#[by omega,λq hq=>?_]];let s3:=s2.trans (aa.new (o:=.lst vs) hq);apply#[lf,q,xs,vs,Z,Z,s3 _ _ e,ao,by omega,λr hr=>?_];apply k _ _ #[(s.trans s3).trans (aa.new hr),(s.trans s3).free hr,_,ao,by rw[dW];omega,λv hv=>?_];rcases fB.mp hv with hv|hv
 ·exact (al v hv).same ((tE.trans s3).trans (J7 (aa.new hr) hr))
 exact (al2 v hv).same ((aa.new hq).trans (J7 (aa.new hr) hr))
theorem Cb(hi:σ[i]? = some (some (.ref lf)))(P:Pq K n H0 H lf)(h:Gt σ H0 ts λH vs=>vs.length=m/\∀v∈vs,fL K H v)(hm:n+m<=100)(k:∀lf H,Pq K (n+m) H0 H lf->u D (σ.set i (some (.ref lf))) H):iy (qw (xm oQ (g8 i) (qr ts)) (gN i)) u D σ H:=GM hi P h hm k
theorem GN(hi:σ[i]? = some (some (.ref lf)))(P:Pq K n H0 H lf)(h:Gt σ H0 ts λ_ x=>x=ws)(l10:ws.length<=10)(hn:n<100)(np:∀H2 q,aa H0 H2->H2 q\.tup ws->fL K H2 (.ref q))(k:∀H,Pq K (n+1) H0 H lf->u D σ H):iy (xr (Sb K "list" OC (g8 i) (pN (oN ts) gi))) u D σ H:=by
 let#[s,n0,xs,e,l,al]:=P;let sz:=b_;apply#[_,hi,.inl #[Z,_,.of e],h H _ s λvs H2 s2 ev=>#[by rw[ev];omega,λq hq=>?_]];subst ev;let s3:=s2.trans (aa.new (o:=.tup vs) hq);let e3:=s3 _ _ e;have nq:q≠lf:=(bu (s2 _ _ e) hq).symm;apply#[lf,xs,.ref q,Z,Z,e3,by omega,k _ #[g6 (s.trans s3) n0,n0,_,ao,by rw[dW];simp;omega,λv hv=>?_]];rcases fB.mp hv with hv|hv
 ·exact (al v hv).same (ku_ (λb o eb nb=>by rw[az nb];exact s3 _ _ eb))
 rw[wY.mp hv];apply np _ _ (J7 (g6 (s.trans s3) n0) n0) ?_;unfold del;rw[aE nq,az nq];exact ao
theorem Om:∀(ys:ag),(∀y∈ys,∃c,gr K H y c)->∃bs,Paired (gr K H) ys bs
 |[],_=>#[[],.nil]
 |y::ys,h=>by
  let#[c,e]:=h y eP;let#[bs,p]:=Om ys λx hx=>h x (eA _ hx);exact#[c::bs,.cons e p]
theorem S8:∀(ys:ag),(∀y∈ys,∃c,gr K H y c)->(∃y∈ys,gr K H y false)->∃bs,Paired (gr K H) ys bs/\false∈bs
 |[],_,⟨y,h,_⟩=>by cases h
 |y::ys,h,⟨z,hz,w⟩=>by
  have h':∀x∈ys,∃c,gr K H x c:=λx hx=>h x (eA _ hx);rcases cq.mp hz with e|hz
  ·subst e;let#[bs,p]:=Om ys h';exact#[false::bs,.cons w p,eP]
  let#[c,e]:=h y eP;let#[bs,p,q]:=S8 ys h' #[z,hz,w];exact#[c::bs,.cons e p,eA _ q]
theorem Ic{l:Addr}{ys:ag}{v:V}(e:H l\.lst ys)(h:∀y∈ys,(∃i,y=.int i)∨y=v)(hv:v∈ys)(w:gr K H v false)(l1:ys.length<=100000):uh K H (.ref l):=by
 let#[bs,p,q]:=S8 ys (λy hy=>(h y hy).elim (λ⟨i,e⟩=>#[true,.inl #[Z,i,e]]) λe=>#[false,by rw[e];exact w]) #[v,hv,w];exact#[l,ys,bs,Z,e,p,l1,.inr (.inr q)]
end
section v
theorem uP:bw [eF,"_law_numbers","_law_put","_law_changed","_law_some"] [eF,"_law_numbers"] (aY lA):=bD
def mL(K:af):Sp:=λvs H Q _=>∃(l ln:Addr) (ss:List Int),vs=[.ref l,.ref ln]/\cZ H l/\H ln\.lst (ss.map V.int)/\ln≠l/\1<=ss.length/\ss.length<=9/\∀(lo:Addr) (xs:ag) (H':Hp),aN l H H'->H' lo\.lst xs->xs.length<=100->(∀v∈xs,fL K H' v)->Q (.ref lo) H'
theorem iM_{f0:Addr}{fd:Ae}(F:bh K "_law_no_papers" "_law_no_papers" lA f0 fd)(B:Bi mg)(cD:!bg 1 tR uH wQ)(cO:!bg 2 "_law_odd" [eF] (xx K)):!ak a9 3 f0 fd [eF,"_law_numbers"] (mL K):=by
 exists F.bG uP;let#[l,ln,ss,rfl,st,Nb,nl,l1,l9,k]:=h;let sz:=b_;refine' #[_,?c0,?kk]
 case' c0=>refine' ax ?s0 ?c1
 case' c1=>with_reducible refine' ax ?s1 ?c2
 case' c2=>with_reducible refine' ax ?s2 ?c3
 case' c3=>with_reducible refine' ax ?s3 ?c4
 case' c4=>with_reducible refine' ax ?s4 ?c5
 case' c5=>with_reducible refine' ax ?s5 ?c6
 case' c6=>with_reducible refine' ax ?s6 ?c7
 case' c7=>with_reducible refine' ax ?s7 ?c8
 case' c8=>with_reducible refine' ax ?s8 ?c9
 case' c9=>with_reducible refine' ax ?s9 ?c10
 case' c10=>with_reducible refine' ax ?DB ?c11
 case' c11=>with_reducible refine' ax ?xF ?c12
 case' c12=>with_reducible refine' ax ?s12 ?c13
 case' c13=>refine' aF ?pF
 case s0=>exact bx 2 uP.nd (iP Rf (by rfl) B.list uK %[1|0])
 case s1=>exact iq (iJ i_ PySem.F.slot_list_insert PySem.F.type_list_insert gN_ (pv 2) %[aR cD hr %[0,bI g5 (cu gZ (by rfl) B.len gz %[2|0]) au|0],aR cO hr %[0|0]|0])
 case s2=>exact bx 3 uP.nd (iP Rf (by rfl) B.list uK %[1|0])
 case s3=>exact Cp (aR cO hr %[0|0]) (JI (pv 3) (aR cD hr %[0,cu gZ (by rfl) B.len gz %[3|0]|0]) KN)
 case' s4=>with_reducible refine' bx 4 ?NT0 (bX ?T0) ?OT0 ?PT0 ?QT0 ?RT0
 case NT0=>exact uP.nd
 case OT0=>rfl
 case PT0=>exact .inl Z
 case QT0=>rfl
 case RT0=>first|exact .inl Z|exact .inr Z
 case' T0=>with_reducible refine' L2.eE ?L_ ?T00 ?zT00
 case zT00=>rfl
 case' T00=>with_reducible refine' L2.eE ?L9 ?T01 ?zT01
 case zT01=>rfl
 case' T01=>with_reducible refine' L2.eE ?L8 ?T02 ?zT02
 case zT02=>rfl
 case' T02=>with_reducible refine' L2.eE ?L7 ?T03 ?zT03
 case zT03=>rfl
 case' T03=>with_reducible refine' L2.eE ?L6 ?T04 ?zT04
 case zT04=>rfl
 case' T04=>with_reducible refine' L2.eE ?L5 ?T05 ?zT05
 case zT05=>rfl
 case' T05=>with_reducible refine' L2.eE ?L4 ?T06 ?zT06
 case zT06=>rfl
 case' T06=>with_reducible refine' L2.eE ?L3 ?T07 ?zT07
 case zT07=>rfl
 case' T07=>with_reducible refine' L2.eE ?L1 ?T08 ?zT08
 case zT08=>rfl
 case' T08=>with_reducible refine' L2.eE ?Ef ?T09 ?zT09
 case zT09=>rfl
 case' T09=>with_reducible refine' L2.eE ?Ee ?T010 ?zT010
 case zT010=>rfl
 case' T010=>with_reducible refine' L2.eE ?Ed ?T011 ?zT011
 case zT011=>rfl
 case' T011=>with_reducible refine' L2.eE ?Ec ?T012 ?zT012
 case zT012=>rfl
 case T012=>exact aK
 case L_=>exact pU
 case L9=>exact ke
 case L8=>exact au
 case L7=>exact bf
 case L6=>exact bf
 case L5=>exact bf
 case L4=>exact (bX aK)
 case L3=>exact (bC aK)
 case L1=>exact Bf
 case Ef=>exact (bX %[bf,1|0])
 case Ee=>exact (bX %[bf,au,au|0])
 case Ed=>exact (bC %[bf|0])
 case Ec=>exact (bC %[bf|0])
 case' s5=>with_reducible refine' bx 4 ?NT1 (bI ?VT1 ?WT1 (bX ?T1)) ?OT1 ?PT1 ?QT1 ?RT1
 case VT1=>exact pV
 case WT1=>exact pv 4
 case NT1=>exact uP.nd
 case OT1=>rfl
 case PT1=>exact .inl Z
 case QT1=>rfl
 case RT1=>first|exact .inl Z|exact .inr Z
 case' T1=>with_reducible refine' L2.eE ?Eb ?T10 ?zT10
 case zT10=>rfl
 case' T10=>with_reducible refine' L2.eE ?Ea ?T11 ?zT11
 case zT11=>rfl
 case' T11=>with_reducible refine' L2.eE ?D_ ?T12 ?zT12
 case zT12=>rfl
 case' T12=>with_reducible refine' L2.eE ?D9 ?T13 ?zT13
 case zT13=>rfl
 case' T13=>with_reducible refine' L2.eE ?D8 ?T14 ?zT14
 case zT14=>rfl
 case T14=>exact aK
 case Eb=>exact (bC %[bf,1,au|0])
 case Ea=>exact (bC %[bf,iP (lY (K:=K)) (by rfl) B.tuple Bm %[1|0]|0])
 case D_=>exact (bC %[bf,bX aK|0])
 case D9=>exact (bC %[bf,bC aK|0])
 case D8=>exact (bC %[bf,pU|0])
 case' s6=>with_reducible refine' bx 4 ?NT2 (bI ?VT2 ?WT2 (bX ?T2)) ?OT2 ?PT2 ?QT2 ?RT2
 case VT2=>exact pV
 case WT2=>exact pv 4
 case NT2=>exact uP.nd
 case OT2=>rfl
 case PT2=>exact .inl Z
 case QT2=>rfl
 case RT2=>first|exact .inl Z|exact .inr Z
 case' T2=>with_reducible refine' L2.eE ?D7 ?T20 ?zT20
 case zT20=>rfl
 case' T20=>with_reducible refine' L2.eE ?D6 ?T21 ?zT21
 case zT21=>rfl
 case' T21=>with_reducible refine' L2.eE ?D5 ?T22 ?zT22
 case zT22=>rfl
 case' T22=>with_reducible refine' L2.eE ?D4 ?T23 ?zT23
 case zT23=>rfl
 case' T23=>with_reducible refine' L2.eE ?D3 ?T24 ?zT24
 case zT24=>rfl
 case T24=>exact aK
 case D7=>exact (bC %[bf,1|0])
 case D6=>exact (bC %[bf,1|0])
 case D5=>exact (bC %[1,bf|0])
 case D4=>exact (bC %[bf,au|0])
 case D3=>exact (bC %[bf,au,au,au|0])
 case s7=>exact iq (iJ i_ tT tU p0 (pv 4) %[bC %[bf,1|0]|0])
 case' s8=>with_reducible refine' bx 4 ?NT3 (bI ?VT3 ?WT3 (bX ?T3)) ?OT3 ?PT3 ?QT3 ?RT3
 case VT3=>exact pV
 case WT3=>exact pv 4
 case NT3=>exact uP.nd
 case OT3=>rfl
 case PT3=>exact .inl Z
 case QT3=>rfl
 case RT3=>first|exact .inl Z|exact .inr Z
 case' T3=>with_reducible refine' L2.eE ?D0 ?T30 ?zT30
 case zT30=>rfl
 case' T30=>with_reducible refine' L2.eE ?DZ ?T31 ?zT31
 case zT31=>rfl
 case' T31=>with_reducible refine' L2.eE ?DY ?T32 ?zT32
 case zT32=>rfl
 case' T32=>with_reducible refine' L2.eE ?DX ?T33 ?zT33
 case zT33=>rfl
 case' T33=>with_reducible refine' L2.eE ?DW ?T34 ?zT34
 case zT34=>rfl
 case T34=>exact aK
 case D0=>exact (bC %[bf,au,au|0])
 case DZ=>exact (bC %[bf,2|0])
 case DY=>exact (bC %[bf,3|0])
 case DX=>exact (bC %[bf,bX %[1|0]|0])
 case DW=>exact (bC %[bf,UP (Vm au (bE fA (pv 1) au) Um) Z Z Z2 Z2|0])
 case' s9=>with_reducible refine' bx 4 ?NT4 (bI ?VT4 ?WT4 (bX ?T4)) ?OT4 ?PT4 ?QT4 ?RT4
 case VT4=>exact pV
 case WT4=>exact pv 4
 case NT4=>exact uP.nd
 case OT4=>rfl
 case PT4=>exact .inl Z
 case QT4=>rfl
 case RT4=>first|exact .inl Z|exact .inr Z
 case' T4=>with_reducible refine' L2.eE ?DV ?T40 ?zT40
 case zT40=>rfl
 case' T40=>with_reducible refine' L2.eE ?DU ?T41 ?zT41
 case zT41=>rfl
 case' T41=>with_reducible refine' L2.eE ?DT ?T42 ?zT42
 case zT42=>rfl
 case' T42=>with_reducible refine' L2.eE ?DS ?T43 ?zT43
 case zT43=>rfl
 case' T43=>with_reducible refine' L2.eE ?DR ?T44 ?zT44
 case zT44=>rfl
 case T44=>exact aK
 case DV=>exact (bC %[bf,AX A9 au,au|0])
 case DU=>exact (bC %[bf,au,au|0])
 case DT=>exact (bC %[bf,au,AX A9 au|0])
 case DS=>exact (bC %[bf,ke,au|0])
 case DR=>exact (bC %[bf,au,ke|0])
 case DB=>exact iq (iJ i_ tT tU p0 (pv 4) %[bC %[bf,pU,au|0]|0])
 case' xF=>with_reducible refine' bx 4 ?NT5 (bI ?VT5 ?WT5 (bX ?T5)) ?OT5 ?PT5 ?QT5 ?RT5
 case VT5=>exact pV
 case WT5=>exact pv 4
 case NT5=>exact uP.nd
 case OT5=>rfl
 case PT5=>exact .inl Z
 case QT5=>rfl
 case RT5=>first|exact .inl Z|exact .inr Z
 case' T5=>with_reducible refine' L2.eE ?DQ ?T50 ?zT50
 case zT50=>rfl
 case' T50=>with_reducible refine' L2.eE ?DP ?T51 ?zT51
 case zT51=>rfl
 case' T51=>with_reducible refine' L2.eE ?DO ?T52 ?zT52
 case zT52=>rfl
 case' T52=>with_reducible refine' L2.eE ?DN ?T53 ?zT53
 case zT53=>rfl
 case' T53=>with_reducible refine' L2.eE ?DM ?T54 ?zT54
 case zT54=>rfl
 case T54=>exact aK
 case DQ=>exact (bC %[bf,au,pU|0])
 case DP=>exact (bC %[bf,bf,bf|0])
 case DO=>exact (bC %[bf,bC %[au|0],au|0])
 case DN=>exact (bC %[bf,au,au|0])
 case DM=>exact (bC %[bf,au,au|0])
 case' s12=>with_reducible refine' bx 4 ?NT6 (bI ?VT6 ?WT6 (bX ?T6)) ?OT6 ?PT6 ?QT6 ?RT6
 case VT6=>exact pV
 case WT6=>exact pv 4
 case NT6=>exact uP.nd
 case OT6=>rfl
 case PT6=>exact .inl Z
 case QT6=>rfl
 case RT6=>first|exact .inl Z|exact .inr Z
 case' T6=>with_reducible refine' L2.eE ?DL ?T60 ?zT60
 case zT60=>rfl
 case' T60=>with_reducible refine' L2.eE ?DK ?T61 ?zT61
 case zT61=>rfl
 case' T61=>with_reducible refine' L2.eE ?DJ ?T62 ?zT62
 case zT62=>rfl
 case' T62=>with_reducible refine' L2.eE ?DI ?T63 ?zT63
 case zT63=>rfl
 case' T63=>with_reducible refine' L2.eE ?DH ?T64 ?zT64
 case zT64=>rfl
 case T64=>exact aK
 case DL=>exact (bC %[bf,au,au|0])
 case DK=>exact (bC %[bf,au,au|0])
 case DJ=>exact (bC %[bf,AX A9 au,au|0])
 case DI=>exact (bC %[pU,1|0])
 case DH=>exact (bC %[bC %[bf|0],1|0])
 case' pF=>with_reducible refine' aZ (bI ?VT7 ?WT7 (bX ?T7))
 case VT7=>exact pV
 case WT7=>exact pv 4
 case' T7=>with_reducible refine' L2.eE ?DG ?T70 ?zT70
 case zT70=>rfl
 case' T70=>with_reducible refine' L2.eE ?DF ?T71 ?zT71
 case zT71=>rfl
 case' T71=>with_reducible refine' L2.eE ?DE ?T72 ?zT72
 case zT72=>rfl
 case' T72=>with_reducible refine' L2.eE ?DD ?T73 ?zT73
 case zT73=>rfl
 case T73=>exact aK
 case DG=>exact (bC %[bf,wN wR (bI NY (pv 1) au) wL (wK au)|0])
 case DF=>exact (bC %[bf,bf|0])
 case DE=>exact (bC %[bf,bI JV au au,au|0])
 case DD=>exact (bC %[bf,au,bI JV au au|0])
 apply#[_,Z,ln,_,Z,.inl (.of Nb),λlp xO=>?_];let#[s1,e1]:=bj (o:=.lst (ss.map V.int)) xO;generalize upd H lp (.lst (ss.map V.int))=H1 at s1 e1 ⊢;lk;let fJ:=st.same s1;have pl:lp≠l:=st.ne xO;apply#[_,Z,.inl #[Z,#[_,.of e1]],_,Z,_,Z,lp,_,Z,.inl (.of e1),_,_,Z,Z,l,_,Z,by rw[ay];omega,by rw[ay];omega,fJ,λq H2 q0 q1 b2 dB=>?_];let#[q,rfl]:=p_ q0;apply#[_,Z,l,Z,dB,λv H3 b3 g_ w3 wc=>?_];let pf:=b2.trans b3;let e3:=pf _ _ e1 pl;apply#[lp,q,_,v,Z,Z,e3,by omega,by rw[ay];omega,?_]
 have vp:v≠.ref lp:=λz=>by
  have:=(wc _ z).2;rw[b2 _ _ e1 pl] at this;cases this
 have vl:v≠.ref l:=λz=>(wc _ z).1 Z;have e4:upd H3 lp (.lst ((ss.map V.int).take q++v::(ss.map V.int).drop q)) lp\.lst ((ss.map V.int).take q++v::(ss.map V.int).drop q):=ao;have w4:gr K (upd H3 lp (.lst ((ss.map V.int).take q++v::(ss.map V.int).drop q))) v false:=w3.yr λa o z e=>by rw[az (λy=>vp (by rw[z,y]))];exact e
 have fq:cZ (upd H3 lp (.lst ((ss.map V.int).take q++v::(ss.map V.int).drop q))) l:=UA g_ pl
 have b4:aN l H (upd H3 lp (.lst ((ss.map V.int).take q++v::(ss.map V.int).drop q))):=λb o e n=>by
  rw[az (bu e xO)];exact pf _ _ (s1 _ _ e) n
 generalize upd H3 lp (.lst ((ss.map V.int).take q++v::(ss.map V.int).drop q))=H4 at e4 w4 fq b4 ⊢;let Fo:=b4 _ _ Nb nl;apply#[_,Z,ln,_,Z,.inl (.of Fo),λlc BH=>?_];let#[s5,e5]:=bj (o:=.lst (ss.map V.int)) BH;generalize upd H4 lc (.lst (ss.map V.int))=H5 at s5 e5 ⊢;lk;let gT:=fq.same s5;have cl:lc≠l:=fq.ne BH;let Wc:=s5 _ _ e4;have cp:lc≠lp:=(bu e4 BH).symm;let w5:=w4.nt (NT.of s5)
 have vc:v≠.ref lc:=λz=>by
  rw[z] at w4;let#[o,e]:=w4.has;rw[BH] at e;cases e
 apply#[_,Z,l,Z,gT,λv2 H6 b6 gS w6 Ov=>?_];let e6:=b6 _ _ e5 cl;apply#[_,Z,_,Z,_,Z,lc,_,Z,.inl (.of e6),l,_,Z,by rw[ay];omega,by rw[ay];omega,gS,λj H7 j0 j1 b7 mJ=>?_];let#[j,rfl]:=p_ j0;let e7:=b7 _ _ e6 cl;have Yj:v2≠.ref l:=λz=>(Ov _ z).1 Z
 have Yk:v2≠.ref lc:=λz=>by
  have:=(Ov _ z).2;rw[e5] at this;cases this
 have hj:j<(ss.map V.int).length:=by omega
 apply#[lc,_,_,j,Z,Z,e7,by unfold uv;rw[aJ Z1,aJ Z1,ow],?_];let K1:=b6.trans b7;have e8:upd H7 lc (.lst ((ss.map V.int).set j v2)) lc\.lst ((ss.map V.int).set j v2):=ao;have w8:gr K (upd H7 lc (.lst ((ss.map V.int).set j v2))) v2 false:=(w6.yr λa o z e=>b7 _ _ e (λy=>Yj (by rw[z,y]))).yr λa o z e=>by rw[az (λy=>Yk (by rw[z,y]))];exact e
 have Lj:gr K (upd H7 lc (.lst ((ss.map V.int).set j v2))) v false:=(w5.yr λa o z e=>K1 _ _ e (λy=>vl (by rw[z,y]))).yr λa o z e=>by rw[az (λy=>vc (by rw[z,y]))];exact e
 have p8:upd H7 lc (.lst ((ss.map V.int).set j v2)) lp\.lst ((ss.map V.int).take q++v::(ss.map V.int).drop q):=by
  rw[az cp.symm];exact K1 _ _ Wc pl
 have b8:aN l H (upd H7 lc (.lst ((ss.map V.int).set j v2))):=λb o e n=>by
  rw[az (bu (b4 _ _ e n) BH)];exact K1 _ _ (s5 _ _ (b4 _ _ e n)) n
 have hn:upd H7 lc (.lst ((ss.map V.int).set j v2)) ln\.lst (ss.map V.int):=b8 _ _ Nb nl;generalize upd H7 lc (.lst ((ss.map V.int).set j v2))=H8 at e8 w8 Lj p8 b8 hn ⊢
 have int:∀y∈ss.map V.int,∃i,y=.int i:=λy hy=>by
  let#[i,_,e]:=bN.mp hy;exact#[i,e.symm]
 have bp:∀H2,aa H8 H2->uh K H2 (.ref lp):=λH2 s=>Ic (s _ _ p8) (λy hy=>by
  rcases fB.mp hy with hy|hy
  ·exact .inl (int y (List.mem_of_mem_take hy))
  rcases cq.mp hy with e|hy
  ·exact .inr e
  exact .inl (int y (List.mem_of_mem_drop hy))) (km _ eP) (Lj.nt (NT.of s)) (by rw[dW,iO,dP,wX,ay];omega)
 have bc:∀H2,aa H8 H2->uh K H2 (.ref lc):=λH2 s=>Ic (s _ _ e8) (λy hy=>(List.mem_or_eq_of_mem_set hy).imp (int y) id) (List.mem_set hj v2) (w8.nt (NT.of s)) (by rw[List.length_set,ay];omega)
 obtain⟨n0,r0,er⟩:∃n0 r0,ss=n0::r0:=by
  cases ss with
  |nil=>exact absurd l1 (by decide)
  |cons a r=>exact#[a,r,Z]
 have h0:eO (ss.map V.int) 0\.int n0:=L2.gc (j:=0) (by rw[er];rfl)
 have big:∀{H1:Hp} (p q:Addr),uh K (upd (upd H1 p (.lst (List.replicate (3002:Int).toNat (ss.map V.int)).flatten)) q (.lst (bZ (List.replicate (3002:Int).toNat (ss.map V.int)).flatten none (some 3002)))) (.ref q):=λ{H1} p q=>by
  have le:(bZ (List.replicate (3002:Int).toNat (ss.map V.int)).flatten none (some 3002)).length=3002:=by
   rw[show ((3002:Int))=((3002:Nat):Int) from Z,Kz,dP,L2.len_rep,ay,ow];omega
  let#[bs,pr]:=Om (K:=K) (H:=upd (upd H1 p (.lst (List.replicate (3002:Int).toNat (ss.map V.int)).flatten)) q (.lst (bZ (List.replicate (3002:Int).toNat (ss.map V.int)).flatten none (some 3002)))) (bZ (List.replicate (3002:Int).toNat (ss.map V.int)).flatten none (some 3002)) λy hy=>by
   unfold bZ at hy;let#[ys,h1,h2]:=List.mem_flatten.mp (List.mem_of_mem_drop (List.mem_of_mem_take hy));rw[List.eq_of_mem_replicate h1] at h2;exact#[true,.inl #[Z,int y h2]]
  exact#[q,_,bs,Z,ao,pr,by omega,.inr (.inl Z1)]
 clear fJ fq gT gS mJ b7 K1 e7 e6 e5 Wc w4 w5 w6 w8 Lj p8 e8 e4 b4 pf e3 e1 s1 s5 wc Ov xO BH Fo;dsimp only;apply Os (K:=K) (dj ?Oj (dj ?Oi (dj ?Oh (dj ?Og (dj ?Of (dj ?Oe (dj ?Od (dj ?Oc (dj ?Ob (dj ?GK (dj ?GJ (dj ?GI (dj ?GH yo))))))))))))) (by decide) λf4 G4 P4=>?_
 case' Oj=>exact AB λ_ _=>yx #[_,.non,Z]
 case' Oi=>exact AB λ_ _=>yx #[_,.bl _,Z]
 case' Oh=>exact AB λ_ _=>yx #[_,.int _,Z]
 case' Og=>exact AB λ_ _=>yx #[_,.str _,Z]
 case' Of=>exact AB λ_ _=>yx #[_,.str _,Z]
 case' Oe=>exact AB λ_ _=>yx #[_,.str _,Z]
 case' Od=>exact tw eS Z2
 case' Oc=>exact fS eS Z2 λH2 q s h=>JG h Z2 Z2
 case' Ob=>exact λH1 Q s k p hp=>k _ _ (aa.new hp) (yx #[_,.dK ao,Z])
 case' GK=>exact tw (bJ bR (bJ (AA Z) eS)) Z2
 case' GJ=>exact tw (bJ bR (bJ bR (bJ bR eS))) Z2
 case' GI=>exact fS (bJ bR eS) Z2 λH2 q s h=>JG h Z2 Z2
 case' GH=>exact fS (bJ bR eS) Z2 λH2 q s h=>JG h Z2 Z2
 apply Cb (i:=4) Z P4 (dj ?GG (dj ?GF (dj ?GE (dj ?GD (dj ?GC yo))))) (by decide) λf5 G5 P5=>?_
 case' GG=>exact fS (bJ bR (bJ (AA Z) (bJ bR eS))) Z2 λH2 q s h=>V3 h (.inl #[_,Z,by decide +kernel])
 case' GF=>exact N9 λH1 Q s k=>#[_,Z,ln,_,Z,.inl #[.inl (.of (s _ _ hn)),λt nt=>k _ _ (aa.new nt) #[_,.tup ao,Z]]]
 case' GE=>exact tq λH1 Q s k=>#[zl,λp hp=>k _ _ (aa.new hp) #[p,[],[],Z,ao,.nil,by simp,.inl Z]]
 case' GD=>exact N9 λH1 Q s k=>#[zl,λp hp=>k _ _ (aa.new hp) #[_,.tup ao,Z]]
 case' GC=>exact fS (bJ bR (bJ bR eS)) Z2 λH2 q s h=>OF h #[_,.non,Z]
 apply Cb (i:=4) Z P5 (dj ?GB (dj ?Gz (dj ?Gy (dj ?Gw (dj ?Gv yo))))) (by decide) λf6 G6 P6=>?_
 case' GB=>exact fS (bJ bR (bJ (AA Z) eS)) Z2 λH2 q s h=>Ba h (.inl #[_,Z,by decide +kernel])
 case' Gz=>exact fS (bJ bR (bJ (AA Z) eS)) Z2 λH2 q s h=>Ba h (.inl #[_,Z,by decide +kernel])
 case' Gy=>exact fS (bJ (AA Z) (bJ bR eS)) Z2 λH2 q s h=>Ba h (.inr #[_,.lst (s _ _ hn),Z])
 case' Gw=>exact fS (bJ bR (bJ bR eS)) Z2 λH2 q s h=>Ba h (.inl #[_,Z,by decide +kernel])
 case' Gv=>exact fS (bJ bR (bJ bR (bJ bR (bJ bR eS)))) Z2 λH2 q s h=>JG h Z2 Z2
 apply GN (i:=4) Z P6 (bJ bR (bJ (AA Z) eS)) Z2 (by decide) (λH2 q s h=>Ba h (.inl #[_,Z,by decide +kernel])) λG7 P7=>?_;apply Cb (i:=4) Z P7 (dj ?Gu (dj ?Gs (dj ?Gr (dj ?Gq (dj ?Gp yo))))) (by decide) λf8 G8 P8=>?_
 case' Gu=>exact fS (bJ bR (bJ bR (bJ bR eS))) Z2 λH2 q s h=>V3 h (.inl #[_,Z,by decide +kernel])
 case' Gs=>exact tq (N4 Z λH2 s=>bp H2 s)
 case' Gr=>exact tq (N4 Z λH2 s=>bc H2 s)
 case' Gq=>exact tq λH1 Q s k=>#[_,Z,zl,λp hp=>k _ _ (aa.new hp) #[p,_,[false],Z,ao,.cons (.inr #[Z,.inr #[_,.lst ((aa.new hp) _ _ (s _ _ hn)),Z]]) .nil,by simp,.inr (.inr Z2)]]
 case' Gp=>exact N9 λH1 Q s k p hp=>#[_,Z,ln,_,0,_,Z,Z,.of ((aa.new hp) _ _ (s _ _ hn)),h0,ao,[(.inl 0,_)],Z,by simp,by
  have:=k (.ref p) (upd H1 p (.dK (oh [] [(.inl 0,.int n0)]))) (aa.new hp) #[_,.dK ao,Z];rw[O0];exact this]
 apply Cb (i:=4) Z P8 (dj ?Gn (dj ?Gm (dj ?Gk (dj ?Gj (dj ?Gi yo))))) (by decide) λf9 G9 P9=>?_
 case' Gn=>exact fS (bJ bR (bJ N5 (bJ bR eS))) Z2 λH2 q s h=>kn h (.inl (.inl #[_,Z,by decide +kernel]))
 case' Gm=>exact fS (bJ bR (bJ bR (bJ bR eS))) Z2 λH2 q s h=>kn h (.inr (.inl #[(.inl #[_,Z,by decide +kernel]),(.inl #[_,Z,by decide +kernel])]))
 case' Gk=>exact fS (bJ bR (bJ bR (bJ N5 eS))) Z2 λH2 q s h=>kn h (.inr (.inl #[(.inl #[_,Z,by decide +kernel]),(.inl #[_,Z,by decide +kernel])]))
 case' Gj=>exact fS (bJ bR (bJ bR (bJ bR eS))) Z2 λH2 q s h=>kn h (.inl (.inr #[Z,.inl #[_,Z]]))
 case' Gi=>exact fS (bJ bR (bJ bR (bJ bR eS))) Z2 λH2 q s h=>kn h (.inr (.inl #[(.inl #[_,Z,by decide +kernel]),(.inr #[Z,.inl #[_,Z]])]))
 apply GN (i:=4) Z P9 (bJ bR (bJ bR (bJ bR eS))) Z2 (by decide) (λH2 q s h=>kn h (.inl (.inr #[Z,.inr #[_,.non,Z]]))) λG10 P10=>?_;apply Cb (i:=4) Z P10 (dj ?Gh (dj ?Gg (dj ?Gf (dj ?Ge (dj ?Gc yo))))) (by decide) λVv G11 P11=>?_
 case' Gh=>exact fS (bJ bR (bJ bR (bJ bR eS))) Z2 λH2 q s h=>kn h (.inr (.inl #[(.inl #[_,Z,by decide +kernel]),(.inr #[Z,.inr #[_,.non,Z]])]))
 case' Gg=>exact fS (bJ bR (bJ bR (bJ bR eS))) Z2 λH2 q s h=>kn h (.inl (.inr #[Z,.inr #[_,.str _,Z]]))
 case' Gf=>exact λH1 Q s k=>#[zl,λp hp=>#[zl,λq hq=>k _ _ ((aa.new hp).trans (aa.new hq)) (kn ao (.inl (.inr #[Z,.inr #[_,.tup ((aa.new hq) _ _ ao),Z]])))]]
 case' Ge=>exact fS (bJ bR (bJ bR (bJ bR eS))) Z2 λH2 q s h=>kn h (.inr (.inr #[_,_,Z,Z,by decide +kernel,by decide +kernel,by decide +kernel]))
 case' Gc=>exact fS (bJ bR (bJ bR (bJ bR eS))) Z2 λH2 q s h=>kn h (.inr (.inr #[_,_,Z,Z,by decide +kernel,by decide +kernel,by decide +kernel]))
 apply Cb (i:=4) Z P11 (dj ?Gb (dj ?Ga (dj ?F_ (dj ?F9 (dj ?F8 yo))))) (by decide) λVu G12 P12=>?_
 case' Gb=>exact fS (bJ bR (bJ bR (bJ bR eS))) Z2 λH2 q s h=>kn h (.inr (.inr #[_,_,Z,Z,by decide +kernel,by decide +kernel,by decide +kernel]))
 case' Ga=>exact fS (bJ bR (bJ bR (bJ bR eS))) Z2 λH2 q s h=>kn h (.inr (.inr #[_,_,Z,Z,by decide +kernel,by decide +kernel,by decide +kernel]))
 case' F_=>exact fS (bJ bR (bJ N5 (bJ bR eS))) Z2 λH2 q s h=>kn h (.inl (.inl #[_,Z,by decide +kernel]))
 case' F9=>exact fS (bJ bR (bJ (AA Z) eS)) Z2 λH2 q s h=>Ba h (.inr #[_,.non,Z])
 case' F8=>exact λH1 Q s k=>#[zl,λp hp=>#[_,Z,zl,λq hq=>k _ _ ((aa.new hp).trans (aa.new hq)) (Ba ao (.inr #[_,.tup ((aa.new hq) _ _ ao),Z]))]]
 apply GM (i:=4) Z P12 (dj ?F7 (dj ?F6 (dj ?F5 (dj ?F4 yo)))) (by decide) λlo G ⟨sG,n0',xs,e,le,al⟩=>k lo xs G (λb o e n=>sG _ _ (b8 _ _ e n)) e Z1 λv hv=>(al v hv).same tE
 case' F7=>exact tq λH1 Q s k=>#[_,Z,ln,3002,_,Z,Z,s _ _ hn,by decide,by decide,by rw[ay];show _ * 3002<=_;omega,λp hp=>#[_,Z,p,_,Z,.of ao,λq hq=>k _ _ ((aa.new hp).trans (aa.new hq)) (big p q)]]
 case' F6=>exact fS (bJ bR (bJ bR eS)) Z2 λH2 q s h=>OF h #[_,.str _,Z]
 case' F5=>exact fS (bJ bR (bJ UI (bJ bR eS))) Z2 λH2 q s h=>kn h (.inr (.inr #[_,_,Z,Z,by decide +kernel,by decide +kernel,by decide +kernel]))
 case' F4=>exact fS (bJ bR (bJ bR (bJ UI eS))) Z2 λH2 q s h=>kn h (.inr (.inr #[_,_,Z,Z,by decide +kernel,by decide +kernel,by decide +kernel]))
end
end Ev
namespace L2
open PySem PySem.Spec PyProof.Rows PySem.W mr mw
section
variable{X:Cx}{e st:Expr}{te ts:TE}{pos p2:Pos}
end
section
variable{X:Cx}
end
end L2
namespace L2
open PySem PySem.Spec PyProof.Rows PySem.W mr mw
def ZD(K:af){D:Type}(R:Rp D):Rp (List D):=λH x ds=>∃a xs,x=.ref a/\gB K H a xs/\Paired (R H) xs ds
section
variable{X:Cx}
theorem kp_{D:Type}[DecidableEq D]{ds es:List D}:((List.range (min ds.length es.length)).all (λj=>decide (ds[j]? = es[j]?))&&ds.length == es.length)=decide (ds=es):=by
 by_cases hl:ds.length=es.length
 ·rw[hl,Nat.min_self,<- hl,Rg hl];simp
 rw[dM (λz=>hl (by rw[z])),show (ds.length == es.length)=false by rw[beq_eq_false_iff_ne];exact hl,tV]
end
end L2
namespace L2
open PySem PySem.Spec PyProof.Rows PySem.W mr mw
section
variable{X:Cx}
theorem O6{n:Nat}{D:Type}[DecidableEq D]{R:Rp D}(c:qa X n R)(hu:X.A.units+n+1<cLine):dS X (compareOp .NotEq) (zG (ZD X.K R) true):=by
 intro pins s σ H x y v u Q I rx ry h;let#[d,e,#[a,xs,rfl,t,q],#[b,ys,rfl,t',q'],hq]:=h;cases rx;cases ry;let#[us,r,pl,_]:=I.tuple t;let#[vs,r',r_,_]:=I.tuple t';let l1:=r.length;let l2:=r'.length;let l3:=bP q;let l4:=bP q';apply SeqAt.RcNeAt.tuples (KW pl) (KW r_) Z1 (PX c I r r' q q' (A:=X.A.in1) (by show X.A.units+1+n<cLine;omega)) X.prog X.w _ _ #[.bl _,H,I,Z,?_];rw[show us.toArray.size=d.length by simp only[cX];omega,show vs.toArray.size=e.length by simp only[cX];omega,kp_];exact hq
end
end L2
namespace L2
open PySem PySem.Spec PyProof.Rows PySem.W mr mw
def fK:V->Option Key
 |.bl b=>some (.inl (if b then 1 else 0))
 |.int i=>some (.inl i)
 |.str x=>some (.inr x)
 |_=>none
def rK:Rp Key:=λ_ x d=>fK x\d
theorem Tx{α:Type}[BEq α][LawfulBEq α][DecidableEq α](a b:α):(a == b)=decide (a=b):=by
 by_cases h:a=b
 ·subst h;simp
 simp[h]
theorem _X{x y:V}{d e:Key}(hx:fK x\d)(hy:fK y\e):nU x y=decide (d=e)/\tO x=true/\tO y=true:=by
 have il:∀a b:Int,(a == b)=decide ((Sum.inl a:Key)=Sum.inl b):=λa b=>(Tx a b).trans (decide_eq_decide.mpr #[λh=>by rw[h],λh=>Sum.inl.inj h]);have ir:∀a b:Str,(a == b)=decide ((Sum.inr a:Key)=Sum.inr b):=λa b=>(Tx a b).trans (decide_eq_decide.mpr #[λh=>by rw[h],λh=>gO h]);cases x<;>cases hx<;>cases y<;>cases hy<;>apply#[?_,Z,Z]
 ·rename_i a b
  cases a<;>cases b<;>rfl
 ·exact il _ _
 ·rfl
 ·exact il _ _
 ·exact il _ _
 ·rfl
 ·rfl
 ·rfl
 exact ir _ _
section
variable{X:Cx}
theorem A5:qa X 0 rK where
 eq:=λ{pins σ H s A x y u v d e} I ru rv hx hy hu=>by
  let#[e2,fx,fy]:=_X hx hy;let q:=JL (A:=A) (s:=s) ru rv fx fy;rwa [e2] at q
 one:=λ{pins σ H s x d e} I hx hy=>d5 ((show fK x\d from hx).symm.trans hy)
end
end L2
namespace Ev
open PySem L2
theorem kK_{K:af}{H H':Hp}{a:Addr}{xs:ag}(s:NT H H')(h:dN K H a xs):dN K H' a xs:=by
 rcases h with (h|⟨o,h⟩)|h
 ·exact .inl (.inl (s.lst h))
 ·exact .inl (.inr #[o,s _ _ h nofun])
 exact .inr h
abbrev pK:Xa:=[("a",1),("b",2)]
abbrev pJ:aL:=[("p",3,none)]
abbrev xR:aq:=λ_=>"b"
theorem i3_{hs:Xa}{qs:aL}{f:aq}(r:Rl)(m:Int):oV r hs [] qs f m=[]:=by
 have t0:∀u,u∉aP []:=λu h=>by
  let#[t,ht,_]:=PB.mp h;cases ht
 have t1:aP []=[]:=List.eq_nil_iff_forall_not_mem.mpr t0
 have SH:∀h,nb hs [] h=[]:=λh=>by
  apply List.eq_nil_iff_forall_not_mem.mpr λx hx=>?_;have hx:x∈near (aD hs) (aP []) h:=hx;rw[t1] at hx;unfold near at hx;simp at hx
 have Sq:∀h,dz hs [] qs f h=[]:=λh=>by
  have:=Il hs [] qs f h;rw[SH] at this;exact this.eq_nil
 unfold oV;split
 ·apply List.eq_nil_iff_forall_not_mem.mpr λx hx=>?_;let#[t,ht,_]:=List.mem_flatMap.mp hx;exact t0 _ (Qr ht)
 have full:(aD hs).flatMap (o6 r hs [] qs f)=[]:=by
  apply List.eq_nil_iff_forall_not_mem.mpr λx hx=>?_;let#[h,hh,hx]:=List.mem_flatMap.mp hx;revert hx;unfold o6;split
  ·unfold wC yK;rw[Sq];exact λh=>nomatch h
  split
  ·unfold yC Bo;rw[Sq];exact λh=>nomatch h
  unfold Bp CI;rw[SH];exact λh=>nomatch h
 unfold CA;rw[full];split<;>rfl
theorem Km(r:Rl){hs:Xa}{qs:aL}{f:aq}:eN r hs [] qs f=true:=by
 unfold eN;apply List.all_eq_true.mpr λm _=>?_;rw[i3_];rfl
theorem l2_:aD pK=(["a","b"]:ae):=eV_ (hX pK) (ka_ pK) (by unfold mn;decide +kernel)
theorem JP:h_ pK pJ xR=9:=by
 unfold h_ jv;rw[l2_];decide +kernel
theorem O1:Good pK []:=#[by unfold tp;decide +kernel,by decide +kernel,by decide,by decide,(λ_ h=>nomatch h),by decide,by decide,(λ_ h=>nomatch h)]
theorem jx:Wd pK [] pJ xR:=#[O1,by decide +kernel,by decide,λn _=>show ("b":Str)∈_ by decide +kernel,λq hq=>by rw[wY.mp hq];decide]
theorem l9_:∀q∈pJ,AY [] q:=λq hq=>by
 rw[wY.mp hq];exact#[by decide +kernel,by decide,by decide,λws h=>nomatch h]
theorem _Y{qs:aL}(h:Qs pJ qs):qs=pJ:=by
 have l:qs.length=1:=h.len;let#[q,rfl]:=List.length_eq_one_iff.mp l;let#[p,hp,e]:=h.mem q Z2;rw[wY.mp hp] at e;rw[e];rfl
theorem N3{r:Rl}{hs:Xa}{ts:Xb}{qs:aL}{f:aq}{ss:List Int}{v:V}{H:Hp}(h0:eN r hs ts qs f=true)(h:Ou r hs ts qs f ss v H) :
  (ss[0]?≠some (h_ hs qs f)/\∃t,v=.ref t/\H t\.tup [.str "sum",.int 0])∨(ss[0]? = some (h_ hs qs f)/\1<ss.length/\∃t,v=.ref t/\H t\.tup [.str "rests",.int 0])∨(ss.length=1/\ss[0]? = some (h_ hs qs f)/\v=.non):=by
 let#[k,hk,al,h]:=h
 obtain rfl:k=0:=by
  cases k with
  |zero=>rfl
  |succ k=>
   have:=(al 0 Z1).2.1;rw[show eN r hs ts qs (runM r hs ts qs f 0)=true from h0] at this;cases this
 rcases h with⟨t,h⟩|⟨h1,_,h2,h3⟩|⟨_,h,_⟩|⟨h1,h2,⟨_,h3⟩|⟨h3,_⟩⟩
 ·exact .inl #[h.1,t,h.2]
 ·exact .inr (.inl #[h1,h2,h3])
 ·rw[show eN r hs ts qs (runM r hs ts qs f 0)=true from h0] at h;cases h
 ·exact .inr (.inr #[by omega,h2,h3])
 rw[show eN r hs ts qs (runM r hs ts qs f 0)=true from h0] at h3;cases h3
theorem kW_{r:Rl}{hs:Xa}{ts:Xb}{qs:aL}{f:aq}{t lg:Nat}{v:V}{H:Hp}(h0:eN r hs ts qs f=true)(h:Ox r hs ts qs f t lg v H):∃a,v=.ref a/\H a\.tup [.str "rests",.int 0]:=by
 rcases h with⟨k,hk,al,_,h⟩|⟨al,_⟩
 ·obtain rfl:k=0:=by
   cases k with
   |zero=>rfl
   |succ k=>
    have:=al 0 Z1;rw[show eN r hs ts qs (runM r hs ts qs f 0)=true from h0] at this;cases this
  exact h
 have:=al 0 Z1;rw[show eN r hs ts qs (runM r hs ts qs f 0)=true from h0] at this;cases this
section
variable{P:Ad}{w:Af}{K:af}{mg:Str->Option Aa}{base:Heap}{CG CW:Addr}
theorem vn:bw yz yz (aY k7):=bD
inductive O9 (K:af) (CG CW:Addr) (vs:ag) (H:Hp) (Q:VK) (E:XK):Prop
 |mk:∀(g p d:Addr) (hs:Xa) (ts:Xb) (qs:aL) (fp:ai) (ns:ae) (f:aq),vs=[.ref g,.ref d]->ug K CG CW H g p d hs ts qs fp ns f->Wd hs ts qs f->(∀H',aa H H'->Q (.int (h_ hs qs f)) H')->O9 K CG CW vs H Q E
theorem iC_{f:Addr}{fd:Ae}(F:bh K "sum_of" "sum_of" k7 f fd)(cC:!bg 2 "checked_stand" yz (Im K CG CW))(cL:!bg 5 "sum_at" jN (Kg K CG CW)):!ak a9 6 f fd yz (O9 K CG CW):=by
 exists F.bG vn;let#[g,p,d,hs,ts,qs,fp,ns,f,rfl,S,W,k]:=h;apply#[_,aF (aZ (aR cL hr %[0,aR cC hr %[0,1|0]|0])),?_];apply#[_,Z,_,Z,_,Z,g,p,d,hs,ts,qs,fp,ns,f,Z,S.G,S.i7,S.hd,S.so,W.nd,W.bU,λd1 H1 s1 n1 e1=>?_]
 exact#[g,p,d1,hs,ts,qs,fp,f,Z,#[S.G.same s1,W.Gd,λm=>(by
  let#[o,e,_]:=S.has _ m;rw[e] at n1;cases n1),e1,W.at_,W.nd,W.bU],W.wq,λH2 s2=>k H2 (s1.trans s2)]
end
end Ev
namespace Ev
open PySem L2
theorem Tb.nt{H G:Hp}{T1 T2:Addr}(t:Tb H T1 T2)(s:aa H G):Tb G T1 T2:=#[t.a.same s,t.b.same s,t.ne]
def K7(H:Hp)(y:V):Prop:=(∃(a l:Addr) (ss:List Int),y=.ref a/\H a\.tup [.str "rest",.ref l]/\H l\.lst (ss.map V.int)/\ss[0]? = some 9/\1<ss.length/\ss.length<=3001)∨∃(a:Addr) (t lg:Nat),y=.ref a/\H a\.tup [.str "ring",.int t,.int lg]/\1<=lg/\t+lg<=3000
theorem K7.nt{H H':Hp}{y:V}(h:K7 H y)(s:NT H H'):K7 H' y:=h.imp (λ⟨a,l,ss,e,h1,h2,h3⟩=>#[a,l,ss,e,s.tup h1,s.lst h2,h3]) λ⟨a,t,lg,e,h1,h2⟩=>#[a,t,lg,e,s.tup h1,h2]
theorem aN.same{l:Addr}{H0 H1 H2:Hp}(b:aN l H1 H2)(nl:H0 l=none)(s:aa H0 H1):aa H0 H2:=λc o e=>b _ _ (s _ _ e) (bu e nl)
theorem UW{n:Nat}{x:Int}:(List.replicate n [V.int x]).flatten=(List.replicate n x).map V.int:=by
 induction n with
 |zero=>rfl
 |succ n ih=>rw[List.replicate_succ,List.flatten_cons,ih];rfl
section
variable{P:Ad}{w:Af}{K:af}{mg:Str->Option Aa}{base:Heap}{CG CW T1 T2:Addr}
abbrev _M:ae:=[wm,eF,"_law_goods","_law_stand_here","_law_rule_here","_law_numbers","_law_cell","_law_paper","_law_lone","_law_kept"]
theorem tK:bw _M [wm] (aY gE):=bD
def mN(K:af)(T1 T2:Addr):Sp:=λvs H Q _=>∃(a:Addr) (ns:List Int),vs=[.ref a]/\Tb H T1 T2/\dN K H a (ns.map V.int)/\ns.length<=63/\∀H',Q (.bl true) H'
theorem l4_{f0:Addr}{fd:Ae}(F:bh K "law" "law" gE f0 fd)(B:Bi mg)(cC:!bg 1 "_law_cell_at" oA (qI K))(wG:!bg 9 "_law_world" ue (mK K CG CW))(QH:!bg 11 "_law_walked" uf (PM K CG CW T1 T2))(cSu:!bg 6 "sum_of" yz (O9 K CG CW))(QP:!bg 3 "_law_no_papers" [eF,"_law_numbers"] (mL K))(Cz:!bg 11 "paper_fault" tZ (Po K CG CW T1 T2))(cW:!gR CW 5 "Web" oB (G0 K CW))(cG:!gR CG 7 "Goods" oz (HS K CG CW)):!ak a9 12 f0 fd [wm] (mN K T1 T2):=by
 exists F.bG tK;let#[la,ns,rfl,tb,Jv,h63,k]:=h;let sz:=b_;refine' #[_,?c0,?kk]
 case' c0=>refine' ax ?s1 ?c1
 case' c1=>refine' ax ?s2 ?c2
 case' c2=>refine' ax ?s3 ?c3
 case' c3=>refine' ax ?s4 ?c4
 case' c4=>refine' ax ?s5 ?c5
 case' c5=>refine' ax ?s6 ?c6
 case' c6=>refine' ax ?s7 ?c7
 case' c7=>refine' ax ?s8 ?c8
 case' c8=>refine' aF ?s9
 case s1=>exact bx 1 tK.nd (bX %[aR cC hr %[0,au|0]|0])
 case s2=>exact Cp (aR wG hr %[1,au,au|0]) (o9 Z (dZ (cY 2 tK.nd) (dZ (cY 3 tK.nd) (dZ (cY 4 tK.nd) kq))))
 case' s3=>refine' Hn (i:=5) ["_law_one","_law_goods"] 1 [2] tK.nd Z (Or.inl Z) (dO (aR QH hr %[2,3,4,au|0])) (λfp s H=>fM (i:=0) (show (["_law_one","_law_goods"]:ae).Nodup by decide +kernel) Z (Or.inl Z)) (λfp s H=>jb) (λfp s H=>?te)
 case te=>exact aR cSu hr %[1,0|0]
 case' s4=>refine' eR eh Z ?i4 (cY 6 tK.nd) (aF ?b4)
 case i4=>exact dO (wN wR (bI pV (wN wR (pv 0) (wK au) wL) (bX %[au,au|0])) wL (wK au))
 case' b4=>refine' eR eh Z ?i5 (cY 7 tK.nd) (aF ?b5)
 case i5=>exact dO (aR QP hr %[bX %[6|0],5|0])
 case b5=>exact bL (dm (O6 A5 (oo hr 0)) (aR Cz hr %[2,3,4,7|0]) (bC %[bf|0])) eB bM
 case' s5=>refine' bx 8 tK.nd (AO cG hr %[AO cW hr %[?h1,bX aK|0],?h2|0])
 case h1=>exact bX %[bC %[bf,au|0],bC %[bf,au|0]|0]
 case h2=>exact bX %[bC %[bf,au,pU|0]|0]
 case s6=>exact bx 9 tK.nd (UP (Vm bf bf Um) Z Z Z2 Z2)
 case' s7=>refine' eR eh Z (dO (bX %[?p1,?p2,?p3,?p4,?p5|0])) (cY 7 tK.nd) (aF ?b7)
 case p1=>exact bC %[bf,bI NY (bX %[au|0]) au|0]
 case p2=>exact bC %[bf,bX %[au,au|0]|0]
 case p3=>exact bC %[bf,au,au|0]
 case p4=>exact bC %[bf,au,au|0]
 case p5=>exact bC %[bf,au,au|0]
 case b7=>exact bL (dm (O6 A5 (oo hr 0)) (aR Cz hr %[8,9,4,7|0]) (bC %[bf,au|0])) eB bM
 case s8=>exact bL (dm (O6 A5 (oo hr 0)) (aR Cz hr %[8,9,4,bC %[bf,bI NY (bX %[au|0]) au|0]|0]) (bC %[bf,au|0])) eB bM
 case s9=>exact aZ (oi ky_ (aR Cz hr %[8,9,4,bC %[bf,bX %[au|0]|0]|0]) pU)
 apply#[_,Z,la,ns,0,Z,by decide,Jv,λc=>#[zl,λl nl=>?_]];let s1:=aa.new (o:=.lst [.int c]) nl;have fJ:cZ (upd H l (.lst [.int c])) l:=.inl #[c,ao];generalize upd H l (.lst [.int c])=H1 at s1 fJ ⊢;lk;apply#[_,Z,l,5,Z,by decide,fJ,λt g p d r hs ts qs fp Ey f H2 b2 dB BO ht O dl lfp nd=>?_];apply#[t,_,Z,.of ht,Z,_,_,Z,_,_,Z,_,_,Z,Z,?_];let gm:=b2.same nl s1;let fo:=tb.nt gm;dsimp only;apply kP (λσ H'=>∃(ln:Addr) (ss:List Int),NT H2 H'/\Tb H' T1 T2/\H' ln\.lst (ss.map V.int)/\1<=ss.length/\ss.length<=9/\σ=[some (.ref la),some (.ref l),some (.ref g),some (.ref d),some (.str r.1),some (.ref ln),none,none,none,none]) ?m2 (λN1 v_=>?m1)
 case m1=>
  apply#[_,Z,_,Z,_,Z,g,p,d,8,hs,ts,qs,fp,Ey,f,r,BO,Z,by decide,O,fo,λls ds n H3 b3 d_ zM VD ld n8 da _ _=>?_];let lO:=b3.nt fo;apply#[ls,Z,#[_,.of VD],λD hD=>?_];apply ku (own:=1) (fv:=[some (.ref g)]) (xs:=ds.map V.ref) Z eL (λi out H'=>aa H3 H'/\∃ss:List Int,ss.length=i/\H' D\.lst (ss.map V.int)/\out=ss.map V.int) #[aa.new hD,[],Z,ao,Z] (λi out H' _ ⟨sm,_⟩=>.of (sm _ _ VD)) (λout H' ⟨sm,ss,el,ee,eo⟩=>?_) (λi x out H' hx ⟨sm,ss,el,ee,eo⟩=>?_)
  ·rw[ay,ld] at el;apply v_ _ _ #[D,ss,lO.trans (NT.of sm),d_.nt sm,ee,by omega,by omega,Z]
  obtain⟨a,ha,rfl⟩:∃a,ds[i]? = some a/\x=.ref a:=by
   rw[dQ] at hx;cases z:ds[i]? with
   |none=>rw[z] at hx;cases hx
   |some a=>rw[z] at hx;cases hx;exact#[a,Z,Z]
  let#[na,SI,ea]:=da i a ha
  have S3:ug K CG CW H' g p a hs ts qs fp Ey (runM r hs ts qs f i):=by
   apply#[(O.S.G.nt lO).same sm,λm=>?_,sm _ _ ea,#[O.S.so.perm,λn hn=>(O.W.run r i).at_ n (O.S.so.perm.mem_iff.mp hn)],λb hb=>?_]
   ·let#[o,e,_]:=O.S.has _ m;rw[na] at e;cases e
   let#[o,e,q]:=O.S.has b hb;exact#[o,sm _ _ (lO _ _ e q),q]
  apply#[_,Z,Z,λNx hN=>d6 ?_];apply#[_,Z,_,Z,g,p,a,hs,ts,qs,fp,Ey,_,Z,S3,O.W.run r i,λH5 s5=>?_];let tm:=s5 _ _ ee;apply#[out,by rw[eo];exact tm,by rw[eo,ay];have:=(cw.mp ha).1;omega,hN (out++[.int (h_ hs qs (runM r hs ts qs f i))]) _ #[g6 (sm.trans s5) hD,ss++[h_ hs qs (runM r hs ts qs f i)],by rw[dW,el];rfl,?_,?_]]
  ·rw[ao,eo,dD];rfl
  rw[eo,dD];rfl
 rintro σ H3 ⟨ln,ss,lO,d_,BU,l1,l9,rfl⟩;let S3:=O.S.nt lO;let _g:=(NT.of gm).trans lO;apply kP (λσ H'=>∃v6 v7:aI,NT H3 H'/\Tb H' T1 T2/\σ=[some (.ref la),some (.ref l),some (.ref g),some (.ref d),some (.str r.1),some (.ref ln),v6,v7,none,none]) ?m4 (λN1 v_=>?m3)
 case m3=>
  apply#[_,Z,_,Z,la,_,Z,kK_ _g Jv,λp1 n1=>#[zl,λp2 n2=>?_]];let lc:=WQ (ns.map V.int) (some 1) none;rw[ay] at lc;apply#[p1,p2,_,_,Z,Z,(aa.new n2) _ _ ao,ao,by show _+2<=_;omega,λp3 n3=>?_];apply#[_,Z,p3,_,Z,.of ao,λp4 n4=>?_];let s7:=(((aa.new (o:=.lst (bZ (ns.map V.int) (some 1) none)) n1).trans (aa.new (o:=.lst [.int 0,.int 1]) n2)).trans (aa.new (o:=.lst (bZ (ns.map V.int) (some 1) none++[.int 0,.int 1])) n3)).trans (aa.new (o:=.lst (bZ (bZ (ns.map V.int) (some 1) none++[.int 0,.int 1]) none (some 6))) n4)
  have EZ:∀y∈bZ (bZ (ns.map V.int) (some 1) none++[.int 0,.int 1]) none (some 6),∃i,y=.int i:=λy hy=>by
   unfold bZ at hy;rcases fB.mp (List.mem_of_mem_drop (List.mem_of_mem_take hy)) with hy|hy
   ·let#[i,_,e]:=bN.mp (List.mem_of_mem_drop (List.mem_of_mem_take hy));exact#[i,e.symm]
   simp only[cq,List.not_mem_nil,or_false] at hy;rcases hy with rfl|rfl
   ·exact#[_,Z]
   exact#[_,Z]
  generalize bZ (bZ (ns.map V.int) (some 1) none++[.int 0,.int 1]) none (some 6)=zs at EZ s7 ⊢;have e7:upd (upd (upd (upd H3 p1 (.lst (bZ (ns.map V.int) (some 1) none))) p2 (.lst [.int 0,.int 1])) p3 (.lst (bZ (ns.map V.int) (some 1) none++[.int 0,.int 1]))) p4 (.lst zs) p4\.lst zs:=ao;generalize upd (upd (upd (upd H3 p1 (.lst (bZ (ns.map V.int) (some 1) none))) p2 (.lst [.int 0,.int 1])) p3 (.lst (bZ (ns.map V.int) (some 1) none++[.int 0,.int 1]))) p4 (.lst zs)=H7 at s7 e7 ⊢;apply#[p4,Z,#[_,.of e7],gQ (K:=K) (a:=p4) (xs:=zs) (λi σ H'=>∃v6 v7:aI,NT H7 H'/\Tb H' T1 T2/\σ=[some (.ref la),some (.ref l),some (.ref g),some (.ref d),some (.str r.1),some (.ref ln),v6,v7,none,none]) #[none,none,NT.refl _,d_.nt s7,Z] (λi σ H' _ ⟨_,_,nt,_,_⟩=>.of (nt.lst e7)) ?_ ?_]
  ·rintro i y σ H8 hy ⟨v6,v7,BD,C9,rfl⟩;let#[c,rfl]:=EZ y (dC hy);lk;let Eu:=(NT.of s7).trans BD;apply#[_,Z,zl,λlq nq=>?_];let s9:=aa.new (o:=.lst [.int c]) nq;apply#[_,Z,lq,ln,ss,Z,.inl #[c,ao],s9 _ _ (Eu.lst BU),bu (Eu.lst BU) nq,l1,l9,λlo xs H9 b9 VE _ al=>?_];have IY:aa H8 H9:=b9.same nq s9;let Sw:=BD.trans (NT.of IY);apply#[lo,Z,#[_,.of VE],gQ (K:=K) (a:=lo) (xs:=xs) (λi σ H'=>∃v6 v7:aI,NT H9 H'/\Tb H' T1 T2/\σ=[some (.ref la),some (.ref l),some (.ref g),some (.ref d),some (.str r.1),some (.ref ln),v6,v7,none,none]) #[_,_,NT.refl _,C9.nt IY,Z] (λi σ H' _ ⟨_,_,nt,_,_⟩=>.of (nt.lst VE)) ?_ ?_]
   ·rintro i y σ HA hy ⟨w6,w7,pH,qf,rfl⟩;lk;let np:=(al y (dC hy)).nt pH;apply#[_,Z,_,Z,_,Z,_,Z,g,p,d,y,hs,ts,qs,fp,Ey,f,r,BO,Z,S3.nt ((NT.of s7).trans (Sw.trans pH)),O.W,qf,.inl #[np.1,np.2,λt HB bB xh et=>?_]];apply#[zl,λq hq=>?_];let sC:=aa.new (o:=.tup [.str "form"]) hq;apply#[[.inr "form"],[.inr "form"],#[t,_,Z,.of (sC _ _ et),.cons Z .nil],#[q,_,Z,.of ao,.cons Z .nil],_,Z,a_ (λc=>by simp at c) (λ_=>?_)];exact#[_,_,pH.trans ((bB.nt qf).trans (NT.of sC)),xh.nt sC,Z]
   rintro σ HA ⟨w6,w7,pH,qf,rfl⟩;exact#[_,_,Sw.trans pH,qf,Z]
  rintro σ H8 ⟨v6,v7,BD,C9,rfl⟩;exact v_ _ _ #[_,_,(NT.of s7).trans BD,C9,Z]
 rintro σ H4 ⟨v6,v7,iW,fX,rfl⟩;clear S3 BU lO d_ iW O ht dB b2;apply kP (λσ H'=>∃(g' p':Addr) (j6:ai),gf K CG CW H' g' p' pK [] pJ j6/\(∀b∈j6,∃o,H' b\o/\∀vs,o≠.tbl vs)/\Tb H' T1 T2/\σ=[some (.ref la),some (.ref l),some (.ref g),some (.ref d),some (.str r.1),some (.ref ln),v6,v7,some (.ref g'),none]) ?m6 (λN1 v_=>?m5)
 case m5=>
  apply#[zl,λa1 h1=>#[zl,λa2 h2=>#[zl,λlh Jh=>#[zl,λlt BG=>?_]]]];let z1:=aa.new (o:=.tup [.str "a",.int 1]) h1;let z2:=aa.new (o:=.tup [.str "b",.int 2]) h2;let z3:=aa.new (o:=.lst [.ref a1,.ref a2]) Jh;let z4:=aa.new (o:=.lst []) BG;apply Ti O1 (z4 _ _ ao) (.cons #[a1,Z,z4 _ _ (z3 _ _ (z2 _ _ ao))] (.cons #[a2,Z,z4 _ _ (z3 _ _ ao)] .nil)) ao .nil λp bS H5 s5 W _=>?_;have vA:aa H4 H5:=(((z1.trans z2).trans z3).trans z4).trans s5;clear z1 z2 z3 z4 s5 h1 h2 Jh BG;apply#[zl,λa3 h3=>#[zl,λlp xO=>?_]];let z1:=aa.new (o:=.tup [.str "p",.int 3,.non]) h3;let z2:=aa.new (o:=.lst [.ref a3]) xO;apply Vp (ps:=pJ) (W.same (z1.trans z2)) O1 ao (.cons #[a3,.non,Z,z2 _ _ ao,Z] .nil) l9_ (by decide) (by decide) λg qs fp H6 s6 GA Qq _=>?_;obtain rfl:=_Y Qq;let#[j6,G6,_,has]:=GA.we;exact v_ _ _ #[g,p,j6,G6,has,fX.nt (vA.trans ((z1.trans z2).trans s6)),Z]
 rintro σ H5 ⟨g',p',j6,G5,Ax,qg,rfl⟩;intro d' Ms;apply#[ao,[(.inr "p",.str "b")],Z,by simp,?_]
 have s6:aa H5 (upd (upd H5 d' (.dK [])) d' (.dK (oh [] [(.inr "p",.str "b")]))):=by
  rw[O0];exact aa.new Ms
 have e6:upd (upd H5 d' (.dK [])) d' (.dK (oh [] [(.inr "p",.str "b")])) d'\.dK (dk ["p"] xR):=ao;lk;generalize upd (upd H5 d' (.dK [])) d' (.dK (oh [] [(.inr "p",.str "b")]))=H6 at s6 e6 ⊢
 have S6:ug K CG CW H6 g' p' d' pK [] pJ j6 ["p"] xR:=#[G5.same s6,λm=>(by
  let#[o,e,_]:=Ax _ m;rw[Ms] at e;cases e),e6,#[List.Perm.refl _,jx.at_],λb hb=>by
  let#[o,e,q]:=Ax b hb;exact#[o,s6 _ _ e,q]]
 let BB:=qg.nt s6;clear G5 Ax qg s6 e6 Ms fX;apply kP (λσ H'=>∃v7:aI,NT H6 H'/\Tb H' T1 T2/\σ=[some (.ref la),some (.ref l),some (.ref g),some (.ref d),some (.str r.1),some (.ref ln),v6,v7,some (.ref g'),some (.ref d')]) ?m8 (λN1 v_=>?m7)
 case m7=>
  apply#[zl,λq1 h1=>#[q1,3001,[.int 9],Z,Z,ao,by decide,by decide,by show 1 * 3001<=sizeLine;decide,λq2 h2=>#[zl,λq3 h3=>#[zl,λq4 h4=>#[zl,λq5 h5=>#[zl,λq6 h6=>#[zl,λq7 h7=>#[zl,λq8 h8=>#[zl,λq9 h9=>?_]]]]]]]]];let z1:=aa.new (o:=.lst [.int 9]) h1;let z2:=aa.new (o:=.lst (List.replicate (3001:Int).toNat [.int 9]).flatten) h2;let z3:=aa.new (o:=.tup [.str "rest",.ref q2]) h3;let z4:=aa.new (o:=.lst [.int 9,.int 8]) h4;let z5:=aa.new (o:=.tup [.str "rest",.ref q4]) h5;let z6:=aa.new (o:=.tup [.str "ring",.int 0,.int 3000]) h6;let z7:=aa.new (o:=.tup [.str "ring",.int 2999,.int 1]) h7;let z8:=aa.new (o:=.tup [.str "ring",.int 0,.int 1]) h8;let z9:=aa.new (o:=.lst [.ref q3,.ref q5,.ref q6,.ref q7,.ref q8]) h9;let Lb:=z8.trans z9;let Lc:=z7.trans Lb;let Ld:=z6.trans Lc;let Le:=z5.trans Ld;let Lf:=z4.trans Le;let Lg:=z3.trans Lf;let ID:=(z1.trans z2).trans Lg;obtain⟨H9,eG⟩:∃G,G=upd (upd (upd (upd (upd (upd (upd (upd (upd H6 q1 (.lst [.int 9])) q2 (.lst (List.replicate (3001:Int).toNat [.int 9]).flatten)) q3 (.tup [.str "rest",.ref q2])) q4 (.lst [.int 9,.int 8])) q5 (.tup [.str "rest",.ref q4])) q6 (.tup [.str "ring",.int 0,.int 3000])) q7 (.tup [.str "ring",.int 2999,.int 1])) q8 (.tup [.str "ring",.int 0,.int 1])) q9 (.lst [.ref q3,.ref q5,.ref q6,.ref q7,.ref q8]):=#[_,Z]
  have al:∀y∈[V.ref q3,.ref q5,.ref q6,.ref q7,.ref q8],K7 H9 y:=λy hy=>by
   rw[eG];simp only[cq,List.not_mem_nil,or_false] at hy;rcases hy with rfl|rfl|rfl|rfl|rfl
   ·exact .inl #[q3,q2,List.replicate 3001 9,Z,Lf _ _ ao,by rw[<- UW];exact Lg _ _ ao,by rw[List.getElem?_replicate];rfl,by rw[uS];decide,by rw[uS];decide]
   ·exact .inl #[q5,q4,[9,8],Z,Ld _ _ ao,Le _ _ ao,Z,by decide,by decide]
   ·exact .inr #[q6,0,3000,Z,Lc _ _ ao,by decide,by decide]
   ·exact .inr #[q7,2999,1,Z,Lb _ _ ao,by decide,by decide]
   exact .inr #[q8,0,1,Z,z9 _ _ ao,by decide,by decide]
  have e9:H9 q9\.lst [.ref q3,.ref q5,.ref q6,.ref q7,.ref q8]:=by
   rw[eG];exact ao
  rw[<- eG] at ID ⊢;clear eG z1 z2 z3 z4 z5 z6 z7 z8 z9 Lb Lc Ld Le Lf Lg h1 h2 h3 h4 h5 h6 h7 h8 h9;apply#[q9,Z,#[_,.of e9],gQ (K:=K) (a:=q9) (xs:=[V.ref q3,.ref q5,.ref q6,.ref q7,.ref q8]) (λi σ H'=>∃v7:aI,NT H9 H'/\Tb H' T1 T2/\σ=[some (.ref la),some (.ref l),some (.ref g),some (.ref d),some (.str r.1),some (.ref ln),v6,v7,some (.ref g'),some (.ref d')]) #[v7,NT.refl _,BB.nt ID,Z] (λi σ H' _ ⟨_,nt,_,_⟩=>.of (nt.lst e9)) ?_ ?_]
  ·rintro i y σ HA hy ⟨w7,pH,qf,rfl⟩;lk;let SA:=S6.nt ((NT.of ID).trans pH);let lp:=(al y (dC hy)).nt pH;rcases lp with⟨a,l',Y_,rfl,h1,h2,h3,h4,h5⟩|⟨a,t',lg,rfl,h1,h2,h3⟩
   ·apply#[_,Z,_,Z,_,Z,_,Z,g',p',d',_,pK,[],pJ,j6,["p"],xR,r,BO,Z,SA,jx,qf,.inr (.inl #[a,l',Y_,Z,h1,h2,by omega,h5,λv HB bB xh fr=>?_])]
    obtain⟨t,rfl,et⟩:∃t,v=.ref t/\HB t\.tup [.str "rests",.int 0]:=by
     rcases N3 (Km r) fr with⟨h,_⟩|⟨_,_,h⟩|⟨h,_⟩
     ·rw[JP] at h;exact absurd h3 h
     ·exact h
     omega
    apply#[zl,λq hq=>?_];let sC:=aa.new (o:=.tup [.str "rests",.int 0]) hq;apply#[[.inr "rests",.inl 0],[.inr "rests",.inl 0],#[t,_,Z,.of (sC _ _ et),.cons Z (.cons Z .nil)],#[q,_,Z,.of ao,.cons Z (.cons Z .nil)],_,Z,a_ (λc=>by simp at c) (λ_=>?_)];exact#[_,pH.trans ((bB.nt qf).trans (NT.of sC)),xh.nt sC,Z]
   apply#[_,Z,_,Z,_,Z,_,Z,g',p',d',_,pK,[],pJ,j6,["p"],xR,r,BO,Z,SA,jx,qf,.inr (.inr #[a,t',lg,Z,h1,h2,h3,λv HB bB xh fg=>?_])];let#[t,rfl,et]:=kW_ (Km r) fg;apply#[zl,λq hq=>?_];let sC:=aa.new (o:=.tup [.str "rests",.int 0]) hq;apply#[[.inr "rests",.inl 0],[.inr "rests",.inl 0],#[t,_,Z,.of (sC _ _ et),.cons Z (.cons Z .nil)],#[q,_,Z,.of ao,.cons Z (.cons Z .nil)],_,Z,a_ (λc=>by simp at c) (λ_=>?_)];exact#[_,pH.trans ((bB.nt qf).trans (NT.of sC)),xh.nt sC,Z]
  rintro σ HA ⟨w7,pH,qf,rfl⟩;exact v_ _ _ #[_,(NT.of ID).trans pH,qf,Z]
 rintro σ H7 ⟨w7,Et,uZ,rfl⟩;let S7:=S6.nt Et;clear S6 Et BB;apply kP (λσ H'=>NT H7 H'/\Tb H' T1 T2/\σ=[some (.ref la),some (.ref l),some (.ref g),some (.ref d),some (.str r.1),some (.ref ln),v6,w7,some (.ref g'),some (.ref d')]) ?SK (λN1 v_=>?m9)
 case m9=>
  apply#[_,Z,_,Z,_,Z,zl,λq1 h1=>#[q1,3001,[.int 8],Z,Z,ao,by decide,by decide,by show 1 * 3001<=sizeLine;decide,λq2 h2=>#[zl,λq3 h3=>?_]]];let Lh:=(aa.new (o:=.lst [.int 8]) h1).trans (aa.new (o:=.lst (List.replicate (3001:Int).toNat [.int 8]).flatten) h2);let z3:=aa.new (o:=.tup [.str "rest",.ref q2]) h3;let z:=Lh.trans z3;apply#[g',p',d',_,pK,[],pJ,j6,["p"],xR,r,BO,Z,S7.nt (NT.of z),jx,uZ.nt z,.inr (.inl #[q3,q2,List.replicate 3001 8,Z,ao,by rw[<- UW];exact z3 _ _ ao,by rw[uS];decide,by rw[uS];decide,λv HB bB xh fr=>?_])];have e8:(List.replicate 3001 (8:Int))[0]? = some 8:=by rw[List.getElem?_replicate];rfl
  obtain⟨t,rfl,et⟩:∃t,v=.ref t/\HB t\.tup [.str "sum",.int 0]:=by
   rcases N3 (Km r) fr with⟨_,h⟩|⟨h,_⟩|⟨_,h,_⟩
   ·exact h
   ·rw[JP,e8] at h;cases h
   rw[JP,e8] at h;cases h
  apply#[zl,λq hq=>?_];let sC:=aa.new (o:=.tup [.str "sum",.int 0]) hq;apply#[[.inr "sum",.inl 0],[.inr "sum",.inl 0],#[t,_,Z,.of (sC _ _ et),.cons Z (.cons Z .nil)],#[q,_,Z,.of ao,.cons Z (.cons Z .nil)],_,Z,a_ (λc=>by simp at c) (λ_=>?_)];exact v_ _ _ #[(NT.of z).trans ((bB.nt (uZ.nt z)).trans (NT.of sC)),xh.nt sC,Z]
 rintro σ H8 ⟨BD,C9,rfl⟩;apply#[_,Z,_,Z,_,Z,zl,λq2 h2=>#[zl,λq3 h3=>?_]];let z3:=aa.new (o:=.tup [.str "rest",.ref q2]) h3;let z:=(aa.new (o:=.lst [.int 9]) h2).trans z3;apply#[g',p',d',_,pK,[],pJ,j6,["p"],xR,r,BO,Z,(S7.nt BD).nt (NT.of z),jx,C9.nt z,.inr (.inl #[q3,q2,[9],Z,ao,z3 _ _ ao,by decide,by decide,λv HB bB xh fr=>?_])]
 obtain rfl:v=.non:=by
  rcases N3 (Km r) fr with⟨h,_⟩|⟨_,h,_⟩|⟨_,_,h⟩
  ·rw[JP] at h;exact absurd Z h
  ·exact absurd h (by decide)
  exact h
 exact#[Z,k _]
end
end Ev
namespace Ev
open PySem L2
structure Fd (K:af) (mg:Str->Option Aa) (x:Str) (st:Stmt):Prop where
 ex:∃f fd,bh K x x st f fd/\mg x\.ref f/\PySem.W.keepIn K (.ref f)=true
theorem GR{K:af}{h:Heap}{mg:Str->Option Aa}{x:Str}{st:Stmt}(X:K.In h)(G:h.Ns mainGlobals mg){f:Addr}{oc:Aa}{od an:Option Addr}{js:Array (Option Aa)}{kV doc pm aM ct:Aa}(a:PySem.W.nsIn K mainGlobals x\some (.ref f))
  (l:K.lookup f=some #[oc,od,.func (PySem.W.fnOf x x (i8 st) (gW st) (aY st) .none kV doc pm an aM ct),js]) (c:PySem.W.codeIn K aM x=true) (k:PySem.W.keepIn K (.ref f)=true):Fd K mg x st:=#[_,_,Ot l c k,o8 X G a,k]
structure Md (K:af) (C:Addr) (m qual:Str) (st:Stmt):Prop where
 ex:∃f fd,bh K m qual st f fd/\Meth K C m f
theorem EG{K:af}{C:Addr}{m qual:Str}{st:Stmt}{f:Addr}{oc:Aa}{od an:Option Addr}{js:Array (Option Aa)}{kV doc pm aM ct:Aa}(a:PySem.W.findIn K (.ref C) m\some (.ref f))(i:PySem.W.isFn K (.ref f)=true)
  (l:K.lookup f=some #[oc,od,.func (PySem.W.fnOf m qual (i8 st) (gW st) (aY st) .none kV doc pm an aM ct),js]) (c:PySem.W.codeIn K aM qual=true) (k:PySem.W.keepIn K (.ref f)=true):Md K C m qual st:=#[_,_,Ot l c k,a,i,k]
theorem cal{P:Ad}{w:Af}{K:af}{mg:Str->Option Aa}{base:Heap}{x:Str}{st:Stmt}{k:Nat}{ps:ae}{sp:Sp}(d:Fd K mg x st)(ok:∀f fd,bh K x x st f fd->!ak a9 k f fd ps sp)
  (h:∀(kV doc pm:Aa) (an:Option Addr) (aM ct:Aa) (us:aj),us.length=ps.length->bindArgs (PySem.W.fnOf x x (i8 st) (gW st) (aY st) .none kV doc pm an aM ct) #[us,[]]=pure (ps.zip us)):!bg k x ps sp:=by
 let#[f,fd,F,m,kp]:=d.ex;exact#[f,fd,ok f fd F,m,kp,F.binds h]
theorem QB{P:Ad}{w:Af}{K:af}{mg:Str->Option Aa}{base:Heap}{C:Addr}{m qual:Str}{st:Stmt}{k:Nat}{ps:ae}{sp:Sp}(d:Md K C m qual st)(ok:∀f fd,bh K m qual st f fd->!ak a9 k f fd ps sp)
  (h:∀(kV doc pm:Aa) (an:Option Addr) (aM ct:Aa) (us:aj),us.length=ps.length->bindArgs (PySem.W.fnOf m qual (i8 st) (gW st) (aY st) .none kV doc pm an aM ct) #[us,[]]=pure (ps.zip us)):!bo C k m ps sp:=by
 let#[f,fd,F,m]:=d.ex;exact#[f,fd,ok f fd F,m,F.binds h]
theorem QC{P:Ad}{w:Af}{K:af}{mg:Str->Option Aa}{base:Heap}{C:Addr}{x qual:Str}{st:Stmt}{k:Nat}{ps:ae}{sp:Sp}(d:Md K C "__init__" qual st)(hx:mg x\.ref C)(mk:PySem.W.makesIn K C=true)(kc:PySem.W.keepIn K (.ref C)=true)(ok:∀f fd,bh K "__init__" qual st f fd->!ak a9 k f fd ps sp)
  (h:∀(kV doc pm:Aa) (an:Option Addr) (aM ct:Aa) (us:aj),us.length=ps.length->bindArgs (PySem.W.fnOf "__init__" qual (i8 st) (gW st) (aY st) .none kV doc pm an aM ct) #[us,[]]=pure (ps.zip us)):!gR C k x ps sp:=by
 let#[f,fd,F,m]:=d.ex;exact#[f,fd,ok f fd F,#[mk,m.1,m.2,kc],hx,F.binds h]
theorem d9{K:af}{a:Addr}{od:Option Addr}{p q:Str}{x y:Tok}{z:Aa}{u:V}{n:Nat}{sl:Array (Option Aa)}(h:K.lookup a=some #[.type "tuple",od,.seq (List.toArray [.str p x,.str q y,z]) n,sl])(r:RelV u z):∀H,gB K H a [.str p,.str q,u]:=λH=>
 .inr #[_,_,_,h,Z,Z,(show 3<=sizeLine by decide),.cons #[x,Z] (.cons #[y,Z] (.cons r .nil))]
theorem rules_at{K:af}{w:Af}{mg:Str->Option Aa}{d:Addr}{es:Array DictEntry}{ep:Nat}{t0 t1 t2 t3 t4 t5 t6 t7 t8 t9 IQ IP IM Sg Sf Se Sd:Tok}{b0 b1 b2 b3 b4 b5 b6 b7 b8 b9 oq K5 K4 pf pY K3 yN:Addr}
  {_b _a Z_ Z9 Z8 Z7 Z6 Z5 Z4 Z3 Mj Mi Mh Mg Mf Me Mc:Option Addr} {x0 y0 n0 v0 x1 y1 n1 v1 x2 y2 n2 v2 x3 y3 n3 v3 x4 y4 n4 v4 x5 y5 n5 v5 x6 y6 n6 v6 x7 y7 n7 v7 x8 y8 n8 v8 x9 y9 n9 v9 X3 XM _x v10 X2 XJ _w v11 X1 XI Mu X0 XH Mt XZ XG _v Yn XY XF _u Ym XX XE _t Yl:Nat} {Zt Zs IT Zr Zq Zp Zo Zn Zm Zl LS LR LQ LP LO LN LM:Array (Option Aa)}
  (m:mg "RULES"\.ref d) (hs:(d == sysModules)=false) (hl:K.lookup d=some #[.type "dict",none,.dict es ep,#[]]) (he:es.toList=J1 w [("least one high",t0,.ref b0),("least one fall",t1,.ref b1),("least one calm",t2,.ref b2),("least all high",t3,.ref b3),("least all fall",t4,.ref b4),("least all calm",t5,.ref b5),("below one high",t6,.ref b6),("below one fall",t7,.ref b7),("below one calm",t8,.ref b8),("below all high",t9,.ref b9),("below all fall",IQ,.ref oq),("below all calm",IP,.ref K5),("shares one",IM,.ref K4),("shares all",Sg,.ref pf),("turns high",Sf,.ref pY),("turns fall",Se,.ref K3),("turns calm",Sd,.ref yN)])
  (u0:K.lookup b0=some #[.type "tuple",_b,.seq (List.toArray [.str "least" x0,.str "one" y0,.str "high" v0]) n0,Zt])
  (u1:K.lookup b1=some #[.type "tuple",_a,.seq (List.toArray [.str "least" x1,.str "one" y1,.str "fall" v1]) n1,Zs])
  (u2:K.lookup b2=some #[.type "tuple",Z_,.seq (List.toArray [.str "least" x2,.str "one" y2,.str "calm" v2]) n2,IT])
  (u3:K.lookup b3=some #[.type "tuple",Z9,.seq (List.toArray [.str "least" x3,.str "all" y3,.str "high" v3]) n3,Zr])
  (u4:K.lookup b4=some #[.type "tuple",Z8,.seq (List.toArray [.str "least" x4,.str "all" y4,.str "fall" v4]) n4,Zq])
  (u5:K.lookup b5=some #[.type "tuple",Z7,.seq (List.toArray [.str "least" x5,.str "all" y5,.str "calm" v5]) n5,Zp])
  (u6:K.lookup b6=some #[.type "tuple",Z6,.seq (List.toArray [.str "below" x6,.str "one" y6,.str "high" v6]) n6,Zo])
  (u7:K.lookup b7=some #[.type "tuple",Z5,.seq (List.toArray [.str "below" x7,.str "one" y7,.str "fall" v7]) n7,Zn])
  (u8:K.lookup b8=some #[.type "tuple",Z4,.seq (List.toArray [.str "below" x8,.str "one" y8,.str "calm" v8]) n8,Zm])
  (u9:K.lookup b9=some #[.type "tuple",Z3,.seq (List.toArray [.str "below" x9,.str "all" y9,.str "high" v9]) n9,Zl])
  (YW:K.lookup oq=some #[.type "tuple",Mj,.seq (List.toArray [.str "below" X3,.str "all" XM,.str "fall" v10]) _x,LS])
  (YV:K.lookup K5=some #[.type "tuple",Mi,.seq (List.toArray [.str "below" X2,.str "all" XJ,.str "calm" v11]) _w,LR])
  (YU:K.lookup K4=some #[.type "tuple",Mh,.seq (List.toArray [.str "shares" X1,.str "one" XI,.none]) Mu,LQ])
  (YT:K.lookup pf=some #[.type "tuple",Mg,.seq (List.toArray [.str "shares" X0,.str "all" XH,.none]) Mt,LP])
  (YS:K.lookup pY=some #[.type "tuple",Mf,.seq (List.toArray [.str "turns" XZ,.str "all" XG,.str "high" Yn]) _v,LO])
  (YR:K.lookup K3=some #[.type "tuple",Me,.seq (List.toArray [.str "turns" XY,.str "all" XF,.str "fall" Ym]) _u,LN])
  (YQ:K.lookup yN=some #[.type "tuple",Mc,.seq (List.toArray [.str "turns" XX,.str "all" XE,.str "calm" Yl]) _t,LM]) :
  Ka K w mg d [b0,b1,b2,b3,b4,b5,b6,b7,b8,b9,oq,K5,K4,pf,pY,K3,yN]:=by
 apply#[m,Z,#[hs,?_,[("least one high",t0,.ref b0),("least one fall",t1,.ref b1),("least one calm",t2,.ref b2),("least all high",t3,.ref b3),("least all fall",t4,.ref b4),("least all calm",t5,.ref b5),("below one high",t6,.ref b6),("below one fall",t7,.ref b7),("below one calm",t8,.ref b8),("below all high",t9,.ref b9),("below all fall",IQ,.ref oq),("below all calm",IP,.ref K5),("shares one",IM,.ref K4),("shares all",Sg,.ref pf),("turns high",Sf,.ref pY),("turns fall",Se,.ref K3),("turns calm",Sd,.ref yN)],_,es,ep,hl,#[Z,Z,Z],Z,he,?_],?_]
 ·rw[WH Z];exact hz_
 ·exact .cons #[Z,Z] (.cons #[Z,Z] (.cons #[Z,Z] (.cons #[Z,Z] (.cons #[Z,Z] (.cons #[Z,Z] (.cons #[Z,Z] (.cons #[Z,Z] (.cons #[Z,Z] (.cons #[Z,Z] (.cons #[Z,Z] (.cons #[Z,Z] (.cons #[Z,Z] (.cons #[Z,Z] (.cons #[Z,Z] (.cons #[Z,Z] (.cons #[Z,Z] (.nil)))))))))))))))))
 exact .cons (d9 u0 #[_,Z]) (.cons (d9 u1 #[_,Z]) (.cons (d9 u2 #[_,Z]) (.cons (d9 u3 #[_,Z]) (.cons (d9 u4 #[_,Z]) (.cons (d9 u5 #[_,Z]) (.cons (d9 u6 #[_,Z]) (.cons (d9 u7 #[_,Z]) (.cons (d9 u8 #[_,Z]) (.cons (d9 u9 #[_,Z]) (.cons (d9 YW #[_,Z]) (.cons (d9 YV #[_,Z]) (.cons (d9 YU Z) (.cons (d9 YT Z) (.cons (d9 YS #[_,Z]) (.cons (d9 YR #[_,Z]) (.cons (d9 YQ #[_,Z]) (.nil)))))))))))))))))
structure Tg (P:Ad) (w:Af) (b:Heap):Prop where
theorem bW{P:Ad}{w:Af}{K:af}{mg:Str->Option Aa}{base:Heap}{x:Str}{st:Stmt}{k:Nat}{ps:ae}{sp:Sp}(q:Tg P w base)(d:Fd K mg x st)(ok:∀f fd,bh K x x st f fd->!ak a9 k f fd ps sp)(h:∀(kV doc pm:Aa) (an:Option Addr) (aM ct:Aa) (us:aj),us.length=ps.length->bindArgs (PySem.W.fnOf x x (i8 st) (gW st) (aY st) .none kV doc pm an aM ct) #[us,[]]=pure (ps.zip us):=by first|(exact λ_ _ _ _ _ _ us (hl:us.length=1)=>match us,hl with | [_],_=>rfl)|(exact λ_ _ _ _ _ _ us (hl:us.length=2)=>match us,hl with | [_,_],_=>rfl)|(exact λ_ _ _ _ _ _ us (hl:us.length=3)=>match us,hl with | [_,_,_],_=>rfl)|(exact λ_ _ _ _ _ _ us (hl:us.length=4)=>match us,hl with | [_,_,_,_],_=>rfl)|(exact λ_ _ _ _ _ _ us (hl:us.length=5)=>match us,hl with | [_,_,_,_,_],_=>rfl)|(exact λ_ _ _ _ _ _ us (hl:us.length=0)=>match us,hl with | [],_=>rfl)):!bg k x ps sp:=cal d ok h
theorem lX{P:Ad}{w:Af}{K:af}{mg:Str->Option Aa}{base:Heap}{C:Addr}{m qual:Str}{st:Stmt}{k:Nat}{ps:ae}{sp:Sp}(q:Tg P w base)(d:Md K C m qual st)(ok:∀f fd,bh K m qual st f fd->!ak a9 k f fd ps sp)(h:∀(kV doc pm:Aa) (an:Option Addr) (aM ct:Aa) (us:aj),us.length=ps.length->bindArgs (PySem.W.fnOf m qual (i8 st) (gW st) (aY st) .none kV doc pm an aM ct) #[us,[]]=pure (ps.zip us):=by first|(exact λ_ _ _ _ _ _ us (hl:us.length=1)=>match us,hl with | [_],_=>rfl)|(exact λ_ _ _ _ _ _ us (hl:us.length=2)=>match us,hl with | [_,_],_=>rfl)|(exact λ_ _ _ _ _ _ us (hl:us.length=3)=>match us,hl with | [_,_,_],_=>rfl)|(exact λ_ _ _ _ _ _ us (hl:us.length=4)=>match us,hl with | [_,_,_,_],_=>rfl)|(exact λ_ _ _ _ _ _ us (hl:us.length=5)=>match us,hl with | [_,_,_,_,_],_=>rfl)|(exact λ_ _ _ _ _ _ us (hl:us.length=0)=>match us,hl with | [],_=>rfl)):!bo C k m ps sp:=QB d ok h
theorem QD{P:Ad}{w:Af}{K:af}{mg:Str->Option Aa}{base:Heap}{C:Addr}{x qual:Str}{st:Stmt}{k:Nat}{ps:ae}{sp:Sp}(q:Tg P w base)(d:Md K C "__init__" qual st)(hx:mg x\.ref C)(mk:PySem.W.makesIn K C=true)(kc:PySem.W.keepIn K (.ref C)=true)(ok:∀f fd,bh K "__init__" qual st f fd->!ak a9 k f fd ps sp)(h:∀(kV doc pm:Aa) (an:Option Addr) (aM ct:Aa) (us:aj),us.length=ps.length->bindArgs (PySem.W.fnOf "__init__" qual (i8 st) (gW st) (aY st) .none kV doc pm an aM ct) #[us,[]]=pure (ps.zip us):=by first|(exact λ_ _ _ _ _ _ us (hl:us.length=1)=>match us,hl with | [_],_=>rfl)|(exact λ_ _ _ _ _ _ us (hl:us.length=2)=>match us,hl with | [_,_],_=>rfl)|(exact λ_ _ _ _ _ _ us (hl:us.length=3)=>match us,hl with | [_,_,_],_=>rfl)|(exact λ_ _ _ _ _ _ us (hl:us.length=4)=>match us,hl with | [_,_,_,_],_=>rfl)|(exact λ_ _ _ _ _ _ us (hl:us.length=5)=>match us,hl with | [_,_,_,_,_],_=>rfl)|(exact λ_ _ _ _ _ _ us (hl:us.length=0)=>match us,hl with | [],_=>rfl)):!gR C k x ps sp:=QC d hx mk kc ok h
theorem jG_(r:Rl)(hs:Xa)(ts:Xb)(qs:aL)(f:aq)(h:Str)(W:Wd hs ts qs f):(o6 r hs ts qs f h).length<=1000:=by
 unfold o6;split
 ·exact ph (gk_ r hs ts qs f h) (by decide)
 split
 ·exact ph (gC_ r hs ts qs f h W) (by decide)
 exact g8_ r hs ts qs f h W
theorem all_mk{l:W.OpenLaw}{w:Af}{K:af}{h:Heap}{mg:Str->Option Aa}{fa CW CG CS d fl fh fr c1 c2 T1 T2:Addr}{QA:Aa}{as:ai}(X:K.In h)(G:h.Ns mainGlobals mg)(hfa:mg "law"\.ref fa)
  (f0:Fd K mg "is_whole" vx)
  (f1:Fd K mg "is_whole_from" Kb)
  (f2:Fd K mg "is_whole_within" kY)
  (f3:Fd K mg "is_name" rC)
  (f4:Fd K mg "lesser_first" OR)
  (f5:Fd K mg "is_pair_of_names" rA)
  (f6:Fd K mg "sorted_ties" Qe)
  (f7:Fd K mg "greatest_divisor" LX)
  (f8:Fd K mg "least_multiple" LW)
  (f9:Fd K mg "is_hand_with_strength" rJ)
  (f10:Fd K mg "checked_strengths" zy)
  (Vv:Fd K mg "checked_ties" rh)
  (Vu:Fd K mg "neighbours_of_all" rB)
  (f13:Fd K mg "checked_ways" lK)
  (f14:Fd K mg "checked_piece" OM)
  (f15:Fd K mg "checked_pieces" PP)
  (f16:Fd K mg "checked_stand" O5)
  (f17:Fd K mg "loads_at" PQ)
  (f18:Fd K mg "multiple_of_strengths" rD)
  (f19:Fd K mg "levels_at" O7)
  (f20:Fd K mg "is_rule" Qd)
  (f21:Fd K mg A3 kX)
  (f22:Fd K mg "fits" rO)
  (f23:Fd K mg "heaviest_move" zC)
  (f24:Fd K mg "moves_by_least" PZ)
  (f25:Fd K mg "moves_by_below" Pt)
  (f26:Fd K mg "share_moves" zA)
  (f27:Fd K mg "moves_by_shares" QJ)
  (f28:Fd K mg "moves_from" HU)
  (f29:Fd K mg "ties_anew" rR)
  (f30:Fd K mg "first_row_without" QT)
  (f31:Fd K mg "moves_by_turns" PY)
  (f32:Fd K mg "moves_seen" jm)
  (f33:Fd K mg "checked_start" OL)
  (f34:Fd K mg "checked_moments" QE)
  (f35:Fd K mg "moves_of" PF)
  (f36:Fd K mg "rows_by" OD)
  (f37:Fd K mg "rests_at" P_)
  (f38:Fd K mg "at_rest" OG)
  (f39:Fd K mg "sum_at" k8)
  (f40:Fd K mg "placed_after" lj)
  (f41:Fd K mg "begins_with" Qc)
  (f42:Fd K mg "is_of_a_rest" O_)
  (f43:Fd K mg "is_of_a_ring" OS)
  (f44:Fd K mg "fault_of_rest" lI)
  (f45:Fd K mg "fault_of_ring" lH)
  (f46:Fd K mg "paper_fault" Pb)
  (f47:Fd K mg "sum_of" k7)
  (f48:Fd K mg "_law_cell_at" rQ)
  (f49:Fd K mg tR lJ)
  (f50:Fd K mg "_law_names" lC)
  (f51:Fd K mg "_law_web" rG)
  (f52:Fd K mg "_law_ways" rg)
  (f53:Fd K mg "_law_pieces" OH)
  (f54:Fd K mg "_law_stand" k9)
  (f55:Fd K mg "_law_rule" rq)
  (f56:Fd K mg "_law_world" kW)
  (f57:Fd K mg "_law_walked" OU)
  (f58:Fd K mg "_law_odd" zB)
  (f59:Fd K mg "_law_no_papers" lA)
  (m0:Md K CW "__init__" "Web.__init__" rH)
  (m1:Md K CW "has_hand" "Web.has_hand" vy)
  (m2:Md K CW "hands" "Web.hands" lF)
  (m3:Md K CW "strength" "Web.strength" QX)
  (m4:Md K CW "neighbours" "Web.neighbours" lB)
  (m5:Md K CW "are_tied" "Web.are_tied" rj)
  (m6:Md K CW "ties" "Web.ties" k4)
  (m7:Md K CW "most_neighbours" "Web.most_neighbours" rE)
  (m8:Md K CW "turns" "Web.turns" kZ)
  (m9:Md K CG "__init__" "Goods.__init__" lG)
  (SK:Md K CG "has_piece" "Goods.has_piece" rN)
  (_G:Md K CG "names" "Goods.names" OB)
  (_F:Md K CG "weight" "Goods.weight" PV)
  (_E:Md K CG "may_go" "Goods.may_go" rM)
  (_D:Md K CS "__init__" "Sight.__init__" k_)
  (_C:Md K CS "lead" "Sight.lead" rF)
  (_B:Md K CS "joint_strength" "Sight.joint_strength" lE)
  {_d SU Wu Sr WU:Aa} {ZY Xo:Option Addr} {Zj:Array (Option Aa)} {_e kVh dch ZR cth:Aa} {ZZ anh:Option Addr} {Zk:Array (Option Aa)} {_c kVr dcr ZQ ctr:Aa} {ZX anr:Option Addr} {Zi:Array (Option Aa)} {t8 t9 IQ IP IM:Tok}
  (al:W.nsIn K mainGlobals "law"\some (.ref fl)) (ll:K.lookup fl=some #[_d,ZY,.func (W.fnOf "law" "law" (i8 gE) (gW gE) (aY gE) .none SU Wu Sr Xo QA WU),Zj]) (cl:W.codeIn K QA "law"=true) (kl:W.keepIn K (.ref fl)=true) (ah:W.nsIn K mainGlobals pR\some (.ref fh)) (lh:K.lookup fh=some #[_e,ZZ,.func (W.fnOf pR pR (i8 hG) (gW hG) (aY hG) .none kVh dch ZR anh (.ref c1) cth),Zk]) (gK:W.codeIn K (.ref c1) pR=true) (kh:W.keepIn K (.ref fh)=true) (h1:W.codeHdIn K c1 T1=true) (aW:W.nsIn K mainGlobals "Web"\some (.ref CW)) (aG:W.nsIn K mainGlobals "Goods"\some (.ref CG)) (aS:W.nsIn K mainGlobals "Sight"\some (.ref CS)) (ar:W.findIn K (.ref CS) AL\some (.ref fr)) (ir:W.isFn K (.ref fr)=true) (lr:K.lookup fr=some #[_c,ZX,.func (W.fnOf AL "Sight.rising_neighbours" (i8 uI) (gW uI) (aY uI) .none kVr dcr ZQ anr (.ref c2) ctr),Zi]) (ZC:W.codeIn K (.ref c2) "Sight.rising_neighbours"=true) (kr:W.keepIn K (.ref fr)=true) (h2:W.codeHdIn K c2 T2=true) (c8_:W.nsIn K mainGlobals "MOST_LETTERS"\some (.int 8 t8)) (c9_:W.nsIn K mainGlobals "MOST_HANDS"\some (.int 8 t9)) (Q7:W.nsIn K mainGlobals "MOST_STRENGTH"\some (.int 1000 IQ)) (Q6:W.nsIn K mainGlobals "MOST_WEIGHT"\some (.int 1000000000 IP)) (H_:W.nsIn K mainGlobals "MOST_MOMENTS"\some (.int 3000 IM)) (X8:W.plainGet K CW Str.empty=true) (Ye:W.hasDictIn K CW=true) (X7:W.plainOver K CW=true) (X6:W.findIn K (.ref CW) "__setattr__"\some (.builtin "object.__setattr__")) (Yc:W.makesIn K CW=true) (Yd:W.keepIn K (.ref CW)=true) (Yb:W.findIn K (.ref CW) uG\none) (Ya:W.findIn K (.ref CW) "sorted_pairs"\none) (X_:W.findIn K (.ref CW) AW\none) (gpg:W.plainGet K CG Str.empty=true) (ghd:W.hasDictIn K CG=true) (gpo:W.plainOver K CG=true) (gsa:W.findIn K (.ref CG) "__setattr__"\some (.builtin "object.__setattr__")) (gmk:W.makesIn K CG=true) (gkc:W.keepIn K (.ref CG)=true) (gn0:W.findIn K (.ref CG) "web"\none) (gn1:W.findIn K (.ref CG) pO\none) (gn2:W.findIn K (.ref CG) A2\none) (Zb:W.plainGet K CS Str.empty=true) (Zw:W.hasDictIn K CS=true) (Za:W.plainOver K CS=true) (Y9:W.findIn K (.ref CS) "__setattr__"\some (.builtin "object.__setattr__")) (Zg:W.makesIn K CS=true) (Zv:W.keepIn K (.ref CS)=true) (Zf:W.findIn K (.ref CS) "wares"\none) (Ze:W.findIn K (.ref CS) ie\none) (Zd:W.findIn K (.ref CS) oj\none) (Zc:W.findIn K (.ref CS) AS\none) (iha:W.findIn K (.ref CW) "__class__"\some (.builtin "object.__class__")) (ihn:W.specialIn K (.builtin "object.__class__") "__get__"\some (.builtin "getset_descriptor.__get__")) (itk:W.takesIn K (.builtin "object.__class__")\true) (imo:W.mroIn K CW (.type "object")\true) (CY:W.nsIn K mainGlobals "sum"\none) (z0:W.nsIn K mainGlobals "isinstance"\none) (z1:W.nsIn K mainGlobals "int"\none) (z2:W.nsIn K mainGlobals "bool"\none) (z3:W.nsIn K mainGlobals "str"\none) (z4:W.nsIn K mainGlobals "tuple"\none) (z5:W.nsIn K mainGlobals "list"\none) (z6:W.nsIn K mainGlobals "dict"\none) (z7:W.nsIn K mainGlobals "len"\none) (z8:W.nsIn K mainGlobals "all"\none) (z9:W.nsIn K mainGlobals "sorted"\none) (XB:W.nsIn K mainGlobals "max"\none) (XA:W.nsIn K mainGlobals "range"\none) (Lh:W.nsIn K mainGlobals "any"\none) (Xz:W.nsIn K mainGlobals "enumerate"\none) (Xy:W.nsIn K mainGlobals "min"\none) (Xx:W.nsIn K mainGlobals "abs"\none) (R:Ka K w mg d as) :
  ∃fd:Ae,(∀(s:Ab) (v:Aa),BindsTo s fd #[[v],[]] [(wm,v)])/\(∀T'∈[T2,T1],isCodeTable h T')/\∀base:Heap,K.In base->base.Ns mainGlobals mg->(∀T'∈[T2,T1],base.BuiltinsAt mg T')->ak l.prog w K mg base a9 12 fa fd [wm] (mN K T1 T2):=by
 let e:=hfa.symm.trans (o8 X G al);cases e;have B:Bi mg:=#[jM X G z0,jM X G z1,jM X G z2,jM X G z3,jM X G z4,jM X G z5,jM X G z6,jM X G z7,jM X G z8,jM X G z9,jM X G XB,jM X G XA,jM X G Lh,jM X G Xz,jM X G Xy,jM X G Xx];have TW:Txt K mg CW:=#[#[X8,Ye,X7,X6],Yb,Ya,X_];have TG:dF K CG:=#[#[gpg,ghd,gpo,gsa],gn0,gn1,gn2];have TS:fU K CS:=#[#[Zb,Zw,Za,Y9],Zf,Ze,Zd,Zc];have IW:IA K CW:=#[iha,ihn,itk,imo];let FL:=Ot (st:=gE) ll cl kl;have FH:jZ K pR pR hG fh c1 _:=#[#[_,_,_,_,_,_,_,_,Z,lh,gK],kh];have FR:jZ K AL "Sight.rising_neighbours" uI fr c2 _:=#[#[_,_,_,_,_,_,_,_,Z,lr,ZC],kr];apply#[W.fnOf "law" "law" (i8 gE) (gW gE) (aY gE) .none SU Wu Sr Xo QA WU,λs v=>.of_eq Z,λT' B6=>?_,λbase KB _ sY=>?_]
 ·have cd:∀{c T0:Addr},W.codeHdIn K c T0=true->isCodeTable h T0:=λ{c _} z=>by
   let#[o,IE,file,tf,flags,tg,inF,text,tt,q1,q2,q3,q4,_]:=W.codeHd_of_K X z;exact#[c,o,IE,q1,q2,q3,q4]
  have B6:T'=T2∨T'=T1:=⇑B6
  rcases B6 with rfl|rfl
  ·exact cd h2
  exact cd h1
 have q:Tg l.prog w base:=⟨⟩;let HN:=bW q f0 λ_ _ F=>kw_ F B;let tI:=bW q f2 λ_ _ F=>id_ F HN;let QG:=bW q f1 λ_ _ F=>h3_ F HN;let tM:=bW q f3 λ_ _ F=>jv_ F B (o8 X G c8_);let A_:=bW q f4 λ_ _ F=>h0_ F;let HC:=bW q f5 λ_ _ F=>jt_ F B tM;let yG:=bW q f6 λ_ _ F=>gY_ F B HC A_;let HQ:=bW q f9 λ_ _ F=>jK_ F B tM tI (o8 X G Q7);let cStr:=bW q f10 λ_ _ F=>kE_ F B HQ (o8 X G c9_);let Hr:=bW q Vv λ_ _ F=>k3_ F B yG;let HG:=bW q Vu λ_ _ F=>k9_ F A_;let Ho:=QD q m0 (o8 X G aW) Yc Yd λ_ _ F=>ks_ F TW B cStr Hr HG;let zN:=lX q m1 λ_ _ F=>kZ_ F TW B;let EI:=lX q m1 λ_ _ F=>kc_ F TW B;let iE:=lX q m2 λ_ _ F=>iN_ F TW B;let vK:=lX q m3 λ_ _ F=>eE_ F TW zN;let EH:=lX q m4 λ_ _ F=>i9_ F TW B zN;let xQ:=lX q m5 λ_ _ F=>iV_ F TW EI;let Q4:=bW q f13 λ_ _ F=>iZ_ F TW yG xQ;let cCP:=bW q f14 λ_ _ F=>hV_ F B tM tI Q4 (o8 X G Q6);let Q5:=bW q f15 λ_ _ F=>fY_ F B cCP;let tQ:=QD q m9 (o8 X G aG) gmk gkc λ_ _ F=>ie_ F TG TW IW B (o8 X G aW) Q5;let AD:=lX q SK λ_ _ F=>kh_ (CW:=CW) F TG B;let AC:=lX q _G λ_ _ F=>h8_ (CW:=CW) F TG B;let gx:=lX q _F λ_ _ F=>fF_ (CP:=CW) F TG AD;let GL:=lX q _E λ_ _ F=>jw_ (CP:=CW) F TG TW AD xQ A_;let cGd:=bW q f7 λ_ _ F=>ld_ F;let cLM:=bW q f8 λ_ _ F=>lc_ F cGd;let Xc:=bW q f16 λ_ _ F=>gw_ F B TG TW AD zN AC;let HM:=bW q f17 λ_ _ F=>fQ_ F B TG TW iE gx;let cMu:=bW q f18 λ_ _ F=>jV_ F TW cLM iE vK;let KH:=bW q f19 λ_ _ F=>hp_ F TG TW HM cMu vK;have QW:bg l.prog w K mg base 6 pR jN (mQ K CG CW T1):=#[_,_,kD_ FH B TG TW (W.codeHd_of_K KB h1) (sY T1 Z2) iE gx,o8 X G ah,kh,FH.fn.binds (λ_ _ _ _ _ _ us (hl:us.length=2)=>match us,hl with | [_,_],_=>rfl)];let lZ:=QD q _D (o8 X G aS) Zg Zv λ_ _ F=>iB_ F TS HM KH QW;let IX:=lX q _C λ_ _ F=>jW_ F TS TG TW vK;let Sj:=lX q _B λ_ _ F=>i7_ F TS TG TW vK;have Si:bo l.prog w K mg base CS 4 AL ja (He K CS CG CW T2):=#[_,_,kd_ FR B TS TG TW (W.codeHd_of_K KB h2) (sY T2 Z2) EH,#[ar,ir,kr],FR.fn.binds (λ_ _ _ _ _ _ us (hl:us.length=2)=>match us,hl with | [_,_],_=>rfl)];let cIR:=bW q f20 λ_ _ F=>ha_ F B R;let KG:=bW q f21 λ_ _ F=>ix_ F R cIR;let cFi:=bW q f22 λ_ _ F=>jF_ F;let QV:=bW q f23 λ_ _ F=>kP_ F TS TG IX Sj cFi gx GL;let cBL:=bW q f24 λ_ _ F=>fS_ F TS Si QV;let cBB:=bW q f25 λ_ _ F=>fH_ F TS Si IX QV;let _A:=lX q m7 λ_ _ F=>jr_ F TW B;let QK:=bW q f26 λ_ _ F=>l1_ F TS TG TW IX Sj _A gx GL;let cBS:=bW q f27 λ_ _ F=>eB_ F TS TG TW EH IX QK;let cMF:=bW q f28 λ_ _ F=>g3_ (g4_ F cBL) (fJ_ F cBB) (fK_ F cBS);let cAn:=bW q f29 λ_ _ F=>k8_ F;let _z:=lX q m6 λ_ _ F=>iy_ F TW cAn;let Hw:=bW q f30 λ_ _ F=>l6_ F B;let SJ:=lX q m8 λ_ _ F=>iu_ F B TW _z Hw;let cBT:=bW q f31 λ_ _ F=>fT_ F B TS TG TW SJ QV;let wH:=bW q f32 λ_ _ F=>iY_ (jS_ F TS TG TW (λr z=>z) jG_ KG iE cMF) (iO_ F KG cBT);let A6:=bW q f33 λ_ _ F=>gq_ F KG Xc;let QR:=bW q f34 λ_ _ F=>eC_ F QG;let QQ:=bW q f35 λ_ _ F=>gO_ F A6 lZ wH QR;let Hv:=bW q f36 λ_ _ F=>h2_ F B TW KG SJ;let A7:=bW q f37 λ_ _ F=>iw_ F B TG lZ wH Hv;let QM:=bW q f38 λ_ _ F=>iT_ F A6 A7;let Hu:=bW q f39 λ_ _ F=>ik_ F (jM X G CY) HM KH;let W7:=bW q f40 λ_ _ F=>j4_ F B lZ wH;let HP:=bW q f0 λ_ _ F=>k5_ F B;let QI:=bW q f1 λ_ _ F=>fG_ F HP;let HX:=bW q f41 λ_ _ F=>h1_ F B;let cOR:=bW q f42 λ_ _ F=>hX_ F B (o8 X G H_) HX HP;let cOG:=bW q f43 λ_ _ F=>gP_ F (o8 X G H_) HX QI;let QZ:=bW q f44 λ_ _ F=>i4_ F B Hu A7 W7;let Q0:=bW q f45 λ_ _ F=>j3_ F B TG Hv A7 W7;let Cz:=bW q f46 λ_ _ F=>hq_ F B A6 cOR cOG QZ Q0;let HW:=bW q f48 λ_ _ F=>k6_ F B;let jL:=bW q f49 λ_ _ F=>il_ F B;let HF:=bW q f50 λ_ _ F=>iG_ F B jL;let cLW:=bW q f51 λ_ _ F=>k0_ F B jL HF;let cLY:=bW q f52 λ_ _ F=>jA_ F B jL;let cLP:=bW q f53 λ_ _ F=>hm_ F B jL HF cLY;let cLS:=bW q f54 λ_ _ F=>iA_ F B jL;let cLR:=bW q f55 λ_ _ F=>jH_ F jL;let wG:=bW q f56 λ_ _ F=>is_ F cLW cLP cLS cLR Ho tQ;let cSO:=bW q f47 λ_ _ F=>iC_ F Xc Hu;let QH:=bW q f57 λ_ _ F=>gM_ F B QM QQ;let cOd:=bW q f58 λ_ _ F=>kV_ F jL;let QP:=bW q f59 λ_ _ F=>iM_ F B jL cOd;exact l4_ FL B HW wG QH cSO QP Cz Ho tQ
theorem UH{H:Hp}{T:Addr}{q:Str}(h:H T\.tbl #[]):cU H T q:=#[[],h,λe he=>by cases he]
theorem walk{l:PySem.W.OpenLaw}{q:Ad}{loose:ae}{XP:(Str->Option Aa)->Heap->Prop}{d:DefRec}{K:Params->af}{as:ai}{T1 T2:Addr}{JU:∀P:Params,as=(K P).map (·.1)}(hn:l.most\63)(sV:d.params.defaults=[])(E5:([T2,T1].all λT=>!as.contains T)=true)(ne:T1≠T2)
  (F:∀(w:Af) (mg:Str->Option Aa) (fa:Addr) (h:Heap),(K w.params).In h->h.Ns mainGlobals mg->mg d.name\.ref fa->
   ∃fd:Ae,(∀(s:Ab) (u:Aa),BindsTo s fd #[[u],[]] [(wm,u)])/\(∀T'∈[T2,T1],isCodeTable h T')/\∀base:Heap,(K w.params).In base->base.Ns mainGlobals mg->(∀T'∈[T2,T1],base.BuiltinsAt mg T')->ak l.prog w (K w.params) mg base a9 12 fa fd [wm] (mN (K w.params) T1 T2)) :
  PySem.W.WalkO q loose XP (PySem.W.kmHook K as JU [T2,T1]).says l.row.toRowW d [] (λf vs=>PySem.call f vs):=
 L2.qe (n:=63) (k:=12) (x:=wm) (CX:=λ_=>a9) (sp:=λw=>mN (K w.params) T1 T2) hn (by decide) sV #[Z,by decide,by decide] E5 F (λ_ _ a ns hl hT hS=>#[a,ns,Z,#[UH (hT T1 Z2),UH (hT T2 Z2),ne],hS,hl,λ_=>rfl]) λ_ _ _ _ _ z=>z
end Ev
namespace PySem.W.Fast
universe tw7396474279892656417 tw4625390583226140931 tw12107889664078584515 tw615262006757106467 tw9783220060937593861 tw15436272703389764808 tw15852778753987168649 tw16935722418462494858 tw9290177764248892779 tw16675990164737052619 tw18308590416081467660 tw10440479276940605388 tw13658907898684123661 tw13458534116280948237 tw12736084954557415277 tw13826155497080072590 tw867991888234098895 tw7171521648928395535 tw17685855225839382480 tw3454152258537330257 tw15673984978001529042 tw7839566522262821522 tw14040363949490910611 tw17933840609509722003 tw18002468210209086805 tw2845361046524956501 tw1311727134192289653 tw14145489297797533302 tw14006565183435553143 tw7055035746544991799 tw2071322662447820439 tw6688012116974932695 tw11810683182478786872 tw2165707814005552472 tw10130754127295554905 tw12823581614769793307 tw2946672320623149691 tw14850982083691493147 tw7350280793050302717 tw16327333495904888477 tw17791327646852056574 tw13172651231084117855 tw10135164238886090973 tw4417577774146849041 tw14316385607149571406 tw10954902741676105726 tw16615511435929518159 tw5537631632359043777 tw9270020883082989408 tw2277615301765332306 tw12808631749960764763 tw18409705304371650927 tw4942620597461097340 tw891892050054775429 tw4010248116353037319 tw7909872052649435463 tw13889854394450990568 tw13461791803404461218 tw8930368680392720524 tw5752829295407034278 tw6647949311177375800 tw755941800924388689 tw5407406924038897224 tw11249576295653541742 tw15342301595900908777 tw2020066160166082299 tw11523474296948955937 tw5034054319433180030 tw15131918567383116226 tw15168692806557911545 tw17334693216983514669 tw1323255233407262504 tw11954986752585992416 tw2696974131450812774 tw6308502060843380304 tw16176125767355247577 tw16642858837115179925 tw350536941956422195 tw11490971915625986339 tw4110326055097545464 tw9511679254015404041 tw9140990113503516264 tw8744276359255839329 tw12652302802781321745 tw5353239781070926142 tw6410784822506332236 tw2213701356319420105 tw5843281923101474241 tw10830462914619470985 tw1912347499155410167 tw1165607464929931388 tw9903656266337794478 tw5892074200820429178 tw17594830171666870379 tw4482113982706740877 tw7642935880216005372 tw11984820470739250084 tw11908850265170390988 tw1377946517082149279 tw8978206122285751959 tw13013874969444468055 tw588359080793058427 tw11365457668919108268 tw3843371158306807979 tw11182945447258324469 tw5985846743719622188 tw7048292863221248881 tw5874650951039255005 tw18121652806019467997 tw9658748737967671181 tw9406549819287439003 tw5308299344999825389 tw7934700356621725838 tw17337626275963021206 tw12255640267565090653 tw5150076033934933592 tw10507089690727421274 tw12307804619282928715 tw7233270727845768963 tw3501320985640356454 tw6621751451884376080 tw12744592047316660701 tw5243215529602704278 tw7079528739788390515 tw17988627374991195010 tw3759651590220657903 tw18205020264470976437 tw6092941905236860485 tw10336345866939065410 tw13140499976333247114 tw12396332673820433580 tw10558285152095902643 tw12116719159682739421 tw12711665990884346514 tw16064262757502532822 tw16694780312951153818 tw6307617710588756225 tw10569200394933950063 tw15296419227767919216 tw11855045015139477985 tw1503070546972556788 tw3668041426211296312 tw8995939489053227405 tw2883912610280331800 tw11006733124771227779 tw15988199310202862840 tw15954937413265831501 tw3366007446324848146 tw16314926588985845516 tw1459605260997971638 tw6847652340164201142 tw17723539093945198566 tw2815175064883307193 tw17100275514408423152 tw3640861299345878735 tw669950494835002675 tw8035843632831621320 tw6286582554985873912 tw12027367213360054216 tw10504827063756256977 tw14807671464622950805 tw4200103260959172710 tw17940997750389983755 tw5938593174215036686 tw5593021009685487113 tw12735802833398628391 tw9777725452945655927 tw13608205002469307530 tw1329718036312939673 tw14523842828111284335 tw13650258584833854782 tw14831835642893104395 tw17540541615154481034 tw4574828579396374258 tw7855239965797274987 tw12744905809610305287 tw18353166547958437235 tw8820625021986863956 tw14350802968399462493 tw16773731611380504187 tw7067732032648399413 tw11244664434324637876 tw9058106203534997238 tw3206949734587165048 tw8601414549779064258 tw16879436221096747622 tw3645849157374462176 tw13525235243602095608 tw3895415096544367466 tw12038240776081086759 tw7190300005071375338 tw13321345408772738567 tw12499016207270535358 tw11068944354055494215 tw5980405928349202420 tw188835893245003101 tw15635401504226660810 tw5138253933281953169 tw1304552032146707064 tw3018253273792637261 tw15657202791507747634 tw7514182458408092906 tw2769870623467935648 tw17571699518660665474 tw14318290689025626056 tw2877430168979797203 tw5259671878152606725 tw8500615023192906928 tw9517318111387610249 tw14059922743627084905 tw9333395170192293367 tw231376049866736331 tw1462705726010199189 tw7221314007235872128 tw5774925342443727827 tw3353392073406956778 tw13855464051807697469 tw3586872485173127667 tw11277033362019749184 tw2206689310352518961 tw10874341379448762422 tw16888159129624066705 tw2409414973018991085 tw11405759905617456632 tw12755376707162795212 tw10348913724829172463 tw16909753253122229366 tw2253507546984693585 tw16560814202940247665 tw16496647078038548276 tw17752255282773242436 tw8220749968257429696 tw18298371379582491006 tw3254698249702551704 tw9752666632768921849 tw10933721554076875152 tw6747733095408278771 tw12510788896188404358 tw1345932177619582344 tw1015899418367454945 tw13149039266742874851 tw14832512431372541952 tw5195297475357665837 tw15340392331307499574 tw10076281892058745273 tw2008068337317172042 tw13772868093901973080 tw5528011083814288295 tw9787679989344439458 tw12612047277601988517 tw1520329865267735919 tw736771750037511617 tw4745976135277206255 tw13800737883762261372 tw11682097287134651786 tw18433593169334806621 tw5237545174641042542 tw13464977386128883855 tw2154030576847913609 tw2392035766518041065 tw14818370551710208060 tw10165438219215017220 tw9730352299557672394 tw17763759942452116605 tw3672517335771407636 tw3996118303129086061 tw8417359058040842148 tw10748773243607121760 tw14448627515534294256 tw16579975927935317622 tw13968199975599611103 tw10468449304644473299 tw7158519655284799934 tw10325816930041395801 tw1886648853955127678 tw17068867304672683130 tw7442636270864615317 tw9228653297093891897 tw12380139031800981161 tw15597498683103548704 tw2595213093136838888 tw7551649136659829009 tw10214651792752538502 tw3213464457105485334 tw13186010346756796534 tw1766502089744076394 tw11168427977721651373 tw2800560060538129403 tw12191637151524023806 tw14361098323525803430 tw5141570551789058496 tw13170630648886216470 tw15417219090939545216 tw3873164790000624067 tw14054630505252586671 tw6203704819366754420 tw14422878558671143721 tw9747510215882357811 tw92921361737281878 tw804633084946495276 tw886625593400791015 tw14657140456593236138 tw8817854626531565879 tw5282707491257497483 tw9161114728007547687 tw12841610490677454123 tw13066141571025369889 tw7046638921774640888 tw6731456081402682794 tw5391307363899519257 tw11787265085699930734 tw13007914789269705935 tw2975818037193602498 tw10065976959761707184 tw2662124179616882639 tw13772534033235571667 tw4313972762886631911 tw5490810105505037236 tw6781289319932998873 tw978759887373765844 tw13285142209746296088 tw8109699187340289782 tw135492750535738781 tw7780902600960990657 tw14132235960801049880 tw1148804650393697420 tw6256700977273507163 tw6811985465413422682 tw8089958003321993191 tw17268282465891066733 tw4180345926728435780 tw6924183950076662968 tw6693193131830146352 tw2006616338813306471 tw6144740364715767386 tw5184814979800717706 tw17949223619902653070 tw12415130908305812598 tw5214645913596803911 tw5074758919148894915 tw2761811923182340239 tw5852546578472226744 tw13511429985979416234 tw13963340616735074595 tw13870892779619099286 tw14014566996160336916 tw8419082132922860249 tw5106183401110903784 tw10700548347256390861 tw17678482399915229726 tw12646933262662336641 tw17994138821959929517 tw16015197771263666941 tw5074662963742959157 tw18248651738083898594 tw14669142043549807003 tw8859164380723514603 tw8589544401096441286 tw69851443453979815 tw11103922953392184275 tw16636306888629176904 tw677278547961560551 tw10410797123337781169 tw5042038910441152825 tw9566513845624471290 tw14051383252734843067 tw18244249097924724008 tw6697710157809383520 tw6850126899610633955 tw10292865934130891269 tw12022288204506731994 tw15977604511790028477 tw10497215949197573784 tw10761294202489655564 tw10992247339638789264 tw13526941143889150000 tw17364609545858346546 tw11563440206158586594 tw15514549249678137940 tw10060486120525441910 tw6067630792811860063 tw3699531719166769782 tw7391213952978939016 tw13722992813062727985 tw16114094533139586894 tw13100116339933456128 tw12317055595131756880 tw3925233812061663896 tw6478557433604646906 tw17525796763388458879 tw1929303225308132404 tw7293766246930767514 tw1772395658766315383 tw11978802204999797835 tw5312490043923224074 tw11406726335945564198 tw4272494715664553585 tw6774242753898600454 tw12649215755844639270 tw17415419790623183170 tw4848850732524835183 tw17419615120180921051 tw18111484568337367282 tw7841130317391694916 tw7166115629991632952 tw11256344059557613734 tw2125220566843138271 tw8738896958640274776 tw4190921451496902396 tw9219301041710093556 tw17401195516622266368 tw14205393427300799965 tw1320633057768311613 tw10293793344095453733 tw8968127190107894745 tw17624673072813958377 tw10768196050114179081 tw2728933434525987365 tw11294628227409923129 tw4884105149971343644 tw16987823649902204001 tw17958295721515950456 tw16874761395297986303 tw3909298376952403824 tw107938918051656145 tw15267727888576808476
end PySem.W.Fast
open PySem PySem.W PyProof.Rows
set_option maxRecDepth 100000 in
local macro_rules|`(%[|$k:num])=>let i:=Lean.mkIdent;if k.getNat==1 then`(Ev.GR $(i `KX) $(i `G) ?_ ?_ ?_ ?_)else`(Ev.EG ?_ ?_ ?_ ?_ ?_)
theorem PySem.Challenge.cw_evenpieces_k54_papers_of_no_form_holds : PySem.Challenge.rw_evenpieces_k54_papers_of_no_form.Holds := by
 w_on;o_law;k_head;(case hw=>w_witness2)
 k_fill
 apply Ev.walk (l:=PySem.Challenge.rw_evenpieces_k54_papers_of_no_form) rfl rfl (by rfl) (by decide) ?F
 case F=>
  intro w mg fa h KX G hmg;refine' Ev.all_mk KX G hmg %[|1] %[|1] %[|1] %[|1] %[|1] %[|1] %[|1] %[|1] %[|1] %[|1] %[|1] %[|1] %[|1] %[|1] %[|1] %[|1] %[|1] %[|1] %[|1] %[|1] %[|1] %[|1] %[|1] %[|1] %[|1] %[|1] %[|1] %[|1] %[|1] %[|1] %[|1] %[|1] %[|1] %[|1] %[|1] %[|1] %[|1] %[|1] %[|1] %[|1] %[|1] %[|1] %[|1] %[|1] %[|1] %[|1] %[|1] %[|1] %[|1] %[|1] %[|1] %[|1] %[|1] %[|1] %[|1] %[|1] %[|1] %[|1] %[|1] %[|1] %[|2] %[|2] %[|2] %[|2] %[|2] %[|2] %[|2] %[|2] %[|2] %[|2] %[|2] %[|2] %[|2] %[|2] %[|2] %[|2] %[|2] ?_ ?_ ?_ ?_ ?_ ?_ ?_ ?_ ?h1 ?aW ?aG ?aS ?_ ?_ ?_ ?_ ?_ ?h2 ?_ ?_ ?_ ?_ ?_ ?_ ?_ ?_ ?_ ?_ ?_ ?_ ?_ ?_ ?_ ?_ ?_ ?_ ?_ ?_ ?_ ?_ ?_ ?_ ?_ ?_ ?_ ?_ ?_ ?_ ?_ ?_ ?_ ?_ ?_ ?_ ?_ ?_ ?_ ?_ ?_ ?_ ?_ ?_ ?_ ?_ ?_ ?_ ?_ ?_ ?_ ?_ ?_ ?_ (Ev.rules_at ?rm ?rs ?rl ?re ?_ ?_ ?_ ?_ ?_ ?_ ?_ ?_ ?_ ?_ ?_ ?_ ?_ ?_ ?_ ?_ ?_)
  (case aW=>k_is);(case aG=>k_is);(case aS=>k_is)
  any_goals k_is
  (case h1=>kernel_rfl);(case h2=>kernel_rfl)
  case' rm=>refine' PySem.W.mg_of KX G ?rmn
  (first|(case rmn=>k_is)|(case rm=>k_is))
  (try (case rl=>k_is))
  (case rs=>rfl)
  (case re=>rfl)
  any_goals k_is
